import PyProof.Rows.All
import Wide.All
import OpenK.AllK
import Wide.FinOn
import Lean
import PyProof.EqAt
import PyProof.EqKinds
import PyProof.TupleCall
import PyProof.TupleKey
import PyProof.DictRoadsH
import PyProof.Rows.TupTab
import PyProof.AttrMissHeap
import KE.KDictOf
import PyProof.FactsAll.tuple_2
import PyProof.NeKinds
import PySem.Syntax
import PySem.Builtin.Str.Common
import PyProof.ReprReads
import PyProof.StrLaws
import PyProof.ReprRoads
import PyProof.FitsInt
import KE.KIsAll
import PyProof.DictTable
import PyProof.Rows.SetFrom
import PyProof.SetRoads
import PyProof.ZipIter
import PyProof.StrWalks
import PyProof.EnumFor
import PyProof.EnumStmt
import PyProof.ListNew
import PySem.Challenge.RW_handpromise_k24_ends_and_stuck
set_option genSizeOf false
set_option genInjectivity false
set_option bootstrap.genMatcherCode false
set_option Elab.async false
set_option linter.all false
theorem nf{p:Prop}(h:false=true):p:=absurd h Bool.false_ne_true
def gS:=@List.getElem?_cons_succ.{0}
def gZ:=@List.getElem?_cons_zero.{0}
def lS:=@List.set_cons_succ.{0}
def lZ:=@List.set_cons_zero.{0}
def bF:=@Bool.false_eq_true
def lC:=@List.length_cons.{0}
def lN:=@List.length_nil.{0}
def lA:=@List.length_append.{0}
def mC:=@List.map_cons.{0,0}
def mN:=@List.map_nil.{0,0}
def lM:=@List.length_map.{0,0}
def mG:=@List.mem_of_getElem?.{0}
def bN:=@Bool.false_ne_true
def bA:=@Bool.and_eq_true
noncomputable section
set_option maxRecDepth 100000
namespace L2
open PySem PySem.Spec PyProof.Rows
abbrev Key:=Sum Int Str
def aEp:Key->Value->Bool
 | .inl k,v=>Value.isInt k v
 | .inr x,v=>Value.isStrOf x v
def aJX(w:World):Key->Int
 | .inl k=>hashInt k
 | .inr x=>hashStr w x
theorem keyIs_shape:∀{k:Key} {v:Value},aEp k v=true->(∃i t,k=Sum.inl i/\v=Value.int i t)\/(∃x t,k=Sum.inr x/\v=Value.str x t)
 | .inl i,v,h=>by
  obtain⟨t,e⟩:=Value.isInt_shape (k:=i) (v:=v) h
  exact .inl ⟨i,t,rfl,e⟩
 | .inr x,v,h=>by
  obtain⟨t,e⟩:=Value.isStrOf_shape (x:=x) (v:=v) h
  exact .inr ⟨x,t,rfl,e⟩
theorem aEO(a b:Int):decide ((Sum.inl a:Key)=Sum.inl b)=(a==b):=by
 by_cases e:a=b
 . subst e;simp
 . have h:¬ (Sum.inl a:Key)=Sum.inl b:=λq=>e (Sum.inl.inj q)
   rw[decide_eq_false h]
   exact(beq_eq_false_iff_ne.mpr e).symm
theorem aEP(a b:Str):decide ((Sum.inr a:Key)=Sum.inr b)=decide (a=b):=by
 by_cases e:a=b
 . subst e;simp
 . have h:¬ (Sum.inr a:Key)=Sum.inr b:=λq=>e (Sum.inr.inj q)
   rw[decide_eq_false h,decide_eq_false e]
theorem aEQ(a:Int)(b:Str):decide ((Sum.inl a:Key)=Sum.inr b)=false:=decide_eq_false (λq=>nomatch q)
theorem aER(a:Str)(b:Int):decide ((Sum.inr a:Key)=Sum.inl b)=false:=decide_eq_false (λq=>nomatch q)
def iK(prog:Program)(w:World):PySem.KeyKind prog w Key where
 is:=aEp
 hash:=aJX w
 inj:=λv a b ha hb=>by
  rcases keyIs_shape ha with⟨i,t,rfl,rfl⟩|⟨x,t,rfl,rfl⟩
  . rcases keyIs_shape hb with⟨j,u,rfl,e⟩|⟨y,u,rfl,e⟩
    . injection e with e1 _;rw[e1]
    . exact nomatch e
  . rcases keyIs_shape hb with⟨j,u,rfl,e⟩|⟨y,u,rfl,e⟩
    . exact nomatch e
    . injection e with e1 _;rw[e1]
 byValue:=λk v h=>by
  rcases keyIs_shape h with⟨i,t,rfl,rfl⟩|⟨x,t,rfl,rfl⟩ <;> rfl
 pyHash:=λhv h=>by
  rcases keyIs_shape hv with⟨i,t,rfl,rfl⟩|⟨x,t,rfl,rfl⟩
  . exact wpAny_pyHash_int h
  . exact wpAny_pyHash_str h
 eqBool:=λhu hv h=>by
  rcases keyIs_shape hu with⟨i,t,rfl,rfl⟩|⟨x,t,rfl,rfl⟩
  . rcases keyIs_shape hv with⟨j,u,rfl,rfl⟩|⟨y,u,rfl,rfl⟩
    . rw[aEO] at h;exact wpAny_eqBool_int h
    . rw[aEQ] at h;exact SeqAt.EqAt.int_str i t y u _ _ _ _ h
  . rcases keyIs_shape hv with⟨j,u,rfl,rfl⟩|⟨y,u,rfl,rfl⟩
    . rw[aER] at h;exact SeqAt.EqAt.str_int x t j u _ _ _ _ h
    . rw[aEP] at h;exact wpAny_eqBool_str h
 «strs»:=λk x t v h=>by
  rcases keyIs_shape h with⟨i,u,rfl,e⟩|⟨y,u,rfl,e⟩
  . exact nomatch e
  . injection e with e1 _
    subst e1
    cases v <;> rfl
end L2
namespace L2
open PySem PySem.Spec PyProof.Rows
inductive V where
 | non|bl (b:Bool)|int (i:Int)|str (x:Str)|byt (b:Array UInt8)|flt (b:UInt64)|ref (a:Addr)|ty (n:String)
 deriving DecidableEq
def cI:V->Value->Prop
 | .non,u=>u=Value.none
 | .bl b,u=>u=Value.bool b
 | .int i,u=>∃t,u=Value.int i t
 | .str x,u=>∃t,u=Value.str x t
 | .byt b,u=>∃t,u=Value.bytes b t
 | .flt b,u=>∃t,u=Value.float b t
 | .ref a,u=>u=Value.ref a
 | .ty n,u=>u=Value.type n
abbrev bR:List V->List Value->Prop:=Paired cI
theorem bR.length{xs:List V}{us:List Value}(r:bR xs us):xs.length=us.length:=Paired.length r
theorem bR.get:∀{xs:List V} {us:List Value} {i:Nat} {x:V},bR xs us->xs[i]? = some x->∃u,us[i]? = some u/\cI x u
 | _,_,_,_,.nil,e=>by simp at e
 | _,_,0,_,.cons r _,e=>by simp at e;subst e;exact⟨_,rfl,r⟩
 | _,_,i+1,x,.cons _ t,e=>by
  obtain⟨u,h1,h2⟩:=bR.get (i:=i) (x:=x) t (by simpa using e)
  exact⟨u,by simpa using h1,h2⟩
theorem bR.set{x:V}{u:Value}(r:cI x u):∀{xs:List V} {us:List Value} (i:Nat),bR xs us->bR (xs.set i x) (us.set i u)
 | _,_,_,.nil=>.nil
 | _,_,0,.cons _ t=>.cons r t
 | _,_,i+1,.cons q t=>.cons q (bR.set r i t)
theorem bR.append:∀{xs ys:List V} {us ws:List Value},bR xs us->bR ys ws->bR (xs++ys) (us++ws)
 | _,_,_,_,.nil,s=>s
 | _,_,_,_,.cons r t,s=>.cons r (bR.append t s)
theorem bR.take:∀{xs:List V} {us:List Value} (n:Nat),bR xs us->bR (xs.take n) (us.take n)
 | _,_,0,_=>.nil
 | _,_,_+1,.nil=>.nil
 | _,_,n+1,.cons r t=>.cons r (bR.take n t)
theorem bR.drop:∀{xs:List V} {us:List Value} (n:Nat),bR xs us->bR (xs.drop n) (us.drop n)
 | _,_,0,r=>r
 | _,_,_+1,.nil=>.nil
 | _,_,n+1,.cons _ t=>bR.drop n t
def aHg:Option V->Option Value->Prop
 | some v,some u=>cI v u
 | none,none=>True
 | _,_=>False
def KV{κ:Type}:List (κ×V)->List (κ×Value)->Prop:=Paired λ(p:κ×V) (q:κ×Value)=>p.1=q.1/\cI p.2 q.2
def kV:Key->V
 | .inl i=>.int i
 | .inr x=>.str x
inductive HO where
 | lst (xs:List V)
 | tup (xs:List V)
 | dK (kvs:List (Key×V))|dT (kvs:List (List Key×V))
 | set (S:Int->Bool) (n:Nat)
 | ins (C dx:Addr) (fs:List (Str×V))
 | own (x:Addr)
 | xd (fs:List (Str×V))
 | met (f x:Addr)
 | rng (lo hi:Int)
 | frz (o:Obj) (u:HO)
 | tbl (ps:Array Value)
 | ext (φ:Heap->Prop)
abbrev Hp:=Addr->Option HO
def upd(H:Hp)(a:Addr)(o:HO):Hp:=λb=>if b=a then some o else H b
theorem bU{H:Hp}{a:Addr}{o:HO}:upd H a o a=some o:=by unfold upd;rw[if_pos rfl]
theorem aN{H:Hp}{a b:Addr}{o:HO}(h:b≠a):upd H a o b=H b:=by unfold upd;rw[if_neg h]
theorem bZ{H:Hp}{a b:Addr}{o:HO}(h:H a=some o)(h':H b=none):a≠b:=by
 intro e;subst e;rw[h] at h';cases h'
section
variable (P:Program) (w:World)
def eM(H:Hp)(h:Heap)(a:Addr):HO->Prop
 | .lst xs=>xs.length<=sizeLine/\∃(its:List Value) (n:Nat),bR xs its/\h.get? a=some { cls:=.type "list",data:=.seq its.toArray n }
 | .tup xs=>xs.length<=sizeLine/\∃its:List Value,bR xs its/\IsTup h a its.toArray
 | .dK kvs=>kvs.length<=sizeLine/\(a==sysModules)=false/\∃vs,KV kvs vs/\h.DictOf (iK P w) a vs
 | .dT kvs=>kvs.length<=sizeLine/\(a==sysModules)=false/\∃xs:List (List Key×Addr×Value),
  Paired (λ(p:List Key×V) (q:List Key×Addr×Value)=>p.1=q.1/\H q.2.1=some (.tup (p.1.map kV))/\cI p.2 q.2.2) kvs xs /\
  ∃o es ep,h.get? a=some o/\o.ExactDict/\o.data=.dict es ep/\es.toList=xs.map (entryOfKey (tupleKind (iK P w)))/\(xs.map (·.1)).Nodup
 | .set S n=>h.SetOf (intKind P w) a S n
 | .ins C dx fs=>H dx=some (.own a)/\fs.length<=1000/\dx≠a/\h.get? a=some (PySem.W.instObj C dx) /\
  ∃mA,h.Ns1 dx mA/\(∀f,aHg (fs.lookup f) (mA f))/\PySem.Within mA (fs.map (·.1))
 | .own _=>∃o,h.get? a=some o
 | .xd fs=>∃mA,h.Ns1 a mA/\∀f,aHg (fs.lookup f) (mA f)
 | .rng lo hi=>∃t u v,h.get? a=some { cls:=.type "range",data:=.fields #[.int lo t,.int hi u,.int 1 v] }
 | .frz o u=>h.get? a=some o/\eM H h a u
 | .tbl ps=>h.get? a=some { cls:=.none,data:=.fields ps }
 | .met f x=>h.get? a=some (PySem.W.methodObj (.ref f) (.ref x))
 | .ext φ=>φ h/\(∃o,h.get? a=some o)/\∀h1 h2:Heap,φ h1->(∀o,h1.get? a=some o->h2.get? a=some o)->φ h2
def HOk(H:Hp)(h:Heap):Prop:=∀a o,H a=some o->eM P w H h a o
end
section
variable {P:Program} {w:World} {H H':Hp} {h h':Heap} {a:Addr} {o:HO}
theorem eM.lt(x:eM P w H h a o):a<h.objs.size:=by
 cases o with
 | lst xs=>obtain⟨_,_,_,_,e⟩:=x;exact Heap.lt_size e
 | tup xs=>obtain⟨_,_,_,p⟩:=x;exact p.lt
 | dK kvs=>obtain⟨_,_,_,_,o,_,_,e,_⟩:=x;exact Heap.lt_size e
 | dT kvs=>obtain⟨_,_,_,_,o,_,_,e,_⟩:=x;exact Heap.lt_size e
 | set S n=>obtain⟨o,_,_,_,e,_⟩:=x;exact Heap.lt_size e
 | ins C dx fs=>obtain⟨_,_,_,e,_⟩:=x;exact Heap.lt_size e
 | own y=>obtain⟨_,e⟩:=x;exact Heap.lt_size e
 | xd fs=>obtain⟨_,⟨_,_,_,e,_⟩,_⟩:=x;exact Heap.lt_size e
 | rng lo hi=>obtain⟨_,_,_,e⟩:=x;exact Heap.lt_size e
 | frz ob u=>obtain⟨e,_⟩:=x;exact Heap.lt_size e
 | tbl ps=>exact Heap.lt_size (show h.get? a=some _ from x)
 | met f y=>exact Heap.lt_size (show h.get? a=some _ from x)
 | ext φ=>obtain⟨_,⟨_,e⟩,_⟩:=x;exact Heap.lt_size e
theorem Paired.mapP{α β:Type}{F G:α->β->Prop}:∀{l₁:List α} {l₂:List β},Paired F l₁ l₂->(∀a b,F a b->G a b)->Paired G l₁ l₂
 | _,_,.nil,_=>.nil
 | _,_,.cons r t,f=>.cons (f _ _ r) (Paired.mapP t f)
theorem eM.stay(x:eM P w H h a o)(k:∀b u,(b=a\/H b=some (.own a))->h.get? b=some u->h'.get? b=some u)
 (ho:∀b,H b=some (.own a)->H' b=some (.own a)) (ht:∀b xs,H b=some (.tup xs)->H' b=some (.tup xs)):eM P w H' h' a o:=by
 induction o with
 | lst xs=>obtain⟨z,its,n,r,e⟩:=x;exact⟨z,its,n,r,k _ _ (.inl rfl) e⟩
 | tup xs=>obtain⟨z,its,r,ob,e,c⟩:=x;exact⟨z,its,r,ob,k _ _ (.inl rfl) e,c⟩
 | dK kvs=>obtain⟨z,y,vs,r,ob,es,ep,e,c⟩:=x;exact⟨z,y,vs,r,ob,es,ep,k _ _ (.inl rfl) e,c⟩
 | dT kvs=>
  obtain⟨z,y,xs,r,ob,es,ep,e,c⟩:=x
  exact⟨z,y,xs,Paired.mapP r λp q z=>⟨z.1,ht _ _ z.2.1,z.2.2⟩,ob,es,ep,k _ _ (.inl rfl) e,c⟩
 | set S n=>obtain⟨ob,es,ep,t,e,c⟩:=x;exact⟨ob,es,ep,t,k _ _ (.inl rfl) e,c⟩
 | ins C dx fs=>
  obtain⟨d,z,ne,e,mA,⟨od,es,ep,e2,c⟩,r⟩:=x
  exact⟨ho _ d,z,ne,k _ _ (.inl rfl) e,mA,⟨od,es,ep,k _ _ (.inr d) e2,c⟩,r⟩
 | own y=>obtain⟨ob,e⟩:=x;exact⟨ob,k _ _ (.inl rfl) e⟩
 | xd fs=>obtain⟨mA,⟨od,es,ep,e,c⟩,r⟩:=x;exact⟨mA,⟨od,es,ep,k _ _ (.inl rfl) e,c⟩,r⟩
 | rng lo hi=>obtain⟨t,u,v,e⟩:=x;exact⟨t,u,v,k _ _ (.inl rfl) e⟩
 | frz ob u ih=>obtain⟨e,q⟩:=x;exact⟨k _ _ (.inl rfl) e,ih q⟩
 | tbl ps=>
  have e:h.get? a=some { cls:=.none,data:=.fields ps }:=x
  show h'.get? a=some { cls:=.none,data:=.fields ps }
  exact k a _ (.inl rfl) e
 | met f y=>
  have e:h.get? a=some (PySem.W.methodObj (.ref f) (.ref y)):=x
  show h'.get? a=some (PySem.W.methodObj (.ref f) (.ref y))
  exact k a _ (.inl rfl) e
 | ext φ=>obtain⟨p,⟨o,e⟩,st⟩:=x;exact⟨st _ _ p λo q=>k _ _ (.inl rfl) q,⟨o,k _ _ (.inl rfl) e⟩,st⟩
theorem HOk.lt(x:HOk P w H h)(e:H a=some o):a<h.objs.size:=(x a o e).lt
theorem HOk.fresh(x:HOk P w H h)(e:h.objs.size<=a):H a=none:=by
 cases q:H a with
 | none=>rfl
 | some u=>exact absurd (Nat.lt_of_lt_of_le (x.lt q) e) (Nat.lt_irrefl _)
theorem HOk.kept(x:HOk P w H h)(k:∀b u,h.get? b=some u->h'.get? b=some u):HOk P w H h':=λa o e=>
 (x a o e).stay (λb u _ q=>k b u q) (λ_ q=>q) λ_ _ q=>q
theorem HOk.laid(x:HOk P w H h)(k:∀b u,h.get? b=some u->h'.get? b=some u)(hp:h.objs.size<=a)(new:eM P w (upd H a o) h' a o):HOk P w (upd H a o) h':=λb u e=>by
 have hn:=x.fresh hp
 by_cases hb:b=a
 . subst hb;rw[bU] at e;cases e;exact new
 . rw[aN hb] at e
   exact(x b u e).stay (λc v _ q=>k c v q) (λc q=>by rw[aN (bZ q hn)];exact q) λc xs q=>by rw[aN (bZ q hn)];exact q
end
def Rd(H:Hp)(a:Addr)(u:HO):Prop:=H a=some u\/∃o,H a=some (.frz o u)
theorem Rd.ok{P:Program}{w:World}{H:Hp}{h:Heap}{a:Addr}{u:HO}(r:Rd H a u)(x:HOk P w H h):eM P w H h a u:=by
 rcases r with r|⟨o,r⟩
 . exact x a u r
 . obtain⟨_,q⟩:=x a _ r
   exact q
def Mut:Option HO->Prop
 | some (.lst _)=>True
 | some (.dK _)=>True
 | some (.dT _)=>True
 | some (.set _ _)=>True
 | some (.ins _ _ _)=>True
 | some (.ext _)=>True
 | _=>False
section
variable {P:Program} {w:World} {H:Hp} {h h':Heap} {x e:Addr} {o':HO}
theorem HOk.write(ok:HOk P w H h)(mu:Mut (H x))(he:e=x\/H e=some (.own x))(k:∀b u,b≠e->h.get? b=some u->h'.get? b=some u)(heo:∃u,h'.get? e=some u)
 (new:eM P w (upd H x o') h' x o'):HOk P w (upd H x o') h':=λb u q=>by
 have nown:∀c y,H c=some (.own y)->c≠x:=λc y r z=>by subst z;rw[r] at mu;exact mu
 have ntup:∀c xs,H c=some (.tup xs)->c≠x:=λc xs r z=>by subst z;rw[r] at mu;exact mu
 by_cases hb:b=x
 . subst hb;rw[bU] at q;cases q;exact new
 . rw[aN hb] at q
   by_cases hbe:b=e
   . have q':H b=some (.own x):=by
      rcases he with z|z
      . exact absurd (hbe.trans z) hb
      . rw[hbe];exact z
     rw[q] at q';cases q'
     obtain⟨v,hv⟩:=heo
     exact⟨v,by rw[hbe];exact hv⟩
   . refine(ok b u q).stay (λc v hc r=>k c v ?_ r) (λc r=>by rw[aN (nown c b r)];exact r) λc xs r=>by rw[aN (ntup c xs r)];exact r
     rcases hc with rfl|hc
     . exact hbe
     . rintro rfl
       rcases he with z|z
       . exact nown c b hc z
       . rw[hc] at z;cases z;exact hb rfl
end
structure Un (fs ex:List Addr) (H H':Hp) (h h':Heap):Prop where
 keep:∀b o,h.get? b=some o->H b=none->b∉fs->b∉ex->h'.get? b=some o
 slot:∀b o,h.get? b=some o->H b=none->b∈fs->b∉ex->∃sl,h'.get? b=some { o with slots:=sl }
 free:∀b o,h.get? b=some o->H b=none->b∉ex->H' b=none
 there:∀b o,h.get? b=some o->b∉ex->∃o',h'.get? b=some o'
 tups:∀b xs,H b=some (.tup xs)->H' b=some (.tup xs)
 frzs:∀b o u,H b=some (.frz o u)->H' b=some (.frz o u)
 tbls:∀b ps,H b=some (.tbl ps)->∃more,H' b=some (.tbl (ps++more))
section
variable {fs fs' ex ex':List Addr} {H H1 H2:Hp} {h h1 h2 h':Heap} {a x e:Addr} {o:HO}
theorem Un.any(u:Un fs ex H H1 h h1){b:Addr}{ob:Obj}(q:h.get? b=some ob)(n:H b=none)(hx:b∉ex):∃sl,h1.get? b=some { ob with slots:=sl }:=by
 by_cases hb:b∈fs
 . exact u.slot b ob q n hb hx
 . exact⟨ob.slots,u.keep b ob q n hb hx⟩
theorem Un.kept(k:∀b u,h.get? b=some u->h'.get? b=some u):Un fs ex H H h h':=
 ⟨λb ob q _ _ _=>k b ob q,λb ob q _ _ _=>⟨ob.slots,k b ob q⟩,λ_ _ _ n _=>n,λb ob q _=>⟨ob,k b ob q⟩,λ_ _ q=>q,λ_ _ _ q=>q,λ_ ps q=>⟨#[],by rw[q];simp⟩⟩
theorem Un.refl:Un fs ex H H h h:=Un.kept λ_ _ q=>q
theorem Un.laid(k:∀b u,h.get? b=some u->h'.get? b=some u)(hp:h.objs.size<=a)(hn:H a=none):Un fs ex H (upd H a o) h h' where
 keep:=λb u q _ _ _=>k b u q
 slot:=λb u q _ _ _=>⟨u.slots,k b u q⟩
 free:=λb u q n _=>by rw[aN (Nat.ne_of_lt (Nat.lt_of_lt_of_le (Heap.lt_size q) hp))];exact n
 there:=λb u q _=>⟨u,k b u q⟩
 tups:=λb xs q=>by rw[aN (bZ q hn)];exact q
 frzs:=λb u xs q=>by rw[aN (bZ q hn)];exact q
 tbls:=λb ps q=>⟨#[],by rw[aN (bZ q hn),q];simp⟩
theorem Un.write(mu:Mut (H x))(he:e=x\/H e=some (.own x))(k:∀b u,b≠e->h.get? b=some u->h'.get? b=some u)(heo:∃u,h'.get? e=some u):Un fs ex H (upd H x o) h h':=by
 have hx:∀b,H b=none->b≠x:=λb n z=>by subst z;rw[n] at mu;exact mu
 have hb:∀b,H b=none->b≠e:=λb n z=>by
  subst z
  rcases he with r|r
  . exact hx b n r
  . rw[n] at r;cases r
 have hm:∀b u,H b=some u->¬ Mut (some u)->b≠x:=λb u q nm z=>by subst z;rw[q] at mu;exact nm mu
 refine⟨λb u q n _ _=>k b u (hb b n) q,λb u q n _ _=>⟨u.slots,k b u (hb b n) q⟩,λb u q n _=>by rw[aN (hx b n)];exact n,λb u q _=>?_,
  λb xs q=>by rw[aN (hm b _ q λz=>z)];exact q,λb u xs q=>by rw[aN (hm b _ q λz=>z)];exact q,λb ps q=>⟨#[],by rw[aN (hm b _ q λz=>z),q];simp⟩⟩
 by_cases hbe:b=e
 . subst hbe;exact heo
 . exact⟨u,k b u hbe q⟩
end
def trk(h:Heap)(H:Hp):List Addr:=(List.range h.objs.size).filter λa=>(H a).isSome
def qH(h:Heap)(H:Hp):Heap:=PySem.W.hideAll h (trk h H)
theorem yY(h:Heap)(H:Hp):(qH h H).objs.size=h.objs.size:=PySem.W.hideAll_size _ _
theorem aAv{h:Heap}{H:Hp}{b:Addr}{o:Obj}(e:h.get? b=some o)(n:H b=none):(qH h H).get? b=some o:=
 PySem.W.hideAll_get _ e λhm=>by
  have q:(H b).isSome=true:=(List.mem_filter.mp hm).2
  rw[n] at q;simp at q
theorem aCQ{h:Heap}{H:Hp}{b:Addr}{o:Obj}(e:(qH h H).get? b=some o):h.get? b=some o/\H b=none:=by
 have e':h.get? b=some o:=PySem.W.of_hideAll (trk h H) e
 refine⟨e',?_⟩
 cases q:H b with
 | none=>rfl
 | some x=>
  have hm:b∈trk h H:=List.mem_filter.mpr ⟨List.mem_range.mpr (Heap.lt_size e'),by simp[q]⟩
  have z:(qH h H).get? b=none:=PySem.W.hideAll_none (trk h H) hm
  rw[z] at e;cases e
def aCR(g h:Heap)(L:Addr):List (Addr×Obj):=(List.range h.objs.size).filterMap λa=>if a=L\/(g.get? a).isSome=true then none else (h.get? a).map λo=>(a,o)
def rest(g h:Heap)(L d:Addr):List (Addr×Obj):=(aCR g h L).filter λp=>decide (p.1≠d)
end L2
namespace L2
open PySem PySem.Spec PyProof.Rows
structure Mod (K:PySem.W.Frag) (mg:Str->Option Value) (base:Heap):Prop where
 kin:K.In base
 glob:base.Ns mainGlobals mg
 blt:∃mb,base.Ns builtinsNs mb/\∀x:Str,x ≠ "__name__" -> mb x=bootBuiltins x
 nolimit:base.NoLimit
set_option genInjectivity true in
structure Cx where
 prog:Program
 w:World
 K:PySem.W.Frag
 mg:Str->Option Value
 base:Heap
 A:Around
 N:List Str
 s₀:Shared
 H₀:Hp
 env:Env
 outer:List Env
 stack:List Env
 ex:List Addr
 fn:Str->Bool
 calm:Bool
 pn:List (Addr×Obj)
 xe:Value->Shared->Prop
def frs(l:List Env):List Addr:=l.filterMap (·.frame)
abbrev Cx.fs(X:Cx):List Addr:=frs X.outer
def Vis(sc:Scope)(x:Str):Prop:=sc.names.lookup x=some .local\/sc.names.lookup x=some .cell\/sc.names.lookup x=some .free
def Loc(sc:Scope)(x:Str):Prop:=sc.names.lookup x=some .local\/sc.names.lookup x=some .cell
def aJY(env:Env)(h:Heap)(m:Str->Option Value)(x:Str)(u:Value):Prop:=
 (env.kindOf x=some .local/\m x=some u)\/((env.kindOf x=some .cell\/env.kindOf x=some .free)/\∃c,env.cells.lookup x=some c/\h.IsCell c (some u))
structure Cx.Ok (X:Cx):Prop where
 mod:Mod X.K X.mg X.base
 kind:X.env.scope.kind=.function
 glob:X.env.globals=mainGlobals
 blt:X.env.builtins=builtinsNs
 above:X.s₀.heap.objs.size<=X.env.locals
 inj:∀x y c,X.env.cells.lookup x=some c->X.env.cells.lookup y=some c->x=y
 has:∀x,(X.env.kindOf x=some .cell\/X.env.kindOf x=some .free)->∃c,X.env.cells.lookup x=some c
 cab:∀x c,X.fn x=true->X.env.cells.lookup x=some c->X.s₀.heap.objs.size<=c
 hd:X.calm=true->X.A.handled=none
 frames:X.A.frames=some X.stack
 stk:X.stack=X.outer\/(X.stack=X.env::X.outer/\X.env.frame=some X.env.locals)
 exf:∀b∈X.ex,b≠X.env.locals/\∀x c,X.env.cells.lookup x=some c->c≠b
 bs:∀b o,X.base.get? b=some o->X.s₀.heap.get? b=some o/\X.H₀ b=none
 bsz:X.base.objs.size<=X.s₀.heap.objs.size
 noex:∀b o,X.base.get? b=some o->b∉X.ex
 exfs:∀b∈X.ex,b∉X.fs
 funs:X.s₀.heap.FunFrames X.base X.outer
 frf:∀b∈X.fs,X.H₀ b=none
structure Inv (X:Cx) (pins:List (Addr×Obj)) (σ:List (Option V)) (H:Hp) (s:Shared):Prop where
 ok:X.Ok
 os:s.os=X.s₀.os
 bare:AllBare s.gens
 base:Un X.fs X.ex X.H₀ H X.s₀.heap s.heap
 loc:∃m,s.heap.Ns X.env.locals m/\∀(i:Nat) (x:Str) (v:V),X.N[i]? = some x->σ[i]? = some (some v)->Vis X.env.scope x->∃u,cI v u/\aJY X.env s.heap m x u
 cell:∀x c,X.env.cells.lookup x=some c->∃v,s.heap.IsCell c v
 free:H X.env.locals=none
 freeC:∀x c,X.env.cells.lookup x=some c->H c=none
 pin:∀p∈X.pn++pins,s.heap.get? p.1=some p.2/\H p.1=none/\p.1≠X.env.locals/\p.1∉X.fs/\∀v,p.2.data≠.cell v
 hok:HOk X.prog X.w H s.heap
 len:σ.length=X.N.length
section
variable {X:Cx} {pins:List (Addr×Obj)} {σ:List (Option V)} {H H':Hp} {s:Shared} {h':Heap}
theorem Cx.Ok.nofr(ok:X.Ok){b:Addr}{o:Obj}(e:X.base.get? b=some o):b∉X.fs:=λhb=>by
 have:=(ok.funs.mem hb).1
 rw[e] at this;cases this
theorem Inv.bs(I:Inv X pins σ H s):∀b o,X.base.get? b=some o->s.heap.get? b=some o/\H b=none:=λb o e=>
 ⟨I.base.keep b o (I.ok.bs b o e).1 (I.ok.bs b o e).2 (I.ok.nofr e) (I.ok.noex b o e),I.base.free b o (I.ok.bs b o e).1 (I.ok.bs b o e).2 (I.ok.noex b o e)⟩
theorem Inv.bk(I:Inv X pins σ H s):∀b o,X.base.get? b=some o->s.heap.get? b=some o:=λb o e=>(I.bs b o e).1
theorem Inv.mod(I:Inv X pins σ H s):Mod X.K X.mg X.base:=I.ok.mod
theorem Inv.kIn(I:Inv X pins σ H s):X.K.In s.heap:=I.ok.mod.kin.keeps I.bk
theorem Inv.lt(I:Inv X pins σ H s):X.env.locals<s.heap.objs.size:=let ⟨_,hn,_⟩:=I.loc;hn.lt
theorem Inv.sz(I:Inv X pins σ H s):X.s₀.heap.objs.size<=s.heap.objs.size:=Nat.le_trans I.ok.above (Nat.le_of_lt I.lt)
theorem Inv.nofs(I:Inv X pins σ H s){a:Addr}(h:s.heap.objs.size<=a):a∉X.fs:=λhb=>by
 obtain⟨_,o,ho,_⟩:=I.ok.funs.mem hb
 exact absurd (Nat.lt_of_lt_of_le (Heap.lt_size ho) (Nat.le_trans I.sz h)) (Nat.lt_irrefl _)
theorem Inv.cne(I:Inv X pins σ H s):∀x c,X.env.cells.lookup x=some c->c≠X.env.locals:=λx c e z=>by
 obtain⟨v,o,ho,hd⟩:=I.cell x c e
 obtain⟨m,⟨o',es,ep,ho',hd',_⟩,_⟩:=I.loc
 rw[z,ho'] at ho;cases ho;rw[hd'] at hd;cases hd
theorem Inv.funs(I:Inv X pins σ H s):s.heap.FunFrames X.base X.outer:=by
 have all:∀(l:List Env),(∀b∈frs l,b∈X.fs)->X.s₀.heap.FunFrames X.base l->s.heap.FunFrames X.base l:=by
  intro l
  induction l with
  | nil=>intro _ _;trivial
  | cons env r ih=>
   intro hs hl
   obtain⟨hk,⟨L,o,hf,hn,ho,hd⟩,hr⟩:=hl
   have hL:L∈X.fs:=hs L (by unfold frs;rw[List.filterMap_cons,hf];exact List.mem_cons_self)
   obtain⟨sl,e⟩:=I.base.slot L o ho (I.ok.frf L hL) hL λz=>I.ok.exfs L z hL
   exact⟨hk,⟨L,_,hf,hn,e,hd⟩,ih (λb hb=>hs b (by unfold frs;rw[List.filterMap_cons,hf];exact List.mem_cons_of_mem _ hb)) hr⟩
 exact all X.outer (λ_ hb=>hb) I.ok.funs
theorem Inv.stack(I:Inv X pins σ H s):s.heap.FunFrames X.base X.stack:=by
 rcases I.ok.stk with e|⟨e,hf⟩
 . rw[e];exact I.funs
 . rw[e]
   obtain⟨m,hn,_⟩:=I.loc
   refine .cons (by rw[I.ok.kind];decide) hf hn ?_ I.funs
   exact Heap.get?_none_of_le (Nat.le_trans I.ok.bsz I.ok.above)
theorem Inv.stkSub(I:Inv X pins σ H s):∀b∈frs X.stack,b∈X.env.locals::X.fs:=λb hb=>by
 rcases I.ok.stk with e|⟨e,hf⟩
 . rw[e] at hb;exact List.mem_cons_of_mem _ hb
 . rw[e] at hb
   unfold frs at hb
   rw[List.filterMap_cons,hf] at hb
   exact hb
theorem Inv.stkFree(I:Inv X pins σ H s):∀b∈frs X.stack,H b=none:=λb hb=>by
 rcases List.mem_cons.mp (I.stkSub b hb) with e|hb
 . rw[e];exact I.free
 . obtain⟨_,o,ho,_⟩:=I.ok.funs.mem hb
   exact I.base.free b o ho (I.ok.frf b hb) λz=>I.ok.exfs b z hb
theorem Inv.step{g':Array GenState}{t':Nat}{d':Drawn}{ch:List Addr}(I:Inv X pins σ H s)
 (hch:∀b∈ch,(b∈X.ex\/X.s₀.heap.objs.size<=b)/\b≠X.env.locals/\(∀x c,X.env.cells.lookup x=some c->c≠b)/\∀p∈X.pn++pins,p.1≠b)
 (keep:∀b o,b≠X.env.locals->b∉X.fs->b∉ch->s.heap.get? b=some o->H b=none->h'.get? b=some o)
 (slot:∀b o,b≠X.env.locals->b∈X.fs->b∉ch->s.heap.get? b=some o->H b=none->∃sl,h'.get? b=some { o with slots:=sl }) (free:∀b o,b∉ch->s.heap.get? b=some o->H b=none->H' b=none)
 (there:∀b o,b∉ch->s.heap.get? b=some o->∃o',h'.get? b=some o')
 (tups:∀b xs,H b=some (.tup xs)->H' b=some (.tup xs)) (frzs:∀b o u,H b=some (.frz o u)->H' b=some (.frz o u)) (tbls:∀b ps,H b=some (.tbl ps)->∃more,H' b=some (.tbl (ps++more)))
 (ns:∀m,s.heap.Ns X.env.locals m->h'.Ns X.env.locals m) (hok:HOk X.prog X.w H' h') (hg:AllBare g') :
 Inv X pins σ H' { s with heap:=h',gens:=g',drawn:=d',toks:=t' }:=by
 have neL:∀b o,X.s₀.heap.get? b=some o->b≠X.env.locals:=λb o e=>Nat.ne_of_lt (Nat.lt_of_lt_of_le (Heap.lt_size e) I.ok.above)
 have neC:∀b o,X.s₀.heap.get? b=some o->b∉X.ex->b∉ch:=λb o e hx hb=>by
  rcases(hch b hb).1 with z|z
  . exact hx z
  . exact absurd (Nat.lt_of_lt_of_le (Heap.lt_size e) z) (Nat.lt_irrefl _)
 have cellK:∀x c,X.env.cells.lookup x=some c->∀v,s.heap.IsCell c v->h'.IsCell c v:=λx c e v ⟨o,ho,hd⟩=>by
  have nch:c∉ch:=λz=>(hch c z).2.2.1 x c e rfl
  by_cases hc:c∈X.fs
  . obtain⟨sl,q⟩:=slot c o (I.cne x c e) hc nch ho (I.freeC x c e)
    exact⟨_,q,hd⟩
  . exact⟨o,keep c o (I.cne x c e) hc nch ho (I.freeC x c e),hd⟩
 refine⟨I.ok,I.os,hg,⟨λb o e n hb hx=>?_,λb o e n hb hx=>?_,λb o e n hx=>?_,λb o e hx=>?_,λb xs e=>tups b xs (I.base.tups b xs e),λb o xs e=>frzs b o xs (I.base.frzs b o xs e),λb ps e=>?_⟩,?_,λx c e=>?_,?_,λx c e=>?_,λp hp=>?_,hok,I.len⟩
 . exact keep b o (neL b o e) hb (neC b o e hx) (I.base.keep b o e n hb hx) (I.base.free b o e n hx)
 . obtain⟨sl,e1⟩:=I.base.slot b o e n hb hx
   obtain⟨sl',e2⟩:=slot b _ (neL b o e) hb (neC b o e hx) e1 (I.base.free b o e n hx)
   exact⟨sl',e2⟩
 . obtain⟨o',e1⟩:=I.base.there b o e hx
   exact free b o' (neC b o e hx) e1 (I.base.free b o e n hx)
 . obtain⟨o',e1⟩:=I.base.there b o e hx
   exact there b o' (neC b o e hx) e1
 . obtain⟨m1,e1⟩:=I.base.tbls b ps e
   obtain⟨m2,e2⟩:=tbls b _ e1
   exact⟨m1++m2,by rw[e2,Array.append_assoc]⟩
 . obtain⟨m,hn,hl⟩:=I.loc
   refine⟨m,ns m hn,λi x v e1 e2 e3=>?_⟩
   obtain⟨u,r,l⟩:=hl i x v e1 e2 e3
   refine⟨u,r,?_⟩
   rcases l with l|⟨k,c,e,z⟩
   . exact .inl l
   . exact .inr ⟨k,c,e,cellK x c e _ z⟩
 . obtain⟨v,z⟩:=I.cell x c e
   exact⟨v,cellK x c e v z⟩
 . obtain⟨m,⟨o,_,_,ho,_⟩,_⟩:=I.loc
   exact free _ o (λz=>(hch _ z).2.1 rfl) ho I.free
 . obtain⟨v,o,ho,hd⟩:=I.cell x c e
   exact free c o (λz=>(hch c z).2.2.1 x c e rfl) ho (I.freeC x c e)
 . obtain⟨e,n,ne,nf,d⟩:=I.pin p hp
   have nch:p.1∉ch:=λz=>(hch p.1 z).2.2.2 p hp rfl
   exact⟨keep p.1 p.2 ne nf nch e n,free p.1 p.2 nch e n,ne,nf,d⟩
theorem Inv.un{t':Nat}(I:Inv X pins σ H s)(u:Un X.fs [] H H' s.heap h')(hok:HOk X.prog X.w H' h'):Inv X pins σ H' { s with heap:=h',toks:=t' }:=by
 obtain⟨m,⟨o,es,ep,ho,r⟩,_⟩:=id I.loc
 obtain⟨sl,hL⟩:=u.any ho I.free (by simp)
 exact I.step (g':=s.gens) (d':=s.drawn) (ch:=[]) (λ_ z=>nomatch z) (λb o _ hb _ e n=>u.keep b o e n hb (by simp)) (λb o _ hb _ e n=>u.slot b o e n hb (by simp)) (λb o _ e n=>u.free b o e n (by simp)) (λb o _ e=>u.there b o e (by simp)) u.tups u.frzs u.tbls (λm' hm=>by
  obtain⟨o',es',ep',ho',r'⟩:=hm
  rw[ho] at ho';cases ho'
  exact⟨_,es',ep',hL,r'⟩) hok I.bare
theorem Inv.call{g':Array GenState}{t':Nat}{d':Drawn}{ch:List Addr}(I:Inv X pins σ H s)(u:Un (frs X.stack) ch H H' s.heap h')(hok:HOk X.prog X.w H' h')(hg:AllBare g')
 (hch:∀b∈ch,(b∈X.ex\/X.s₀.heap.objs.size<=b)/\b≠X.env.locals/\(∀x c,X.env.cells.lookup x=some c->c≠b)/\∀p∈X.pn++pins,p.1≠b) :
 Inv X pins σ H' { s with heap:=h',gens:=g',drawn:=d',toks:=t' }:=by
 obtain⟨m,⟨o,es,ep,ho,r⟩,_⟩:=id I.loc
 obtain⟨sl,hL⟩:=u.any ho I.free λz=>(hch _ z).2.1 rfl
 exact I.step (ch:=ch) hch (λb o hL hb hc e n=>u.keep b o e n (λz=>(List.mem_cons.mp (I.stkSub b z)).elim hL hb) hc) (λb o _ _ hc e n=>u.any e n hc) (λb o hc e n=>u.free b o e n hc) (λb o hc e=>u.there b o e hc) u.tups u.frzs u.tbls (λm' hm=>by
  obtain⟨o',es',ep',ho',r'⟩:=hm
  rw[ho] at ho';cases ho'
  exact⟨_,es',ep',hL,r'⟩) hok hg
theorem Inv.turned{t':Nat}{it:Addr}(I:Inv X pins σ H s)(k:∀b o,b≠it->s.heap.get? b=some o->h'.get? b=some o)(hn:H it=none)(hL:it≠X.env.locals)
 (h1:it∈X.ex\/X.s₀.heap.objs.size<=it) (h2:∀x c,X.env.cells.lookup x=some c->c≠it) (h3:∀p∈X.pn++pins,p.1≠it):Inv X pins σ H { s with heap:=h',toks:=t' }:=by
 have nit:∀b u,H b=some u->b≠it:=λb u e z=>by rw[z,hn] at e;cases e
 refine I.step (g':=s.gens) (d':=s.drawn) (ch:=[it]) (λb hb=>?_) (λb o _ _ hc e _=>k b o (λz=>hc (by simp[z])) e) (λb o _ _ hc e _=>⟨o.slots,k b o (λz=>hc (by simp[z])) e⟩) (λ_ _ _ _ n=>n)
  (λb o hc e=>⟨o,k b o (λz=>hc (by simp[z])) e⟩) (λ_ _ e=>e) (λ_ _ _ e=>e) (λb ps e=>⟨#[],by rw[e];simp⟩) (λm hm=>?_) (λb u e=>?_) I.bare
 . have e:b=it:=by simpa using hb
   subst e
   exact⟨h1,hL,h2,h3⟩
 . obtain⟨o,es,ep,ho,r⟩:=hm
   exact⟨o,es,ep,k _ o (Ne.symm hL) ho,r⟩
 . refine(I.hok b u e).stay (λc v hc q=>k c v ?_ q) (λ_ q=>q) λ_ _ q=>q
   rcases hc with z|z
   . rw[z];exact nit b u e
   . exact nit c _ z
theorem Inv.tok(I:Inv X pins σ H s)(t:Nat):Inv X pins σ H { s with toks:=t }:=I.un (h':=s.heap) (t':=t) Un.refl I.hok
theorem Inv.kept{t':Nat}(I:Inv X pins σ H s)(k:∀b u,s.heap.get? b=some u->h'.get? b=some u):Inv X pins σ H { s with heap:=h',toks:=t' }:=I.un (Un.kept k) (I.hok.kept k)
theorem Inv.laid{a:Addr}{o:HO}{t':Nat}(I:Inv X pins σ H s)(k:∀b u,s.heap.get? b=some u->h'.get? b=some u)(hp:s.heap.objs.size<=a)(new:eM X.prog X.w (upd H a o) h' a o) :
 Inv X pins σ (upd H a o) { s with heap:=h',toks:=t' }:=I.un (Un.laid k hp (I.hok.fresh hp)) (I.hok.laid k hp new)
theorem Inv.write{x e:Addr}{o:HO}{t':Nat}(I:Inv X pins σ H s)(mu:Mut (H x))(he:e=x\/H e=some (.own x))(k:∀b u,b≠e->s.heap.get? b=some u->h'.get? b=some u)(heo:∃u,h'.get? e=some u)
 (new:eM X.prog X.w (upd H x o) h' x o):Inv X pins σ (upd H x o) { s with heap:=h',toks:=t' }:=I.un (Un.write mu he k heo) (I.hok.write mu he k heo new)
theorem Inv.pins_of{pins':List (Addr×Obj)}(I:Inv X pins σ H s)(h:∀p∈pins',s.heap.get? p.1=some p.2/\H p.1=none/\p.1≠X.env.locals/\p.1∉X.fs/\∀v,p.2.data≠.cell v):Inv X pins' σ H s:=
 ⟨I.ok,I.os,I.bare,I.base,I.loc,I.cell,I.free,I.freeC,λp hp=>(List.mem_append.mp hp).elim (λz=>I.pin p (List.mem_append_left _ z)) (h p),I.hok,I.len⟩
theorem sF{N:List Str}(hN:N.Nodup){i j:Nat}{x:Str}(a:N[i]? = some x)(b:N[j]? = some x):i=j:=by
 obtain⟨h1,e1⟩:=List.getElem?_eq_some_iff.mp a
 obtain⟨h2,e2⟩:=List.getElem?_eq_some_iff.mp b
 exact(List.getElem_inj hN).mp (e1.trans e2.symm)
theorem pE{M:Model}{A:Around}{E:Value->Shared->Prop}{i:Nat}{x:Str}{v:V}{u:Value}{Q:Unit->Shared->Prop}(I:Inv X pins σ H s)(hN:X.N.Nodup)(hi:X.N[i]? = some x)(hx:Loc X.env.scope x)(r:cI v u)
 (h:∀s',Inv X pins (σ.set i (some v)) H s'->(∃a,Heap.SameBut a s.heap s'.heap/\(a=X.env.locals\/X.env.cells.lookup x=some a))->Q () s') (hf:X.fn x=true\/X.env.scope.names.lookup x=some .local:=by first|exact .inl rfl|exact .inr rfl|assumption):wpAny M A (storeName X.env x u) Q E s:=by
 obtain⟨m,hn,hl⟩:=id I.loc
 have hcls:(X.env.scope.kind==.class||(X.env.scope.kind==.module&&X.env.locals != X.env.globals))=false:=by rw[I.ok.kind];rfl
 have hiσ:i<σ.length:=by rw[I.len];exact(List.getElem?_eq_some_iff.mp hi).1
 have cne:=I.cne
 have tracked:∀{a:Addr} {h':Heap},(∃o,s.heap.get? a=some o/\H a=none)->Heap.SameBut a s.heap h'->HOk X.prog X.w H h':=λ{a h'} ha hs b ob e=>by
  obtain⟨_,_,hfree⟩:=ha
  refine(I.hok b ob e).stay (λc w' hc q=>(hs.2 c ?_).trans q) (λ_ q=>q) λ_ _ q=>q
  rintro rfl
  rcases hc with rfl|hc
  . rw[hfree] at e;cases e
  . rw[hfree] at hc;cases hc
 rcases hx with hk|hk
 . refine wpAny_storeName_local hk hn (λh' hn' hs=>?_) hcls
   obtain⟨oL,_,_,hoL,_⟩:=id hn
   refine h _ ⟨I.ok,I.os,I.bare,⟨λb o e n hb hx=>?_,λb o e n hb hx=>?_,I.base.free,λb o e hx=>?_,I.base.tups,I.base.frzs,I.base.tbls⟩,⟨_,hn',λj y v' e1 e2 e3=>?_⟩,λy c e=>?_,I.free,I.freeC,λp hp=>?_,tracked ⟨oL,hoL,I.free⟩ hs,by simpa using I.len⟩ ⟨_,hs,.inl rfl⟩
   . exact(hs.2 b (Nat.ne_of_lt (Nat.lt_of_lt_of_le (Heap.lt_size e) I.ok.above))).trans (I.base.keep b o e n hb hx)
   . obtain⟨sl,e1⟩:=I.base.slot b o e n hb hx
     exact⟨sl,(hs.2 b (Nat.ne_of_lt (Nat.lt_of_lt_of_le (Heap.lt_size e) I.ok.above))).trans e1⟩
   . obtain⟨o',e1⟩:=I.base.there b o e hx
     exact⟨o',(hs.2 b (Nat.ne_of_lt (Nat.lt_of_lt_of_le (Heap.lt_size e) I.ok.above))).trans e1⟩
   . by_cases hj:j=i
     . subst hj
       rw[hi] at e1;cases e1
       rw[List.getElem?_set_self hiσ] at e2
       cases e2
       exact⟨u,r,.inl ⟨hk,by simp⟩⟩
     . rw[List.getElem?_set_ne (Ne.symm hj)] at e2
       obtain⟨u',r',q⟩:=hl j y v' e1 e2 e3
       refine⟨u',r',?_⟩
       rcases q with⟨k,e⟩|⟨k,c,e,z⟩
       . refine .inl ⟨k,?_⟩
         have:y≠x:=λe=>hj (sF hN e1 (e▸hi))
         simp[this,e]
       . exact .inr ⟨k,c,e,z.sameBut hs (cne y c e)⟩
   . obtain⟨w',z⟩:=I.cell y c e
     exact⟨w',z.sameBut hs (cne y c e)⟩
   . obtain⟨e,n,ne,nf,d⟩:=I.pin p hp
     exact⟨(hs.2 p.1 ne).trans e,n,ne,nf,d⟩
 . have hfn:X.fn x=true:=by
    rcases hf with z|z
    . exact z
    . rw[z] at hk;cases hk
   obtain⟨c,hc⟩:=I.ok.has x (.inl hk)
   obtain⟨w',z⟩:=I.cell x c hc
   refine wpAny_storeName_cell I.ok.kind hk hc z (λh' hc' hs=>?_)
   obtain⟨oc,hoc,hocd⟩:=id z
   refine h { s with heap:=h' } ⟨I.ok,I.os,I.bare,⟨λb o e n hb hx=>?_,λb o e n hb hx=>?_,I.base.free,λb o e hx=>?_,I.base.tups,I.base.frzs,I.base.tbls⟩,⟨m,hn.sameBut hs (Ne.symm (cne x c hc)),λj y v' e1 e2 e3=>?_⟩,λy c' e=>?_,I.free,I.freeC,λp hp=>?_,tracked ⟨oc,hoc,I.freeC x c hc⟩ hs,by simpa using I.len⟩ ⟨c,hs,.inr hc⟩
   . exact(hs.2 b (Nat.ne_of_lt (Nat.lt_of_lt_of_le (Heap.lt_size e) (I.ok.cab x c hfn hc)))).trans (I.base.keep b o e n hb hx)
   . obtain⟨sl,e1⟩:=I.base.slot b o e n hb hx
     exact⟨sl,(hs.2 b (Nat.ne_of_lt (Nat.lt_of_lt_of_le (Heap.lt_size e) (I.ok.cab x c hfn hc)))).trans e1⟩
   . obtain⟨o',e1⟩:=I.base.there b o e hx
     exact⟨o',(hs.2 b (Nat.ne_of_lt (Nat.lt_of_lt_of_le (Heap.lt_size e) (I.ok.cab x c hfn hc)))).trans e1⟩
   . by_cases hj:j=i
     . subst hj
       rw[hi] at e1;cases e1
       rw[List.getElem?_set_self hiσ] at e2
       cases e2
       exact⟨u,r,.inr ⟨.inl hk,c,hc,hc'⟩⟩
     . rw[List.getElem?_set_ne (Ne.symm hj)] at e2
       obtain⟨u',r',q⟩:=hl j y v' e1 e2 e3
       refine⟨u',r',?_⟩
       rcases q with q|⟨k,c',e,z'⟩
       . exact .inl q
       . refine .inr ⟨k,c',e,z'.sameBut hs ?_⟩
         rintro rfl
         exact hj (sF hN e1 (I.ok.inj _ _ _ e hc▸hi))
   . by_cases hcc:c'=c
     . subst hcc;exact⟨_,hc'⟩
     . obtain⟨w2,z2⟩:=I.cell y c' e
       exact⟨w2,z2.sameBut hs hcc⟩
   . obtain⟨e,n,ne,nf,d⟩:=I.pin p hp
     refine⟨(hs.2 p.1 ?_).trans e,n,ne,nf,d⟩
     intro q
     rw[q,hoc] at e
     have q':oc=p.2:=Option.some.inj e
     exact d w' (by rw[<-q'];exact hocd)
theorem sG{M:Model}{A:Around}{E:Value->Shared->Prop}{i:Nat}{x:Str}{v:V}{u:Value}{Q:Unit->Shared->Prop}(I:Inv X pins σ H s)(hN:X.N.Nodup)(hi:X.N[i]? = some x)(hx:Loc X.env.scope x)(r:cI v u)
 (h:∀s',Inv X pins (σ.set i (some v)) H s'->Q () s') (hf:X.fn x=true\/X.env.scope.names.lookup x=some .local:=by first|exact .inl rfl|exact .inr rfl|assumption):wpAny M A (storeName X.env x u) Q E s:=
 pE I hN hi hx r (λs' I' _=>h s' I') hf
theorem Inv.call'{s':Shared}{ch:List Addr}(I:Inv X pins σ H s)(ho:s'.os=s.os)(u:Un (frs X.stack) ch H H' s.heap s'.heap)(hok:HOk X.prog X.w H' s'.heap)(hg:AllBare s'.gens)
 (hch:∀b∈ch,(b∈X.ex\/X.s₀.heap.objs.size<=b)/\b≠X.env.locals/\(∀x c,X.env.cells.lookup x=some c->c≠b)/\∀p∈X.pn++pins,p.1≠b):Inv X pins σ H' s':=by
 obtain⟨h',g',d',t',o'⟩:=s'
 have e:o'=s.os:=ho
 subst e
 exact I.call (g':=g') (t':=t') (d':=d') u hok hg hch
end
abbrev XK:=Value->Option Addr->Hp->Prop
abbrev St:=List (Option V)
abbrev VK:=V->Hp->Prop
abbrev TE:=St->Hp->VK->Prop
abbrev TT:=St->Hp->(Bool->Hp->Prop)->Prop
abbrev TA:=St->Hp->(List V->Hp->Prop)->Prop
structure Ends where
 nx:St->Hp->Prop
 rt:VK
 bk:St->Hp->Prop:=λ_ _=>False
 ct:St->Hp->Prop:=λ_ _=>False
abbrev TS:=Ends->St->Hp->Prop
def EP(X:Cx)(pins:List (Addr×Obj))(σ:St)(Q:VK)(u:Value)(s':Shared):Prop:=∃v H',Inv X pins σ H' s'/\cI v u/\Q v H'
def TP(X:Cx)(pins:List (Addr×Obj))(σ:St)(Q:Bool->Hp->Prop)(b:Bool)(s':Shared):Prop:=∃H',Inv X pins σ H' s'/\Q b H'
def AP(X:Cx)(pins:List (Addr×Obj))(σ:St)(Q:List V->Hp->Prop)(us:List Value)(s':Shared):Prop:=∃vs H',Inv X pins σ H' s'/\bR vs us/\Q vs H'
def SP(X:Cx)(pins:List (Addr×Obj))(D:Ends)(f:Flow)(s':Shared):Prop:=
 match f with
 | .next=>∃σ' H',Inv X pins σ' H' s'/\D.nx σ' H'
 | .brk=>∃σ' H',Inv X pins σ' H' s'/\D.bk σ' H'
 | .cont=>∃σ' H',Inv X pins σ' H' s'/\D.ct σ' H'
 | .ret u=>∃v σ' H',Inv X pins σ' H' s'/\cI v u/\D.rt v H'
def PE(X:Cx)(e:Expr)(t:TE):Prop:=
 ∀(pins:List (Addr×Obj)) (s:Shared) (σ:St) (H:Hp) (Q:VK),Inv X pins σ H s->t σ H Q->wpAny (model X.prog X.w) X.A (eval e X.env) (EP X pins σ Q) X.xe s
def PT(X:Cx)(e:Expr)(t:TT):Prop:=
 ∀(pins:List (Addr×Obj)) (s:Shared) (σ:St) (H:Hp) (Q:Bool->Hp->Prop),Inv X pins σ H s->t σ H Q->wpAny (model X.prog X.w) X.A (isTrue e X.env (eval e X.env)) (TP X pins σ Q) X.xe s
def PW(X:Cx)(e:Expr)(t:TT):Prop:=
 ∀(whole:Sem Value) (pins:List (Addr×Obj)) (s:Shared) (σ:St) (H:Hp) (Q:Bool->Hp->Prop),Inv X pins σ H s->t σ H Q->wpAny (model X.prog X.w) X.A (isTrue e X.env whole) (TP X pins σ Q) X.xe s
theorem PW.pt{X:Cx}{e:Expr}{t:TT}(h:PW X e t):PT X e t:=h _
def PA(X:Cx)(es:List Expr)(t:TA):Prop:=
 ∀(pos:Pos) (pins:List (Addr×Obj)) (s:Shared) (σ:St) (H:Hp) (Q:List V->Hp->Prop),Inv X pins σ H s->t σ H Q->wpAny (model X.prog X.w) X.A (spliced (backTo pos (starEach es X.env))) (AP X pins σ Q) X.xe s
def PS(X:Cx)(st:Stmt)(t:TS):Prop:=
 ∀(pins:List (Addr×Obj)) (s:Shared) (σ:St) (H:Hp) (D:Ends),Inv X pins σ H s->t D σ H->wpAny (model X.prog X.w) X.A (exec st X.env) (SP X pins D) X.xe s
def PSs(X:Cx)(st:List Stmt)(t:TS):Prop:=
 ∀(pins:List (Addr×Obj)) (s:Shared) (σ:St) (H:Hp) (D:Ends),Inv X pins σ H s->t D σ H->wpAny (model X.prog X.w) X.A (execs st X.env) (SP X pins D) X.xe s
theorem thn{α:Type}{t:Sem α}{Q Q':α->Shared->Prop}{M:Model}{A:Around}{E:Value->Shared->Prop}{s:Shared}(h:wpAny M A t Q E s)(hQ:∀a s,Q a s->Q' a s):wpAny M A t Q' E s:=wpAny_mono h hQ λ_ _ x=>x
end L2
namespace L2
open PySem PySem.Spec PyProof.Rows
section
variable {X:Cx}
def aCS(i:Nat):TE:=λσ H Q=>∃v,σ[i]? = some (some v)/\Q v H
def tC(v:V):TE:=λ_ H Q=>Q v H
theorem kP{i:Nat}{x:Str}{pos:Pos}(hN:X.N[i]? = some x)(hv:Vis X.env.scope x)(hd:(x==("__debug__" : Str))=false:=by decide)(hcd:(x==("__classdict__" : Str))=false:=by decide):PE X (.Name x pos) (aCS i):=by
 intro pins s σ H Q I h
 obtain⟨v,e,h⟩:=h
 obtain⟨m,hn,hl⟩:=I.loc
 obtain⟨u,r,l⟩:=hl i x v hN e hv
 have fin:EP X pins σ Q u s:=⟨v,H,I,r,h⟩
 rcases l with⟨hk,hm⟩|⟨hk,c,hc,hcell⟩
 . exact wpAny_Name (wpAny_loadName_local I.ok.kind hk hn hm fin) hd
 . rcases hk with hk|hk
   . exact wpAny_Name (wpAny_loadName_cell I.ok.kind hk hc hcell fin) hd
   . exact wpAny_Name (wpAny_loadName_free I.ok.kind hk hc hcell fin hcd) hd
theorem aES{i j pos}:PE X (.Constant (.int i) j pos) (tC (.int i)):=λ_ _ _ H _ I h=>wpAny_Constant_int ⟨.int i,H,I.tok _,⟨_,rfl⟩,h⟩
theorem aHh{b j pos}:PE X (.Constant (.bool b) j pos) (tC (.bl b)):=λ_ _ _ H _ I h=>Constant_bool ⟨.bl b,H,I,rfl,h⟩
theorem aET{j pos}:PE X (.Constant .none j pos) (tC .non):=λ_ _ _ H _ I h=>Constant_none ⟨.non,H,I,rfl,h⟩
theorem aEU{x j pos}:PE X (.Constant (.str x) j pos) (tC (.str x)):=λ_ _ _ H _ I h=>Calls.Constant_str ⟨.str x,H,I.tok _,⟨_,rfl⟩,h⟩
def Gl(X:Cx)(x:Str):Prop:=X.env.kindOf x=some .globalImplicit
theorem qJ{E:Value->Shared->Prop}{pins:List (Addr×Obj)}{s:Shared}{σ:St}{H:Hp}{x:Str}{u:Value}{pos:Pos}{Q:Value->Shared->Prop}(I:Inv X pins σ H s)(hg:Gl X x)(hm:X.mg x=some u)(h:Q u s)
 (hd:(x==("__debug__" : Str))=false:=by decide):wpAny (model X.prog X.w) X.A (eval (.Name x pos) X.env) Q E s:=
 Calls.Name_function_global I.ok.kind hg (Calls.loadGlobal_global (by rw[I.ok.glob];exact I.mod.glob.keeps I.bk) hm h) hd
theorem hU{E:Value->Shared->Prop}{pins:List (Addr×Obj)}{s:Shared}{σ:St}{H:Hp}{x:Str}{u:Value}{pos:Pos}{Q:Value->Shared->Prop}(I:Inv X pins σ H s)(hg:Gl X x)(hm:X.mg x=none)(hv:bootBuiltins x=some u)(h:Q u s)
 (hn:x ≠ "__name__" := by decide) (hd:(x==("__debug__" : Str))=false:=by decide):wpAny (model X.prog X.w) X.A (eval (.Name x pos) X.env) Q E s:=by
 obtain⟨mb,h1,h2⟩:=I.mod.blt
 exact Calls.Name_function_global I.ok.kind hg (Calls.loadGlobal_builtin (by rw[I.ok.glob];exact I.mod.glob.keeps I.bk) hm (by rw[I.ok.blt];exact h1.keeps I.bk) ((h2 x hn).trans hv) h) hd
theorem aCT{x:Str}{v:V}{u:Value}{pos:Pos}(hg:Gl X x)(hm:X.mg x=some u)(r:cI v u)(hd:(x==("__debug__" : Str))=false:=by decide):PE X (.Name x pos) (tC v):=
 λ_ _ _ H _ I h=>qJ I hg hm ⟨v,H,I,r,h⟩ hd
variable {a b:Expr} {ta tb:TE} {pos:Pos}
variable {tA tB':TT} {rest:List Expr}
def aJZ(t u:TT):TT:=λσ H Q=>t σ H λc H1=>if c=true then u σ H1 Q else Q false H1
def tOr(t u:TT):TT:=λσ H Q=>t σ H λc H1=>if c=true then Q true H1 else u σ H1 Q
def aKa(t:TT):TT:=λσ H Q=>t σ H λc H1=>Q (!c) H1
theorem aCU(ha:PT X a tA):PW X (.BoolOp .And [a] pos) tA:=by
 intro wh pins s σ H Q I h
 refine isTrue_and (thn (ha pins s σ H Q I h) λc s1 e=>?_)
 cases c with
 | true=>exact isTrue_and_nil e
 | false=>exact e
theorem aEV(ha:PT X a tA):PW X (.BoolOp .Or [a] pos) tA:=by
 intro wh pins s σ H Q I h
 refine isTrue_or (thn (ha pins s σ H Q I h) λc s1 e=>?_)
 cases c with
 | false=>exact isTrue_or_nil e
 | true=>exact e
theorem aEW(ha:PT X a tA)(hb:PW X (.BoolOp .And (b::rest) pos) tB'):PW X (.BoolOp .And (a::b::rest) pos) (aJZ tA tB'):=by
 intro wh pins s σ H Q I h
 refine isTrue_and (thn (ha pins s σ H _ I h) λc s1 ⟨H1,I1,q1⟩=>?_)
 cases c with
 | true=>exact hb wh pins s1 σ H1 Q I1 q1
 | false=>exact⟨H1,I1,q1⟩
theorem aHi(ha:PT X a tA)(hb:PW X (.BoolOp .Or (b::rest) pos) tB'):PW X (.BoolOp .Or (a::b::rest) pos) (tOr tA tB'):=by
 intro wh pins s σ H Q I h
 refine isTrue_or (thn (ha pins s σ H _ I h) λc s1 ⟨H1,I1,q1⟩=>?_)
 cases c with
 | true=>exact⟨H1,I1,q1⟩
 | false=>exact hb wh pins s1 σ H1 Q I1 q1
theorem aEX(ha:PT X a tA):PT X (.UnaryOp .Not a pos) (aKa tA):=by
 intro pins s σ H Q I h
 exact isTrue_not (ha pins s σ H (λc H1=>Q (!c) H1) I h)
def aHj(ta tb:TE):TE:=λσ H Q=>ta σ H λx H1=>∃c,x=.bl c/\if c=true then tb σ H1 Q else Q (.bl false) H1
def aKb(ta tb:TE):TE:=λσ H Q=>ta σ H λx H1=>∃c,x=.bl c/\if c=true then Q (.bl true) H1 else tb σ H1 Q
theorem aAw{op}{t:TE}(h:PE X a t):PE X (.BoolOp op [a] pos) t:=λpins s σ H Q I hw=>BoolOp_one (h pins s σ H Q I hw)
theorem aEY(ha:PE X a ta)(hb:PE X (.BoolOp .And (b::rest) pos) tb):PE X (.BoolOp .And (a::b::rest) pos) (aHj ta tb):=by
 intro pins s σ H Q I h
 refine BoolOp_and (thn (ha pins s σ H _ I h) λv s1 ⟨x,H1,I1,r1,q1⟩=>?_)
 obtain⟨c,rfl,q1⟩:=q1
 cases r1
 refine wpAny_truthy_bool ?_
 cases c with
 | true=>exact hb pins s1 σ H1 Q I1 q1
 | false=>exact⟨.bl false,H1,I1,rfl,q1⟩
theorem aHk(ha:PE X a ta)(hb:PE X (.BoolOp .Or (b::rest) pos) tb):PE X (.BoolOp .Or (a::b::rest) pos) (aKb ta tb):=by
 intro pins s σ H Q I h
 refine BoolOp_or (thn (ha pins s σ H _ I h) λv s1 ⟨x,H1,I1,r1,q1⟩=>?_)
 obtain⟨c,rfl,q1⟩:=q1
 cases r1
 refine wpAny_truthy_bool ?_
 cases c with
 | false=>exact hb pins s1 σ H1 Q I1 q1
 | true=>exact⟨.bl true,H1,I1,rfl,q1⟩
def tIf(t:TT)(ta tb:TE):TE:=λσ H Q=>t σ H λc H1=>if c=true then ta σ H1 Q else tb σ H1 Q
theorem aAx{c:Expr}(hc:PT X c tA)(ha:PE X a ta)(hb:PE X b tb):PE X (.IfExp c a b pos) (tIf tA ta tb):=by
 intro pins s σ H Q I h
 refine wpAny_IfExp (thn (hc pins s σ H _ I h) λd s1 ⟨H1,I1,q1⟩=>?_)
 cases d with
 | true=>exact ha pins s1 σ H1 Q I1 q1
 | false=>exact hb pins s1 σ H1 Q I1 q1
end
end L2
namespace L2
open PySem PySem.Spec PyProof.Rows
def SqL(K:PySem.W.Frag)(H:Hp)(a:Addr)(xs:List V):Prop:=
 Rd H a (.lst xs) \/
  ∃(o:Obj) (its:Array Value) (n:Nat),K.lookup a=some o/\o.cls=.type "list" /\ o.dict=none/\o.data=.seq its n/\its.size<=sizeLine/\bR xs its.toList
def SqT(K:PySem.W.Frag)(H:Hp)(a:Addr)(xs:List V):Prop:=
 Rd H a (.tup xs) \/
  ∃(o:Obj) (its:Array Value) (n:Nat),K.lookup a=some o/\o.cls=.type "tuple" /\ o.data=.seq its n/\its.size<=sizeLine/\bR xs its.toList
def aKc:Value->Option V
 | .none=>some .non
 | .bool b=>some (.bl b)
 | .int i _=>some (.int i)
 | .str x _=>some (.str x)
 | .bytes b _=>some (.byt b)
 | .float b _=>some (.flt b)
 | .ref a=>some (.ref a)
 | .type n=>some (.ty n)
 | _=>none
theorem cI.abs{x:V}{u:Value}(r:cI x u):aKc u=some x:=by
 cases x with
 | non=>cases r;rfl
 | bl _=>cases r;rfl
 | int _=>obtain⟨t,rfl⟩:=r;rfl
 | str _=>obtain⟨t,rfl⟩:=r;rfl
 | byt _=>obtain⟨t,rfl⟩:=r;rfl
 | flt _=>obtain⟨t,rfl⟩:=r;rfl
 | ref _=>cases r;rfl
 | ty _=>cases r;rfl
theorem cI.inj{x y:V}{u:Value}(r:cI x u)(q:cI y u):x=y:=Option.some.inj (r.abs.symm.trans q.abs)
theorem bR.inj:∀{xs ys:List V} {us:List Value},bR xs us->bR ys us->xs=ys
 | _,_,_,.nil,.nil=>rfl
 | _,_,_,.cons r t,.cons r' t'=>by rw[r.inj r',bR.inj t t']
section
variable {X:Cx} {pins:List (Addr×Obj)} {σ:St} {H:Hp} {s:Shared} {a:Addr} {xs ys:List V}
theorem SqL.of{K:PySem.W.Frag}(h:H a=some (.lst xs)):SqL K H a xs:=.inl (.inl h)
theorem SqT.of{K:PySem.W.Frag}(h:H a=some (.tup xs)):SqT K H a xs:=.inl (.inl h)
theorem Inv.list(I:Inv X pins σ H s)(h:SqL X.K H a xs):∃its:List Value,bR xs its/\PlainL s.heap a its.toArray/\xs.length<=sizeLine:=by
 rcases h with h|⟨o,its,n,hk,hc,hd,hs,hz,r⟩
 . obtain⟨z,its,n,r,e⟩:=h.ok I.hok
   exact⟨its,r,⟨_,n,e,rfl,rfl,rfl⟩,z⟩
 . refine⟨its.toList,r,⟨o,n,I.kIn a o hk,hc,hd,by simpa using hs⟩,?_⟩
   have e:=r.length
   simp only[Array.length_toList] at e
   omega
theorem Inv.tuple(I:Inv X pins σ H s)(h:SqT X.K H a xs):∃its:List Value,bR xs its/\IsTup s.heap a its.toArray/\xs.length<=sizeLine:=by
 rcases h with h|⟨o,its,n,hk,hc,hs,hz,r⟩
 . obtain⟨z,its,r,p⟩:=h.ok I.hok
   exact⟨its,r,p,z⟩
 . refine⟨its.toList,r,⟨o,I.kIn a o hk,hc,n,by simpa using hs⟩,?_⟩
   have e:=r.length
   simp only[Array.length_toList] at e
   omega
theorem Inv.list_inj(I:Inv X pins σ H s)(h:SqL X.K H a xs)(h':SqL X.K H a ys):xs=ys:=by
 obtain⟨its,r,⟨o,n,e,_,_,d⟩,_⟩:=I.list h
 obtain⟨its',r',⟨o',n',e',_,_,d'⟩,_⟩:=I.list h'
 rw[e] at e';cases e'
 rw[d] at d'
 injection d' with d1 _
 have:its=its':=by simpa using congrArg Array.toList d1
 subst this
 exact r.inj r'
theorem Inv.tuple_inj(I:Inv X pins σ H s)(h:SqT X.K H a xs)(h':SqT X.K H a ys):xs=ys:=by
 obtain⟨its,r,⟨o,e,_,n,d⟩,_⟩:=I.tuple h
 obtain⟨its',r',⟨o',e',_,n',d'⟩,_⟩:=I.tuple h'
 rw[e] at e';cases e'
 rw[d] at d'
 injection d' with d1 _
 have:its=its':=by simpa using congrArg Array.toList d1
 subst this
 exact r.inj r'
end
abbrev Cx.wish(X:Cx)(E:Value->Shared->Prop):Cx:={ X with xe:=E }
abbrev Cx.nox(X:Cx):Cx:=X.wish λ_ _=>False
theorem Cx.Ok.wish{X:Cx}(ok:X.Ok)(E:Value->Shared->Prop):(X.wish E).Ok:=
 ⟨ok.mod,ok.kind,ok.glob,ok.blt,ok.above,ok.inj,ok.has,ok.cab,ok.hd,ok.frames,ok.stk,ok.exf,ok.bs,ok.bsz,ok.noex,ok.exfs,ok.funs,ok.frf⟩
theorem Cx.Ok.unwish{X:Cx}{E:Value->Shared->Prop}(ok:(X.wish E).Ok):X.Ok:=
 ⟨ok.mod,ok.kind,ok.glob,ok.blt,ok.above,ok.inj,ok.has,ok.cab,ok.hd,ok.frames,ok.stk,ok.exf,ok.bs,ok.bsz,ok.noex,ok.exfs,ok.funs,ok.frf⟩
section
variable {X:Cx} {pins:List (Addr×Obj)} {σ:St} {H:Hp} {s:Shared} {E:Value->Shared->Prop}
theorem Inv.wish(I:Inv X pins σ H s)(E:Value->Shared->Prop):Inv (X.wish E) pins σ H s:=⟨I.ok.wish E,I.os,I.bare,I.base,I.loc,I.cell,I.free,I.freeC,I.pin,I.hok,I.len⟩
theorem Inv.unwish(I:Inv (X.wish E) pins σ H s):Inv X pins σ H s:=⟨I.ok.unwish,I.os,I.bare,I.base,I.loc,I.cell,I.free,I.freeC,I.pin,I.hok,I.len⟩
theorem SP.unwish{D:Ends}{f:Flow}{s':Shared}(h:SP (X.wish E) pins D f s'):SP X pins D f s':=by
 cases f with
 | next=>obtain⟨σ',H',I,q⟩:=h;exact⟨σ',H',I.unwish,q⟩
 | brk=>obtain⟨σ',H',I,q⟩:=h;exact⟨σ',H',I.unwish,q⟩
 | cont=>obtain⟨σ',H',I,q⟩:=h;exact⟨σ',H',I.unwish,q⟩
 | ret u=>obtain⟨v,σ',H',I,r,q⟩:=h;exact⟨v,σ',H',I.unwish,r,q⟩
theorem PSs.nox{st:List Stmt}{t:TS}(h:PSs X.nox st t):PSs X st t:=λpins s σ H D I hw=>
 wpAny_mono (h pins s σ H D (I.wish _) hw) (λ_ _ q=>q.unwish) λ_ _ z=>False.elim z
end
section
variable {X:Cx} {st:Stmt} {rest:List Stmt} {t u:TS} {e:Expr} {te:TE} {pos:Pos}
def aEq:TS:=λD σ H=>D.nx σ H
def aKd(t u:TS):TS:=λD σ H=>t { D with nx:=u D } σ H
theorem aCV:PSs X [] aEq:=λ_ _ σ H _ I h=>wpAny_execs_nil ⟨σ,H,I,h⟩
theorem aAy(h1:PS X st t)(h2:PSs X rest u):PSs X (st::rest) (aKd t u):=by
 intro pins s σ H D I h
 refine wpAny_execs_cons (thn (h1 pins s σ H { D with nx:=u D } I h) λf s1 q=>?_)
 cases f with
 | next=>
  obtain⟨σ',H',I',q⟩:=q
  exact h2 pins s1 σ' H' D I' q
 | ret v=>exact q
 | brk=>exact q
 | cont=>exact q
def aEZ:TS:=λD σ H=>D.bk σ H
def aHl:TS:=λD σ H=>D.ct σ H
theorem aCW:PS X (.Pass pos) aEq:=λ_ _ σ H _ I h=>wpAny_Pass ⟨σ,H,I,h⟩
theorem aAz:PS X (.Break pos) aEZ:=λ_ _ σ H _ I h=>wpAny_Break ⟨σ,H,I,h⟩
theorem sH:PS X (.Continue pos) aHl:=λ_ _ σ H _ I h=>wpAny_Continue ⟨σ,H,I,h⟩
theorem Inv.quiet{pins:List (Addr×Obj)}{σ:St}{H:Hp}{s:Shared}(I:Inv X pins σ H s):interactive X.env=false:=by simp[interactive,I.ok.kind]
def aHm(te:TE):TS:=λD σ H=>te σ H λ_ H1=>D.nx σ H1
theorem jT(he:PE X e te)(hs:swapsWith e none pos.line X.env=pure false:=by rfl):PS X (.Expr e pos) (aHm te):=by
 intro pins s σ H D I h
 exact wpAny_Expr_any (thn (he pins s σ H _ I h) λv s1 ⟨x,H1,I1,r1,q1⟩=>⟨σ,H1,I1,q1⟩) I.quiet hs
def aKe(te:TE):TS:=λD σ H=>te σ H D.rt
theorem aAA(he:PE X e te):PS X (.Return (some e) pos) (aKe te):=by
 intro pins s σ H D I h
 exact wpAny_Return_some (thn (he pins s σ H _ I h) λv s1 ⟨x,H1,I1,r1,q1⟩=>⟨x,σ,H1,I1,r1,q1⟩)
def aHn:TS:=λD _ H=>D.rt .non H
theorem aCX:PS X (.Return none pos) aHn:=λ_ _ σ H _ I h=>wpAny_Return_none ⟨.non,σ,H,I,rfl,h⟩
def aKf(c:TT)(t u:TS):TS:=λD σ H=>c σ H λb H1=>if b=true then t D σ H1 else u D σ H1
theorem aHo{c:Expr}{a b:List Stmt}{tc:TT}(hc:PT X c tc)(ha:PSs X a t)(hb:PSs X b u):PS X (.If c a b pos) (aKf tc t u):=by
 intro pins s σ H D I h
 refine wpAny_If (thn (hc pins s σ H _ I h) λd s1 ⟨H1,I1,q1⟩=>?_)
 cases d with
 | true=>exact ha pins s1 σ H1 D I1 q1
 | false=>exact hb pins s1 σ H1 D I1 q1
def aFa:TS:=λ_ _ _=>False
theorem aAB:PS X st aFa:=λ_ _ _ _ _ _ h=>h.elim
end
abbrev TG:=V->St->Hp->(St->Hp->Prop)->Prop
abbrev TGs:=List V->St->Hp->(St->Hp->Prop)->Prop
def PG(X:Cx)(target:Expr)(t:TG):Prop:=
 ∀(pins:List (Addr×Obj)) (s:Shared) (σ:St) (H:Hp) (v:V) (u:Value) (Q:St->Hp->Prop),Inv X pins σ H s->cI v u->t v σ H Q ->
  wpAny (model X.prog X.w) X.A (assign target X.env u) (λ_ s'=>∃σ' H',Inv X pins σ' H' s'/\Q σ' H') X.xe s
def PGs(X:Cx)(ts:List Expr)(t:TGs):Prop:=
 ∀(pins:List (Addr×Obj)) (s:Shared) (σ:St) (H:Hp) (vs:List V) (us:List Value) (Q:St->Hp->Prop),Inv X pins σ H s->bR vs us->t vs σ H Q ->
  wpAny (model X.prog X.w) X.A (assignInOrder ((assignEach ts X.env).map (·.2)) us) (λ_ s'=>∃σ' H',Inv X pins σ' H' s'/\Q σ' H') X.xe s
abbrev aFb:=V->V->V->Hp->(Hp->Prop)->Prop
def aFc(X:Cx)(t:aFb):Prop:=
 ∀(pins:List (Addr×Obj)) (s:Shared) (σ:St) (H:Hp) (o i v:V) (ov iv u:Value) (Q:Hp->Prop),Inv X pins σ H s->cI o ov->cI i iv->cI v u->t o i v H Q ->
  wpAny (model X.prog X.w) X.A (setItem ov iv u) (λ_ s'=>∃H',Inv X pins σ H' s'/\Q H') X.xe s
section
variable {X:Cx} {pos:Pos}
def pF(i:Nat):TG:=λv σ H Q=>Q (σ.set i (some v)) H
theorem xA{i:Nat}{x:Str}(hN:X.N.Nodup)(hi:X.N[i]? = some x)(hx:Loc X.env.scope x)(hf:X.fn x=true\/X.env.scope.names.lookup x=some .local:=by first|exact .inl rfl|exact .inr rfl|assumption):PG X (.Name x pos) (pF i):=by
 intro pins s σ H v u Q I r h
 exact wpAny_assign_Name (sG I hN hi hx r (λs' I'=>⟨_,H,I',h⟩) hf)
def aHp:TGs:=λvs σ H Q=>vs=[]/\Q σ H
def aEr(t:TG)(u:TGs):TGs:=λvs σ H Q=>∃v r,vs=v::r/\t v σ H λσ' H'=>u r σ' H' Q
theorem aCY:PGs X [] aHp:=by
 intro pins s σ H vs us Q I r h
 obtain⟨e,h⟩:=h
 subst e
 cases r
 exact assignInOrder_nil ⟨σ,H,I,h⟩
theorem aAC{e:Expr}{es:List Expr}{t:TG}{u:TGs}(h1:PG X e t)(h2:PGs X es u)
 (hs:(assignEach (e::es) X.env).map (·.2)=assign e X.env::(assignEach es X.env).map (·.2):=by rfl):PGs X (e::es) (aEr t u):=by
 intro pins s σ H vs us Q I r h
 obtain⟨v,vr,e1,h⟩:=h
 subst e1
 cases r with
 | cons r rr=>
  rw[hs]
  refine assignInOrder_cons (thn (h1 pins s σ H _ _ _ I r h) λ_ s1 ⟨σ1,H1,I1,q1⟩=>?_)
  exact h2 pins s1 σ1 H1 _ _ Q I1 rr q1
def aHq(K:PySem.W.Frag)(n:Nat)(t:TGs):TG:=λv σ H Q=>∃a xs,v=.ref a/\SqT K H a xs/\xs.length=n/\t xs σ H Q
theorem aFd{es:List Expr}{k:Nat}{t:TGs}{n:Nat}(hc:X.calm=true)(h:PGs X es t)
 (hn:(assignEach es X.env).length=n:=by rfl) (hst:(assignEach es X.env).findIdx? (·.1)=none:=by rfl):PG X (.Tuple es k pos) (aHq X.K n t):=by
 intro pins s σ H v u Q I r hw
 obtain⟨a,xs,e1,hq,hl,hw⟩:=hw
 subst e1
 cases r
 obtain⟨its,rv,ht,hz⟩:=I.tuple hq
 refine assign_Tuple_tuple (I.ok.hd hc) ht (by simp[hn,<-hl,rv.length]) hst λh' hx=>?_
 have I1:Inv X pins σ H { s with heap:=h' }:=I.kept (t':=s.toks) λb o e=>hx b o (Nat.ne_of_lt (Heap.lt_size e)) e
 exact h pins _ σ H xs _ Q I1 (by simpa using rv) hw
def aKg(to ti:TE)(t:aFb):TG:=λv σ H Q=>to σ H λo H1=>ti σ H1 λi H2=>t o i v H2 λH3=>Q σ H3
theorem aAD{o i:Expr}{to ti:TE}{t:aFb}(ho:PE X o to)(hi:PE X i ti)(hs:aFc X t)
 (ha:∀v,assign (.Subscript o i pos) X.env v=(do
  let ov<-holding [v] (eval o X.env)
  let iv<-holding [v,ov] (eval i X.env)
  standAt pos
  holding [v,ov,iv] (setItem ov iv v)
  release [v,ov,iv] []):=by intro _;rfl):PG X (.Subscript o i pos) (aKg to ti t):=by
 intro pins s σ H v u Q I r h
 rw[ha]
 refine wpAny_bind (wpAny_holding (thn (ho pins s σ H _ I h) λov s1 ⟨x,H1,I1,r1,q1⟩=>?_))
 refine wpAny_bind (wpAny_holding (thn (hi pins s1 σ H1 _ I1 q1) λiv s2 ⟨y,H2,I2,r2,q2⟩=>?_))
 refine wpAny_bind (wpAny_standAt (wpAny_bind (wpAny_holding (thn (hs pins s2 σ H2 x y v ov iv u _ I2 r1 r2 r q2) λ_ s3 ⟨H3,I3,q3⟩=>?_))))
 exact wpAny_release ⟨σ,H3,I3,q3⟩
def aFe(te:TE)(g:TG):TS:=λD σ H=>te σ H λx H1=>g x σ H1 D.nx
theorem uZ{tg e:Expr}{te:TE}{g:TG}(he:PE X e te)(hg:PG X tg g)(hs:swapsWithSole [tg] e pos.line X.env=pure false:=by rfl)(hw:swappedStores [tg] e X.env=pure none:=by rfl)
 (h1:(assignEach [tg] X.env).map (·.2)=[assign tg X.env]:=by rfl):PS X (.Assign [tg] e pos) (aFe te g):=by
 intro pins s σ H D I h
 refine wpAny_Assign_stores (thn (he pins s σ H _ I h) λv s1 ⟨x,H1,I1,r1,q1⟩=>?_) hs hw
 rw[h1]
 exact thn (hg pins s1 σ H1 x v _ I1 r1 q1) λ_ s2 q=>q
theorem mM{i:Nat}{x:Str}{e:Expr}{te:TE}{pos':Pos}(hN:X.N.Nodup)(hi:X.N[i]? = some x)(hx:Loc X.env.scope x)(he:PE X e te)(hs:swapsWith e (some (.Name x pos')) pos.line X.env=pure false:=by rfl)(hf:X.fn x=true\/X.env.scope.names.lookup x=some .local:=by first|exact .inl rfl|exact .inr rfl|assumption) :
 PS X (.Assign [.Name x pos'] e pos) (aFe te (pF i)):=by
 intro pins s σ H D I h
 refine wpAny_Assign_Name (thn (he pins s σ H _ I h) λv s1 ⟨y,H1,I1,r1,q1⟩=>?_) hs
 exact sG I1 hN hi hx r1 (λs2 I2=>⟨_,H1,I2,q1⟩) hf
end
section
variable {X:Cx} {pos:Pos}
def aFf(c:TT)(tb:TS):TS:=λD σ H=>∃W:Nat->St->Hp->Prop,(∃m,W m σ H)/\∀m σ H,W m σ H ->
 c σ H λb H1=>if b=true then ∃N:St->Hp->Prop,(∀σ' H',N σ' H'->∃m',m'<m/\W m' σ' H')/\tb { D with nx:=N,ct:=N,bk:=D.nx } σ H1 else D.nx σ H1
theorem aAE{c:Expr}{body:List Stmt}{tc:TT}{tb:TS}(hp:PassesOwn (model X.prog X.w) X.A X.env X.xe)(hc:PT X c tc)(hb:PSs X body tb):PS X (.While c body [] pos) (aFf tc tb):=by
 intro pins s σ H D I h
 obtain⟨W,⟨m0,w0⟩,turn⟩:=h
 refine wpAny_While (codeAny_whileLoop (λn s'=>∃σ' H',Inv X pins σ' H' s'/\W n σ' H') ?_ m0 ⟨σ,H,I,w0⟩)
 rintro n s1 ⟨σ1,H1,I1,w1⟩
 refine wpAny_passesOwn hp (thn (hc pins s1 σ1 H1 _ I1 (turn n σ1 H1 w1)) λb s2 ⟨H2,I2,q2⟩=>?_)
 cases b with
 | true=>
  obtain⟨N,hN,q2⟩:=q2
  rw[if_pos rfl]
  refine wpAny_passesOwn hp (thn (hb pins s2 σ1 H2 _ I2 q2) λf s3 q3=>?_)
  cases f with
  | next=>
   obtain⟨σ3,H3,I3,n3⟩:=q3
   obtain⟨m',hm,w3⟩:=hN σ3 H3 n3
   exact⟨m',hm,σ3,H3,I3,w3⟩
  | cont=>
   obtain⟨σ3,H3,I3,n3⟩:=q3
   obtain⟨m',hm,w3⟩:=hN σ3 H3 n3
   exact⟨m',hm,σ3,H3,I3,w3⟩
  | brk=>exact q3
  | ret v=>exact q3
 | false=>
  rw[if_neg Bool.false_ne_true]
  exact wpAny_execs_nil ⟨σ1,H2,I2,q2⟩
end
structure It where
 go:Nat->Hp->Prop
 yld:Nat->Hp->V->Hp->Prop
 stop:Nat->Hp->Prop
def jU(X:Cx)(pins:List (Addr×Obj))(H:Hp)(b:Addr):Prop:=
 H b=none/\b≠X.env.locals/\b∉X.fs/\(b∈X.ex\/X.s₀.heap.objs.size<=b)/\(∀x c,X.env.cells.lookup x=some c->c≠b)/\∀p∈X.pn++pins,p.1≠b
theorem Inv.fpOk{X:Cx}{pins:List (Addr×Obj)}{σ:St}{H H':Hp}{s:Shared}{b:Addr}(I:Inv X pins σ H s)(hb:s.heap.objs.size<=b)(hn:H' b=none):jU X pins H' b:=by
 refine⟨hn,Nat.ne_of_gt (Nat.lt_of_lt_of_le I.lt hb),I.nofs hb,.inr (Nat.le_trans I.sz hb),λx c e z=>?_,λp hp z=>?_⟩
 . obtain⟨v,q⟩:=I.cell x c e
   exact absurd (Nat.lt_of_lt_of_le q.lt (by rw[z];exact hb)) (Nat.lt_irrefl _)
 . exact absurd (Nat.lt_of_lt_of_le (Heap.lt_size (I.pin p hp).1) (by rw[z];exact hb)) (Nat.lt_irrefl _)
structure sJ (P:Program) (w:World) (K:PySem.W.Frag) (tg:Expr) (J:It) (fp:List Addr) (it:Addr) (tn:Nat->Heap->Prop):Prop where
 mem:it∈fp
 obj:∀i h,tn i h->∀b∈fp,∃o,h.get? b=some o/\∀v,o.data≠.cell v
 keep:∀i h h',tn i h->(∀b∈fp,∀o,h.get? b=some o->h'.get? b=some o)->tn i h'
 item:∀(X:Cx),X.prog=P->X.w=w->X.K=K->X.calm=true->∀(i:Nat) (pins:List (Addr×Obj)) (s:Shared) (σ:St) (H:Hp) (E:Value->Shared->Prop),Inv X pins σ H s->(∀b∈fp,jU X pins H b)->tn i s.heap->J.go i H ->
  wpAny (model P w) X.A (pyNext (.ref it)) (λr s1=>∃u,r=some u /\
   wpAny (model P w) X.A (letOwnedTupleGo tg (.ref it) u) (λ_ s2=>∃x H',Inv X pins σ H' s2/\cI x u/\J.yld i H x H'/\tn (i+1) s2.heap/\∀b∈fp,H' b=none) E s1) E s
 done:∀(X:Cx),X.prog=P->X.w=w->X.K=K->X.calm=true->∀(i:Nat) (pins:List (Addr×Obj)) (s:Shared) (σ:St) (H:Hp) (E:Value->Shared->Prop),Inv X pins σ H s->(∀b∈fp,jU X pins H b)->tn i s.heap->J.stop i H ->
  wpAny (model P w) X.A (pyNext (.ref it)) (λr s1=>r=none/\Inv X pins σ H s1) E s
 self:∀(A:Around) (i:Nat) (s:Shared) (Q:Value->Shared->Prop) (E:Value->Shared->Prop),tn i s.heap->Q (.ref it) s->wpAny (model P w) A (pyIter (.ref it)) Q E s
abbrev TI:=St->Hp->(It->Hp->Prop)->Prop
def PIE(X:Cx)(pins:List (Addr×Obj))(σ:St)(tg:Expr)(R:It->Hp->Prop)(itv:Value)(s2:Shared):Prop:=
 ∃(it:Addr) (fp:List Addr) (tn:Nat->Heap->Prop) (J:It) (H':Hp),itv=.ref it/\Inv X pins σ H' s2/\sJ X.prog X.w X.K tg J fp it tn/\tn 0 s2.heap/\(∀b∈fp,jU X pins H' b)/\R J H'
def PI(X:Cx)(tg iter:Expr)(wi:TI):Prop:=
 ∀(pins:List (Addr×Obj)) (s:Shared) (σ:St) (H:Hp) (R:It->Hp->Prop),Inv X pins σ H s->wi σ H R ->
  wpAny (model X.prog X.w) X.A (eval iter X.env) (λv s1=>wpAny (model X.prog X.w) X.A (pyIter v) (PIE X pins σ tg R) X.xe s1) X.xe s
theorem mO{M:Model}{A:Around}{E:Value->Shared->Prop}{s:Shared}{tg:Expr}{it:Addr}{u:Value}{o:Obj}{n:String}{vs:Array Value}{Q:Unit->Shared->Prop}(ho:s.heap.get? it=some o)(hc:o.cls=.type n)(hd:o.data=.fields vs)
 (hn:["enumerate", "zip", "dict_itemiterator", "dict_reverseitemiterator", "odict_iterator", "itertools.zip_longest", "itertools.pairwise"].contains n=false) (hQ:Q () s):wpAny M A (letOwnedTupleGo tg (.ref it) u) Q E s:=by
 unfold letOwnedTupleGo
 cases tg <;> first
  | exact wpAny_pure hQ
  | (cases u <;> first
   | exact wpAny_pure hQ
   | (refine wpAny_bind (wpAny_load ho ?_)
      rw[hc,hd]
      show wpAny M A (if (["enumerate", "zip", "dict_itemiterator", "dict_reverseitemiterator", "odict_iterator", "itertools.zip_longest", "itertools.pairwise"].contains n&&vs[0]?==some (rawInt _))=true then _ else _) Q E s
      rw[if_neg (by intro h;rw[hn,Bool.false_and] at h;cases h)]
      exact wpAny_pure hQ))
def Itl(K:PySem.W.Frag)(a:Addr):It:=
 ⟨λi H=>∃xs x,SqL K H a xs/\xs[i]? = some x,λi H x H'=>H'=H/\∀xs,SqL K H a xs->xs[i]? = some x,λi H=>∃xs,SqL K H a xs/\xs.length<=i⟩
def Itt(K:PySem.W.Frag)(a:Addr):It:=
 ⟨λi H=>∃xs x,SqT K H a xs/\xs[i]? = some x,λi H x H'=>H'=H/\∀xs,SqT K H a xs->xs[i]? = some x,λi H=>∃xs,SqT K H a xs/\xs.length<=i⟩
def Itr(lo:Int)(n:Nat):It:=⟨λi _=>i<n,λi H x H'=>H'=H/\x=.int (lo+i),λi _=>n<=i⟩
theorem yZ{P:Program}{w:World}{K:PySem.W.Frag}{tg:Expr}(a it:Addr):sJ P w K tg (Itl K a) [it] it (λi h=>h.IsListIter it a i) where
 mem:=by simp
 obj:=λi h st b hb=>by
  have e:b=it:=by simpa using hb
  subst e
  obtain⟨o,e,c,d⟩:=st
  exact⟨o,e,λv z=>by rw[d] at z;cases z⟩
 keep:=λi h h' st k=>st.at λo e=>k it (by simp) o e
 item:=by
  intro X hP hw hK hc i pins s σ H E I hf st hg
  subst hP hw hK
  obtain⟨xs,x,hq,hx⟩:=hg
  obtain⟨its,rv,p,hz⟩:=I.list hq
  obtain⟨u,hu,ru⟩:=rv.get hx
  obtain⟨f0,f1,f2,f3,f4,f5⟩:=hf it (by simp)
  refine wpAny_pyNext_list_item st p.isList (x:=u) (by simpa using hu) λh' st' sb=>?_
  have I1:Inv X pins σ H { s with heap:=h' }:=I.turned (t':=s.toks) (λb o hb e=>(sb.2 b hb).trans e) f0 f1 f3 f4 f5
  obtain⟨o,e,c,d⟩:=id st'
  exact⟨u,rfl,mO (s:={ s with heap:=h' }) e c d (by decide) ⟨x,H,I1,ru,⟨rfl,λys hy=>by rw[I.list_inj hy hq];exact hx⟩,st',λb hb=>(hf b hb).1⟩⟩
 done:=by
  intro X hP hw hK hc i pins s σ H E I hf st hg
  subst hP hw hK
  obtain⟨xs,hq,hx⟩:=hg
  obtain⟨its,rv,p,hz⟩:=I.list hq
  obtain⟨f0,f1,f2,f3,f4,f5⟩:=hf it (by simp)
  have hl:=rv.length
  exact wpAny_pyNext_list_end (I.ok.hd hc) st p.isList (by simp;omega) λh' eb=>⟨rfl,I.turned (t':=s.toks) (λb o hb e=>eb b o hb e) f0 f1 f3 f4 f5⟩
 self:=λ_ _ _ _ _ st h=>wpAny_pyIter_listiter st h
theorem vA{P:Program}{w:World}{K:PySem.W.Frag}{tg:Expr}(a it:Addr):sJ P w K tg (Itt K a) [it] it (λi h=>h.IsTupleIter it a i) where
 mem:=by simp
 obj:=λi h st b hb=>by
  have e:b=it:=by simpa using hb
  subst e
  obtain⟨o,e,c,d⟩:=st
  exact⟨o,e,λv z=>by rw[d] at z;cases z⟩
 keep:=λi h h' st k=>st.at λo e=>k it (by simp) o e
 item:=by
  intro X hP hw hK hc i pins s σ H E I hf st hg
  subst hP hw hK
  obtain⟨xs,x,hq,hx⟩:=hg
  obtain⟨its,rv,p,hz⟩:=I.tuple hq
  obtain⟨u,hu,ru⟩:=rv.get hx
  obtain⟨f0,f1,f2,f3,f4,f5⟩:=hf it (by simp)
  refine wpAny_pyNext_tuple_item st (show s.heap.IsTuple a its.toArray from p) (x:=u) (by simpa using hu) λh' st' sb=>?_
  have I1:Inv X pins σ H { s with heap:=h' }:=I.turned (t':=s.toks) (λb o hb e=>(sb.2 b hb).trans e) f0 f1 f3 f4 f5
  obtain⟨o,e,c,d⟩:=id st'
  exact⟨u,rfl,mO (s:={ s with heap:=h' }) e c d (by decide) ⟨x,H,I1,ru,⟨rfl,λys hy=>by rw[I.tuple_inj hy hq];exact hx⟩,st',λb hb=>(hf b hb).1⟩⟩
 done:=by
  intro X hP hw hK hc i pins s σ H E I hf st hg
  subst hP hw hK
  obtain⟨xs,hq,hx⟩:=hg
  obtain⟨its,rv,p,hz⟩:=I.tuple hq
  obtain⟨f0,f1,f2,f3,f4,f5⟩:=hf it (by simp)
  have hl:=rv.length
  exact wpAny_pyNext_tuple_end (I.ok.hd hc) st (show s.heap.IsTuple a its.toArray from p) (by simp;omega) λh' eb=>⟨rfl,I.turned (t':=s.toks) (λb o hb e=>eb b o hb e) f0 f1 f3 f4 f5⟩
 self:=λ_ _ _ _ _ st h=>wpAny_pyIter_tupleiter st h
theorem vB{P:Program}{w:World}{K:PySem.W.Frag}{tg:Expr}(it:Addr)(lo:Int)(n:Nat):sJ P w K tg (Itr lo n) [it] it (λi h=>IsRangeIter h it (lo+(i:Nat)*1) ((n:Int)-(i:Nat)) 1) where
 mem:=by simp
 obj:=λi h st b hb=>by
  have e:b=it:=by simpa using hb
  subst e
  exact⟨_,st,λv z=>by
   have z':Data.fields _=Data.cell v:=z
   cases z'⟩
 keep:=λi h h' st k=>k it (by simp) _ st
 item:=by
  intro X hP hw hK hc i pins s σ H E I hf st hg
  subst hP hw hK
  obtain⟨f0,f1,f2,f3,f4,f5⟩:=hf it (by simp)
  have W:=Walks.range (prog:=X.prog) (w:=X.w) (I.ok.hd hc) it lo 1 n
  refine W.item i s _ _ hg st λv h' tk hv st' kk=>?_
  obtain⟨t,rfl⟩:=hv
  have I1:Inv X pins σ H { s with heap:=h',toks:=tk }:=I.turned (λb o hb e=>kk b o (by simpa using hb) e) f0 f1 f3 f4 f5
  refine⟨_,rfl,mO (s:={ s with heap:=h',toks:=tk }) (n:= "range_iterator") st' rfl rfl (by decide) ⟨.int (lo+i),H,I1,⟨t,?_⟩,⟨rfl,rfl⟩,st',λb hb=>(hf b hb).1⟩⟩
  rw[Int.mul_one]
 done:=by
  intro X hP hw hK hc i pins s σ H E I hf st hg
  subst hP hw hK
  obtain⟨f0,f1,f2,f3,f4,f5⟩:=hf it (by simp)
  exact wpAny_pyNext_range_end (I.ok.hd hc) st (by have:n<=i:=hg;omega) λh' eb=>⟨rfl,I.turned (t':=s.toks) (λb o hb e=>eb b o hb e) f0 f1 f3 f4 f5⟩
 self:=λ_ _ _ _ _ st h=>wpAny_pyIter_rangeiter st h
end L2
namespace L2
open PySem PySem.Spec PyProof.Rows
section
variable {X:Cx} {tg:Expr}
theorem sK{pins:List (Addr×Obj)}{σ:St}{H:Hp}{s:Shared}{R:It->Hp->Prop}{E:Value->Shared->Prop}{lo hi:Int}{t u v:Tok}{tk:Nat}(I:Inv X pins σ H s)(h1:-(2 ^ 62)<=lo)(h2:lo<2 ^ 62)(h3:-(2 ^ 62)<=hi)(h4:hi<2 ^ 62)
 (q:R (Itr lo (hi-lo).toNat) H):wpAny (model X.prog X.w) X.A (pyIter (.ref s.heap.objs.size)) (PIE X pins σ tg R) E { s with heap:=s.heap.push { cls:=.type "range",data:=.fields #[.int lo t,.int hi u,.int 1 v] },toks:=tk }:=by
 refine wpAny_pyIter_range (IsRange.new ..) (small_one h1 h2 h3 h4) ?_
 have I1:Inv X pins σ H { s with heap:=s.heap.push { cls:=.type "range",data:=.fields #[.int lo t,.int hi u,.int 1 v] },toks:=tk }:=I.kept λb o e=>Heap.get?_push_of_some _ e
 refine⟨(s.heap.push { cls:=.type "range",data:=.fields #[.int lo t,.int hi u,.int 1 v] }).objs.size,[(s.heap.push { cls:=.type "range",data:=.fields #[.int lo t,.int hi u,.int 1 v] }).objs.size],_,_,H,rfl,
  I1.kept (t':=tk) λb o e=>Heap.get?_push_of_some _ e,vB _ lo (hi-lo).toNat,?_,λb hb=>?_,q⟩
 . have e1:lo+((0:Nat):Int)*1=lo:=by simp
   have e2:(((hi-lo).toNat:Nat):Int)-((0:Nat):Int)=Builtin.Range.rangeSize lo hi 1:=by rw[rangeSize_one];split <;> omega
   show IsRangeIter _ _ (lo+((0:Nat):Int)*1) ((((hi-lo).toNat:Nat):Int)-((0:Nat):Int)) 1
   rw[e1,e2]
   exact Heap.get?_push_size _ rfl
 . have e:b=(s.heap.push { cls:=.type "range",data:=.fields #[.int lo t,.int hi u,.int 1 v] }).objs.size:=by simpa using hb
   subst e
   exact I1.fpOk (Nat.le_refl _) (I1.hok.fresh (Nat.le_refl _))
def aHr(ta:TA):TI:=λσ H R=>ta σ H λvs H1=>∃j:Int,vs=[.int j]/\-(2 ^ 62)<=j/\j<2 ^ 62/\R (Itr 0 j.toNat) H1
def aHs(ta:TA):TI:=λσ H R=>ta σ H λvs H1=>∃i j:Int,vs=[.int i,.int j]/\(-(2 ^ 62)<=i/\i<2 ^ 62/\-(2 ^ 62)<=j/\j<2 ^ 62)/\R (Itr i (j-i).toNat) H1
theorem zA{a:Expr}{ta:TA}{p pos:Pos}(hg:Gl X "range")(hm:X.mg "range" = none)(ha:PA X [a] ta)(hs:starEach [a] X.env=[(false,eval a X.env)]:=by rfl):PI X tg (.Call (.Name "range" p) [a] [] pos) (aHr ta):=by
 intro pins s σ H R I h
 refine Call_ (hU I hg hm boot_range (PyProof.Rows.callWith_type1 (thn (ha pos pins s σ H _ I h) λus s1 ⟨vs,H1,I1,r1,q1⟩=>?_) hs rfl))
 obtain⟨j,e,q1,q2,q⟩:=q1
 subst e
 cases r1 with
 | cons r rr=>
  cases rr
  obtain⟨t,rfl⟩:=r
  exact call_range_1 (sK I1 (by omega) (by omega) q1 q2 (by simpa using q))
theorem zB{a b:Expr}{ta:TA}{p pos:Pos}(hg:Gl X "range")(hm:X.mg "range" = none)(ha:PA X [a,b] ta)(hs:starEach [a,b] X.env=[(false,eval a X.env),(false,eval b X.env)]:=by rfl)(hs2:starEach [b] X.env=[(false,eval b X.env)]:=by rfl) :
 PI X tg (.Call (.Name "range" p) [a,b] [] pos) (aHs ta):=by
 intro pins s σ H R I h
 refine Call_ (hU I hg hm boot_range (PyProof.Rows.callWith_type1 (thn (ha pos pins s σ H _ I h) λus s1 ⟨vs,H1,I1,r1,q1⟩=>?_) (by rw[hs,hs2]) (by rw[hs2];rfl)))
 obtain⟨i,j,e,⟨q1,q2,q3,q4⟩,q⟩:=q1
 subst e
 cases r1 with
 | cons r rr=>
  cases rr with
  | cons r' rr=>
   cases rr
   obtain⟨t,rfl⟩:=r
   obtain⟨t',rfl⟩:=r'
   exact call_range_2 (sK I1 q1 q2 q3 q4 q)
def aKh(wi:TI)(g:TG)(tb:TS):TS:=λD σ H=>wi σ H λJ H1=>∃W:Nat->Nat->St->Hp->Prop,(∃m,W 0 m σ H1)/\∀i m σ H,W i m σ H ->
 (J.stop i H/\D.nx σ H)\/(J.go i H/\∃N:St->Hp->Prop,(∀σ' H',N σ' H'->∃m',m'<m/\W (i+1) m' σ' H')/\∀x H',J.yld i H x H'->g x σ H' λσ2 H2=>tb { D with nx:=N,ct:=N,bk:=D.nx } σ2 H2)
def mP(fp:List Addr)(h:Heap):List (Addr×Obj):=fp.filterMap λb=>(h.get? b).map λo=>(b,o)
theorem gJ{fp:List Addr}{h:Heap}{b:Addr}{o:Obj}(hb:b∈fp)(e:h.get? b=some o):(b,o)∈mP fp h:=List.mem_filterMap.mpr ⟨b,hb,by rw[e];rfl⟩
theorem zC{fp:List Addr}{h:Heap}{p:Addr×Obj}(hp:p∈mP fp h):p.1∈fp/\h.get? p.1=some p.2:=by
 obtain⟨b,hb,e⟩:=List.mem_filterMap.mp hp
 cases q:h.get? b with
 | none=>rw[q] at e;cases e
 | some o=>
  rw[q] at e
  have e':(b,o)=p:=Option.some.inj e
  subst e'
  exact⟨hb,q⟩
theorem Inv.pinned{pins:List (Addr×Obj)}{σ:St}{H:Hp}{s:Shared}{fp:List Addr}(I:Inv X pins σ H s)(hf:∀b∈fp,jU X pins H b)(ho:∀b∈fp,∃o,s.heap.get? b=some o/\∀v,o.data≠.cell v):Inv X (pins++mP fp s.heap) σ H s:=
 I.pins_of λp hp=>(List.mem_append.mp hp).elim (λz=>I.pin p (List.mem_append_right _ z)) λz=>by
  obtain⟨hb,e⟩:=zC z
  obtain⟨f0,f1,f2,_⟩:=hf p.1 hb
  obtain⟨o,e',d⟩:=ho p.1 hb
  rw[e] at e';cases e'
  exact⟨e,f0,f1,f2,d⟩
theorem Inv.unpinned{pins pl:List (Addr×Obj)}{σ:St}{H:Hp}{s:Shared}(I:Inv X (pins++pl) σ H s):Inv X pins σ H s:=I.pins_of λp hp=>I.pin p (List.mem_append_right _ (List.mem_append_left _ hp))
theorem aFg{iter:Expr}{body:List Stmt}{wi:TI}{g:TG}{tb:TS}{pos:Pos}(hp:PassesOwn (model X.prog X.w) X.A X.env X.xe)(hc:X.calm=true)(hi:PI X tg iter wi)(hg:PG X tg g)(hb:PSs X body tb)
 (hs:∀x,foldedSetIterable iter X.env x=pure x:=by intro _;rfl):PS X (.For tg iter body [] pos) (aKh wi g tb):=by
 intro pins s σ H D I h
 refine wpAny_For (thn (hi pins s σ H _ I h) λv s1 h1=>thn h1 λitv s2 h2=>?_) hs
 obtain⟨it,fp,tn,J,H2,e,I2,T,st2,f2,W,⟨m0,w0⟩,turn⟩:=h2
 subst e
 have stat:∀{H':Hp},(∀b∈fp,H' b=none)->∀b∈fp,jU X pins H' b:=λhn b hb=>⟨hn b hb,(f2 b hb).2⟩
 refine codeAny_forLoop_any (λn s'=>∃i σ' H',Inv X pins σ' H' s'/\tn i s'.heap/\(∀b∈fp,H' b=none)/\W i n σ' H') ?_ m0 ⟨0,σ,H2,I2,st2,λb hb=>(f2 b hb).1,w0⟩
 rintro n s3 ⟨i,σ3,H3,I3,st3,fr3,w3⟩
 rcases turn i n σ3 H3 w3 with⟨stop,qn⟩|⟨go,N,hN,step⟩
 . refine wpAny_passesOwn hp (thn (T.done X rfl rfl rfl hc i pins s3 σ3 H3 X.xe I3 (stat fr3) st3 stop) λr s4 ⟨hr,I4⟩=>?_)
   subst hr
   exact wpAny_execs_nil ⟨σ3,H3,I4,qn⟩
 . refine wpAny_passesOwn hp (thn (T.item X rfl rfl rfl hc i pins s3 σ3 H3 X.xe I3 (stat fr3) st3 go) λr s4 ⟨u,hr,h4⟩=>?_)
   subst hr
   refine wpAny_passesOwn hp (thn h4 λ_ s5 ⟨x,H5,I5,r5,y5,st5,fr5⟩=>?_)
   have I5':=I5.pinned (stat fr5) (T.obj _ _ st5)
   refine wpAny_passesOwn hp (thn (hg _ s5 σ3 H5 x u _ I5' r5 (step x H5 y5)) λ_ s6 ⟨σ6,H6,I6,q6⟩=>?_)
   refine wpAny_passesOwn hp (thn (hb _ s6 σ6 H6 _ I6 q6) λf s7 q7=>?_)
   have again:∀{σ7:St} {H7:Hp},Inv X (pins++mP fp s5.heap) σ7 H7 s7->N σ7 H7->∃m,m<n/\∃i σ' H',Inv X pins σ' H' s7/\tn i s7.heap/\(∀b∈fp,H' b=none)/\W i m σ' H':=λ{σ7 H7} I7 n7=>by
    obtain⟨m',hm,w7⟩:=hN σ7 H7 n7
    refine⟨m',hm,i+1,σ7,H7,I7.unpinned,T.keep _ _ _ st5 λb hb o e=>(I7.pin (b,o) (List.mem_append_right _ (List.mem_append_right _ (gJ hb e)))).1,λb hb=>?_,w7⟩
    obtain⟨o,e,d⟩:=T.obj _ _ st5 b hb
    exact(I7.pin (b,o) (List.mem_append_right _ (List.mem_append_right _ (gJ hb e)))).2.1
   cases f with
   | next=>obtain⟨σ7,H7,I7,n7⟩:=q7;exact again I7 n7
   | cont=>obtain⟨σ7,H7,I7,n7⟩:=q7;exact again I7 n7
   | brk=>obtain⟨σ7,H7,I7,q7⟩:=q7;exact⟨σ7,H7,I7.unpinned,q7⟩
   | ret v=>obtain⟨x7,σ7,H7,I7,r7,q7⟩:=q7;exact⟨x7,σ7,H7,I7.unpinned,r7,q7⟩
end
end L2
namespace L2
open PySem PySem.Spec PyProof.Rows
abbrev R2:=V->V->Hp->VK->Prop
def OpR(X:Cx)(f:Value->Value->Sem Value)(r:R2):Prop:=
 ∀(pins:List (Addr×Obj)) (s:Shared) (σ:St) (H:Hp) (x y:V) (v u:Value) (Q:VK),Inv X pins σ H s->cI x v->cI y u->r x y H Q ->
  wpAny (model X.prog X.w) X.A (f v u) (EP X pins σ Q) X.xe s
def gC(X:Cx)(f:Value)(r:List V->Hp->VK->Prop):Prop:=
 ∀(pins:List (Addr×Obj)) (s:Shared) (σ:St) (H:Hp) (xs:List V) (us:List Value) (Q:VK),Inv X pins σ H s->bR xs us->r xs H Q ->
  wpAny (model X.prog X.w) X.A (call f us) (EP X pins σ Q) X.xe s
def aKi(X:Cx)(r:V->Hp->(Bool->Hp->Prop)->Prop):Prop:=
 ∀(pins:List (Addr×Obj)) (s:Shared) (σ:St) (H:Hp) (x:V) (v:Value) (Q:Bool->Hp->Prop),Inv X pins σ H s->cI x v->r x H Q ->
  wpAny (model X.prog X.w) X.A (truthy v) (TP X pins σ Q) X.xe s
def tOp(r:R2)(ta tb:TE):TE:=λσ H Q=>ta σ H λx H1=>tb σ H1 λy H2=>r x y H2 Q
def rI(C:Int->Int->Prop)(g:Int->Int->V):R2:=λx y H Q=>∃i j,x=.int i/\y=.int j/\C i j/\Q (g i j) H
def rI0(g:Int->Int->V):R2:=λx y H Q=>∃i j,x=.int i/\y=.int j/\Q (g i j) H
section
variable {X:Cx} {a b c:Expr} {ta tb tc:TE} {pos:Pos}
theorem aHt(ha:PE X a ta)(hb:PE X b tb){pins:List (Addr×Obj)}{s:Shared}{σ:St}{H:Hp}{R:V->V->Hp->Prop}(I:Inv X pins σ H s)
 (h:ta σ H λx H1=>tb σ H1 λy H2=>R x y H2) {Q:Value->Shared->Prop} {f:Value->Value->Sem Value}
 (hf:∀v u s2 x y H2,Inv X pins σ H2 s2->cI x v->cI y u->R x y H2->wpAny (model X.prog X.w) X.A (f v u) Q X.xe s2) :
 wpAny (model X.prog X.w) X.A (eval a X.env) (λv s₁=>wpAny (model X.prog X.w) X.A (eval b X.env) (λu s₂=>wpAny (model X.prog X.w) X.A (f v u) Q X.xe s₂) X.xe s₁) X.xe s:=by
 refine thn (ha pins s σ H _ I h) λv s1 ⟨x,H1,I1,r1,q1⟩=>?_
 refine thn (hb pins s1 σ H1 _ I1 q1) λu s2 ⟨y,H2,I2,r2,q2⟩=>?_
 exact hf v u s2 x y H2 I2 r1 r2 q2
theorem opI{f:Value->Value->Sem Value}{C:Int->Int->Prop}{g:Int->Int->Int}
 (rule:∀(i j:Int) (t u:Tok) (s:Shared) (Q:Value->Shared->Prop) (E:Value->Shared->Prop),C i j->Q (.int (g i j) s.toks) { s with toks:=s.toks+1 }->wpAny (model X.prog X.w) X.A (f (.int i t) (.int j u)) Q E s) :
 OpR X f (rI C λi j=>.int (g i j)):=by
 intro pins s σ H x y v u Q I rx ry h
 obtain⟨i,j,rfl,rfl,hc,q⟩:=h
 obtain⟨t,rfl⟩:=rx
 obtain⟨t',rfl⟩:=ry
 exact rule i j t t' s _ _ hc ⟨.int (g i j),H,I.tok _,⟨_,rfl⟩,q⟩
theorem aHu{f:Value->Value->Sem Value}{g:Int->Int->Int}
 (rule:∀(i j:Int) (t u:Tok) (s:Shared) (Q:Value->Shared->Prop) (E:Value->Shared->Prop),Q (.int (g i j) s.toks) { s with toks:=s.toks+1 }->wpAny (model X.prog X.w) X.A (f (.int i t) (.int j u)) Q E s) :
 OpR X f (rI0 λi j=>.int (g i j)):=by
 intro pins s σ H x y v u Q I rx ry h
 obtain⟨i,j,rfl,rfl,q⟩:=h
 obtain⟨t,rfl⟩:=rx
 obtain⟨t',rfl⟩:=ry
 exact rule i j t t' s _ _ ⟨.int (g i j),H,I.tok _,⟨_,rfl⟩,q⟩
theorem aCZ{f:Value->Value->Sem Value}{g:Int->Int->Bool}
 (rule:∀(i j:Int) (t u:Tok) (s:Shared) (Q:Value->Shared->Prop) (E:Value->Shared->Prop),Q (.bool (g i j)) s->wpAny (model X.prog X.w) X.A (f (.int i t) (.int j u)) Q E s) :
 OpR X f (rI0 λi j=>.bl (g i j)):=by
 intro pins s σ H x y v u Q I rx ry h
 obtain⟨i,j,rfl,rfl,q⟩:=h
 obtain⟨t,rfl⟩:=rx
 obtain⟨t',rfl⟩:=ry
 exact rule i j t t' s _ _ ⟨.bl (g i j),H,I,rfl,q⟩
def aKj(i j:Int):Prop:=0<j/\j<1073741824
def aKk(i j:Int):Prop:=0<=j/\j<=1000000/\i.natAbs<2 ^ 64
def aFh(i j:Int):Prop:=(-(2 ^ 64)<i/\i<2 ^ 64)\/(-(2 ^ 64)<j/\j<2 ^ 64)
theorem aFh.ok{i j:Int}(h:aFh i j):IntMulOk i j:=by
 rcases h with⟨h1,h2⟩|⟨h1,h2⟩
 . exact .of_left (intBits_le_64 h1 h2)
 . exact .of_right (intBits_le_64 h1 h2)
theorem aFi:OpR X (binaryOp .Add) (rI0 λi j=>.int (i+j)):=aHu λ_ _ _ _ _ _ _ q=>add_int q
theorem aFj:OpR X (binaryOp .Sub) (rI0 λi j=>.int (i-j)):=aHu λ_ _ _ _ _ _ _ q=>sub_int q
theorem aFk:OpR X (binaryOp .Mult) (rI aFh λi j=>.int (i*j)):=opI λ_ _ _ _ _ _ _ hc q=>mul_int q hc.ok
theorem aDa:OpR X (binaryOp .FloorDiv) (rI aKj λi j=>.int (i / j)):=opI λi j _ _ _ _ _ hc q=>by
 have h1:(0:Int)<j:=hc.1
 have h2:j<1073741824:=hc.2
 exact floordiv_int (by omega) (by rw[Int.fdiv_eq_ediv_of_nonneg i (by omega)];exact q) (.inl (PyProof.noPylong_small (by omega)))
theorem aFl:OpR X (binaryOp .Mod) (rI (λ_ j=>0<j) λi j=>.int (i % j)):=opI λi j _ _ _ _ _ hc q=>by
 have h1:(0:Int)<j:=hc
 exact mod_int' (by omega) (by rw[Int.fmod_eq_emod_of_nonneg i (by omega)];exact q)
theorem aFm:OpR X (binaryOp .Pow) (rI aKk λi j=>.int (i ^ j.toNat)):=opI λ_ _ _ _ _ _ _ hc q=>pow_int_small hc.1 hc.2.1 hc.2.2 q
end
section
variable {X:Cx} {a b c:Expr} {ta tb tc:TE} {pos:Pos}
theorem vC{pins:List (Addr×Obj)}{σ:St}{H:Hp}{s:Shared}{Q:VK}{k k':Bool}(I:Inv X pins σ H s)(q:Q (.bl k) H)(e:k=k'):EP X pins σ Q (.bool k') s:=by
 subst e
 exact⟨.bl k,H,I,rfl,q⟩
theorem aHv:OpR X (compareOp .Lt) (rI0 λi j=>.bl (decide (i<j))):=aCZ λ_ _ _ _ _ _ _ q=>lt_int q
theorem aHw:OpR X (compareOp .LtE) (rI0 λi j=>.bl (decide (i<=j))):=aCZ λ_ _ _ _ _ _ _ q=>le_int q
theorem aHx:OpR X (compareOp .Gt) (rI0 λi j=>.bl (decide (j<i))):=aCZ λ_ _ _ _ _ _ _ q=>gt_int q
theorem aHy:OpR X (compareOp .GtE) (rI0 λi j=>.bl (decide (j<=i))):=aCZ λ_ _ _ _ _ _ _ q=>ge_int q
theorem zD:OpR X (compareOp .In) (λx y H Q=>∃i j,x=.str i/\y=.str j/\Q (.bl (!(Builtin.Str.occurrences j i 0 j.length 1).isEmpty)) H):=by
 intro pins s σ H x y v u Q I rx ry h
 obtain⟨i,j,rfl,rfl,q⟩:=h
 obtain⟨t,rfl⟩:=rx
 obtain⟨t',rfl⟩:=ry
 exact in_str (vC I q rfl)
theorem aFn:OpR X (compareOp .Is) (λx y H Q=>y=.non/\Q (.bl (decide (x=.non))) H):=by
 intro pins s σ H x y v u Q I rx ry h
 obtain⟨rfl,q⟩:=h
 cases ry
 refine is_none_gen (vC I q ?_)
 cases x <;> first
  | (cases rx;rfl)
  | (obtain⟨t,rfl⟩:=rx;rfl)
theorem aDb:OpR X (compareOp .IsNot) (λx y H Q=>y=.non/\Q (.bl (!decide (x=.non))) H):=by
 intro pins s σ H x y v u Q I rx ry h
 obtain⟨rfl,q⟩:=h
 cases ry
 refine isnot_none_gen (vC I q ?_)
 cases x <;> first
  | (cases rx;rfl)
  | (obtain⟨t,rfl⟩:=rx;rfl)
theorem xB{op:CmpOp}{r:R2}(ho:OpR X (compareOp op) r)(ha:PE X a ta)(hb:PE X b tb)(hm:behindInMarks op b=false):PE X (.Compare a [op] [b] pos) (tOp r ta tb):=by
 intro pins s σ H Q I h
 exact wpAny_Compare1 (aHt ha hb I h λv u s2 x y H2 I2 rx ry q=>ho pins s2 σ H2 x y v u Q I2 rx ry q) hm
def aEs(t:TE):TT:=λσ H Q=>t σ H λx H'=>∃k,x=.bl k/\Q k H'
theorem xC{op:CmpOp}{r:R2}(ho:OpR X (compareOp op) r)(ha:PE X a ta)(hb:PE X b tb)(hm:behindInMarks op b=false):PT X (.Compare a [op] [b] pos) (aEs (tOp r ta tb)):=by
 intro pins s σ H Q I h
 refine wpAny_isTrue_Compare1 (thn (ha pins s σ H _ I h) λv s1 ⟨x,H1,I1,r1,q1⟩=>thn (hb pins s1 σ H1 _ I1 q1) λu s2 ⟨y,H2,I2,r2,q2⟩=>
  thn (ho pins s2 σ H2 x y v u _ I2 r1 r2 q2) λc s3 ⟨z,H3,I3,r3,k,e,q3⟩=>?_) hm
 subst e
 cases r3
 exact wpAny_truthy_bool ⟨H3,I3,q3⟩
def aAF(r r':R2)(ta tb tc:TE):TE:=λσ H Q=>ta σ H λx H1=>tb σ H1 λy H2=>r x y H2 λz H3=>∃k,z=.bl k /\
 (if k=true then tc σ H3 λw' H4=>r' y w' H4 Q else Q (.bl false) H3)
theorem aAG{op op':CmpOp}{r r':R2}(ho:OpR X (compareOp op) r)(ho':OpR X (compareOp op') r')(ha:PE X a ta)(hb:PE X b tb)(hc:PE X c tc)
 (hm:lastMarks [op,op'] [b,c]=false:=by with_unfolding_all rfl):PE X (.Compare a [op,op'] [b,c] pos) (aAF r r' ta tb tc):=by
 intro pins s σ H Q I h
 refine Compare_chain (thn (ha pins s σ H _ I h) λv s1 ⟨x,H1,I1,r1,q1⟩=>chain_link (thn (hb pins s1 σ H1 _ I1 q1) λu s2 ⟨y,H2,I2,r2,q2⟩=>
  thn (ho pins s2 σ H2 x y v u _ I2 r1 r2 q2) λd s3 ⟨z,H3,I3,r3,k,e,q3⟩=>?_)) hm
 subst e
 cases r3
 refine wpAny_truthy_bool ?_
 cases k with
 | false=>exact ite_ff ⟨.bl false,H3,I3,rfl,q3⟩
 | true=>exact ite_tt (chain_last (thn (hc pins s3 σ H3 _ I3 q3) λw' s4 ⟨z',H4,I4,r4,q4⟩=>ho' pins s4 σ H4 y z' u w' Q I4 r2 r4 q4))
theorem aAH{op op':CmpOp}{r r':R2}(ho:OpR X (compareOp op) r)(ho':OpR X (compareOp op') r')(ha:PE X a ta)(hb:PE X b tb)(hc:PE X c tc)
 (hm:lastMarks [op,op'] [b,c]=false:=by with_unfolding_all rfl):PT X (.Compare a [op,op'] [b,c] pos) (aEs (aAF r r' ta tb tc)):=by
 intro pins s σ H Q I h
 refine isTrue_chain (thn (ha pins s σ H _ I h) λv s1 ⟨x,H1,I1,r1,q1⟩=>test_link (thn (hb pins s1 σ H1 _ I1 q1) λu s2 ⟨y,H2,I2,r2,q2⟩=>
  thn (ho pins s2 σ H2 x y v u _ I2 r1 r2 q2) λd s3 ⟨z,H3,I3,r3,k,e,q3⟩=>?_)) hm
 subst e
 cases r3
 refine wpAny_truthy_bool ?_
 cases k with
 | false=>
  obtain⟨k',e',q'⟩:=q3
  cases e'
  exact ite_ff ⟨H3,I3,q'⟩
 | true=>
  refine ite_tt (test_last (thn (hc pins s3 σ H3 _ I3 q3) λw' s4 ⟨z',H4,I4,r4,q4⟩=>thn (ho' pins s4 σ H4 y z' u w' _ I4 r2 r4 q4) λd' s5 ⟨z2,H5,I5,r5,k2,e2,q5⟩=>?_))
  subst e2
  cases r5
  exact wpAny_truthy_bool ⟨H5,I5,q5⟩
def aDc(K:PySem.W.Frag)(x:V)(H:Hp)(k:Bool):Prop:=
 match x with
 | .non=>k=false
 | .bl b=>k=b
 | .int i=>k=(i != 0)
 | .str y=>y.length<=sizeLine/\k=((y.length:Int) != 0)
 | .byt y=>y.size<=sizeLine/\k=((y.size:Int) != 0)
 | .ref p=>(∃xs,SqL K H p xs/\k=!xs.isEmpty)\/(∃xs,SqT K H p xs/\k=!xs.isEmpty)\/∃kvs,H p=some (.dK kvs)/\k=!kvs.isEmpty
 | _=>False
theorem vD{κ:Type}{kvs:List (κ×V)}{vs:List (κ×Value)}(r:KV kvs vs):(!vs.isEmpty)=!kvs.isEmpty:=by
 cases r <;> rfl
theorem mQ{xs:List V}{its:List Value}(r:bR xs its):(!its.toArray.isEmpty)=!xs.isEmpty:=by
 cases r <;> simp
theorem jG:(sizeLine:Nat)<2 ^ 63:=by rw[sizeLine_eq];decide
theorem aAI:aKi X (λx H Q=>∃k,aDc X.K x H k/\Q k H):=by
 intro pins s σ H x v Q I rx h
 obtain⟨k,e,q⟩:=h
 have hl:=jG
 have hs:sizeLine=16777216:=sizeLine_eq
 cases x with
 | non=>
  cases rx
  have e':k=false:=e
  subst e'
  exact truthy_none ⟨H,I,q⟩
 | bl b=>
  cases rx
  have e':k=b:=e
  subst e'
  exact wpAny_truthy_bool ⟨H,I,q⟩
 | int i=>
  obtain⟨t,rfl⟩:=rx
  have e':k=(i != 0):=e
  subst e'
  exact PySem.P.truthy_int ⟨H,I,q⟩
 | str y=>
  obtain⟨t,rfl⟩:=rx
  obtain⟨hy,e'⟩:y.length<=sizeLine/\k=((y.length:Int) != 0):=e
  subst e'
  exact PySem.P.truthy_str (by omega) ⟨H,I.tok _,q⟩
 | byt y=>
  obtain⟨t,rfl⟩:=rx
  obtain⟨hy,e'⟩:y.size<=sizeLine/\k=((y.size:Int) != 0):=e
  subst e'
  exact PySem.W.truthy_bytes (by omega) ⟨H,I.tok _,q⟩
 | ref p=>
  cases rx
  have e':(∃xs,SqL X.K H p xs/\k=!xs.isEmpty)\/(∃xs,SqT X.K H p xs/\k=!xs.isEmpty)\/∃kvs,H p=some (.dK kvs)/\k=!kvs.isEmpty:=e
  rcases e' with⟨xs,hx,e'⟩|⟨xs,hx,e'⟩|⟨kvs,hx,e'⟩
  . subst e'
    obtain⟨its,r,pl,hz⟩:=I.list hx
    have hlen:=r.length
    exact wpAny_truthy_list pl.isList (by simp only[List.size_toArray];omega) ⟨H,I.tok _,by rw[mQ r];exact q⟩
  . subst e'
    obtain⟨its,r,pl,hz⟩:=I.tuple hx
    have hlen:=r.length
    exact truthy_tuple pl (by simp only[List.size_toArray];omega) ⟨H,I.tok _,by rw[mQ r];exact q⟩
  . subst e'
    obtain⟨hz,hS,vs,r,m⟩:kvs.length<=sizeLine/\(p==sysModules)=false/\∃vs,KV kvs vs/\s.heap.DictOf (iK X.prog X.w) p vs:=I.hok p _ hx
    have hlen:kvs.length=vs.length:=Paired.length r
    exact wpAny_truthy_dict hS m (by omega) ⟨H,I.tok _,by rw[vD r];exact q⟩
 | _=>exact(show False from e).elim
theorem aAJ(ha:PE X a ta)(he:∀whole,isTrue a X.env whole=(do let v<-whole;standAt a.pos;holding [v] (truthy v))) :
 PT X a (λσ H Q=>ta σ H λx H'=>∃k,aDc X.K x H' k/\Q k H'):=by
 intro pins s σ H Q I h
 exact isTrue_plain (thn (ha pins s σ H _ I h) λv s1 ⟨x,H1,I1,r1,q1⟩=>aAI pins s1 σ H1 x v Q I1 r1 q1) (he _)
theorem vE:OpR X (binaryOp .Add) (λx y H Q=>∃i j,x=.str i/\y=.str j/\i.length+j.length<=sizeLine/\Q (.str (i++j)) H):=by
 intro pins s σ H x y v u Q I rx ry h
 obtain⟨i,j,rfl,rfl,hz,q⟩:=h
 obtain⟨t,rfl⟩:=rx
 obtain⟨t',rfl⟩:=ry
 exact add_str (λt' tk=>⟨.str (i++j),H,I.tok _,⟨_,rfl⟩,q⟩) hz
theorem mR{x:V}{us:List Value}(r:bR [x] us):∃u,us=[u]/\cI x u:=by
 cases r with
 | cons r1 r2=>cases r2;exact⟨_,rfl,r1⟩
theorem zE:gC X (.type "int") (λxs H Q=>(∃i,xs=[.int i]/\Q (.int i) H)\/∃k,xs=[.bl k]/\Q (.int (if k then 1 else 0)) H):=by
 intro pins s σ H xs us Q I r h
 rcases h with⟨i,rfl,q⟩|⟨k,rfl,q⟩
 . obtain⟨u,rfl,t,rfl⟩:=mR r
   exact call_int_int ⟨.int i,H,I,⟨_,rfl⟩,q⟩
 . obtain⟨u,rfl,r1⟩:=mR r
   cases r1
   exact call_int_bool ⟨.int (if k then 1 else 0),H,I.tok _,⟨_,rfl⟩,q⟩
end
end L2
namespace L2
open PySem PySem.Spec PyProof.Rows
section
variable {prog:Program} {w:World} {A:Around} {E:Value->Shared->Prop} {s:Shared} {K:PySem.W.Frag} {x dx C f:Addr} {mA:Str->Option Value} {name:Str} {v:Value}
end
def putF(f:Str)(v:V):List (Str×V)->List (Str×V)
 | []=>[(f,v)]
 | (g,x)::r=>if g=f then (g,v)::r else (g,x)::putF f v r
section
variable {P:Program} {w:World} {H H':Hp} {h h':Heap} {a C dx:Addr} {fs fs':List (Str×V)}
end
section
variable {X:Cx} {pins:List (Addr×Obj)} {σ:St} {H:Hp} {s:Shared} {a C dx:Addr} {fs:List (Str×V)} {f:Str} {v:V} {A:Around} {E:Value->Shared->Prop}
end
section
variable {X:Cx} {o e value:Expr} {f:Str} {pos pos' tpos:Pos} {ta tv:TE}
end
section
variable {X:Cx} {pins:List (Addr×Obj)} {σ:St} {H:Hp} {s:Shared} {A:Around} {E:Value->Shared->Prop} {Q:Value->Shared->Prop} {c:Value} {b:Bool}
end
end L2
namespace L2
open PySem PySem.Spec PyProof.Rows
structure jH (k:Nat) (A:Around):Prop where
 hd:A.handled=none
 gd:A.guards=some []
 dp:A.depth+3*k+5<recursionLimit
 un:A.units+16*k+200<cLine
theorem jH.deeper{k:Nat}{A:Around}(r:jH (k+1) A)(env:Env):jH k (A.deeper env):=
 ⟨r.hd,r.gd,by have:=r.dp;show A.depth+1+3*k+5<_;omega,by have:=r.un;show A.units+3+16*k+200<_;omega⟩
theorem jH.depth{k:Nat}{A:Around}(r:jH k A):A.depth<recursionLimit:=by have:=r.dp;omega
def aHz:TA:=λ_ H Q=>Q [] H
def aHA(ta:TE)(tr:TA):TA:=λσ H Q=>ta σ H λx H1=>tr σ H1 λxs H2=>Q (x::xs) H2
section
variable {X:Cx} {e:Expr} {es:List Expr} {te:TE} {t:TA} {pos:Pos}
theorem mS:PA X [] aHz:=λ_ _ _ _ H Q I h=>Calls.spliced_nil ⟨[],H,I,.nil,h⟩
theorem gL(ha:PE X e te)(hr:PA X es t)(hs:starEach (e::es) X.env=(false,eval e X.env)::starEach es X.env:=by rfl):PA X (e::es) (aHA te t):=by
 intro pos pins s σ H Q I h
 rw[hs]
 show wpAny _ _ (spliced ((false,eval e X.env)::backTo pos (starEach es X.env))) _ _ s
 refine Calls.spliced_cons (thn (ha pins s σ H _ I h) λu s1 ⟨x,H1,I1,r1,q1⟩=>?_)
 exact thn (hr pos pins s1 σ H1 _ I1 q1) λus s2 ⟨xs,H2,I2,r2,q2⟩=>⟨x::xs,H2,I2,.cons r1 r2,q2⟩
def aKl(t:TA):TE:=λσ H Q=>t σ H λxs H1=>xs.length<=sizeLine/\∀p,H1 p=none->Q (.ref p) (upd H1 p (.tup xs))
def aKm(t:TA):TE:=λσ H Q=>t σ H λxs H1=>xs.length<=sizeLine/\∀p,H1 p=none->Q (.ref p) (upd H1 p (.lst xs))
theorem aFo{x1}(h:PA X es t):PE X (.Tuple es x1 pos) (aKl t):=by
 intro pins s σ H Q I hq
 refine wpAny_Tuple_spliced (thn (h pos pins s σ H _ I hq) λus s1 ⟨xs,H1,I1,r,z,q⟩=>⟨by rw[<-r.length];exact z,?_⟩)
 have hf:H1 s1.heap.objs.size=none:=I1.hok.fresh (Nat.le_refl _)
 refine⟨.ref s1.heap.objs.size,upd H1 s1.heap.objs.size (.tup xs),I1.laid (t':=s1.toks) (λb u e=>Heap.get?_push_of_some _ e) (Nat.le_refl _) ?_,rfl,q _ hf⟩
 exact⟨z,us,r,⟨_,Heap.get?_push_size _ rfl,rfl,_,rfl⟩⟩
theorem aAK(h:PA X es t):PE X (.List es pos) (aKm t):=by
 intro pins s σ H Q I hq
 refine wpAny_List_spliced (thn (h pos pins s σ H _ I hq) λus s1 ⟨xs,H1,I1,r,z,q⟩=>⟨by rw[<-r.length];exact z,?_⟩)
 have hf:H1 s1.heap.objs.size=none:=I1.hok.fresh (Nat.le_refl _)
 refine⟨.ref s1.heap.objs.size,upd H1 s1.heap.objs.size (.lst xs),I1.laid (t':=s1.toks) (λb u e=>Heap.get?_push_of_some _ e) (Nat.le_refl _) ?_,rfl,q _ hf⟩
 exact⟨z,us,0,r,Heap.get?_push_size _ rfl⟩
end
abbrev Sp:=List V->Hp->VK->XK->Prop
abbrev CXT:=List Env->Hp->Shared->XK->Value->Shared->Prop
structure aDd (P:Program) (w:World) (K:PySem.W.Frag) (mg:Str->Option Value) (base:Heap) (A:Around) (outer:List Env) (s:Shared) (H:Hp):Prop where
 frames:A.frames=some outer
 mod:Mod K mg base
 bs:∀b o,base.get? b=some o->s.heap.get? b=some o/\H b=none
 bsz:base.objs.size<=s.heap.objs.size
 funs:s.heap.FunFrames base outer
 frf:∀b∈frs outer,H b=none
 hok:HOk P w H s.heap
 bare:AllBare s.gens
def CE(outer:List Env)(P:Program)(w:World)(H:Hp)(s:Shared)(Q:VK)(u:Value)(s':Shared):Prop:=
 ∃v H',s'.os=s.os/\AllBare s'.gens/\Un (frs outer) [] H H' s.heap s'.heap/\HOk P w H' s'.heap/\cI v u/\Q v H'
def CR(CX:CXT)(outer:List Env)(P:Program)(w:World)(H:Hp)(s:Shared)(Q:VK)(E:XK)(r:Result)(s':Shared):Prop:=
 match r with
 | .ok (.ret u)=>CE outer P w H s Q u s'
 | .ok _=>False
 | .error e=>CX outer H s E e s'
structure lX (P:Program) (w:World) (K:PySem.W.Frag) (mg:Str->Option Value) (base:Heap) (CX:CXT) (k:Nat) (f:Addr) (fd:FuncData) (ps:List Str) (sp:Sp):Prop where
 len:∀vs H Q E,sp vs H Q E->vs.length=ps.length
 run:∀(A:Around) (outer:List Env) (s:Shared) (H:Hp) (args:Args) (us:List Value) (vs:List V) (Q:VK) (E:XK),jH k A->aDd P w K mg base A outer s H->BindsTo s fd args (ps.zip us)->bR vs us->sp vs H Q E ->
  codeAny (model P w) A (.call (.ref f) args) (CR CX outer P w H s Q E) s
section
variable {X:Cx} {pins:List (Addr×Obj)} {σ:St} {H:Hp} {s s':Shared}
theorem Inv.env0(I:Inv X pins σ H s):aDd X.prog X.w X.K X.mg X.base X.A X.stack s H:=
 ⟨I.ok.frames,I.ok.mod,I.bs,Nat.le_trans I.ok.bsz I.sz,I.stack,I.stkFree,I.hok,I.bare⟩
theorem Inv.after{Q:VK}{u:Value}(I:Inv X pins σ H s)(h:CE X.stack X.prog X.w H s Q u s'):EP X pins σ Q u s':=by
 obtain⟨v,H',os,bare,un,hok,r,q⟩:=h
 obtain⟨hh,g,d,t,os'⟩:=s'
 obtain rfl:os'=s.os:=os
 exact⟨v,H',I.call (h':=hh) (g':=g) (d':=d) (t':=t) (ch:=[]) un hok bare (λb z=>absurd z (by simp)),r,q⟩
end
def aEt(sp:Sp)(dvs:List V)(E:XK)(t:TA):TE:=λσ H Q=>t σ H λvs H1=>sp (vs++dvs) H1 Q E
def jC(K:PySem.W.Frag)(fd:FuncData)(ps:List Str)(ds:List Value):Prop:=
 ∀(s:Shared) (us:List Value),K.In s.heap->(us++ds).length=ps.length->BindsTo s fd ⟨us,[]⟩ (ps.zip (us++ds))
theorem jC.all{K:PySem.W.Frag}{fd:FuncData}{ps:List Str}(h:∀us:List Value,us.length=ps.length->bindArgs fd ⟨us,[]⟩=pure (ps.zip us)):jC K fd ps []:=λs us _ hl=>by
 rw[List.append_nil] at hl ⊢
 exact .of_eq (h us hl)
def qK(CX:CXT)(X:Cx)(E:XK):Prop:=∀(pins:List (Addr×Obj)) (σ:St) (H:Hp) (s:Shared) (e:Value) (s':Shared),Inv X pins σ H s->CX X.stack H s E e s'->X.xe e s'
section
variable {X:Cx} {CX:CXT} {k:Nat} {f C:Addr} {fd:FuncData} {ps:List Str} {sp:Sp} {dvs:List V} {ds:List Value} {E:XK} {x m:Str} {p pos apos:Pos} {e o:Expr} {es:List Expr} {ta:TE} {t:TA}
theorem aAL{pins:List (Addr×Obj)}{σ:St}{H:Hp}{s:Shared}{Q:VK}{us:List Value}{vs:List V}(F:lX X.prog X.w X.K X.mg X.base CX k f fd ps sp)(hr:jH k X.A)(hb:jC X.K fd ps ds)(hd:bR dvs ds)(hx:qK CX X E)
 (I:Inv X pins σ H s) (r:bR vs us) (h:sp (vs++dvs) H Q E):wpAny (model X.prog X.w) X.A (call (.ref f) us) (EP X pins σ Q) X.xe s:=by
 have r2:bR (vs++dvs) (us++ds):=r.append hd
 have hl:(us++ds).length=ps.length:=by rw[<-r2.length];exact F.len _ _ _ _ h
 refine wpAny_call (codeAny_mono (F.run X.A X.stack s H ⟨us,[]⟩ (us++ds) (vs++dvs) Q E hr I.env0 (hb s us I.kIn hl) r2 h) λr s' hq=>?_)
 cases r with
 | error e=>exact hx pins σ H s e s' I hq
 | ok fl=>
  cases fl with
  | ret u=>exact I.after hq
  | next=>exact False.elim hq
  | brk=>exact False.elim hq
  | cont=>exact False.elim hq
theorem xD(F:lX X.prog X.w X.K X.mg X.base CX k f fd ps sp)(hr:jH k X.A)(hg:Gl X x)(hm:X.mg x=some (.ref f))(hk:PySem.W.keepIn X.K (.ref f)=true)(hb:jC X.K fd ps ds)(hd:bR dvs ds)(hx:qK CX X E)
 (ha:PA X (e::es) t) (hdb:(x==("__debug__" : Str))=false:=by decide) (he:starEach (e::es) X.env=(false,eval e X.env)::starEach es X.env:=by rfl) (hpl:(backTo pos (starEach es X.env)).any (·.1)=false:=by rfl) :
 PE X (.Call (.Name x p) (e::es) [] pos) (aEt sp dvs E t):=by
 intro pins s σ H Q I h
 refine wpAny_Call_Name_kw (qJ I hg hm ?_ hdb)
 refine PySem.W.callWith_K (h₀:=X.base) I.ok.mod.kin hk (thn (ha pos pins s σ H _ I h) λus s1 ⟨vs,H1,I1,r,q⟩=>⟨I1.kIn,?_⟩) he hpl
 exact aAL F hr hb hd hx I1 r q
theorem aAM(F:lX X.prog X.w X.K X.mg X.base CX k f fd ps sp)(hr:jH k X.A)(hg:Gl X x)(hm:X.mg x=some (.ref f))(hk:PySem.W.keepIn X.K (.ref f)=true)(hb:jC X.K fd ps ds)(hd:bR dvs ds)(hx:qK CX X E)
 (hdb:(x==("__debug__" : Str))=false:=by decide):PE X (.Call (.Name x p) [] [] pos) (aEt sp dvs E aHz):=by
 intro pins s σ H Q I h
 refine wpAny_Call_Name_kw (qJ I hg hm ?_ hdb)
 exact PySem.W.callWith_K0 I.kIn hk (aAL (us:=[]) F hr hb hd hx I .nil h)
end
section
variable {X:Cx} {CX:CXT} {k:Nat} {f C:Addr} {fd:FuncData} {ps ks:List Str} {sp:Sp} {E:XK} {x m:Str} {p pos apos kpos:Pos} {e o:Expr} {es:List Expr} {kws:List Keyword} {te ta:TE} {t tk:TA} {nm:Option Str}
variable {g:List Value->List Value->List Value} {gV:List V->List V->List V}
end
structure mF (N P:List Str) (sc:Scope):Prop where
 kind:sc.kind=.function
 co:sc.isCoroutine=false
 gen:sc.isGenerator=false
 nd:N.Nodup
 pre:N.take P.length=P
 par:∀x∈P,sc.names.lookup x=some .local\/sc.names.lookup x=some .cell
 nofree:∀y∈sc.names,y.2≠.free
theorem pG{kindOf:Str->Option NameKind}{x:Str}:∀{binds:List (Str×Value)} {m:Str->Option Value},(∀v,(x,v)∉binds)->bindL kindOf binds m x=m x
 | [],_,_=>rfl
 | (n,v)::r,m,h=>by
  unfold bindL
  rw[pG λw hw=>h w (List.mem_cons_of_mem _ hw)]
  split
  . have:x≠n:=by rintro rfl;exact h v List.mem_cons_self
    simp[this]
  . rfl
theorem pH{kindOf:Str->Option NameKind}{x:Str}:∀{binds:List (Str×Value)} {m:Str->Option Value},(∀v,(x,v)∉binds)->bindC kindOf binds m x=m x
 | [],_,_=>rfl
 | (n,v)::r,m,h=>by
  unfold bindC
  rw[pH λw hw=>h w (List.mem_cons_of_mem _ hw)]
  split
  . rfl
  . have:x≠n:=by rintro rfl;exact h v List.mem_cons_self
    simp[this]
theorem pI{kindOf:Str->Option NameKind}{x:Str}{v:Value}:∀{P:List Str} {vs:List Value} {i:Nat} {m:Str->Option Value},P.Nodup->P[i]? = some x->vs[i]? = some v->kindOf x=some .local ->
 bindL kindOf (P.zip vs) m x=some v
 | [],_,_,_,_,h,_,_=>by simp at h
 | _::_,[],_,_,_,_,h,_=>by simp at h
 | p::P,w::vs,0,m,nd,h1,h2,hk=>by
  simp at h1 h2;subst h1;subst h2
  show bindL kindOf ((p,w)::P.zip vs) m p=_
  unfold bindL
  rw[pG λv hv=>(List.nodup_cons.mp nd).1 (List.of_mem_zip hv).1,if_pos hk]
  simp
 | p::P,w::vs,i+1,m,nd,h1,h2,hk=>by
  show bindL kindOf ((p,w)::P.zip vs) m x=_
  unfold bindL
  exact pI (i:=i) (List.nodup_cons.mp nd).2 (by simpa using h1) (by simpa using h2) hk
theorem pJ{kindOf:Str->Option NameKind}{x:Str}{v:Value}:∀{P:List Str} {vs:List Value} {i:Nat} {m:Str->Option Value},P.Nodup->P[i]? = some x->vs[i]? = some v->kindOf x≠some .local ->
 bindC kindOf (P.zip vs) m x=some v
 | [],_,_,_,_,h,_,_=>by simp at h
 | _::_,[],_,_,_,_,h,_=>by simp at h
 | p::P,w::vs,0,m,nd,h1,h2,hk=>by
  simp at h1 h2;subst h1;subst h2
  show bindC kindOf ((p,w)::P.zip vs) m p=_
  unfold bindC
  rw[pH λv hv=>(List.nodup_cons.mp nd).1 (List.of_mem_zip hv).1,if_neg hk]
  simp
 | p::P,w::vs,i+1,m,nd,h1,h2,hk=>by
  show bindC kindOf ((p,w)::P.zip vs) m x=_
  unfold bindC
  exact pJ (i:=i) (List.nodup_cons.mp nd).2 (by simpa using h1) (by simpa using h2) hk
def start(N:List Str)(vs:List V):St:=vs.map some++List.replicate (N.length-vs.length) none
def vF(CX:CXT)(P:Program)(w:World)(K:PySem.W.Frag)(mg:Str->Option Value)(base:Heap)(N:List Str)(qual:Str)(scope:Scope)(f:Addr)(cd:Value)(A:Around)(outer:List Env)(s:Shared)(H:Hp)(E:XK):Cx where
 prog:=P
 w:=w
 K:=K
 mg:=mg
 base:=base
 A:=A.deeper (envOfC qual scope s.heap.objs.size f cd)
 N:=N
 s₀:=s
 H₀:=H
 env:=envOfC qual scope s.heap.objs.size f cd
 outer:=outer
 stack:=envOfC qual scope s.heap.objs.size f cd::outer
 ex:=[]
 calm:=true
 fn:=λ_=>true
 pn:=[]
 xe:=λe s'=>wpAny (model P w) (A.deeper (envOfC qual scope s.heap.objs.size f cd)) (leaving (envOfC qual scope s.heap.objs.size f cd) e) (λ_ s''=>CX outer H s E e s'') (λe' s''=>CX outer H s E e' s'') s'
theorem sL{sc:Scope}{n:Nat}{x:Str}(h:sc.names.lookup x=some .cell):∃c,(cellsFrom n sc.names []).lookup x=some c:=by
 have q:=PySem.W.cellsFrom_some sc.names n [] (.inl h)
 exact Option.isSome_iff_exists.mp q
theorem zF{CX:CXT}{P:Program}{w:World}{K:PySem.W.Frag}{mg:Str->Option Value}{base:Heap}{N ps:List Str}{qual:Str}{scope:Scope}{f:Addr}{cd:Value}{A:Around}{outer:List Env}{s s1:Shared}{H:Hp}{E:XK}{us:List Value}{vs:List V}
 (S:mF N ps scope) (hd:A.handled=none) (e0:aDd P w K mg base A outer s H) (hl:vs.length=ps.length) (r:bR vs us)
 (x:InCallC s s.heap.objs.size (bindL (envOfC qual scope s.heap.objs.size f cd).kindOf (ps.zip us) λ_=>none) (cellsFrom (s.heap.objs.size+1) scope.names []) (bindC (envOfC qual scope s.heap.objs.size f cd).kindOf (ps.zip us) λ_=>none) s1) :
 Inv (vF CX P w K mg base N qual scope f cd A outer s H E) [] (start N vs) H s1:=by
 have hpl:ps.length<=N.length:=by have:=congrArg List.length S.pre;rw[List.length_take] at this;omega
 obtain⟨h1,tk,rfl,hk⟩:=x.done
 have noA:∀b:Addr,b∉(vF CX P w K mg base N qual scope f cd A outer s H E).ex:=λb z=>absurd (show b∈([]:List Addr) from z) (by simp)
 refine⟨⟨e0.mod,S.kind,rfl,rfl,Nat.le_refl _,λy z c h1 h2=>?_,λy hy=>?_,λy c _ h=>?_,λ_=>hd,Around.frames_deeper e0.frames,.inr ⟨rfl,rfl⟩,λb z=>absurd z (noA b),e0.bs,e0.bsz,λb _ _=>noA b,λb z=>absurd z (noA b),e0.funs,e0.frf⟩,
  rfl,e0.bare,Un.kept hk,⟨_,x.toInCall.ns,λi y v h1 h2 h3=>?_⟩,λy c h=>⟨_,x.cell y c h⟩,e0.hok.fresh (Nat.le_refl _),λy c h=>?_,λp hp=>absurd (show p∈([]:List (Addr×Obj)) from hp) (by simp),e0.hok.kept hk,?_⟩
 . exact name_of_addr x.apart (PySem.mem_of_lookup h1) (PySem.mem_of_lookup h2)
 . have hy:scope.names.lookup y=some .cell\/scope.names.lookup y=some .free:=hy
   rcases hy with hy|hy
   . exact sL hy
   . exact absurd rfl (S.nofree _ (PySem.mem_of_lookup hy))
 . exact Nat.le_of_lt (x.above y c (PySem.mem_of_lookup h))
 . have hi:i<vs.length:=by
    unfold start at h2
    by_cases hi:i<vs.length
    . exact hi
    . rw[List.getElem?_append_right (by simpa using hi)] at h2
      rw[List.getElem?_replicate] at h2
      split at h2 <;> cases h2
   have ha:vs[i]? = some v:=by
    unfold start at h2
    rw[List.getElem?_append_left (by simpa using hi),List.getElem?_map] at h2
    cases e:vs[i]? with
    | none=>rw[e] at h2;cases h2
    | some a=>rw[e] at h2;cases h2;rfl
   obtain⟨u,hu,rv⟩:=r.get ha
   have hp:ps[i]? = some y:=by
    rw[<-S.pre,List.getElem?_take_of_lt (by omega)];exact h1
   have ndP:ps.Nodup:=by rw[<-S.pre];exact S.nd.sublist (List.take_sublist _ _)
   refine⟨u,rv,?_⟩
   rcases S.par y (List.mem_of_getElem? hp) with k|k
   . exact .inl ⟨k,pI ndP hp hu k⟩
   . obtain⟨c,e⟩:=sL (n:=s.heap.objs.size+1) k
     refine .inr ⟨.inl k,c,e,?_⟩
     have q:=x.cell y c e
     rw[pJ ndP hp hu (by show scope.names.lookup y≠_;rw[k];decide)] at q
     exact q
 . exact e0.hok.fresh (Nat.le_of_lt (x.above y c (PySem.mem_of_lookup h)))
 . unfold start
   show _=N.length
   rw[List.length_append,List.length_map,List.length_replicate]
   omega
theorem aHB{CX:CXT}{P:Program}{w:World}{K:PySem.W.Frag}{mg:Str->Option Value}{base:Heap}{k:Nat}{f:Addr}{name qual:Str}{params:Arguments}{body:List Stmt}{scope:Scope}{dV kV doc pm cdv ct oc:Value}{an od:Option Addr}
 {osl:Array (Option Value)} {N ps:List Str} {sp:Sp} (lk:K.lookup f=some ⟨oc,od,.func (PySem.W.fnOf name qual params body scope dV kV doc pm an cdv ct),osl⟩) (hcd:PySem.W.codeIn K cdv qual=true) (S:mF N ps scope)
 (len:∀vs H Q E,sp vs H Q E->vs.length=ps.length)
 (hbody:∀(A:Around) (outer:List Env) (s:Shared) (H:Hp) (vs:List V) (Q:VK) (E:XK),jH k (A.deeper (envOfC qual scope s.heap.objs.size f cdv))->sp vs H Q E ->
  ∃t,PSs (vF CX P w K mg base N qual scope f cdv A outer s H E) body t/\t { nx:=λ_ H'=>Q .non H',rt:=Q } (start N vs) H) :
 lX P w K mg base CX (k+1) f (PySem.W.fnOf name qual params body scope dV kV doc pm an cdv ct) ps sp:=by
 refine⟨len,λA outer s H args us vs Q E hr e0 hb r hsp=>?_⟩
 have hl:=len _ _ _ _ hsp
 have KX:K.In s.heap:=e0.mod.kin.keeps λb o e=>(e0.bs b o e).1
 have lim:s.heap.NoLimit:=e0.mod.nolimit.keeps λb o e=>(e0.bs b o e).1
 have hkind:∀y∈ps.zip us,scope.names.lookup y.1=some .local\/(scope.names.lookup y.1=some .cell/\((cellsFrom (s.heap.objs.size+1) scope.names []).lookup y.1).isSome=true):=λ⟨n,v⟩ hy=>by
  rcases S.par n (List.of_mem_zip hy).1 with q|q
  . exact .inl q
  . exact .inr ⟨q,PySem.W.cellsFrom_some _ _ _ (.inl q)⟩
 refine codeAny_call_function hr.depth (KX _ _ lk) rfl S.co S.gen rfl (PySem.W.codeRec_of KX hcd) (hb _ _ _ _ ?_)
 refine wpAny_newFunctionEnv_cells S.kind hkind λenv he s1 x=>?_
 subst he
 refine⟨lim.keeps x.toInCall.keep,codeAny_func ?_⟩
 obtain⟨t,ht,hq⟩:=hbody A outer s H vs Q E (hr.deeper _) hsp
 have I:Inv (vF CX P w K mg base N qual scope f cdv A outer s H E) [] (start N vs) H s1:=zF S hr.hd e0 hl r x
 refine wpAny_mono (ht [] s1 (start N vs) H _ I hq) (λfl s' hs=>?_) λe s' hs=>hs
 have fin:∀{σ':St} {H':Hp} {v:V} {u:Value},Inv (vF CX P w K mg base N qual scope f cdv A outer s H E) [] σ' H' s'->cI v u->Q v H'->CE outer P w H s Q u s':=
  λ{σ' H' v u} J rv q=>⟨v,H',J.os,J.bare,J.base,J.hok,rv,q⟩
 cases fl with
 | ret u=>
  obtain⟨v,σ',H',J,rv,q⟩:=hs
  exact fin J rv q
 | next=>
  obtain⟨σ',H',J,q⟩:=hs
  exact fin (v:=V.non) (u:=Value.none) J rfl q
 | brk=>
  obtain⟨_,_,_,q⟩:=hs
  exact False.elim q
 | cont=>
  obtain⟨_,_,_,q⟩:=hs
  exact False.elim q
end L2
namespace L2
open PySem PySem.Spec PyProof.Rows
section
variable {X:Cx} {x:Str} {p pos:Pos} {e:Expr} {es:List Expr} {t:TA} {id T:String} {r:List V->Hp->VK->Prop}
def tCB(r:List V->Hp->VK->Prop)(t:TA):TE:=λσ H Q=>t σ H λvs H1=>r vs H1 Q
theorem sM(hc:gC X (.builtin id) r)(hg:Gl X x)(hm:X.mg x=none)(hv:bootBuiltins x=some (.builtin id))(ha:PA X (e::es) t)(hn:x ≠ "__name__" := by decide)(hdb:(x==("__debug__" : Str))=false:=by decide)
 (he:starEach (e::es) X.env=(false,eval e X.env)::starEach es X.env:=by rfl) (hpl:(backTo pos (starEach es X.env)).any (·.1)=false:=by rfl):PE X (.Call (.Name x p) (e::es) [] pos) (tCB r t):=by
 intro pins s σ H Q I h
 refine wpAny_Call_Name_kw (hU I hg hm hv ?_ hn hdb)
 exact PyProof.Rows.callWith_builtin1 (thn (ha pos pins s σ H _ I h) λus s1 ⟨vs,H1,I1,r1,q1⟩=>hc pins s1 σ H1 vs us Q I1 r1 q1) he hpl
theorem kQ(hc:gC X (.type T) r)(hg:Gl X x)(hm:X.mg x=none)(hv:bootBuiltins x=some (.type T))(ha:PA X (e::es) t)(hn:x ≠ "__name__" := by decide)(hdb:(x==("__debug__" : Str))=false:=by decide)
 (he:starEach (e::es) X.env=(false,eval e X.env)::starEach es X.env:=by rfl) (hpl:(backTo pos (starEach es X.env)).any (·.1)=false:=by rfl):PE X (.Call (.Name x p) (e::es) [] pos) (tCB r t):=by
 intro pins s σ H Q I h
 refine wpAny_Call_Name_kw (hU I hg hm hv ?_ hn hdb)
 exact PyProof.Rows.callWith_type1 (thn (ha pos pins s σ H _ I h) λus s1 ⟨vs,H1,I1,r1,q1⟩=>hc pins s1 σ H1 vs us Q I1 r1 q1) he hpl
end
end L2
namespace HT
open PySem PyProof.Rows
section
open PySem.SeqAt
open PySem.AutoSeq1 (wpAny_loadPart')
open PySem.MeetsSeq PySem.MeetsSeq2 PySem.MeetsSeq3
end
section
variable {prog:Program} {w:World} {A:Around} {E:Value->Shared->Prop} {s:Shared}
theorem cat_tup{t b:Addr}{vs ws:List Value}{Q:Value->Shared->Prop}(ht:IsTup s.heap t vs.toArray)(hb:IsTup s.heap b ws.toArray)(hv:vs≠[])
 (h1:ws=[]->Q (.ref t) s) (h2:ws≠[]->Q (.ref s.heap.objs.size) { s with heap:=s.heap.push { cls:=.type "tuple",data:=.seq (vs++ws).toArray } })
 (hsz:vs.length+ws.length<=sizeLine):wpAny (model prog w) A (binaryOp .Add (.ref t) (.ref b)) Q E s:=by
 obtain⟨⟨cls,dd,data,sl⟩,ho,hc,n,hd⟩:=id ht
 obtain⟨⟨cls2,dd2,data2,sl2⟩,ho2,hc2,n2,hd2⟩:=id hb
 simp only at hc hd hc2 hd2
 subst hc hd hc2 hd2
 have e:vs.toArray++ws.toArray=(vs++ws).toArray:=by simp
 by_cases hw:ws=[]
 . exact concat_meets ⟨_,ho,rfl⟩ ⟨_,ho2,rfl⟩ noFill_tuple_add seq_tuple_add PySem.F.slot_tuple_add PySem.F.entry_tuple_add (PySem.F.args_tuple_add_2 _ _)
    (tuple_addW1 t b vs.toArray ws.toArray n n2 dd dd2 sl sl2 (by simpa using hv) (by simp[hw])) ⟨ho,ho2,h1 hw⟩
 . refine concat_meets ⟨_,ho,rfl⟩ ⟨_,ho2,rfl⟩ noFill_tuple_add seq_tuple_add PySem.F.slot_tuple_add PySem.F.entry_tuple_add (PySem.F.args_tuple_add_2 _ _)
    (tuple_addW2 t b vs.toArray ws.toArray n n2 dd dd2 sl sl2 (by simpa using hv) (by simpa using hw) (by rw[List.size_toArray,List.size_toArray];exact hsz)) ⟨ho,ho2,?_⟩
   rw[e]
   exact h2 hw
def sIx(n d:Nat):Option Int->Nat
 | none=>d
 | some v=>if v<0 then (v+(n:Int)).toNat else min v.toNat n
theorem aFp(n d:Nat)(hd:d<=n)(o:Option Int):sIx n d o<=n:=by
 cases o with
 | none=>exact hd
 | some v=>
  show(if v<0 then (v+(n:Int)).toNat else min v.toNat n)<=n
  by_cases hv:v<0
  . rw[if_pos hv];omega
  . rw[if_neg hv];exact Nat.min_le_right _ _
theorem xE(v:Int)(n d:Nat):(if v<0 then max (v+(n:Int)) 0 else min v (n:Int))=((sIx n d (some v):Nat):Int):=by
 show(if v<0 then max (v+(n:Int)) 0 else min v (n:Int))=(((if v<0 then (v+(n:Int)).toNat else min v.toNat n):Nat):Int)
 by_cases hv:v<0
 . simp only[if_pos hv];omega
 . simp only[if_neg hv];omega
theorem vG(lo hi:Option Int)(n:Nat):Builtin.Slice.sliceAdjust lo hi 1 (n:Int)=(((sIx n 0 lo:Nat):Int),((sIx n n hi:Nat):Int)):=by
 have h1:¬ ((1:Int)<0):=by omega
 unfold Builtin.Slice.sliceAdjust
 simp only[h1,if_false]
 refine Prod.ext ?_ ?_
 . cases lo with
   | none=>rfl
   | some v=>exact xE v n 0
 . cases hi with
   | none=>rfl
   | some v=>exact xE v n n
theorem vH(i j:Nat):Builtin.Slice.slicePlaces (i:Int) (j:Int) 1=j-i:=by
 unfold Builtin.Slice.slicePlaces
 have h1:(1:Int)>0:=by omega
 simp only[h1,if_true,Int.ediv_one]
 split <;> omega
theorem mT{v:Value}{o:Option Int}{Q:Option Int->Shared->Prop}(p:IsPart v o)(h:Q o s):wpAny (model prog w) A (Builtin.Slice.slicePartIndex v) Q E s:=by
 cases p with
 | none=>exact slicePart_none h
 | int i t=>exact slicePart_int h
theorem sliceApplied_gen{sl:Addr}{vl vu:Value}{lo hi:Option Int}{n:Nat}{Q:Int×Int×Nat->Shared->Prop}(hs:s.heap.IsSliceOf sl vl vu .none)(pl:IsPart vl lo)(pu:IsPart vu hi)
 (h:Q (((sIx n 0 lo:Nat):Int),1,sIx n n hi-sIx n 0 lo) s):wpAny (model prog w) A (Builtin.Slice.sliceApplied (.ref sl) (pure (n:Int))) Q E s:=by
 obtain⟨os,hos,hcs,hds⟩:=id hs
 unfold Builtin.Slice.sliceApplied Builtin.Slice.sliceFields
 refine wpAny_bind (wpAny_bind (wpAny_field hos hds (x:=vl) rfl (wpAny_bind (wpAny_field hos hds (x:=vu) rfl (wpAny_bind (wpAny_field hos hds (x:=.none) rfl (wpAny_pure ?_)))))))
 refine wpAny_bind (slicePart_none ?_)
 show wpAny _ _ (if ((1:Int)==0)=true then _ else _) _ _ s
 rw[if_neg (by decide)]
 refine wpAny_bind (mT pl (wpAny_bind (mT pu (wpAny_bind (wpAny_pure ?_)))))
 show wpAny _ _ (match Builtin.Slice.sliceAdjust lo hi 1 (n:Int) with|(lo,hi)=>pure (lo,(1:Int),Builtin.Slice.slicePlaces lo hi 1)) _ _ s
 rw[vG lo hi n]
 show wpAny _ _ (pure (((sIx n 0 lo:Nat):Int),(1:Int),Builtin.Slice.slicePlaces ((sIx n 0 lo:Nat):Int) ((sIx n n hi:Nat):Int) 1)) _ _ s
 rw[vH]
 exact wpAny_pure h
theorem aAN(xs:Array Value)(i k:Nat):((List.range k).filterMap λ(m:Nat)=>xs[((i:Int)+(m:Int)*1).toNat]?).toArray=((xs.toList.drop i).take k).toArray:=by
 have e:(λ(m:Nat)=>xs[((i:Int)+(m:Int)*1).toNat]?)=λm=>xs[i+m]? := by
  funext m
  have:((i:Int)+(m:Int)*1).toNat=i+m:=by omega
  rw[this]
 rw[e]
 have:=pick_run xs i k
 rw[List.filterMap_map] at this
 have e2:((λx=>xs[x]?)∘λx=>i+x)=λm=>xs[i+m]? := rfl
 rw[e2] at this
 rw[this]
theorem getItem_tuple_cut{t sl:Addr}{items:Array Value}{vl vu:Value}{lo hi:Option Int}{Q:Value->Shared->Prop}(ht:IsTup s.heap t items)(hs:s.heap.IsSliceOf sl vl vu .none)(pl:IsPart vl lo)(pu:IsPart vu hi)
 (hw:¬ (sIx items.size 0 lo=0/\sIx items.size items.size hi=items.size))
 (h:Q (.ref s.heap.objs.size) { s with heap:=s.heap.push { cls:=.type "tuple",data:=.seq ((items.toList.drop (sIx items.size 0 lo)).take (sIx items.size items.size hi-sIx items.size 0 lo)).toArray } })
 (hsz:items.size<=sizeLine):wpAny (model prog w) A (getItem (.ref t) (.ref sl)) Q E s:=by
 have htake:sizeOk (.seq ((items.toList.drop (sIx items.size 0 lo)).take (sIx items.size items.size hi-sIx items.size 0 lo)).toArray):=by
  show((items.toList.drop (sIx items.size 0 lo)).take (sIx items.size items.size hi-sIx items.size 0 lo)).toArray.size<=sizeLine
  rw[List.size_toArray,List.length_take,List.length_drop,Array.length_toList]
  omega
 have hj:sIx items.size items.size hi<=items.size:=aFp _ _ (Nat.le_refl _) hi
 obtain⟨os,hos,hcs,hds⟩:=id hs
 have hTs:s.TypeIs (.ref sl) "slice" := ⟨os,hos,hcs⟩
 unfold getItem
 try with_reducible refine wpAny_holding ?_
 first|refine wpAny_bind (wpAny_pure ?_)|skip
 refine wpAny_bind (wpAny_sequenceKey ht.typeIs (by decide) ?_)
 refine wpAny_bind (wpAny_callSpecial?_slot (name:=Str.ofString "__getitem__") ht.typeIs PyProof.Rows.slot_tuple_getitem
  (wpAny_call_entry PyProof.Rows.slot_tuple_getitem ht.typeIs entry_tuple_getitem ?_ (args_tuple_getitem _ _)))
 show wpAny _ _ (Builtin.Tuple.tupleItemsOf (.ref t) >>= _) _ _ s
 refine wpAny_bind (tupleItemsOf_ ht ?_)
 refine wpAny_bind (wpAny_typeOf hTs ?_)
 rw[if_pos (by decide)]
 refine wpAny_bind (sliceApplied_gen hs pl pu ?_)
 have hno:¬ ((((sIx items.size 0 lo:Nat):Int)==0&&(1:Int)==1&&(sIx items.size items.size hi-sIx items.size 0 lo)==items.size)=true):=by
  intro q
  rw[Bool.and_eq_true,Bool.and_eq_true] at q
  have q1:((sIx items.size 0 lo:Nat):Int)=0:=eq_of_beq q.1.1
  have q2:sIx items.size items.size hi-sIx items.size 0 lo=items.size:=eq_of_beq q.2
  exact hw ⟨by omega,by omega⟩
 show wpAny _ _ (if (((sIx items.size 0 lo:Nat):Int)==0&&(1:Int)==1&&(sIx items.size items.size hi-sIx items.size 0 lo)==items.size)=true then _ else _) _ _ s
 rw[if_neg hno,aAN]
 first
  | exact wpAny_bind (m:=Builtin.Tuple.tupleExact _) (wpAny_newObj_type (wpAny_pure ⟨_,rfl,wpAny_pure h⟩) htake)
  | exact wpAny_bind (m:=Builtin.Tuple.tupleExact _) (wpAny_newObj_type (wpAny_bind (wpAny_pure (wpAny_pure ⟨_,rfl,wpAny_pure h⟩))) htake)
  | exact wpAny_bind (wpAny_bind (m:=Builtin.Tuple.tupleExact _) (wpAny_newObj_type (wpAny_pure (wpAny_pure ⟨_,rfl,wpAny_pure h⟩)) htake))
  | exact wpAny_bind (wpAny_bind (m:=Builtin.Tuple.tupleExact _) (wpAny_newObj_type (wpAny_pure ⟨_,rfl,wpAny_pure h⟩) htake))
end
end HT
namespace L2
open PySem PySem.Spec PyProof.Rows
abbrev TO:=St->Hp->(Option Int->Hp->Prop)->Prop
def PO(X:Cx)(e:Option Expr)(t:TO):Prop:=
 ∀(pins:List (Addr×Obj)) (s:Shared) (σ:St) (H:Hp) (Q:Option Int->Hp->Prop),Inv X pins σ H s->t σ H Q ->
  wpAny (model X.prog X.w) X.A (evalPart e X.env) (λu s'=>∃o H',Inv X pins σ H' s'/\IsPart u o/\Q o H') X.xe s
def aDe:TO:=λ_ H Q=>Q none H
def aHC(t:TE):TO:=λσ H Q=>t σ H λx H1=>∃i,x=.int i/\Q (some i) H1
section
variable {X:Cx} {e:Expr} {te:TE} {lo hi:Option Expr} {tl th:TO} {pos p2:Pos}
theorem aDf:PO X none aDe:=by
 intro pins s σ H Q I h
 rw[evalPart_none]
 exact wpAny_pure ⟨none,H,I,.none,h⟩
theorem aDg(h:PE X e te):PO X (some e) (aHC te):=by
 intro pins s σ H Q I hw
 rw[evalPart_some]
 refine thn (h pins s σ H _ I hw) λu s1 ⟨x,H1,I1,r1,q1⟩=>?_
 obtain⟨i,rfl,q⟩:=q1
 obtain⟨t,rfl⟩:=r1
 exact⟨some i,H1,I1,.int i t,q⟩
def SlR(X:Cx)(r:V->Option Int->Option Int->Hp->VK->Prop):Prop:=
 ∀(pins:List (Addr×Obj)) (s:Shared) (σ:St) (H:Hp) (x:V) (v vl vu:Value) (lo hi:Option Int) (sl:Addr) (Q:VK),Inv X pins σ H s->cI x v->s.heap.IsSliceOf sl vl vu .none->IsPart vl lo->IsPart vu hi->r x lo hi H Q ->
  ∃T id,typeLookup (.type T) "__getitem__" = pure (some (.builtin id))/\s.TypeIs v T/\wpAny (model X.prog X.w) X.A (getItem v (.ref sl)) (EP X pins σ Q) X.xe s
theorem SlR.or{r r':V->Option Int->Option Int->Hp->VK->Prop}(h:SlR X r)(h':SlR X r'):SlR X (λx lo hi H Q=>r x lo hi H Q\/r' x lo hi H Q):=by
 intro pins s σ H x v vl vu lo hi sl Q I rx hs pl pu q
 rcases q with q|q
 . exact h pins s σ H x v vl vu lo hi sl Q I rx hs pl pu q
 . exact h' pins s σ H x v vl vu lo hi sl Q I rx hs pl pu q
def tSl(r:V->Option Int->Option Int->Hp->VK->Prop)(te:TE)(tl th:TO):TE:=λσ H Q=>te σ H λx H1=>tl σ H1 λl H2=>th σ H2 λu H3=>r x l u H3 Q
theorem aAO{r:V->Option Int->Option Int->Hp->VK->Prop}(hr:SlR X r)(he:PE X e te)(hl:PO X lo tl)(hu:PO X hi th):PE X (.Subscript e (.Slice lo hi none p2) pos) (tSl r te tl th):=by
 intro pins s σ H Q I h
 refine Subscript_ (thn (he pins s σ H _ I h) λv s1 ⟨x,H1,I1,r1,q1⟩=>?_)
 refine wpAny_Slice (thn (hl pins s1 σ H1 _ I1 q1) λvl s2 ⟨l,H2,I2,pl,q2⟩=>thn (hu pins s2 σ H2 _ I2 q2) λvu s3 ⟨u,H3,I3,pu,q3⟩=>?_)
 rw[evalPart_none]
 refine wpAny_pure ?_
 have I4:Inv X pins σ H3 { s3 with heap:=s3.heap.push { cls:=.type "slice",data:=.fields #[vl,vu,.none] } }:=I3.kept (t':=s3.toks) λb ob q=>Heap.get?_push_of_some _ q
 obtain⟨T,id,hT,ht,hg⟩:=hr pins { s3 with heap:=s3.heap.push { cls:=.type "slice",data:=.fields #[vl,vu,.none] } } σ H3 x v vl vu l u s3.heap.objs.size Q I4 r1 (Heap.IsSliceOf.new ..) pl pu q3
 show wpAny (model X.prog X.w) X.A (subscriptTail e (.Slice lo hi none p2) v (.ref s3.heap.objs.size)) (EP X pins σ Q) X.xe { s3 with heap:=s3.heap.push { cls:=.type "slice",data:=.fields #[vl,vu,.none] } }
 exact tail_any (ops:=[.ref s3.heap.objs.size,v]) ht hT hg (by with_unfolding_all rfl)
def sN(xs:List V)(lo hi:Option Int):List V:=(xs.drop (HT.sIx xs.length 0 lo)).take (HT.sIx xs.length xs.length hi-HT.sIx xs.length 0 lo)
theorem lQ(xs:List V)(lo hi:Option Int):(sN xs lo hi).length<=xs.length:=by
 unfold sN
 rw[List.length_take,List.length_drop]
 omega
def aAP(K:PySem.W.Frag):V->Option Int->Option Int->Hp->VK->Prop:=λx lo hi H Q=>∃a xs,x=.ref a/\SqT K H a xs /\
 ¬ (HT.sIx xs.length 0 lo=0/\HT.sIx xs.length xs.length hi=xs.length)/\∀p,H p=none->Q (.ref p) (upd H p (.tup (sN xs lo hi)))
theorem aFq:SlR X (aAP X.K):=by
 intro pins s σ H x v vl vu lo hi sl Q I rx hs pl pu h
 obtain⟨a,xs,rfl,hx,hw,q⟩:=h
 cases rx
 obtain⟨its,r,ht,hz⟩:=I.tuple hx
 have hlen:its.toArray.size=xs.length:=by rw[List.size_toArray];exact r.length.symm
 refine⟨"tuple",_,PyProof.Rows.slot_tuple_getitem.lookup,ht.typeIs,?_⟩
 refine HT.getItem_tuple_cut ht hs pl pu (by rw[hlen];exact hw) ?_ (by rw[hlen];exact hz)
 rw[hlen]
 refine⟨.ref s.heap.objs.size,_,I.laid (t':=s.toks) (o:=.tup (sN xs lo hi)) (λb ob q=>Heap.get?_push_of_some _ q) (Nat.le_refl _) ?_,rfl,q _ (I.hok.fresh (Nat.le_refl _))⟩
 exact⟨Nat.le_trans (lQ xs lo hi) hz,_,(r.drop (HT.sIx xs.length 0 lo)).take (HT.sIx xs.length xs.length hi-HT.sIx xs.length 0 lo),IsTup.new _ _⟩
def aHD(K:PySem.W.Frag):R2:=λx y H Q=>∃a b xs ys,x=.ref a/\y=.ref b/\SqT K H a xs/\SqT K H b ys/\xs≠[]/\xs.length+ys.length<=sizeLine /\
 (ys=[]->Q (.ref a) H)/\(ys≠[]->∀p,H p=none->Q (.ref p) (upd H p (.tup (xs++ys))))
theorem bR.nil_iff{xs:List V}{us:List Value}(r:bR xs us):us=[]↔xs=[]:=by
 cases r with
 | nil=>simp
 | cons _ _=>simp
theorem aDh:OpR X (binaryOp .Add) (aHD X.K):=by
 intro pins s σ H x y v u Q I rx ry h
 obtain⟨a,b,xs,ys,rfl,rfl,ha,hb,hx,hz,q1,q2⟩:=h
 cases rx
 cases ry
 obtain⟨its,r1,p1,_⟩:=I.tuple ha
 obtain⟨its2,r2,p2,_⟩:=I.tuple hb
 refine HT.cat_tup p1 p2 (λz=>hx (r1.nil_iff.mp z)) (λz=>⟨.ref a,H,I,rfl,q1 (r2.nil_iff.mp z)⟩) (λz=>?_) (by rw[<-r1.length,<-r2.length];exact hz)
 refine⟨.ref s.heap.objs.size,_,I.laid (t':=s.toks) (o:=.tup (xs++ys)) (λb ob q=>Heap.get?_push_of_some _ q) (Nat.le_refl _) ?_,rfl,q2 (λw=>z (r2.nil_iff.mpr w)) _ (I.hok.fresh (Nat.le_refl _))⟩
 exact⟨by rw[List.length_append];exact hz,_,r1.append r2,IsTup.new _ _⟩
end
end L2
namespace L2
open PySem PySem.Spec PyProof.Rows
def ixN(n:Nat)(i:Int):Option Nat:=if 0<=i then (if i<n then some i.toNat else none) else if -(n:Int)<=i then some (i+n).toNat else none
def atI{α:Type}(xs:List α)(i:Int):Option α:=(ixN xs.length i).bind λj=>xs[j]?
theorem xF{n:Nat}{i:Int}{j:Nat}(h:ixN n i=some j):seqIndex? i n=some j/\j<n/\-(n:Int)<=i/\i<n:=by
 unfold ixN at h
 by_cases h0:0<=i
 . rw[if_pos h0] at h
   by_cases h1:i<n
   . rw[if_pos h1] at h
     have e:i.toNat=j:=Option.some.inj h
     exact⟨by rw[seqIndex_of h0 h1,e],by omega,by omega,h1⟩
   . rw[if_neg h1] at h;cases h
 . rw[if_neg h0] at h
   by_cases h1:-(n:Int)<=i
   . rw[if_pos h1] at h
     have e:(i+n).toNat=j:=Option.some.inj h
     exact⟨by rw[seqIndex_neg (by omega) h1,e],by omega,h1,by omega⟩
   . rw[if_neg h1] at h;cases h
theorem qL{α:Type}{xs:List α}{i:Int}{v:α}(h:atI xs i=some v):∃j,seqIndex? i xs.length=some j/\xs[j]? = some v/\j<xs.length/\-(xs.length:Int)<=i/\i<xs.length:=by
 unfold atI at h
 cases e:ixN xs.length i with
 | none=>rw[e] at h;cases h
 | some j=>
  rw[e] at h
  obtain⟨h1,h2,h3,h4⟩:=xF e
  exact⟨j,h1,h,h2,h3,h4⟩
def xG(b:Expr):Prop:=∀o i,subscripted b false o i=operate [o,i] (getItem o i)
def IxR(X:Cx)(r:R2):Prop:=
 ∀(value slice:Expr) (pins:List (Addr×Obj)) (s:Shared) (σ:St) (H:Hp) (x y:V) (v u:Value) (Q:VK),Inv X pins σ H s->cI x v->cI y u->r x y H Q ->
  subscripted slice false v u=operate [v,u] (getItem v u)->wpAny (model X.prog X.w) X.A (subscriptTail value slice v u) (EP X pins σ Q) X.xe s
def MtR(X:Cx)(id:String)(r:V->List V->Hp->VK->Prop):Prop:=
 ∀(pins:List (Addr×Obj)) (s:Shared) (σ:St) (H:Hp) (x:V) (xs:List V) (v:Value) (us:List Value) (Q:VK),Inv X pins σ H s->cI x v->bR xs us->r x xs H Q ->
  wpAny (model X.prog X.w) X.A (call (.builtin id) (v::us)) (EP X pins σ Q) X.xe s
section
variable {X:Cx} {a b:Expr} {ta tb:TE} {pos:Pos}
theorem IxR.or{r r':R2}(h:IxR X r)(h':IxR X r'):IxR X (λx y H Q=>r x y H Q\/r' x y H Q):=by
 intro value slice pins s σ H x y v u Q I rx ry q hs
 rcases q with q|q
 . exact h value slice pins s σ H x y v u Q I rx ry q hs
 . exact h' value slice pins s σ H x y v u Q I rx ry q hs
theorem aAQ{r:R2}(hr:IxR X r)(ha:PE X a ta)(hb:PE X b tb)(hs:xG b):PE X (.Subscript a b pos) (tOp r ta tb):=by
 intro pins s σ H Q I h
 exact Subscript_ (aHt ha hb I h λv u s2 x y H2 I2 rx ry q=>hr a b pins s2 σ H2 x y v u Q I2 rx ry q (hs _ _))
def aHE(K:PySem.W.Frag):R2:=λx y H Q=>∃p xs i v,x=.ref p/\y=.int i/\SqL K H p xs/\atI xs i=some v/\Q v H
def aHF(K:PySem.W.Frag):R2:=λx y H Q=>∃p xs i v,x=.ref p/\y=.int i/\SqT K H p xs/\atI xs i=some v/\Q v H
def aHG:R2:=λx y H Q=>∃z i c,x=.str z/\y=.int i/\z.length<=sizeLine/\atI z.cps.toList i=some c/\Q (.str ⟨#[c]⟩) H
theorem qM:IxR X (aHE X.K):=by
 intro value slice pins s σ H x y v u Q I rx ry h hs
 obtain⟨p,xs,i,z,rfl,rfl,hq,he,q⟩:=h
 cases rx
 obtain⟨t,rfl⟩:=ry
 obtain⟨its,r,pl,hz⟩:=I.list hq
 obtain⟨j,h1,h2,h3,h4,h5⟩:=qL he
 obtain⟨w,ew,rw'⟩:=r.get h2
 have hl:=r.length
 have hn:=jG
 have fin:EP X pins σ Q w s:=⟨z,H,I,rw',q⟩
 by_cases h0:0<=i
 . have hj:i.toNat=j:=by
    rw[seqIndex_of h0 h5] at h1
    exact Option.some.inj h1
   exact item_listR pl.isList h0 (by omega) (by rw[hj];simpa using ew) fin hs
 . have hj:(i+(its.toArray.size:Int)).toNat=j:=by
    rw[seqIndex_neg (by omega) h4] at h1
    rw[List.size_toArray,<-hl]
    exact Option.some.inj h1
   exact subscriptTail_builtinR (x:=w) pl.isList.typeIs slot_list_getitem.lookup
    (wpAny_getItem_list_neg (Q:=λr s'=>r=w/\EP X pins σ Q r s') pl.isList (by omega) (by rw[List.size_toArray] <;> omega) (by omega) (by rw[hj];simpa using ew) ⟨rfl,fin⟩) hs
theorem aFr:IxR X (aHF X.K):=by
 intro value slice pins s σ H x y v u Q I rx ry h hs
 obtain⟨p,xs,i,z,rfl,rfl,hq,he,q⟩:=h
 cases rx
 obtain⟨t,rfl⟩:=ry
 obtain⟨its,r,pl,hz⟩:=I.tuple hq
 obtain⟨j,h1,h2,h3,h4,h5⟩:=qL he
 obtain⟨w,ew,rw'⟩:=r.get h2
 have hl:=r.length
 have hn:=jG
 have fin:EP X pins σ Q w s:=⟨z,H,I,rw',q⟩
 exact subscriptTail_builtinR (x:=w) pl.typeIs slot_tuple_getitem.lookup
  (getItem_tuple (j:=j) (Q:=λr s'=>r=w/\EP X pins σ Q r s') pl (by omega) (by omega) (by rw[List.size_toArray,<-hl];exact h1) (by simpa using ew) ⟨rfl,fin⟩) hs
theorem aFs:IxR X aHG:=by
 intro value slice pins s σ H x y v u Q I rx ry h hs
 obtain⟨z,i,c,rfl,rfl,hz,he,q⟩:=h
 obtain⟨t,rfl⟩:=rx
 obtain⟨t',rfl⟩:=ry
 obtain⟨j,h1,h2,h3,h4,h5⟩:=qL he
 have hl:z.cps.toList.length=z.length:=by simp[Str.length]
 rw[hl] at h1 h4 h5
 have hn:=jG
 exact tail_any (typeIs_str s z t) slot_str_getitem.lookup (getItem_str (c:=c) (by
  have e1:decide (i < -(2 ^ 63:Int))=false:=decide_eq_false (by omega)
  have e2:decide (i ≥ 2 ^ 63)=false:=decide_eq_false (by omega)
  rw[e1,e2,Bool.or_false]) (by rw[h1];simpa using h2) ⟨.str ⟨#[c]⟩,H,I.tok _,⟨_,rfl⟩,q⟩) hs
def rIx(K:PySem.W.Frag):R2:=λx y H Q=>aHE K x y H Q\/aHF K x y H Q\/aHG x y H Q
theorem aFt:IxR X (rIx X.K):=qM.or (aFr.or aFs)
theorem vI(its:List Value)(n j:Nat)(u:Value):Obj.mapSeq (·.setIfInBounds j u) { cls:=.type "list",data:=.seq its.toArray n }={ cls:=.type "list",data:=.seq (its.set j u).toArray n }:=by
 simp[Obj.mapSeq]
theorem Inv.lst{pins:List (Addr×Obj)}{σ:St}{H:Hp}{s:Shared}{p:Addr}{xs:List V}(I:Inv X pins σ H s)(h:H p=some (.lst xs)) :
 ∃(its:List Value) (n:Nat),bR xs its/\s.heap.get? p=some { cls:=.type "list",data:=.seq its.toArray n }/\xs.length<=sizeLine:=by
 obtain⟨z,its,n,r,e⟩:=I.hok p _ h
 exact⟨its,n,r,e,z⟩
theorem Inv.lstUpd{pins:List (Addr×Obj)}{σ:St}{H:Hp}{s:Shared}{p:Addr}{xs ys:List V}{its its':List Value}{n n':Nat}{f:Obj->Obj}(I:Inv X pins σ H s)(h:H p=some (.lst xs))
 (ho:s.heap.get? p=some { cls:=.type "list",data:=.seq its.toArray n }) (hf:f { cls:=.type "list",data:=.seq its.toArray n }={ cls:=.type "list",data:=.seq its'.toArray n' }) (r:bR ys its') (hz:ys.length<=sizeLine) (t:Nat) :
 Inv X pins σ (upd H p (.lst ys)) { s with heap:=s.heap.update p f,toks:=t }:=by
 have e:(s.heap.update p f).get? p=some { cls:=.type "list",data:=.seq its'.toArray n' }:=by
  rw[Heap.get?_update_self f ho (by rw[hf] <;> rfl),hf]
 refine I.write (x:=p) (e:=p) (by rw[h];trivial) (.inl rfl) (λb u hb q=>(Heap.get?_update_other _ _ (Ne.symm hb)).trans q) ⟨_,e⟩ ?_
 exact⟨hz,its',n',r,e⟩
def aHH:V->V->V->Hp->(Hp->Prop)->Prop:=λo i v H Q=>∃p xs k j,o=.ref p/\i=.int k/\H p=some (.lst xs)/\ixN xs.length k=some j/\Q (upd H p (.lst (xs.set j v)))
theorem aAR:aFc X aHH:=by
 intro pins s σ H o i v ov iv u Q I ro ri rv h
 obtain⟨p,xs,k,j,rfl,rfl,hp,hj,q⟩:=h
 cases ro
 obtain⟨t,rfl⟩:=ri
 obtain⟨its,n,r,ho,hz⟩:=I.lst hp
 obtain⟨h1,h2,h3,h4⟩:=xF hj
 have hl:=r.length
 have hn:=jG
 have I':Inv X pins σ (upd H p (.lst (xs.set j v))) { s with heap:=s.heap.update p (Obj.mapSeq (·.setIfInBounds j u)) }:=
  I.lstUpd hp ho (vI its n j u) (r.set rv j) (by rw[List.length_set];exact hz) s.toks
 by_cases h0:0<=k
 . have hk:k.toNat=j:=by
    rw[seqIndex_of h0 h4] at h1
    exact Option.some.inj h1
   exact PySem.W.ki_setAt ho h0 (by omega) (by rw[List.size_toArray,<-hl];exact h4) (by rw[hk];exact⟨_,I',q⟩)
 . have hk:(k+(its.toArray.size:Int)).toNat=j:=by
    rw[seqIndex_neg (by omega) h3] at h1
    rw[List.size_toArray,<-hl]
    exact Option.some.inj h1
   exact PySem.W.ki_setBack ho (by omega) (by rw[List.size_toArray,<-hl];exact h3) (by omega) (by rw[hk];exact⟨_,I',q⟩)
theorem qN(lo hi:Option Int)(n:Nat):(sliceBounds lo hi none n).1=((HT.sIx n 0 lo:Nat):Int)/\(sliceBounds lo hi none n).2.1=((HT.sIx n n hi:Nat):Int)/\(sliceBounds lo hi none n).2.2=1:=by
 refine⟨?_,?_,rfl⟩
 . cases lo with
   | none=>simp[sliceBounds,HT.sIx]
   | some i=>
    simp only[sliceBounds,HT.sIx,Option.getD_none,show(1:Int)>0 by decide,if_true]
    by_cases h:i<0
    . simp only[h,if_true] <;> omega
    . simp only[h,if_false] <;> omega
 . cases hi with
   | none=>simp[sliceBounds,HT.sIx]
   | some i=>
    simp only[sliceBounds,HT.sIx,Option.getD_none,show(1:Int)>0 by decide,if_true]
    by_cases h:i<0
    . simp only[h,if_true] <;> omega
    . simp only[h,if_false] <;> omega
theorem oW(its:List Value)(lo hi:Option Int):slicePick its.toArray lo hi none=((its.drop (HT.sIx its.length 0 lo)).take (HT.sIx its.length its.length hi-HT.sIx its.length 0 lo)).toArray:=by
 obtain⟨h1,h2,h3⟩:=qN lo hi its.toArray.size
 unfold slicePick
 rw[h1,h2,h3]
 simp only[sliceRange_one,pick_run,List.size_toArray] <;> rfl
def aAS(K:PySem.W.Frag):V->Option Int->Option Int->Hp->VK->Prop:=λx lo hi H Q=>∃a xs,x=.ref a/\SqL K H a xs/\∀p,H p=none->Q (.ref p) (upd H p (.lst (sN xs lo hi)))
theorem aDi:SlR X (aAS X.K):=by
 intro pins s σ H x v vl vu lo hi sl Q I rx hs pl pu h
 obtain⟨a,xs,rfl,hx,q⟩:=h
 cases rx
 obtain⟨its,r,ht,hz⟩:=I.list hx
 have hlen:=r.length
 refine⟨"list",_,slot_list_getitem.lookup,ht.isList.typeIs,?_⟩
 refine wpAny_getItem_list_slice ht.isList hs pl pu .none (by simp) ?_ (by rw[List.size_toArray] <;> omega)
 rw[oW,<-hlen]
 refine⟨.ref s.heap.objs.size,_,I.laid (t':=s.toks) (o:=.lst (sN xs lo hi)) (λb ob q=>Heap.get?_push_of_some _ q) (Nat.le_refl _) ?_,rfl,q _ (I.hok.fresh (Nat.le_refl _))⟩
 exact⟨Nat.le_trans (lQ xs lo hi) hz,_,0,(r.drop (HT.sIx xs.length 0 lo)).take (HT.sIx xs.length xs.length hi-HT.sIx xs.length 0 lo),Heap.get?_push_size _ rfl⟩
theorem qO:OpR X (compareOp .NotIn) (λx y H Q=>∃i j,x=.str i/\y=.str j/\Q (.bl (!(!(Builtin.Str.occurrences j i 0 j.length 1).isEmpty))) H):=by
 intro pins s σ H x y v u Q I rx ry h
 obtain⟨i,j,rfl,rfl,q⟩:=h
 obtain⟨t,rfl⟩:=rx
 obtain⟨t',rfl⟩:=ry
 exact notIn_str ⟨.bl _,H,I,rfl,q⟩
theorem qP:gC X (.builtin "len") (λxs H Q=>∃p ys,xs=[.ref p]/\(SqL X.K H p ys\/SqT X.K H p ys)/\Q (.int ys.length) H):=by
 intro pins s σ H xs us Q I r h
 obtain⟨p,ys,rfl,hq,q⟩:=h
 obtain⟨u,rfl,rx⟩:=mR r
 cases rx
 have hn:=jG
 rcases hq with hq|hq
 . obtain⟨its,r',pl,hz⟩:=I.list hq
   have hlen:=r'.length
   exact Calls.call_len_list pl.isList (by simp only[List.size_toArray] <;> omega) ⟨.int ys.length,H,I.tok _,⟨s.toks+1,by rw[List.size_toArray,hlen]⟩,q⟩
 . obtain⟨its,r',pl,hz⟩:=I.tuple hq
   have hlen:=r'.length
   exact len_tuple pl (by simp only[List.size_toArray] <;> omega) ⟨.int ys.length,H,I.tok _,⟨s.toks+1,by rw[List.size_toArray,hlen]⟩,q⟩
theorem qQ:gC X (.builtin "len") (λxs H Q=>∃z,xs=[.str z]/\z.length<=sizeLine/\Q (.int z.length) H):=by
 intro pins s σ H xs us Q I r h
 obtain⟨z,rfl,hz,q⟩:=h
 obtain⟨u,rfl,t,rfl⟩:=mR r
 have hn:=jG
 exact len_str (by omega) ⟨.int z.length,H,I.tok _,⟨_,rfl⟩,q⟩
theorem gC.or{f:Value}{r r':List V->Hp->VK->Prop}(h:gC X f r)(h':gC X f r'):gC X f (λxs H Q=>r xs H Q\/r' xs H Q):=by
 intro pins s σ H xs us Q I rs q
 rcases q with q|q
 . exact h pins s σ H xs us Q I rs q
 . exact h' pins s σ H xs us Q I rs q
theorem qR:gC X (.type "list") (λxs H Q=>∃p ys,xs=[.ref p]/\(SqL X.K H p ys\/SqT X.K H p ys)/\∀l,H l=none->Q (.ref l) (upd H l (.lst ys))):=by
 intro pins s σ H xs us Q I r h
 obtain⟨p,ys,rfl,hq,q⟩:=h
 obtain⟨u,rfl,rx⟩:=mR r
 cases rx
 have fin:∀(its:List Value),bR ys its->ys.length<=sizeLine->∀(h':Heap) (c':Nat),(∀b o',s.heap.get? b=some o'->h'.get? b=some o') ->
  h'.get? s.heap.objs.size=some { cls:=.type "list",dict:=none,data:=.seq its.toArray c',slots:=#[] }->EP X pins σ Q (.ref s.heap.objs.size) { s with heap:=h' }:=λits r' hz h' c' kp e=>
  ⟨.ref s.heap.objs.size,_,I.laid (t':=s.toks) kp (Nat.le_refl _) (show eM X.prog X.w _ h' _ (.lst ys) from⟨hz,its,c',r',e⟩),rfl,q _ (I.hok.fresh (Nat.le_refl _))⟩
 rcases hq with hq|hq
 . obtain⟨its,r',pl,hz⟩:=I.list hq
   have hlen:=r'.length
   obtain⟨o,ho,hc,n,hd⟩:=pl.isList
   exact call_list_seq p (.inl rfl) ho hc hd (λh' c' kp e=>fin its r' hz h' c' kp e) (by simp only[List.size_toArray] <;> omega)
 . obtain⟨its,r',pl,hz⟩:=I.tuple hq
   have hlen:=r'.length
   obtain⟨o,ho,hc,n,hd⟩:=pl
   exact call_list_seq p (.inr rfl) ho hc hd (λh' c' kp e=>fin its r' hz h' c' kp e) (by simp only[List.size_toArray] <;> omega)
theorem oX:gC X (.type "tuple") (λxs H Q=>∃p ys,xs=[.ref p]/\((SqL X.K H p ys/\∀l,H l=none->Q (.ref l) (upd H l (.tup ys)))\/(SqT X.K H p ys/\Q (.ref p) H))):=by
 intro pins s σ H xs us Q I r h
 obtain⟨p,ys,rfl,h⟩:=h
 obtain⟨u,rfl,rx⟩:=mR r
 cases rx
 rcases h with⟨hq,q⟩|⟨hq,q⟩
 . obtain⟨its,r',pl,hz⟩:=I.list hq
   have hlen:=r'.length
   refine call_tuple_list pl.isList (λh' kp=>?_) (by simp only[List.size_toArray] <;> omega)
   have I1:Inv X pins σ H { s with heap:=h' }:=I.kept (t':=s.toks) kp
   have I2:Inv X pins σ (upd H h'.objs.size (.tup ys)) { s with heap:=h'.push { cls:=.type "tuple",data:=.seq its.toArray } }:=
    I1.laid (t':=s.toks) (λb o e=>Heap.get?_push_of_some _ e) (Nat.le_refl _) (show eM X.prog X.w _ _ _ (.tup ys) from⟨hz,its,r',IsTup.new _ _⟩)
   exact⟨.ref h'.objs.size,_,I2,rfl,q _ (I1.hok.fresh (Nat.le_refl _))⟩
 . obtain⟨its,r',pl,hz⟩:=I.tuple hq
   exact call_tuple_same pl ⟨.ref p,H,I,rfl,q⟩
def tyV(K:PySem.W.Frag)(T:String)(x:V)(H:Hp):Prop:=match x with
 | .str _=>T = "str"
 | .int _=>T = "int"
 | .ref p=>(T = "list" /\ ∃xs,SqL K H p xs)\/(T = "tuple" /\ ∃o,K.lookup p=some o/\o.cls=.type "tuple" /\ o.dict=none) \/
  (T = "dict" /\ ((∃kvs,H p=some (.dK kvs))\/∃kvs,H p=some (.dT kvs)))\/(T = "set" /\ ∃S n,H p=some (.set S n))
 | _=>False
theorem aAT{pins:List (Addr×Obj)}{σ:St}{H:Hp}{s:Shared}{T:String}{x:V}{v:Value}(I:Inv X pins σ H s)(r:cI x v)(ty:tyV X.K T x H) :
 s.TypeIs v T/\∀a,v=.ref a->∃ob,s.heap.get? a=some ob/\ob.dict=none:=by
 cases x with
 | str z=>
  obtain⟨t,rfl⟩:=r
  cases(show T = "str" from ty)
  exact⟨typeIs_str s z t,λ_ e=>nomatch e⟩
 | int i=>
  obtain⟨t,rfl⟩:=r
  cases(show T = "int" from ty)
  exact⟨typeIs_int s i t,λ_ e=>nomatch e⟩
 | ref p=>
  cases r
  rcases ty with⟨rfl,xs,hq⟩|⟨rfl,o,hk,hc,hd⟩|⟨rfl,hk⟩|⟨rfl,S,n,hk⟩
  . obtain⟨its,_,pl,_⟩:=I.list hq
    refine⟨pl.isList.typeIs,λa e=>?_⟩
    cases e
    obtain⟨o,n,e,c,hd,_⟩:=pl
    exact⟨o,e,hd⟩
  . refine⟨⟨o,I.kIn p o hk,hc⟩,λa e=>?_⟩
    cases e
    exact⟨o,I.kIn _ o hk,hd⟩
  . have z:∃o,s.heap.get? p=some o/\o.ExactDict:=by
     rcases hk with⟨kvs,hk⟩|⟨kvs,hk⟩
     . obtain⟨_,_,_,_,o,_,_,e,ex,_⟩:=I.hok p _ hk
       exact⟨o,e,ex⟩
     . obtain⟨_,_,_,_,o,_,_,e,ex,_⟩:=I.hok p _ hk
       exact⟨o,e,ex⟩
    obtain⟨o,e,ex⟩:=z
    refine⟨⟨o,e,ex.1⟩,λa e2=>?_⟩
    cases e2
    exact⟨o,e,ex.2.1⟩
  . obtain⟨o,_,_,_,e,ex,_⟩:=I.hok p _ hk
    refine⟨⟨o,e,ex.1⟩,λa e2=>?_⟩
    cases e2
    exact⟨o,e,ex.2.1⟩
 | _=>exact False.elim ty
def aKn(K:PySem.W.Frag)(T:String)(r:V->List V->Hp->VK->Prop)(to:TE):TE:=λσ H Q=>to σ H λx H1=>tyV K T x H1/\r x [] H1 Q
def tBM(K:PySem.W.Frag)(T:String)(r:V->List V->Hp->VK->Prop)(to:TE)(t:TA):TE:=λσ H Q=>to σ H λx H1=>tyV K T x H1/\t σ H1 λxs H2=>r x xs H2 Q
variable {o e:Expr} {es:List Expr} {to:TE} {t:TA} {name:Str} {apos cpos:Pos} {T id:String} {r:V->List V->Hp->VK->Prop}
theorem aFu(pa:PlainAttrs T)(slot:Slot T name id)(hty:typeOf (.builtin id)=pure (.type "method_descriptor"))(hm:MtR X id r)(ho:PE X o to)
 (hbase:attributeBase o name X.env (eval o X.env)=eval o X.env:=by rfl) (hline:(apos.endLine==cpos.line)=true:=by rfl):PE X (.Call (.Attribute o name apos) [] [] cpos) (aKn X.K T r to):=by
 intro pins s σ H Q I h
 refine wpAny_Call_method0_late hbase hline (thn (ho pins s σ H _ I h) λv s1 ⟨x,H1,I1,r1,ty,q1⟩=>?_)
 obtain⟨h1,h2⟩:=aAT I1 r1 ty
 exact⟨T,id,pa,slot,hty,h1,h2,Calls.callWith_builtin rfl (PySem.evalArgs_none (hm pins s1 σ H1 x [] v [] Q I1 r1 .nil q1))⟩
theorem xH(pa:PlainAttrs T)(slot:Slot T name id)(hty:typeOf (.builtin id)=pure (.type "method_descriptor"))(hm:MtR X id r)(ho:PE X o to)(ha:PA X (e::es) t)
 (hbase:attributeBase o name X.env (eval o X.env)=eval o X.env:=by rfl)
 (hfew:((backTo cpos (starEach (e::es) X.env)).all (λx=>!x.1)&&(backToKw cpos (keywordEach [] X.env)).all (λx=>x.1.isSome)
  && decide ((e::es).length+([]:List Keyword).length+(if ([]:List Keyword).isEmpty then 0 else 1)<30))=true:=by rfl)
 (hline:(apos.endLine==cpos.line)=true:=by rfl) (hs:starEach (e::es) X.env=(false,eval e X.env)::starEach es X.env:=by rfl) (hplain:(backTo cpos (starEach es X.env)).any (·.1)=false:=by rfl) :
 PE X (.Call (.Attribute o name apos) (e::es) [] cpos) (tBM X.K T r to t):=by
 intro pins s σ H Q I h
 refine wpAny_Call_method_late hbase hfew hline rfl (thn (ho pins s σ H _ I h) λv s1 ⟨x,H1,I1,r1,ty,q1⟩=>?_)
 obtain⟨h1,h2⟩:=aAT I1 r1 ty
 refine⟨T,id,pa,slot,hty,h1,h2,?_⟩
 have hA:=ha cpos pins s1 σ H1 _ I1 q1
 rw[hs] at hA ⊢
 refine Calls.callWith_builtin (by show(false||(backTo cpos (starEach es X.env)).any (·.1))=false;rw[hplain] <;> rfl) (Calls.evalArgs_plain ?_)
 exact thn hA λus s2 ⟨vs,H2,I2,r2,q2⟩=>hm pins s2 σ H2 x vs v us Q I2 r1 r2 q2
end
end L2
namespace L2
open PySem PySem.Spec PyProof.Rows
def MtM(X:Cx)(id:String)(r:V->List V->Hp->VK->Prop):Prop:=
 ∀(pins:List (Addr×Obj)) (s:Shared) (σ:St) (H:Hp) (x:V) (xs:List V) (v:Value) (us:List Value) (Q:VK),Inv X pins σ H s->cI x v->bR xs us->r x xs H Q ->
  wpAny (model X.prog X.w) X.A (call (.builtin id) (v::us)) (EP X pins σ Q) X.xe s
theorem bR.one:∀{x:V} {us:List Value},bR [x] us->∃u,us=[u]/\cI x u:=by
 intro x us h
 cases h with|cons r t=>cases t;exact⟨_,rfl,r⟩
theorem bR.zero:∀{us:List Value},bR [] us->us=[]
 | _,.nil=>rfl
theorem bR.eraseIdx:∀{xs:List V} {us:List Value} (i:Nat),bR xs us->bR (xs.eraseIdx i) (us.eraseIdx i)
 | _,_,_,.nil=>.nil
 | _,_,0,.cons _ t=>t
 | _,_,i+1,.cons r t=>.cons r (bR.eraseIdx i t)
theorem bR.reverse{xs:List V}{us:List Value}(h:bR xs us):bR xs.reverse us.reverse:=by
 induction h with
 | nil=>exact .nil
 | cons r t ih=>rw[List.reverse_cons,List.reverse_cons];exact bR.append ih (.cons r .nil)
theorem bR.rep{xs:List V}{us:List Value}(h:bR xs us):∀k:Nat,bR (List.replicate k xs).flatten (List.replicate k us).flatten
 | 0=>.nil
 | k+1=>by
  rw[List.replicate_succ,List.replicate_succ,List.flatten_cons,List.flatten_cons]
  exact bR.append h (bR.rep h k)
theorem kR(its:List Value):∀(k:Nat) (acc:List Value),
 List.foldl (λx1 x2=>x1++x2) acc.toArray (List.replicate k its.toArray)=(acc++(List.replicate k its).flatten).toArray
 | 0,acc=>by simp
 | k+1,acc=>by
  have e:acc.toArray++its.toArray=(acc++its).toArray:=by simp
  have e2:(acc++its)++(List.replicate k its).flatten=acc++(List.replicate (k+1) its).flatten:=by
   rw[List.replicate_succ,List.flatten_cons,List.append_assoc]
  rw[<-e2,<-kR its k (acc++its),<-e,List.replicate_succ,List.foldl_cons]
section
variable {X:Cx} {pins:List (Addr×Obj)} {σ:St} {H:Hp} {s:Shared} {l b:Addr} {xs ys zs:List V}
theorem Inv.lset{its its':List Value}{n:Nat}{f:Array Value->Array Value}{t':Nat}(I:Inv X pins σ H s)(hH:H l=some (.lst xs))
 (e:s.heap.get? l=some { cls:=.type "list",data:=.seq its.toArray n }) (hf:f its.toArray=its'.toArray) (hv:bR ys its') (hz:ys.length<=sizeLine) :
 Inv X pins σ (upd H l (.lst ys)) { s with heap:=s.heap.update l (Obj.mapSeq f),toks:=t' }:=by
 have q:=PySem.IsL.update e f
 rw[hf] at q
 refine I.write (x:=l) (e:=l) (by rw[hH];exact trivial) (.inl rfl) (λb' u hb hu=>(Heap.get?_update_other s.heap (Obj.mapSeq f) (Ne.symm hb)).trans hu) ⟨_,q⟩ ?_
 exact⟨hz,its',_,hv,q⟩
theorem Inv.lnew{its:List Value}{t':Nat}(I:Inv X pins σ H s)(hv:bR ys its)(hz:ys.length<=sizeLine) :
 Inv X pins σ (upd H s.heap.objs.size (.lst ys)) { s with heap:=s.heap.push { cls:=.type "list",data:=.seq its.toArray },toks:=t' }:=
 I.laid (λ_ _ q=>Heap.get?_push_of_some _ q) (Nat.le_refl _) ⟨hz,its,0,hv,Heap.get?_push_size _ rfl⟩
theorem Inv.fresh(I:Inv X pins σ H s):H s.heap.objs.size=none:=I.hok.fresh (Nat.le_refl _)
theorem Inv.lstM(I:Inv X pins σ H s)(hH:H l=some (.lst xs)):xs.length<=sizeLine/\∃(its:List Value) (n:Nat),bR xs its/\xs.length=its.length/\s.heap.get? l=some { cls:=.type "list",data:=.seq its.toArray n }:=by
 obtain⟨z,its,n,r,e⟩:=I.hok l _ hH
 exact⟨z,its,n,r,r.length,e⟩
theorem sO{n:Nat}(h:n<=sizeLine):Builtin.List.listTooLong n=false:=by
 unfold Builtin.List.listTooLong
 exact decide_eq_false (by omega)
end
section
variable {X:Cx}
def aDj:V->List V->Hp->VK->Prop:=λx vs H Q=>∃l xs y,x=.ref l/\vs=[y]/\H l=some (.lst xs)/\xs.length<sizeLine/\Q .non (upd H l (.lst (xs++[y])))
theorem pK:MtM X "list.append" aDj:=by
 intro pins s σ H x vs v us Q I rx rv h
 obtain⟨l,xs,y,rfl,rfl,hH,hz,q⟩:=h
 cases rx
 obtain⟨u,rfl,ru⟩:=rv.one
 obtain⟨z,its,n,r,hl,e⟩:=I.lstM hH
 refine call_meets F.slot_list_append ⟨_,e,rfl⟩ F.entry_list_append (F.args_list_append_2 _ _) (PySem.list_append l its.toArray n u (by rw[List.size_toArray];omega)) ⟨e,?_⟩
 refine⟨.non,_,I.lset (its':=its++[u]) hH e (by simp) (r.append (.cons ru .nil)) ?_,rfl,q⟩
 rw[List.length_append,List.length_singleton]
 omega
def aDk:V->List V->Hp->VK->Prop:=λx vs H Q=>∃l b xs zs,x=.ref l/\vs=[.ref b]/\H l=some (.lst xs)/\H b=some (.lst zs)/\xs.length+zs.length<=sizeLine/\Q .non (upd H l (.lst (xs++zs)))
theorem zG:MtM X "list.extend" aDk:=by
 intro pins s σ H x vs v us Q I rx rv h
 obtain⟨l,b,xs,zs,rfl,rfl,hH,hB,hz,q⟩:=h
 cases rx
 obtain⟨u,rfl,ru⟩:=rv.one
 cases ru
 obtain⟨z,its,n,r,hl,e⟩:=I.lstM hH
 obtain⟨z2,its2,n2,r2,hl2,e2⟩:=I.lstM hB
 have hsz:its.toArray.size+its2.toArray.size<=sizeLine:=by rw[List.size_toArray,List.size_toArray];omega
 have hlong:¬ (!its.toArray.isEmpty&&Builtin.List.listTooLong (its.toArray.size+its2.toArray.size))=true:=by
  rw[sO hsz,Bool.and_false]
  exact Bool.false_ne_true
 refine call_meets F.slot_list_extend ⟨_,e,rfl⟩ F.entry_list_extend (F.args_list_extend_2 _ _)
  (AutoSeq1.list_extend_list_list_0 l its.toArray n b its2.toArray n2 hlong (by rw[List.size_toArray];omega) (by omega)) ⟨e,e2,?_⟩
 refine⟨.non,_,I.lset (its':=its++its2) hH e (by simp) (r.append r2) ?_,rfl,q⟩
 rw[List.length_append]
 omega
def aFv:V->List V->Hp->VK->Prop:=λx vs H Q=>∃l xs,x=.ref l/\vs=[]/\H l=some (.lst xs)/\Q .non (upd H l (.lst []))
theorem aAU:MtM X "list.clear" aFv:=by
 intro pins s σ H x vs v us Q I rx rv h
 obtain⟨l,xs,rfl,rfl,hH,q⟩:=h
 cases rx
 have hus:=rv.zero
 subst hus
 obtain⟨z,its,n,r,hl,e⟩:=I.lstM hH
 refine call_meets F.slot_list_clear ⟨_,e,rfl⟩ F.entry_list_clear (F.args_list_clear_1 _) (AutoSeq1.list_clear_list_0 l its.toArray n (by rw[List.size_toArray];omega)) ⟨e,?_⟩
 exact⟨.non,_,I.lset (its':=[]) (ys:=[]) hH e rfl .nil (Nat.zero_le _),rfl,q⟩
def aKo:R2:=λx y H Q=>∃l k xs,x=.ref l/\y=.int k/\H l=some (.lst xs)/\-(2 ^ 63)<=k/\k<2 ^ 63/\xs.length*k.toNat<=sizeLine /\
 ∀p,H p=none->Q (.ref p) (upd H p (.lst (List.replicate k.toNat xs).flatten))
theorem qS{α:Type}(xs:List α)(k:Nat):(List.replicate k xs).flatten.length=k*xs.length:=by
 induction k with
 | zero=>simp
 | succ k ih=>rw[List.replicate_succ,List.flatten_cons,List.length_append,ih,Nat.succ_mul,Nat.add_comm]
theorem aFw:OpR X (binaryOp .Mult) aKo:=by
 intro pins s σ H x y v u Q I rx ry h
 obtain⟨l,k,xs,rfl,rfl,hH,h1,h2,hz,q⟩:=h
 cases rx
 obtain⟨t,rfl⟩:=ry
 obtain⟨z,its,n,r,hl,e⟩:=I.lstM hH
 have hlen:its.toArray.size*k.toNat<=sizeLine:=by rw[List.size_toArray,<-hl];exact hz
 have hcap:¬ its.toArray.size*k.toNat>(2 ^ 63-1) / 8:=by
  have:(sizeLine:Nat)<=(2 ^ 63-1) / 8:=by decide
  omega
 have hfit:¬ (!Builtin.List.listFitsIndex k)=true:=by
  rw[fitsIndex_both h1 h2]
  exact Bool.false_ne_true
 have hlong:¬ Builtin.List.listTooLong (its.toArray.size*k.toNat)=true:=by
  rw[sO hlen]
  exact Bool.false_ne_true
 have hnew:List.foldl (λx1 x2=>x1++x2) #[] (List.replicate (if its.toArray.isEmpty=true then 0 else k.toNat) its.toArray)=(List.replicate k.toNat its).flatten.toArray:=by
  have f0:∀m:Nat,List.foldl (λx1 x2=>x1++x2) #[] (List.replicate m its.toArray)=(List.replicate m its).flatten.toArray:=λm=>by
   have:=kR its m []
   rw[List.nil_append] at this
   exact this
  rw[f0]
  cases its with
  | nil=>simp
  | cons a r'=>rw[if_neg (by simp)]
 refine wpAny_binaryOp_repeat_ref (T:= "list") (U:= "int") (by decide) ⟨_,e,rfl⟩ (λs'=>typeIs_int s' k t) noFill_list_mul F.fills_int_mul F.slot_int_rmul repeat_list F.slot_int_index.lookup
  (call_meets F.slot_int_rmul (typeIs_int s k t) F.entry_int_rmul (F.args_int_rmul_2 _ _) (int___rmul___int_list k t l its.toArray n)
   ⟨e,rfl,⟨_,e,rfl⟩,call_meets F.slot_list_mul ⟨_,e,rfl⟩ F.entry_list_mul (F.args_list_mul_2 _ _) (AutoListH.list___mul___list_int_3 l its.toArray n k t hfit hcap hlong) ⟨e,?_⟩⟩)
 rw[hnew]
 exact⟨.ref _,_,I.lnew (t':=s.toks) (r.rep k.toNat) (by rw[qS,Nat.mul_comm];exact hz),rfl,q _ I.fresh⟩
end
section
variable {prog:Program} {w:World} {A:Around} {E:Value->Shared->Prop} {s:Shared}
end
section
variable {X:Cx}
end
end L2
namespace Att
open PySem PySem.W PySem.Calls PyProof.Rows
theorem lY{P:Params}{h:Heap}:∀(ns:List Int) (vs:List Value),WellAll P h vs (ns.map WData.int)->IntsAre vs ns:=by
 intro ns
 induction ns with
 | nil=>
  intro vs w
  rw[List.map_nil] at w
  cases w
  exact .nil
 | cons n ns ih=>
  intro vs w
  rw[List.map_cons] at w
  cases w with
  | cons a b=>
   cases a
   exact .cons _ _ (ih _ b)
theorem zH{l:OpenLaw}{n:Nat}(hn:l.most=some n){P:Params}{h:Heap}{args:List WData}{vals:List Value}
 (hpre:l.row.toRowW.claim.pre args=true) (hwl:WellAll P h vals args) :
 ∃a vs ns,vals=[Value.ref a]/\args=[WData.list (ns.map WData.int)]/\h.get? a=some { cls:=.type "list",data:=.seq vs.toArray }/\IntsAre vs ns/\ns.length<=n:=by
 have hsh:WShape.hasAll [] args [.list .int]=true:=(pre_splitW hpre).1
 have hc:l.pre.holds [] { args:=args }=true:=(pre_splitW hpre).2
 obtain⟨d,r,rfl,h1,h2⟩:=hasAllW_cons hsh
 obtain rfl:=hasAllW_nil h2
 obtain⟨xs,rfl,h3⟩:=hasW_list h1
 obtain⟨ns,rfl⟩:=items_int h3
 have hlen:ns.length<=n:=by
  unfold OpenLaw.pre at hc
  have h4:(WTm.not (.lt (.lit (.int (n:Int))) (.len (.arg 0)))).holds [] { args:=[.list (ns.map .int)] }=true:=by
   have h4:=(holds_andW hc).1
   rw[hn] at h4
   exact h4
  have h5:=condW_of h4 (w_not (w_lt w_lit (w_len_list (w_arg rfl))))
  rw[List.length_map] at h5
  refine Nat.le_of_not_lt λq=>?_
  have q':(n:Int)<((ns.length:Nat):Int):=by omega
  first
   | (rw[decide_eq_true q'] at h5;exact absurd h5 (by decide))
   | (simp at h5;omega)
 cases hwl with
 | cons w1 w2=>
  cases w2
  cases w1 with
  | list ho hall=>exact⟨_,_,ns,rfl,rfl,ho,lY ns _ hall,hlen⟩
theorem zI(l:OpenLaw)(args:List WData):l.row.toRowW.claim.post args (.bool true) args=true:=
 postW_of (r:=l.row.toRowW) (X:=(true==true))
  (show WShape.has [] (.bool true) .bool=true by first|rfl|decide|simp[WShape.has,WShape.arms,WShape.armsAll])
  (show(WTm.eq .res (.lit (.bool true))).value [] { args:=args,res:=some (.bool true),after:=args }=some (.bool (true==true)) from w_eq_bool (w_res rfl) w_lit) rfl
theorem attach_call{l:OpenLaw}{n:Nat}{q:Program}{loose:List Str}{XP:(Str->Option Value)->Heap->Prop}{YP:World->Heap->Prop}{d:DefRec}
 (hn:l.most=some n) (hdf:d.params.defaults=[])
 (call:∀(w:World) (s₀ s₁:Shared) (mg mb:Str->Option Value) (fa:Addr) (o:Obj) (pm cd doc:Value) (a:Addr) (vs:List Value) (ns:List Int),
  Ground q loose [] XP w s₀ mg mb s₁.heap->YP w s₁.heap ->
  s₁.heap.get? fa=some o->o.data=.func (docDef d.name d.params d.body d.scope pm cd doc)->s₁.heap.CodeRec cd d.name->mg d.name=some (.ref fa) ->
  s₁.heap.get? a=some { cls:=.type "list",data:=.seq vs.toArray }->IntsAre vs ns->ns.length<=n->s₁.gens=#[] ->
  codeAny (model l.prog w) callerA (.call (.ref fa) ⟨[.ref a],[]⟩) (λr s'=>r=.ok (.ret (.bool true))/\OldK s₁.heap s'.heap/\s'.os=s₁.os/\AllBare s'.gens) s₁) :
 WalkO q loose XP YP l.row.toRowW d [] (λf vs=>PySem.call f vs):=by
 intro w s₀ s₁ mg mb G Y fa o pm cd doc dV kV ho hd hcd hD hmg hg args vals as hpre hlay hrd hwl hlo
 obtain rfl:dV=.none:=Dflts.none hD hdf
 obtain rfl:kV=.none:=Dflts.noKw hD
 obtain⟨a,vs,ns,rfl,rfl,hobj,hints,hlen⟩:=zH hn hpre hwl
 refine enter_call (codeAny_mono (call w s₀ s₁ mg mb fa o pm cd doc a vs ns G Y ho (fd_plain hd) hcd hmg hobj hints hlen hg) λr s' hq=>?_)
 obtain⟨rfl,h2,h3,h4⟩:=hq
 exact⟨.inl ⟨.bool true,.bool true,[],rfl,λ_=>rfl,.bool true,zI l _,λ_=>⟨List.Pairwise.nil,λ_ hm=>(nomatch hm)⟩⟩,h2,h3,h4⟩
section
variable {prog:Program} {w:World} {A:Around} {E:Value->Shared->Prop} {s:Shared} {K:Frag}
end
end Att
namespace L2
open PySem PySem.Spec PyProof.Rows
theorem pL:∀{vs:List Value} {ns:List Int},IntsAre vs ns->bR (ns.map V.int) vs
 | _,_,.nil=>.nil
 | _,_,.cons n t h=>.cons ⟨t,rfl⟩ (pL h)
def aDl(H:Hp):Prop:=∀b,H b=none\/∃o xs,H b=some (.frz o (.lst xs))
theorem aAV{P:Program}{w:World}{K:PySem.W.Frag}{mg mb:Str->Option Value}{CX:CXT}{k:Nat}{fa a:Addr}{fd:FuncData}{x:Str}{sp:Sp}{s₁:Shared}{vs:List Value}{ns:List Int}
 (KX:K.In s₁.heap) (hns:s₁.heap.Ns mainGlobals mg) (hb:s₁.heap.Ns builtinsNs mb) (hbb:∀x:Str,x ≠ "__name__" -> mb x=bootBuiltins x) (hlim:s₁.heap.NoLimit) (hg:s₁.gens=#[])
 (ha:s₁.heap.get? a=some { cls:=.type "list",data:=.seq vs.toArray }) (hi:IntsAre vs ns) (hl:ns.length<=sizeLine) (hr:jH k callerA)
 (F:∀base:Heap,K.In base->base.Ns mainGlobals mg->lX P w K mg base CX k fa fd [x] sp) (hbind:∀(s:Shared) (u:Value),BindsTo s fd ⟨[u],[]⟩ [(x,u)])
 (hsp:∀H:Hp,aDl H->SqL K H a (ns.map V.int)->sp [.ref a] H (λv _=>v=.bl true) λ_ _ _=>False)
 (hCX:∀H e s',CX [] H s₁ (λ_ _ _=>False) e s'->False) :
 codeAny (model P w) callerA (.call (.ref fa) ⟨[.ref a],[]⟩) (λr s'=>r=.ok (.ret (.bool true))/\OldK s₁.heap s'.heap/\s'.os=s₁.os/\AllBare s'.gens) s₁:=by
 have rv:=pL hi
 have lenV:=hi.length
 have core:∀H:Hp,aDl H->SqL K H a (ns.map V.int)->HOk P w H s₁.heap->(∀b,H b≠none->b=a)->(H a≠none->K.lookup a=none) ->
  codeAny (model P w) callerA (.call (.ref fa) ⟨[.ref a],[]⟩) (λr s'=>r=.ok (.ret (.bool true))/\OldK s₁.heap s'.heap/\s'.os=s₁.os/\AllBare s'.gens) s₁:=by
  intro H hO hS hok hA hK
  have base_of:∀{b:Addr} {o:Obj},s₁.heap.get? b=some o->H b=none->(qH s₁.heap H).get? b=some o:=λe n=>aAv e n
  have noA:∀{b:Addr} {o:Obj} {es:Array DictEntry} {ep:Nat},s₁.heap.get? b=some o->o.data=.dict es ep->H b=none:=λ{b o es ep} e d=>by
   cases q:H b with
   | none=>rfl
   | some u=>
    have e':b=a:=hA b (by rw[q];simp)
    subst e'
    rw[ha] at e;cases e
    have d':Data.seq vs.toArray _=Data.dict es ep:=d
    cases d'
  have nsK:∀{b:Addr} {m:Str->Option Value},s₁.heap.Ns b m->(qH s₁.heap H).Ns b m:=λ{b m} ⟨o,es,ep,e,d,r⟩=>⟨o,es,ep,base_of e (noA e d),d,r⟩
  have hKb:K.In (qH s₁.heap H):=λb o e=>base_of (KX b o e) (by
   cases q:H b with
   | none=>rfl
   | some u=>
    have e':b=a:=hA b (by rw[q];simp)
    subst e'
    rw[hK (by rw[q];simp)] at e;cases e)
  have hM:Mod K mg (qH s₁.heap H):=⟨hKb,nsK hns,⟨mb,nsK hb,hbb⟩,let ⟨mc,h1,h2⟩:=hlim;⟨mc,nsK h1,h2⟩⟩
  have e0:aDd P w K mg (qH s₁.heap H) callerA [] s₁ H:=⟨rfl,hM,λb o e=>aCQ e,Nat.le_of_eq (yY _ _),trivial,λb hb=>absurd (show b∈([]:List Addr) from hb) (by simp),hok,.of_eq hg⟩
  refine codeAny_mono ((F _ hKb (nsK hns)).run callerA [] s₁ H ⟨[.ref a],[]⟩ [.ref a] [.ref a] _ _ hr e0 (hbind s₁ (.ref a)) (.cons rfl .nil) (hsp H hO hS)) λr s' h=>?_
  cases r with
  | error e=>exact(hCX H e s' h).elim
  | ok fl=>
   cases fl with
   | next=>exact False.elim h
   | brk=>exact False.elim h
   | cont=>exact False.elim h
   | ret u=>
    obtain⟨v,H',os,bare,un,hok',r',q⟩:=h
    have q':v=.bl true:=q
    subst q'
    obtain rfl:u=Value.bool true:=r'
    refine⟨rfl,OldK.of_keep λb o e=>?_,os,bare⟩
    cases q:H b with
    | none=>exact un.keep b o e q (by intro z;exact absurd (show b∈([]:List Addr) from z) (by simp)) (by simp)
    | some u=>
     rcases hO b with z|⟨ob,xs,z⟩
     . rw[q] at z;cases z
     . have z2:=un.frzs b ob _ z
       obtain⟨e1,_⟩:=hok b _ z
       obtain⟨e2,_⟩:=hok' b _ z2
       rw[e] at e1;cases e1
       exact e2
 cases hk:K.lookup a with
 | some o=>
  have e:=KX a o hk
  rw[ha] at e
  cases e
  refine core (λ_=>none) (λ_=>.inl rfl) (.inr ⟨_,vs.toArray,_,hk,rfl,rfl,rfl,by rw[List.size_toArray,lenV];exact hl,by simpa using rv⟩) (λb u z=>by have z':(none:Option HO)=some u:=z;cases z') (λb z=>absurd rfl z) λz=>absurd rfl z
 | none=>
  refine core (λb=>if b=a then some (.frz { cls:=.type "list",data:=.seq vs.toArray } (.lst (ns.map V.int))) else none) (λb=>?_) (.inl (.inr ⟨{ cls:=.type "list",data:=.seq vs.toArray },if_pos rfl⟩)) (λb u z=>?_) (λb z=>?_) λ_=>hk
  . by_cases hb:b=a
    . exact .inr ⟨_,_,if_pos hb⟩
    . exact .inl (if_neg hb)
  . by_cases hb:b=a
    . have z':=(if_pos hb).symm.trans z
      cases z'
      subst hb
      exact⟨ha,by rw[List.length_map];exact hl,vs,_,rv,ha⟩
    . have z':=(if_neg hb).symm.trans z
      cases z'
  . by_cases hb:b=a
    . exact hb
    . exact absurd (if_neg hb) z
end L2
namespace L2
open PySem PySem.Spec PyProof.Rows
end L2
namespace L2
open PySem PySem.Spec PyProof.Rows
def iL(s:Stmt):Arguments:=match s with
 | .FunctionDef _ a _ _ _ _ _ _ _ _=>a
 | _=>{ posonlyargs:=[],args:=[],vararg:=none,kwonlyargs:=[],kw_defaults:=[],kwarg:=none,defaults:=[] }
def iM(s:Stmt):List Stmt:=match s with
 | .FunctionDef _ _ b _ _ _ _ _ _ _=>b
 | _=>[]
def cJ(s:Stmt):Scope:=match s with
 | .FunctionDef _ _ _ _ _ _ sc _ _ _=>sc
 | _=>{ kind:=.function,names:=[],isGenerator:=false,isCoroutine:=false }
abbrev CX0:CXT:=λ_ _ _ _ _ _=>False
abbrev E0:XK:=λ_ _ _=>False
theorem aAW{X:Cx}:qK CX0 X E0:=λ_ _ _ _ _ _ _ h=>h.elim
structure Fun (K:PySem.W.Frag) (x qual:Str) (st:Stmt) (f:Addr) (fd:FuncData):Prop where
 ex:∃(oc:Value) (od:Option Addr) (kV doc pm:Value) (an:Option Addr) (cdv ct:Value) (osl:Array (Option Value)),
  fd=PySem.W.fnOf x qual (iL st) (iM st) (cJ st) .none kV doc pm an cdv ct/\K.lookup f=some ⟨oc,od,.func fd,osl⟩/\PySem.W.codeIn K cdv qual=true
 kp:PySem.W.keepIn K (.ref f)=true
section
variable {P:Program} {w:World} {K:PySem.W.Frag} {mg:Str->Option Value} {base:Heap}
theorem Fun.ok{x qual:Str}{st:Stmt}{f:Addr}{fd:FuncData}{N ps:List Str}{k:Nat}{sp:Sp}(F:Fun K x qual st f fd)(S:mF N ps (cJ st))(len:∀vs H Q E,sp vs H Q E->vs.length=ps.length)
 (hbody:∀(cdv:Value) (A:Around) (outer:List Env) (s:Shared) (H:Hp) (vs:List V) (Q:VK) (E:XK),jH k (A.deeper (envOfC qual (cJ st) s.heap.objs.size f cdv))->sp vs H Q E ->
  ∃t,PSs (vF CX0 P w K mg base N qual (cJ st) f cdv A outer s H E).nox (iM st) t/\t { nx:=λ_ H'=>Q .non H',rt:=Q } (start N vs) H):lX P w K mg base CX0 (k+1) f fd ps sp:=by
 obtain⟨oc,od,kV,doc,pm,an,cdv,ct,osl,rfl,lk,hcd⟩:=F.ex
 refine aHB lk hcd S len λA outer s H vs Q E hr hsp=>?_
 obtain⟨t,h,q⟩:=hbody cdv A outer s H vs Q E hr hsp
 exact⟨t,h.nox,q⟩
theorem Fun.binds{x qual:Str}{st:Stmt}{f:Addr}{fd:FuncData}{ps:List Str}(F:Fun K x qual st f fd)
 (h:∀(kV doc pm:Value) (an:Option Addr) (cdv ct:Value) (us:List Value),us.length=ps.length->bindArgs (PySem.W.fnOf x qual (iL st) (iM st) (cJ st) .none kV doc pm an cdv ct) ⟨us,[]⟩=pure (ps.zip us)):jC K fd ps []:=by
 obtain⟨oc,od,kV,doc,pm,an,cdv,ct,osl,rfl,lk,hcd⟩:=F.ex
 exact .all (h kV doc pm an cdv ct)
end
section
variable {X:Cx}
end
theorem aFx{A B:Prop}(h:B):if false=true then A else B:=by
 rw[if_neg Bool.false_ne_true]
 exact h
theorem aHI{A B:Prop}(h:A):if true=true then A else B:=by
 rw[if_pos rfl]
 exact h
def bG(H H':Hp):Prop:=∀b o,H b=some o->H' b=some o
theorem bG.refl(H:Hp):bG H H:=λ_ _ h=>h
theorem bG.trans{H H1 H2:Hp}(a:bG H H1)(b:bG H1 H2):bG H H2:=λc o h=>b c o (a c o h)
theorem bG.free{H H':Hp}(e:bG H H'){l:Addr}(h:H' l=Option.none):H l=Option.none:=by
 cases q:H l with
 | none=>rfl
 | some o=>
  rw[e l o q] at h
  cases h
theorem bG.seq{K:PySem.W.Frag}{H H':Hp}{a:Addr}{xs:List V}(e:bG H H')(h:SqL K H a xs):SqL K H' a xs:=by
 rcases h with(h|⟨o,h⟩)|h
 . exact .inl (.inl (e _ _ h))
 . exact .inl (.inr ⟨o,e _ _ h⟩)
 . exact .inr h
end L2
end
noncomputable section
namespace L2
open PySem PySem.Spec PyProof.Rows
section
variable {prog:Program} {w:World} {K:Type} [DecidableEq K] (knd:HeapKind prog w K)
inductive cL (h:Heap):List K->List Value->Prop
 | nil:cL h [] []
 | cons {k:K} {a:Addr} {ks:List K} {vs:List Value}:knd.is h k a->cL h ks vs->cL h (k::ks) (.ref a::vs)
def dY(h:Heap)(ks:List K)(a:Addr):Prop:=∃o its n,h.get? a=some o/\o.cls=.type "tuple" /\ o.data=.seq its n/\cL knd h ks its.toList
def mU(ks:List K):Int:=reduceHash (Builtin.Tuple.tupleHashOf (ks.map knd.hash))
def kT(ks:List K):Nat:=(ks.map knd.draws).sum+1
variable {knd}
theorem cL.inj{h:Heap}:∀{x y:List K} {vs:List Value},cL knd h x vs->cL knd h y vs->x=y
 | _,_,_,.nil,hy=>by cases hy;rfl
 | _,_,_,.cons h1 t,hy=>by
  cases hy with
  | cons h2 t2=>rw[knd.inj h1 h2,t.inj t2]
theorem cL.keeps{h h':Heap}{d:Addr}{o:Obj}{es ep}(ho:h.get? d=some o)(hd:o.data=.dict es ep)(hs:Heap.SameBut d h h'):∀{x:List K} {vs:List Value},cL knd h x vs->cL knd h' x vs
 | _,_,.nil=>.nil
 | _,_,.cons h1 t=>.cons (knd.keeps h1 ho hd hs) (t.keeps ho hd hs)
theorem dY.typeIs{s:Shared}{ks:List K}{a:Addr}(x:dY knd s.heap ks a):s.TypeIs (.ref a) "tuple" := let ⟨o,_,_,ho,hc,_⟩:=x;⟨o,ho,hc⟩
variable {A:Around} {E:Value->Shared->Prop} {s:Shared}
theorem zJ{ks:List K}{a:Addr}{Q:Int->Shared->Prop}(hu:A.units<cLine)(hr:knd.room A.in1)(hk:dY knd s.heap ks a)(h:Q (mU knd ks) { s with toks:=s.toks+kT knd ks }):wpAny (model prog w) A (pyHash (.ref a)) Q E s:=by
 have T:=hk.typeIs
 obtain⟨o,its,n,ho,_,hd,hi⟩:=hk
 unfold pyHash pyHashByItsType
 refine wpAny_bind (wpAny_cRoomFor_or (.inr hu) (wpAny_bind (wpAny_specialOf T F.slot_tuple_hash.lookup ?_)))
 rw[if_neg (by rw[beq_builtin_none];exact bN)]
 refine wpAny_bind (wpAny_specialOf T F.slot_tuple_hash.lookup ?_)
 refine wpAny_bind (m:=callSpecialIfBoundUnlessNone? (.ref a) "__hash__" _) (wpAny_callSpecialIfBoundUnlessNone?_slot T F.slot_tuple_hash (wpAny_call_entry F.slot_tuple_hash T F.entry_tuple_hash ?_ (F.args_tuple_hash_1 _)))
 refine wpAny_bind (m:=Builtin.Tuple.tupleItemsOf (.ref a)) (wpAny_tupleItemsOf ho hd (wpAny_bind ?_))
 rw[<-Array.forIn_toList]
 refine wpAny_forIn_list _ (λrest (b:Array Int) s'=>∃done left,ks=done++left/\cL knd s.heap left rest/\b.toList=done.map knd.hash/\s'={ s with toks:=s.toks+(done.map knd.draws).sum }) _ ?_ ?_ _ _ ⟨[],ks,rfl,hi,rfl,rfl⟩
 . rintro x rest b s' ⟨done,left,rfl,hl,hb,rfl⟩
   cases hl with
   | @cons k _ ks' _ h1 hl'=>
    refine wpAny_bind (knd.pyHash (s:={ s with toks:=s.toks+(done.map knd.draws).sum }) hr h1 ?_)
    exact wpAny_pure ⟨done++[k],ks',by simp,hl',by simp[hb],by simp[Nat.add_assoc]⟩
 . rintro b s' ⟨done,left,rfl,hl,hb,rfl⟩
   cases hl
   rw[List.append_nil] at h
   show wpAny _ _ (retInt (Builtin.Tuple.tupleHashOf b.toList)) _ _ _
   rw[hb]
   refine wpAny_ret_mkInt ?_
   show wpAny _ _ (if (decide (-(2:Int) ^ 63<=Builtin.Tuple.tupleHashOf (done.map knd.hash))&&decide (Builtin.Tuple.tupleHashOf (done.map knd.hash)<2 ^ 63))=true then _ else _) Q E _
   unfold mU reduceHash kT at h
   split
   . rename_i hr
     rw[if_pos hr] at h
     exact wpAny_pure (by simpa[Nat.add_assoc] using h)
   . rename_i hr
     rw[if_neg hr] at h
     exact wpAny_bind (wpAny_rule (wpAny_pure (by simpa[Nat.add_assoc] using h)))
theorem aAX{x y:List K}{a b:Addr}{P:Fin->Shared->Prop}(hr:knd.room A)(hx:dY knd s.heap x a)(hy:dY knd s.heap y b)(h:P (.done (.ret (.bool (decide (x=y))))) s):wpAny (model prog w) A (Builtin.«tuple.__eq__» ⟨[.ref a,.ref b],[]⟩) P E s:=by
 have Tb:=hy.typeIs
 obtain⟨oa,xs,na,hoa,_,hda,hia⟩:=hx
 obtain⟨ob,ys,nb,hob,_,hdb,hib⟩:=hy
 refine wpAny_bind (m:=isInstance (.ref b) (.type "tuple")) (wpAny_isInstance Tb isSubtype_tuple_tuple ?_)
 simp only[Bool.not_true,bF,if_false]
 refine wpAny_bind (wpAny_tupleItemsOf hoa hda (wpAny_bind (wpAny_tupleItemsOf hob hdb (wpAny_bind ?_))))
 refine wpAny_forIn_list _ (λrest r s'=>r.1=none/\s'=s/\∃x' y' xs' ys',rest=List.zip xs' ys'/\cL knd s.heap x' xs'/\cL knd s.heap y' ys'/\decide (x'=y')=decide (x=y)/\(xs'.length==ys'.length)=(xs.size==ys.size)) _ ?_ ?_ _ _ ⟨rfl,rfl,x,y,xs.toList,ys.toList,rfl,hia,hib,rfl,by simp⟩
 . rintro ⟨u,v⟩ rest r s' ⟨_,rfl,x',y',xs',ys',hz,hx',hy',hdec,hlen⟩
   cases hx' with
   | nil=>simp at hz
   | @cons k1 _ x'' xs'' h1 hx''=>
    cases hy' with
    | nil=>simp at hz
    | @cons k2 _ y'' ys'' h2 hy''=>
     simp only[List.zip_cons_cons,List.cons.injEq,Prod.mk.injEq] at hz
     obtain⟨⟨rfl,rfl⟩,rfl⟩:=hz
     refine wpAny_bind (knd.eqBool (x:=k1) (y:=k2) hr h1 h2 ?_)
     by_cases hk:k1=k2
     . subst hk
       rw[decide_eq_true rfl]
       simp only[Bool.not_true,bF,if_false]
       exact wpAny_pure ⟨rfl,rfl,x'',y'',xs'',ys'',rfl,hx'',hy'',by rw[<-hdec];simp,by simpa using hlen⟩
     . rw[decide_eq_false hk]
       simp only[Bool.not_false,if_true]
       have hf:decide (x=y)=false:=by rw[<-hdec];simp[hk]
       rw[hf] at h
       exact wpAny_bind (wpAny_pure (wpAny_pure (wpAny_pure h)))
 . rintro ⟨r1,r2⟩ s' ⟨hr1,rfl,x',y',xs',ys',hz,hx',hy',hdec,hlen⟩
   simp only at hr1
   subst hr1
   have fin:(xs.size==ys.size)=decide (x=y):=by
    rw[<-hdec,<-hlen]
    cases hx' with
    | nil=>cases hy' <;> simp
    | cons _ _=>
     cases hy' with
     | nil=>simp
     | cons _ _=>simp at hz
   refine wpAny_pure ?_
   show P (.done (.ret (.bool (xs.size==ys.size)))) s'
   rw[fin];exact h
theorem dY.inj{h:Heap}{a:Addr}{x y:List K}(hx:dY knd h x a)(hy:dY knd h y a):x=y:=by
 obtain⟨o,its,n,ho,_,hd,hi⟩:=hx
 obtain⟨o',its',n',ho',_,hd',hi'⟩:=hy
 rw[ho] at ho'
 cases ho'
 rw[hd] at hd'
 cases hd'
 exact hi.inj hi'
theorem aDm{x y:List K}{a b:Addr}{Q:Bool->Shared->Prop}(hu:A.units<cLine)(hr:knd.room A.in1)(hx:dY knd s.heap x a)(hy:dY knd s.heap y b)(h:Q (decide (x=y)) s):wpAny (model prog w) A (eqBool (.ref a) (.ref b)) Q E s:=by
 unfold eqBool
 try with_reducible refine wpAny_holding ?_
 show wpAny _ _ (if (Value.ref a==Value.ref b)=true then _ else _) Q E s
 by_cases hab:(Value.ref a==Value.ref b)=true
 . have e:a=b:=by have:=eq_of_beq hab;injection this
   subst e
   rw[if_pos hab,hx.inj hy] at *
   exact wpAny_bind (wpAny_rule (wpAny_pure (by simpa using h)))
 . rw[if_neg hab]
   exact wpAny_bind (wpAny_richCompare_same_room (op:=.Eq) hx.typeIs hy.typeIs F.slot_tuple_eq
    (wpAny_call_entry F.slot_tuple_eq hx.typeIs F.entry_tuple_eq (aAX hr hx hy ⟨_,rfl,(λe=>nomatch e),wpAny_truthy_bool h⟩) (F.args_tuple_eq_2 _ _)) hu)
end
section
variable {prog:Program} {w:World} {A:Around} {E:Value->Shared->Prop} {s:Shared}
theorem vJ{K:Type}[DecidableEq K]{knd:KeyKind prog w K}{n:Nat}{ks:List K}{a:Addr}{Q:Bool->Shared->Prop}(hk:IsTupleKey knd s.heap ks a)(h:Q true s):wpAny (model prog w) A (eqIsQuiet (n+1) (.ref a)) Q E s:=by
 have T:=hk.typeIs
 obtain⟨o,its,m,ho,_,hd,hi⟩:=hk
 unfold eqIsQuiet
 refine wpAny_bind (wpAny_specialOf T F.slot_tuple_eq.lookup (wpAny_bind (m:=isInstance (.ref a) (.type "tuple")) (wpAny_isInstance T isSubtype_tuple_tuple ?_)))
 simp only[Bool.not_true,bF,if_false]
 refine wpAny_bind (wpAny_seqItems ho hd (wpAny_bind (m:=forIn its _ _) ?_))
 rw[<-Array.forIn_toList]
 refine wpAny_forIn_list _ (λrest r s'=>r.1=none/\s'=s/\∀v∈rest,carriedByValue v=true) _ ?_ ?_ _ _ ⟨rfl,rfl,hi.byValue⟩
 . rintro v rest r s' ⟨_,rfl,hall⟩
   rw[eqIsQuiet_byValue _ (hall v List.mem_cons_self)]
   refine wpAny_bind (wpAny_pure ?_)
   simp only[Bool.not_true,bF,if_false]
   exact wpAny_pure ⟨rfl,rfl,λu hu'=>hall u (List.mem_cons_of_mem _ hu')⟩
 . rintro ⟨r1,r2⟩ s' ⟨hr,rfl,_⟩
   simp only at hr
   subst hr
   exact wpAny_pure h
theorem vK{K:Type}[DecidableEq K]{knd:KeyKind prog w K}{ks:List (List K)}{a:Addr}{Q:Bool->Shared->Prop}(hk:dY (tupleKind knd) s.heap ks a)(h:Q true s):wpAny (model prog w) A (eqIsQuiet 8 (.ref a)) Q E s:=by
 have T:=hk.typeIs
 obtain⟨o,its,m,ho,_,hd,hi⟩:=hk
 unfold eqIsQuiet
 refine wpAny_bind (wpAny_specialOf T F.slot_tuple_eq.lookup (wpAny_bind (m:=isInstance (.ref a) (.type "tuple")) (wpAny_isInstance T isSubtype_tuple_tuple ?_)))
 simp only[Bool.not_true,bF,if_false]
 refine wpAny_bind (wpAny_seqItems ho hd (wpAny_bind (m:=forIn its _ _) ?_))
 rw[<-Array.forIn_toList]
 refine wpAny_forIn_list _ (λrest r s'=>r.1=none/\s'=s/\∃ks',cL (tupleKind knd) s.heap ks' rest) _ ?_ ?_ _ _ ⟨rfl,rfl,ks,hi⟩
 . rintro v rest r s' ⟨_,rfl,ks',hl⟩
   cases hl with
   | cons h1 hl'=>
    refine wpAny_bind (vJ (n:=6) h1 ?_)
    simp only[Bool.not_true,bF,if_false]
    exact wpAny_pure ⟨rfl,rfl,_,hl'⟩
 . rintro ⟨r1,r2⟩ s' ⟨hr,rfl,_⟩
   simp only at hr
   subst hr
   exact wpAny_pure h
def mV{K:Type}[DecidableEq K](knd:KeyKind prog w K):HeapKind prog w (List (List K)) where
 is:=dY (tupleKind knd)
 hash:=mU (tupleKind knd)
 draws:=kT (tupleKind knd)
 room:=λA=>A.units+8<cLine
 inj:=λhx hy=>hx.inj hy
 keeps:=λ{h h' k a d o es ep} x ho hd hs=>by
  obtain⟨o',its,n,ho',hc,hd',hi⟩:=x
  have hne:a≠d:=λe=>by
   subst e
   rw[ho'] at ho
   cases ho
   rw[hd] at hd'
   cases hd'
  exact⟨o',its,n,(hs.2 a hne).trans ho',hc,hd',hi.keeps ho hd hs⟩
 pyHash:=λ{A E s k a Q} hu hk h=>zJ (by omega) (show A.in1.units<cLine by show A.units+1<cLine;omega) hk h
 eqBool:=λ{A E s x y a b Q} hu hx hy h=>aDm (by omega) (show A.in1.units<cLine by show A.units+1<cLine;omega) hx hy h
 quiet:=λhk h=>vK hk h
end
abbrev NK:=List (List Int)
abbrev NE:=NK×Addr×V
abbrev pj(x:NE):NK×V:=(x.1,x.2.2)
def kU(x:NE)(e:NK×Addr×Value):Prop:=e.1=x.1/\e.2.1=x.2.1/\cI x.2.2 e.2.2
def nkH(k:NK):Int:=reduceHash (Builtin.Tuple.tupleHashOf (k.map λk=>reduceHash (Builtin.Tuple.tupleHashOf (k.map hashInt))))
def aKp(x:NK×Addr×Value):DictEntry:=⟨nkH x.1,.ref x.2.1,x.2.2⟩
def aFy(a:Addr)(xs:List NE)(h:Heap):Prop:=
 (a==sysModules)=false/\xs.length<=sizeLine/\∃o es ep vs,h.get? a=some o/\o.ExactDict/\o.data=.dict es ep/\es.toList=vs.map aKp/\Paired kU xs vs/\(xs.map (·.1)).Nodup
abbrev dX(a:Addr)(xs:List NE):HO:=.ext (aFy a xs)
def dN(K:PySem.W.Frag)(H:Hp)(k:NK)(b:Addr):Prop:=∃bs:List Addr,SqT K H b (bs.map V.ref)/\Paired (λis c=>SqT K H c (is.map V.int)) k bs
section
variable {X:Cx} {pins:List (Addr×Obj)} {σ:St} {H:Hp} {s:Shared}
theorem aAY{is:List Int}:∀{us:List Value},bR (is.map V.int) us->ItemsAre (intKind X.prog X.w) is us:=by
 induction is with
 | nil=>intro us h;rw[mN] at h;cases h;exact .nil
 | cons i is ih=>
  intro us h
  rw[mC] at h
  cases h with
  | cons r t=>
   obtain⟨tk,e⟩:∃t,_=Value.int i t:=r
   subst e
   exact .cons (intKind_is _ _ i tk) (ih t)
theorem aDn(I:Inv X pins σ H s){c:Addr}{is:List Int}(h:SqT X.K H c (is.map V.int)):IsTupleKey (intKind X.prog X.w) s.heap is c:=by
 obtain⟨its,rv,⟨o,ho,hc,n,hd⟩,_⟩:=I.tuple h
 exact⟨o,its.toArray,n,ho,hc,hd,by simpa using aAY rv⟩
theorem sP(I:Inv X pins σ H s):∀{k:NK} {bs:List Addr} {us:List Value},Paired (λis c=>SqT X.K H c (is.map V.int)) k bs->bR (bs.map V.ref) us->cL (tupleKind (intKind X.prog X.w)) s.heap k us
 | _,_,us,.nil,r=>by rw[mN] at r;cases r;exact .nil
 | _,_,us,.cons h t,r=>by
  rw[mC] at r
  cases r with
  | cons r1 r2=>
   cases r1
   exact .cons (aDn I h) (sP I t r2)
theorem vL(I:Inv X pins σ H s){k:NK}{b:Addr}(h:dN X.K H k b):dY (tupleKind (intKind X.prog X.w)) s.heap k b:=by
 obtain⟨bs,q,p⟩:=h
 obtain⟨its,rv,⟨o,ho,hc,n,hd⟩,_⟩:=I.tuple q
 exact⟨o,its.toArray,n,ho,hc,hd,by simpa using sP I p rv⟩
theorem kW:∀{xs:List NE} {vs:List (NK×Addr×Value)},Paired kU xs vs->vs.map (·.1)=xs.map (·.1)
 | _,_,.nil=>rfl
 | _,_,.cons h t=>by rw[mC,mC,kW t,h.1]
theorem sQ:∀{xs:List NE} {vs:List (NK×Addr×Value)},Paired kU xs vs->∀v∈vs,∃x∈xs,kU x v
 | _,_,.nil,v,h=>by cases h
 | _,_,.cons h t,v,m=>by
  rcases List.mem_cons.mp m with rfl|m
  . exact⟨_,List.mem_cons_self ..,h⟩
  . obtain⟨x,hx,r⟩:=sQ t v m
    exact⟨x,List.mem_cons_of_mem _ hx,r⟩
theorem qT{k:NK}:∀{xs:List NE} {vs:List (NK×Addr×Value)},Paired kU xs vs->(atKey vs k).isSome=decide (k∈xs.map (·.1))
 | _,_,.nil=>rfl
 | x::xs,e::vs,.cons h t=>by
  have ih:=qT (k:=k) t
  unfold atKey at ih ⊢
  rw[List.find?_cons]
  by_cases hk:x.1=k
  . rw[show decide (e.1=k)=true from decide_eq_true (h.1.trans hk)]
    subst hk;simp
  . rw[show decide (e.1=k)=false from decide_eq_false (by rw[h.1];exact hk)]
    simp only
    rw[ih]
    have e:(k∈(x::xs).map (·.1))↔k∈xs.map (·.1):=by simp[Ne.symm hk]
    simp only[e]
theorem xI(I:Inv X pins σ H s){a:Addr}{xs:List NE}(e:H a=some (dX a xs))(hk:∀x∈xs,dN X.K H x.1 x.2.1):(a==sysModules)=false/\xs.length<=sizeLine/\∃vs,Paired kU xs vs/\s.heap.DictOfH (mV (intKind X.prog X.w)) a vs:=by
 obtain⟨⟨h1,h2,o,es,ep,vs,h3,h4,h5,h6,h7,h8⟩,_⟩:=(show eM X.prog X.w H s.heap a (dX a xs) from I.hok a _ e)
 refine⟨h1,h2,vs,h7,o,es,ep,h3,h4,h5,h6,λx hx=>?_,?_⟩
 . obtain⟨y,hy,r1,r2,_⟩:=sQ h7 x hx
   rw[r1,r2];exact vL I (hk y hy)
 . rw[kW h7];exact h8
def mB(xs:List NE)(k:NK)(b:Addr)(v:V):List NE:=if k∈xs.map (·.1) then xs.map (λx=>if x.1=k then (x.1,x.2.1,v) else x) else xs++[(k,b,v)]
theorem sR{k:NK}{v:V}{u:Value}(r:cI v u):∀{xs:List NE} {vs:List (NK×Addr×Value)},Paired kU xs vs->Paired kU (xs.map λx=>if x.1=k then (x.1,x.2.1,v) else x) (vs.map (putAt k u))
 | _,_,.nil=>.nil
 | x::xs,e::vs,.cons h t=>by
  rw[mC,mC]
  refine .cons ?_ (sR r t)
  unfold putAt
  by_cases hk:x.1=k
  . rw[if_pos hk,if_pos (h.1.trans hk)];exact⟨h.1,h.2.1,r⟩
  . rw[if_neg hk,if_neg (by rw[h.1];exact hk)];exact h
theorem sU{x:NE}{e:NK×Addr×Value}(r:kU x e):∀{xs:List NE} {vs:List (NK×Addr×Value)},Paired kU xs vs->Paired kU (xs++[x]) (vs++[e])
 | _,_,.nil=>.cons r .nil
 | _,_,.cons h t=>.cons h (sU r t)
theorem sV{xs:List NE}{vs:List (NK×Addr×Value)}{k:NK}{b:Addr}{v:V}{u:Value}(h:Paired kU xs vs)(r:cI v u):Paired kU (mB xs k b v) (storedH vs k b u):=by
 unfold storedH mB
 rw[qT h]
 by_cases hk:k∈xs.map (·.1)
 . rw[if_pos (decide_eq_true hk),if_pos hk];exact sR r h
 . rw[if_neg hk,if_neg (by simpa using hk)];exact sU ⟨rfl,rfl,r⟩ h
theorem sW{xs:List NE}{k:NK}{b:Addr}{v:V}:(mB xs k b v).length<=xs.length+1:=by
 unfold mB
 split
 . rw[lM];omega
 . rw[lA];exact Nat.le_refl _
theorem xJ{a:Addr}{xs:List NE}:∀h1 h2:Heap,aFy a xs h1->(∀o,h1.get? a=some o->h2.get? a=some o)->aFy a xs h2:=by
 rintro h1 h2 ⟨z1,z2,o',es',ep',vs,z3,z4⟩ kk
 exact⟨z1,z2,o',es',ep',vs,kk _ z3,z4⟩
theorem aEu(hu:X.A.units+100<cLine):OpR X (compareOp .NotIn) (λux uy H Q=>∃a b xs k,ux=.ref b/\uy=.ref a/\H a=some (dX a xs)/\(∀x∈xs,dN X.K H x.1 x.2.1)/\dN X.K H k b/\Q (.bl (!decide (k∈xs.map (·.1)))) H):=by
 intro pins s σ H ux uy v u Q I rx ry h
 obtain⟨a,b,xs,k,rfl,rfl,e,hk,kb,q⟩:=h
 cases rx
 cases ry
 obtain⟨h1,h2,vs,hp,h3⟩:=xI I e hk
 refine wpAny_notIn_heap (knd:=mV (intKind X.prog X.w)) (show X.A.in1.units+8<cLine by show X.A.units+1+8<cLine;omega) (vL I kb) h1 h3 ?_
 rw[qT hp]
 exact⟨.bl _,H,I.tok _,rfl,q⟩
theorem aFz(hu:X.A.units+100<cLine):aFc X (λo i v H Q=>∃a b xs k,o=.ref a/\i=.ref b/\H a=some (dX a xs)/\(∀x∈xs,dN X.K H x.1 x.2.1)/\dN X.K H k b/\xs.length<sizeLine/\Q (upd H a (dX a (mB xs k b v)))):=by
 intro pins s σ H o i v ov iv u Q I ro ri rv h
 obtain⟨a,b,xs,k,rfl,rfl,e,hk,kb,hl,q⟩:=h
 cases ro
 cases ri
 obtain⟨h1,h2,vs,hp,h3⟩:=xI I e hk
 have len:vs.length=xs.length:=(Paired.length hp).symm
 refine wpAny_setItem_heap (knd:=mV (intKind X.prog X.w)) (hsz:=by rw[len];exact h2) (show X.A.in1.units+8<cLine by show X.A.units+1+8<cLine;omega) (vL I kb) h3 λh' hm hs=>?_
 obtain⟨ob,es,ep,g1,g2,g3,g4,_,g6⟩:=hm
 have hp':=sV (k:=k) (b:=b) hp rv
 have nd:((mB xs k b v).map (·.1)).Nodup:=by rw[<-kW hp'];exact g6
 have lp:(mB xs k b v).length<=sizeLine:=Nat.le_trans sW hl
 refine⟨_,I.write (x:=a) (e:=a) (o:=dX a (mB xs k b v)) (by rw[e];exact True.intro) (.inl rfl) (λc q hc z=>(hs.2 c hc).trans z) ⟨ob,g1⟩ ⟨⟨h1,lp,ob,es,ep,_,g1,g2,g3,g4,hp',nd⟩,⟨ob,g1⟩,xJ⟩,q⟩
theorem Inv.big(I:Inv X pins σ H s):sysModules<s.heap.objs.size:=by
 have h:mainGlobals<s.heap.objs.size:=(I.ok.mod.glob.keeps I.bk).lt
 exact Nat.lt_trans (by decide) h
def aFA:TE:=λ_ H Q=>∀p,H p=none->Q (.ref p) (upd H p (dX p []))
theorem aAZ{pos:Pos}:PE X (.Dict [] [] pos) aFA:=λpins s σ H Q I h=>
 wpAny_Dict_empty ⟨.ref s.heap.objs.size,_,I.laid (a:=s.heap.objs.size) (o:=dX s.heap.objs.size []) (t':=s.toks) (λ_ _ q=>Heap.get?_push_of_some _ q) (Nat.le_refl _)
  ⟨⟨beq_eq_false_iff_ne.mpr (Ne.symm (Nat.ne_of_lt I.big)),Nat.zero_le _,_,#[],0,[],Heap.get?_push_size _ rfl,⟨rfl,rfl,rfl⟩,rfl,rfl,.nil,List.nodup_nil⟩,⟨_,Heap.get?_push_size _ rfl⟩,xJ⟩,rfl,h _ (I.hok.fresh (Nat.le_refl _))⟩
end
section
variable {prog:Program} {w:World} {A:Around} {E:Value->Shared->Prop} {s:Shared}
end
theorem IsTupleKey.mono{prog:Program}{w:World}{h h':Heap}{k:List Int}{a:Addr}(k':∀b o,h.get? b=some o->h'.get? b=some o)(x:IsTupleKey (intKind prog w) h k a):IsTupleKey (intKind prog w) h' k a:=by
 obtain⟨o,its,n,h1,h2⟩:=x
 exact⟨o,its,n,k' _ _ h1,h2⟩
theorem cL.mono{prog:Program}{w:World}{h h':Heap}(k':∀b o,h.get? b=some o->h'.get? b=some o):∀{k:NK} {vs:List Value},cL (tupleKind (intKind prog w)) h k vs->cL (tupleKind (intKind prog w)) h' k vs
 | _,_,.nil=>.nil
 | _,_,.cons h1 t=>.cons (IsTupleKey.mono k' h1) (cL.mono k' t)
theorem dY.mono{prog:Program}{w:World}{h h':Heap}{k:NK}{a:Addr}(k':∀b o,h.get? b=some o->h'.get? b=some o)(x:dY (tupleKind (intKind prog w)) h k a):dY (tupleKind (intKind prog w)) h' k a:=by
 obtain⟨o,its,n,h1,h2,h3,h4⟩:=x
 exact⟨o,its,n,k' _ _ h1,h2,h3,cL.mono k' h4⟩
def aDo(ks:List (NK×V))(k:NK×V):List (NK×V):=if k.1∈ks.map (·.1) then ks.map (λx=>if x.1=k.1 then (x.1,k.2) else x) else ks++[k]
theorem aBa(xs:List NE)(k:NK)(b:Addr)(v:V):(mB xs k b v).map pj=aDo (xs.map pj) (k,v):=by
 have e:(xs.map pj).map (·.1)=xs.map (·.1):=by rw[List.map_map];rfl
 unfold mB aDo
 rw[e]
 split
 . rw[List.map_map,List.map_map]
   refine List.map_congr_left λx _=>?_
   show pj (if x.1=k then _ else _)=if x.1=k then _ else _
   split <;> rfl
 . rw[List.map_append];rfl
section
variable {prog:Program} {w:World} {A:Around} {R:Result->Shared->Prop} {good:NK->Addr->Prop} {h₀:Heap} {d it l:Addr} {items:Array Value} {ks:List (NK×V)}
end
section
variable {X:Cx}
end
end L2
end
noncomputable section
namespace L2
open PySem PySem.Spec PyProof.Rows PySem.Builtin
set_option maxRecDepth 100000 in
theorem kX:fillsNumberSlot (.type "tuple") "mul" = pure false:=
 PySem.fillsNumberSlot_seq (id:= "tuple.__mul__") (r:=some (.builtin "tuple.__rmul__")) F.slot_tuple_mul.lookup (by decide +kernel) F.slot_tuple_rmul.lookup (by decide +kernel)
theorem qU:seqRepeat? (.type "tuple")=pure (some (.builtin "tuple.__mul__")):=by
 unfold seqRepeat?
 rw[PySem.seqSlot_of (T:= "tuple") (name:= "__mul__") (id:= "tuple.__mul__") F.slot_tuple_mul.lookup (by decide +kernel),PySem.seqSlot_of (T:= "tuple") (name:= "__rmul__") (id:= "tuple.__rmul__") F.slot_tuple_rmul.lookup (by decide +kernel)]
 rfl
theorem mW(a:Int)(t:Tok)(l:Addr)(od:Option Addr)(items:Array Value)(n:Nat)(sl:Array (Option Value)):Meets (Builtin.«int.__rmul__» ⟨[.int a t,.ref l],[]⟩) (λ_ R s=>s.heap.get? l=some { cls:=.type "tuple",dict:=od,data:=.seq items n,slots:=sl }/\R (.ok (.ret Value.notImplemented)) s):=
 .of_wp λprog w A R s h=>by
  obtain⟨hp,g,d,tk,os⟩:=s;obtain⟨hl,h⟩:=h;wp_walk;exact⟨_,rfl,h⟩
theorem sX(l:Addr)(t:Tok)(od:Option Addr)(items:Array Value)(n:Nat)(sl:Array (Option Value)):Meets (Builtin.«tuple.__mul__» ⟨[.ref l,.int 1 t],[]⟩) (λ_ R s=>s.heap.get? l=some { cls:=.type "tuple",dict:=od,data:=.seq items n,slots:=sl }/\R (.ok (.ret (.ref l))) s):=
 .of_wp λprog w A R s h=>by
  obtain⟨hp,g,d,tk,os⟩:=s;obtain⟨hl,h⟩:=h;wp_walk;exact⟨_,rfl,h⟩
theorem sY(l:Addr)(t:Tok)(k:Int)(od:Option Addr)(items:Array Value)(n:Nat)(sl:Array (Option Value))(h1:1<k)(h2:k<2 ^ 63)(h0:items.isEmpty=false)(hz:items.size*k.toNat<=sizeLine)(hs:((List.replicate k.toNat items).foldl (·++·) #[]).size<=sizeLine):Meets (Builtin.«tuple.__mul__» ⟨[.ref l,.int k t],[]⟩) (λ_ R s=>s.heap.get? l=some { cls:=.type "tuple",dict:=od,data:=.seq items n,slots:=sl }/\R (.ok (.ret (.ref s.heap.objs.size))) { s with heap:=s.heap.push { cls:=.type "tuple",data:=.seq ((List.replicate k.toNat items).foldl (·++·) #[]) } }):=
 .of_wp λprog w A R s h=>by
  obtain⟨hp,g,d,tk,os⟩:=s;obtain⟨hl,h⟩:=h;wp_walk
  have k1:(decide (k < -2 ^ 63)||decide (k ≥ 2 ^ 63))=false:=by rw[decide_eq_false (by omega),decide_eq_false (by omega)];rfl
  have k2:(items.isEmpty||k==1)=false:=by rw[h0,beq_eq_false_iff_ne.mpr (by omega)];rfl
  have k3:(decide (k<=0)||items.isEmpty)=false:=by rw[h0,decide_eq_false (by omega)];rfl
  have e:((items.size*k.toNat:Nat):Int)=(items.size:Int)*k:=by rw[Int.natCast_mul,Int.toNat_of_nonneg (by omega)]
  have k4:Tuple.tupleTooMany ((items.size:Int)*k)=false:=by
   unfold Tuple.tupleTooMany
   rw[<-e]
   exact decide_eq_false (by omega)
  have k5:¬ (items.size:Int)*k>(2 ^ 63-1) / 8:=by
   have:(sizeLine:Nat)<=(2 ^ 63-1) / 8:=by decide
   rw[<-e]
   omega
  rw[if_neg (by rw[k1];exact bN)]
  wp_walk
  rw[if_neg (by rw[k2];exact bN),if_neg (by rw[k3];exact bN),if_neg k5,if_neg (by rw[k4];exact bN)]
  unfold Tuple.tupleExact newObj
  simp only[if_neg (Nat.not_lt.mpr hs)]
  wp_walk
  exact⟨_,rfl,h⟩
section
variable {X:Cx}
theorem aDp:OpR X (binaryOp .Mult) (λx y H Q=>∃a k xs,x=.ref a/\y=.int k/\SqT X.K H a xs/\xs≠[]/\1<=k/\k<2 ^ 63/\xs.length*k.toNat<=sizeLine /\
 (k=1->Q (.ref a) H)/\(1<k->∀p,H p=none->Q (.ref p) (upd H p (.tup (List.replicate k.toNat xs).flatten)))):=by
 intro pins s σ H x y v u Q I rx ry h
 obtain⟨a,k,xs,rfl,rfl,ha,hx,h1,h2,hz,q1,q2⟩:=h
 cases rx
 obtain⟨t,rfl⟩:=ry
 obtain⟨its,r,⟨o,ho,hc,n,hd⟩,_⟩:=I.tuple ha
 obtain⟨oc,od,dt,sl⟩:=o
 have hc:oc=.type "tuple" := hc
 have hd:dt=.seq its.toArray n:=hd
 subst hc hd
 have lz:=r.length
 have road:=λQ' (hq:wpAny (model X.prog X.w) X.A (call (.builtin "tuple.__mul__") [.ref a,.int k t]) Q' X.xe s)=>wpAny_binaryOp_repeat_ref (Q:=Q') (T:= "tuple") (U:= "int") (by decide) (show s.TypeIs (.ref a) "tuple" from⟨_,ho,rfl⟩) (λs'=>typeIs_int s' k t) kX F.fills_int_mul F.slot_int_rmul qU F.slot_int_index.lookup
  (call_meets F.slot_int_rmul (typeIs_int s k t) F.entry_int_rmul (F.args_int_rmul_2 _ _) (mW k t a od its.toArray n sl) ⟨ho,rfl,⟨_,ho,rfl⟩,hq⟩)
 refine road _ ?_
 by_cases hk:k=1
 . subst hk
   exact call_meets F.slot_tuple_mul ⟨_,ho,rfl⟩ F.entry_tuple_mul (F.args_tuple_mul_2 _ _) (sX a t od its.toArray n sl) ⟨ho,.ref a,H,I,rfl,q1 rfl⟩
 . have e0:its.toArray.isEmpty=false:=by
    cases its with
    | nil=>exact absurd (r.nil_iff.mp rfl) hx
    | cons _ _=>rfl
   have f0:=kR its k.toNat []
   rw[List.nil_append] at f0
   have f1:List.foldl (λx1 x2=>x1++x2) #[] (List.replicate k.toNat its.toArray)=(List.replicate k.toNat its).flatten.toArray:=f0
   refine call_meets F.slot_tuple_mul ⟨_,ho,rfl⟩ F.entry_tuple_mul (F.args_tuple_mul_2 _ _) (sY a t k od its.toArray n sl (by omega) h2 e0 (by rw[List.size_toArray,<-lz];exact hz) (by rw[f1,List.size_toArray,qS,<-lz,Nat.mul_comm];exact hz)) ⟨ho,?_⟩
   rw[f1]
   refine⟨.ref s.heap.objs.size,_,I.laid (t':=s.toks) (o:=.tup (List.replicate k.toNat xs).flatten) (λb ob q=>Heap.get?_push_of_some _ q) (Nat.le_refl _) ?_,rfl,q2 (by omega) _ (I.hok.fresh (Nat.le_refl _))⟩
   exact⟨by rw[qS,Nat.mul_comm];exact hz,_,r.rep k.toNat,IsTup.new _ _⟩
end
end L2
end
noncomputable section
namespace L2
open PySem PySem.Spec PyProof.Rows PySem.SeqAt
end L2
end
noncomputable section
namespace Hp
open PySem (Str Operator CmpOp)
inductive D where
 | non|bl (b:Bool)|int (i:Int)|str (x:Str)
 | tup (ds:List D)|lst (ds:List D)
 | dic (kvs:List (D×D))
 | err (c:Nat) (fs:List D)
 deriving Inhabited
mutual
def noL:D->Bool
 | .tup ds=>noLs ds
 | .lst _=>false
 | .dic _=>false
 | .err _ _=>false
 | _=>true
def noLs:List D->Bool
 | []=>true
 | d::ds=>noL d&&noLs ds
end
mutual
def aHJ:D->Bool
 | .tup ds=>noDics ds
 | .lst ds=>noDics ds
 | .dic _=>false
 | _=>true
def noDics:List D->Bool
 | []=>true
 | d::ds=>aHJ d&&noDics ds
end
def lim:Nat:=1000000
def b2i(b:Bool):Int:=if b then 1 else 0
def eqL(f:D->D->Option Bool):List D->List D->Option Bool
 | [],[]=>some true
 | a::as,b::bs=>match f a b,eqL f as bs with
  | some x,some y=>some (x&&y)
  | _,_=>none
 | _,_=>some false
def eqF:Nat->D->D->Option Bool
 | 0,_,_=>none
 | n+1,a,b=>match a,b with
  | .non,.non=>some true
  | .bl a,.bl b=>some (a==b)
  | .int a,.int b=>some (a==b)
  | .str a,.str b=>some (a==b)
  | .bl a,.int b=>some (b2i a==b)
  | .int a,.bl b=>some (a==b2i b)
  | .tup as,.tup bs=>eqL (eqF n) as bs
  | .lst as,.lst bs=>if as.length=bs.length then eqL (eqF n) as bs else some false
  | .dic _,_=>none
  | _,.dic _=>none
  | .err _ _,_=>none
  | _,.err _ _=>none
  | _,_=>some false
def fR(n:Nat):List D->List D->Option Bool
 | [],[]=>some true
 | a::as,b::bs=>match eqF n a b,fR n as bs with
  | some x,some y=>some (x&&y)
  | _,_=>none
 | _,_=>some false
@[simp] theorem aBb (n:Nat):∀as bs:List D,eqL (eqF n) as bs=fR n as bs
 | [],[]=>rfl
 | [],_::_=>rfl
 | _::_,[]=>rfl
 | a::as,b::bs=>by rw[eqL,fR,aBb n as bs]
def qV:Nat:=120
def eqD(a b:D):Option Bool:=eqF qV a b
inductive R (α:Type) where
 | ok (a:α)|exc (x:D)|bad
 deriving Inhabited
def R.bind{α β:Type}(x:R α)(f:α->R β):R β:=match x with
 | .ok a=>f a
 | .exc e=>.exc e
 | .bad=>.bad
instance:Monad R where
 pure:=.ok
 bind:=.bind
def R.of{α:Type}:Option α->R α
 | some a=>.ok a
 | none=>.bad
def R.iff{α:Type}(c:Bool)(x:R α):R α:=if c then x else .bad
structure Vl where
 d:D
 fr:Bool:=false
 pa:Bool:=false
 al:List Nat:=[]
 deriving Inhabited
def Vl.cl(d:D):Vl:=⟨d,false,false,[]⟩
def Vl.sub(v:Vl)(d:D):Vl:=if noL d then .cl d else ⟨d,false,v.pa,v.al⟩
inductive Sl where
 | dead|sh (pa:Bool) (d:D)|own (pa:Bool) (ds:List D)|dct (ks:List (List (List Int)×D))|par (ds es:List D)
 deriving Inhabited
abbrev Sg:=List Sl
def Sl.val(i:Nat):Sl->R Vl
 | .dead=>.bad
 | .sh pa d=>.ok ⟨d,false,pa&&!noL d,[]⟩
 | .own pa ds=>.ok ⟨.lst ds,false,pa,[i]⟩
 | .dct _=>.bad
 | .par _ _=>.bad
def aL(σ:Sg)(i:Nat):R Vl:=match σ[i]? with
 | some s=>s.val i
 | none=>.bad
def Sl.freeze:Sl->Sl
 | .own pa ds=>.sh pa (.lst ds)
 | s=>s
def freeze(σ:Sg):List Nat->Sg
 | []=>σ
 | i::is=>freeze (match σ[i]? with|some s=>σ.set i s.freeze|none=>σ) is
def Vl.slot(v:Vl):Sl:=match v.fr,v.d with
 | true,.lst ds=>.own v.pa ds
 | _,d=>.sh v.pa d
inductive Bi where
 | len|list|tuple|min|max|abs|int|str|sum|all|any|sorted|bool|repr
 deriving DecidableEq,Inhabited
inductive Mt where
 | join|upper|lower|get|startswith|endswith|index|count|copy|isdigit|find|replace|split|strip
 deriving DecidableEq,Inhabited
inductive Cl where
 | tInt|tBool|tStr|tList|tTuple|tDict|own (c:Nat)|tValueError
 deriving DecidableEq,Inhabited
inductive T where
 | n (i:Nat)
 | t (ts:List Nat)
 deriving Inhabited
mutual
inductive E where
 | c (d:D)
 | v (i:Nat)
 | op (o:Operator) (a b:E)
 | neg (a:E)
 | nt (a:E)
 | an (a b:E)
 | orr (a b:E)
 | ife (t a b:E)
 | cmp (o:CmpOp) (a b:E)
 | cmp2 (o o':CmpOp) (a b c:E)
 | idx (a b:E)
 | sli (a:E) (lo hi:Es)
 | tup (es:Es)
 | lst (es:Es)
 | dic (ks vs:Es)
 | call (f:Nat) (es:Es)
 | bi (b:Bi) (es:Es)
 | mth (m:Mt) (o:E) (es:Es)
 | isi (a:E) (cs:List Cl)
 | attr (a:E) (f:Nat)
 | comp (k:Nat) (caps:List Nat) (t:T) (it:It) (cond:Es) (elt:E)
 | numset (a:E)   -- len(set(a))
 | tget (i:Nat) (a:E)   -- a dict of the module,.get(a)
 | lzip (a b:E)   -- list(zip(a,b))
 | dnin (a:E) (j:Nat)   -- a not in a dict of one's own
 | dget (j:Nat) (a:E)   -- the value at a key in a dict of one's own
 | dlen (j:Nat)   -- len of a dict of one's own
 | callP (f i:Nat) (es:Es)   -- f(x,..),x a list of two lists of its own
inductive Es where
 | nil|cons (e:E) (es:Es)
inductive It where
 | seq (e:E)|rng (a b:E)|zip (a b:E)|enum (a:E)|rev (a:E)
end
instance:Inhabited E:=⟨.c .non⟩
inductive Arg where
 | e (a:E)|pop (i:Nat)
 deriving Inhabited
mutual
inductive S where
 | set (t:T) (e:E)
 | mov (i j:Nat)
 | setIx (i:Nat) (k e:E)
 | app (i:Nat) (e:E)
 | ext (i:Nat) (e:E)
 | pop (t:Option T) (i:Nat) (at':Option E)
 | clr (i:Nat)
 | ins (i:Nat) (k e:E)
 | rev (i:Nat)
 | appCall (i:Nat) (f:Nat) (as:List Arg)
 | ret (e:E)
 | retv (i:Nat)
 | retN
 | iff (c:E) (a b:Ss)
 | for (t:T) (it:It) (b:Ss)
 | whl (c:E) (b:Ss)
 | brk|cnt|pass
 | ex (e:E)
 | dnew (i:Nat)   -- {}
 | dput (i:Nat) (e:E)   -- i[e]=True
 | dfrom (i:Nat) (e:E)   -- dict(e),e pairs of a key and a plain value
 | two (i:Nat) (a b:E)   -- i=[a,b],both fresh lists
 | appP (i:Nat) (z:Bool) (e:E)   -- i[0].append(e),i[1].append(e)
 | clrP (i:Nat) (z:Bool)   -- i[0].clear(),i[1].clear()
 | rse (c:Nat) (keep:Bool) (es:Es)
 | try (b:Ss) (hs:Hs)
inductive Ss where
 | nil|cons (s:S) (ss:Ss)
inductive Hs where
 | nil|cons (cs:List Cl) (n:Option Nat) (b:Ss) (hs:Hs)
end
structure Fn where
 np:Nat
 ns:Nat
 body:Ss
structure Pg where
 fns:List Fn
 above:List (List Cl)
 tabs:List (List (Str×D)):=[]
abbrev Rt:=D×Bool×Bool
abbrev Caller:=Nat->List D->R Rt
def fF(i j:Int):Bool:=(decide (-(2 ^ 64)<i)&&decide (i<2 ^ 64))||(decide (-(2 ^ 64)<j)&&decide (j<2 ^ 64))
def aEv(i j:Int):Bool:=decide (0<=j)&&decide (j<=1000)&&decide (i.natAbs<2 ^ 64)
def xK(j:Int):Bool:=decide (0<j)&&decide (j<1073741824)
def aY(k:Int):Bool:=decide (-(2 ^ 62)<=k)&&decide (k<2 ^ 62)
def Str.rep(x:Str)(k:Nat):Str:=⟨(List.replicate k x.cps).foldl (·++·) #[]⟩
@[simp] def aFB (x y:Vl):R Vl:=match x.d,y.d with
 | .int i,.int j=>.ok (.cl (.int (i+j)))
 | .str a,.str b=>.iff (decide (a.length+b.length<=lim)) (.ok (.cl (.str (a++b))))
 | .tup a,.tup b=>.iff (decide (a.length+b.length<=lim)) (.ok ⟨.tup (a++b),false,x.pa||y.pa,x.al++y.al⟩)
 | .lst a,.lst b=>.iff (decide (a.length+b.length<=lim)) (.ok ⟨.lst (a++b),true,(x.pa&&!noLs a)||(y.pa&&!noLs b),(if noLs a then [] else x.al)++(if noLs b then [] else y.al)⟩)
 | _,_=>.bad
@[simp] def aFC (x y:Vl):R Vl:=match x.d,y.d with
 | .int i,.int j=>.iff (fF i j) (.ok (.cl (.int (i*j))))
 | .str a,.int k=>.iff (aY k&&decide (a.length*k.toNat<=lim)) (.ok (.cl (.str (Str.rep a k.toNat))))
 | .lst a,.int k=>.iff (x.fr&&aY k&&decide (a.length*k.toNat<=lim)&&noLs a) (.ok ⟨.lst (List.replicate k.toNat a).flatten,true,false,[]⟩)
 | .tup a,.int k=>.iff (decide (1<=k)&&aY k&&!a.isEmpty&&decide (a.length*k.toNat<=lim)&&noLs a) (.ok (.cl (.tup (List.replicate k.toNat a).flatten)))
 | _,_=>.bad
@[simp] def sZ (f:Int->Int->R Vl) (x y:Vl):R Vl:=match x.d,y.d with
 | .int i,.int j=>f i j
 | _,_=>.bad
def opD(o:Operator)(x y:Vl):R Vl:=match o with
 | .Add=>aFB x y
 | .Mult=>aFC x y
 | .Sub=>sZ (λi j=>.ok (.cl (.int (i-j)))) x y
 | .FloorDiv=>sZ (λi j=>.iff (xK j) (.ok (.cl (.int (i / j))))) x y
 | .Mod=>sZ (λi j=>.iff (decide (0<j)) (.ok (.cl (.int (i % j))))) x y
 | .Pow=>sZ (λi j=>.iff (aEv i j) (.ok (.cl (.int (i ^ j.toNat))))) x y
 | _=>.bad
def zK:D->Option Bool
 | .non=>some false
 | .bl b=>some b
 | .int i=>some (i != 0)
 | .str x=>if x.length<=lim then some (x.length != 0) else none
 | .tup ds=>some (!ds.isEmpty)
 | .lst ds=>some (!ds.isEmpty)
 | _=>none
def eV(x:Vl):R Bool:=.of (zK x.d)
def kY:List D->Option (List Int)
 | []=>some []
 | .int a::ds=>match kY ds with
  | some ns=>some (a::ns)
  | none=>none
 | _=>none
def ltD:D->D->Option Bool
 | .int a,.int b=>some (decide (a<b))
 | _,_=>none
def leD:D->D->Option Bool
 | .int a,.int b=>some (decide (a<=b))
 | _,_=>none
def isNone:D->Bool
 | .non=>true
 | _=>false
def inD(x y:D):Option Bool:=match x,y with
 | .str a,.str b=>some (!(PySem.Builtin.Str.occurrences b a 0 b.length 1).isEmpty)
 | _,_=>none
def dM(o:CmpOp)(x y:D):Option Bool:=match o with
 | .Eq=>eqD x y
 | .NotEq=>(eqD x y).map (!·)
 | .Lt=>ltD x y
 | .Gt=>match x,y with
  | .int a,.int b=>some (decide (b<a))
  | _,_=>none
 | .LtE=>leD x y
 | .GtE=>match x,y with
  | .int a,.int b=>some (decide (b<=a))
  | _,_=>none
 | .Is=>match y with
  | .non=>some (isNone x)
  | _=>none
 | .IsNot=>match y with
  | .non=>some (!isNone x)
  | _=>none
 | .In=>inD x y
 | .NotIn=>(inD x y).map (!·)
def ixN(n:Nat)(k:Int):Option Nat:=
 if 0<=k then (if k<n then some k.toNat else none) else (if -(n:Int)<=k then some (k+n).toNat else none)
def bV(x y:Vl):R Vl:=match x.d,y.d with
 | .lst ds,.int k=>match ixN ds.length k with
  | some j=>match ds[j]? with
   | some d=>.ok (x.sub d)
   | none=>.bad
  | none=>.bad
 | .tup ds,.int k=>match ixN ds.length k with
  | some j=>match ds[j]? with
   | some d=>.ok (x.sub d)
   | none=>.bad
  | none=>.bad
 | .str a,.int k=>.iff (decide (a.length<=lim)) (match ixN a.length k with
  | some j=>match a.cps.toList[j]? with
   | some c=>.ok (.cl (.str ⟨#[c]⟩))
   | none=>.bad
  | none=>.bad)
 | _,_=>.bad
def sIx(n d:Nat):Option Int->Nat
 | none=>d
 | some v=>if v<0 then (v+(n:Int)).toNat else min v.toNat n
def cut{α:Type}(xs:List α)(lo hi:Option Int):List α:=(xs.drop (sIx xs.length 0 lo)).take (sIx xs.length xs.length hi-sIx xs.length 0 lo)
def vM(x:Str)(lo hi:Option Int):Str:=⟨(cut x.cps.toList lo hi).toArray⟩
def eW(x:Vl)(lo hi:Option Int):R Vl:=match x.d with
 | .lst ds=>.ok ⟨.lst (cut ds lo hi),true,x.pa&&!noLs ds,if noLs ds then [] else x.al⟩
 | .tup ds=>.ok ⟨.tup (cut ds lo hi),false,x.pa&&!noLs ds,if noLs ds then [] else x.al⟩
 | .str a=>.iff (decide (a.length<=lim)) (.ok (.cl (.str (vM a lo hi))))
 | _=>.bad
def isI(cs:List Cl)(P:Pg):D->Option Bool
 | .non=>some false
 | .bl _=>some (cs.contains .tBool||cs.contains .tInt)
 | .int _=>some (cs.contains .tInt)
 | .str _=>some (cs.contains .tStr)
 | .tup _=>some (cs.contains .tTuple)
 | .lst _=>some (cs.contains .tList)
 | .dic _=>some (cs.contains .tDict)
 | .err c _=>match P.above[c]? with
  | some ab=>some (ab.any λa=>cs.contains a)
  | none=>none
def aKq(i:Int):Str:=(toString i:String)
def aFD:List D->Int->Option Int
 | [],a=>some a
 | .int i::ds,a=>aFD ds (a+i)
 | .bl b::ds,a=>aFD ds (a+b2i b)
 | _,_=>none
def cW:List D->Option (List Bool)
 | []=>some []
 | .bl a::ds=>match cW ds with
  | some bs=>some (a::bs)
  | none=>none
 | _=>none
def qW:List D->Option (List (Sum Int Str))
 | []=>some []
 | .int a::ds=>match qW ds with
  | some ks=>some (.inl a::ks)
  | none=>none
 | .str a::ds=>match qW ds with
  | some ks=>some (.inr a::ks)
  | none=>none
 | _=>none
def aBc(ks:List (Sum Int Str)):List (Sum Int Str):=ks.foldl (λσ v=>if σ.any (·==v) then σ else σ++[v]) []
def aHK(x:D):List D->Option (List D)
 | []=>some [x]
 | y::ys=>match ltD x y with
  | some true=>some (x::y::ys)
  | some false=>match aHK x ys with
   | some r=>some (y::r)
   | none=>none
  | none=>none
def aEw:List D->Option (List D)
 | []=>some []
 | d::ds=>match aEw ds with
  | some r=>aHK d r
  | none=>none
def qX(x:Str):Bool:=x.cps.all λc=>decide (97<=c)&&decide (c<=122)
mutual
def wt:D->Nat
 | .non=>4
 | .bl _=>5
 | .int i=>if i.natAbs<1000000000 then 10 else lim
 | .str x=>if qX x then x.length+2 else lim
 | .tup ds=>3+wts ds
 | .lst ds=>2+wts ds
 | .dic _=>lim
 | .err _ _=>lim
def wts:List D->Nat
 | []=>0
 | d::ds=>wt d+2+wts ds
end
mutual
def dpt:D->Nat
 | .tup ds=>dpts ds+1
 | .lst ds=>dpts ds+1
 | .non=>0
 | .bl _=>0
 | .int _=>0
 | .str _=>0
 | .dic _=>0
 | .err _ _=>0
def dpts:List D->Nat
 | []=>0
 | d::ds=>max (dpt d) (dpts ds)
end
mutual
def gM:D->PySem.PyData
 | .non=>.none
 | .bl b=>.bool b
 | .int i=>.int i
 | .str x=>.str x
 | .tup ds=>.tuple (toPys ds)
 | .lst ds=>.list (toPys ds)
 | .dic _=>.none
 | .err _ _=>.none
def toPys:List D->List PySem.PyData
 | []=>[]
 | d::ds=>gM d::toPys ds
end
def aHL(d:D):Str:=(gM d).shown
@[simp] def zL (b:Bi) (x:Vl):R Vl:=match b with
 | .len=>match x.d with
  | .lst ds=>.ok (.cl (.int ds.length))
  | .tup ds=>.ok (.cl (.int ds.length))
  | .str a=>.iff (decide (a.length<=lim)) (.ok (.cl (.int a.length)))
  | _=>.bad
 | .list=>match x.d with
  | .lst ds=>.ok ⟨.lst ds,true,x.pa&&!noLs ds,if noLs ds then [] else x.al⟩
  | .tup ds=>.ok ⟨.lst ds,true,x.pa&&!noLs ds,if noLs ds then [] else x.al⟩
  | _=>.bad
 | .tuple=>match x.d with
  | .lst ds=>.ok ⟨.tup ds,false,x.pa&&!noLs ds,if noLs ds then [] else x.al⟩
  | .tup ds=>.ok ⟨.tup ds,false,x.pa,x.al⟩
  | _=>.bad
 | .abs=>match x.d with
  | .int i=>.ok (.cl (.int (if i<0 then -i else i)))
  | _=>.bad
 | .int=>match x.d with
  | .int i=>.ok (.cl (.int i))
  | .bl b=>.ok (.cl (.int (b2i b)))
  | _=>.bad
 | .bool=>match zK x.d with
  | some k=>.ok (.cl (.bl k))
  | none=>.bad
 | .str=>match x.d with
  | .int i=>.iff (decide (i.natAbs<2 ^ 1000)) (.ok (.cl (.str (aKq i))))
  | _=>.bad
 | .repr=>match x.d with
  | .tup ds=>.iff (decide (wt (.tup ds)<lim)&&decide (dpt (.tup ds)<=60)) (.ok (.cl (.str (aHL (.tup ds)))))
  | _=>.bad
 | .sum=>match x.d with
  | .lst ds=>match aFD ds 0 with
   | some i=>.ok (.cl (.int i))
   | none=>.bad
  | _=>.bad
 | .all=>match x.d with
  | .lst ds=>match cW ds with
   | some bs=>.ok (.cl (.bl (bs.all id)))
   | none=>.bad
  | _=>.bad
 | .any=>match x.d with
  | .lst ds=>match cW ds with
   | some bs=>.ok (.cl (.bl (bs.any id)))
   | none=>.bad
  | _=>.bad
 | .sorted=>match x.d with
  | .lst ds=>match aEw ds with
   | some r=>.ok ⟨.lst r,true,x.pa&&!noLs ds,if noLs ds then [] else x.al⟩
   | none=>.bad
  | _=>.bad
 | _=>.bad
@[simp] def aKr (b:Bi) (x y:Vl):R Vl:=match b with
 | .min=>match x.d,y.d with
  | .int i,.int j=>.ok (.cl (.int (if j<i then j else i)))
  | _,_=>.bad
 | .max=>match x.d,y.d with
  | .int i,.int j=>.ok (.cl (.int (if j>i then j else i)))
  | _,_=>.bad
 | _=>.bad
def biD(b:Bi)(xs:List Vl):R Vl:=match xs with
 | [x]=>zL b x
 | [x,y]=>aKr b x y
 | _=>.bad
def gN:List D->Option (List Str)
 | []=>some []
 | .str x::ds=>match gN ds with
  | some r=>some (x::r)
  | none=>none
 | _=>none
def aHM:D->D->Bool
 | .int a,.int b=>a==b
 | .str a,.str b=>a==b
 | _,_=>false
def aHN:D->Bool
 | .int _=>true
 | .str _=>true
 | _=>false
def aEx(k:D):List (D×D)->Option D
 | []=>none
 | (a,d)::r=>if aHM a k then some d else aEx k r
def upC(n:Nat):Nat:=if 97<=n/\n<=122 then n-32 else n
def mtD(m:Mt)(x:Vl)(ys:List Vl):R Vl:=match m,x.d,ys with
 | .join,.str a,[y]=>match y.d with
  | .lst ds=>match gN ds with
   | some xs=>.iff (decide ((xs.map (·.length)).sum+xs.length*a.length<=lim)) (.ok (.cl (.str (PySem.Str.join a xs))))
   | none=>.bad
  | _=>.bad
 | .get,.dic kvs,[y]=>.iff (aHN y.d) (match aEx y.d kvs with
  | some d=>.ok (x.sub d)
  | none=>.ok (.cl .non))
 | .upper,.str a,[]=>.iff (a.cps.all (·<128)) (.ok (.cl (.str ⟨a.cps.map upC⟩)))
 | _,_,_=>.bad
def dO(vs:List Vl):List Nat:=vs.flatMap (·.al)
def gD(vs:List Vl):Bool:=vs.any (·.pa)
def jD(vs:List Vl):Vl:=⟨.tup (vs.map (·.d)),false,gD vs,dO vs⟩
def jV(vs:List Vl):Vl:=⟨.lst (vs.map (·.d)),true,gD vs,dO vs⟩
def hG(args:List Vl)(r:Rt):Vl:=if r.2.2 then ⟨r.1,r.2.1,gD args,dO args⟩ else ⟨r.1,r.2.1,false,[]⟩
def fI(a b:Int):List D:=(List.range (b-a).toNat).map λ(k:Nat)=>.int (a+(k:Int))
def eN:Int->List D->List D
 | _,[]=>[]
 | k,d::ds=>.tup [.int k,d]::eN (k+1) ds
def hX:List D->List D->List D
 | a::as,b::bs=>.tup [a,b]::hX as bs
 | _,_=>[]
def cF(σ:Sg)(v:Vl):T->R Sg
 | .n i=>.ok (σ.set i v.slot)
 | .t is=>match v.d with
  | .tup ds=>if ds.length=is.length then .ok ((is.zip ds).foldl (λσ p=>σ.set p.1 (v.sub p.2).slot) σ) else .bad
  | _=>.bad
def eG(f:Vl->R (Option Vl)):List Vl->R (List Vl)
 | []=>.ok []
 | x::xs=>do
  let y<-f x
  let ys<-eG f xs
  match y with
  | some y=>.ok (y::ys)
  | none=>.ok ys
def fS:D->Option (List D)
 | .lst ds=>some ds
 | .tup ds=>some ds
 | _=>none
def items(x:Vl)(ds:List D):List Vl:=ds.map x.sub
def pM:List D->Option (List (List Int))
 | []=>some []
 | .tup as::ds=>match kY as,pM ds with
  | some a,some r=>some (a::r)
  | _,_=>none
 | _=>none
def kZ:D->Option (List (List Int))
 | .tup ds=>pM ds
 | _=>none
def gE(ks:List (List (List Int)×D))(k:List (List Int)×D):List (List (List Int)×D):=if k.1∈ks.map (·.1) then ks.map (λx=>if x.1=k.1 then (x.1,k.2) else x) else ks++[k]
def aHO:D->Bool
 | .int _|.bl _=>true
 | _=>false
def aHP(ks:List (List (List Int)×D))(k:List (List Int)):Option D:=(ks.find? λx=>decide (x.1=k)).map (·.2)
def aBd:List D->Option (List (List (List Int)×D))
 | []=>some []
 | .tup [k,v]::ds=>match kZ k,aHO v,aBd ds with
  | some a,true,some r=>some ((a,v)::r)
  | _,_,_=>none
 | _=>none
def jW(k:Nat)(caps al:List Nat)(vs:List Vl):Vl:=
 if noLs (vs.map (·.d)) then ⟨.lst (vs.map (·.d)),true,false,[]⟩
 else ⟨.lst (vs.map (·.d)),true,gD vs,al++(dO vs).filterMap λj=>caps[j-k]?⟩
def zM(σ:Sg)(i:Nat):R D:=match σ[i]? with
 | some (.par ds es)=>.ok (.lst [.lst ds,.lst es])
 | _=>.bad
def jI(r:Rt):R Vl:=.iff (noL r.1&&!r.2.1) (.ok (.cl r.1))
def frD(v:Vl):Option (List D):=match v.fr,v.d with
 | true,.lst ds=>if noLs ds then some ds else none
 | _,_=>none
def mX(σ:Sg):Bool:=σ.all λs=>match s with
 | .par _ _=>false
 | _=>true
def aDq(z:Bool)(f:List D->List D)(ds es:List D):Sl:=if z then .par ds (f es) else .par (f ds) es
def aEy(x y:Vl)(ds:List D):Vl:=if noLs ds then ⟨.lst ds,true,false,[]⟩ else ⟨.lst ds,true,x.pa||y.pa,x.al++y.al⟩
section
variable (P:Pg) (cl:Caller)
mutual
def ev(σ:Sg):E->R Vl
 | .c d=>.ok (.cl d)
 | .v i=>aL σ i
 | .op o a b=>do let x<-ev σ a;let y<-ev σ b;opD o x y
 | .neg a=>do
  let x<-ev σ a
  match x.d with
  | .int i=>.ok (.cl (.int (-i)))
  | _=>.bad
 | .nt a=>do let x<-ev σ a;let k<-eV x;.ok (.cl (.bl (!k)))
 | .an a b=>do
  let x<-ev σ a
  match x.d with
  | .bl true=>ev σ b
  | .bl false=>.ok (.cl (.bl false))
  | _=>.bad
 | .orr a b=>do
  let x<-ev σ a
  match x.d with
  | .bl true=>.ok (.cl (.bl true))
  | .bl false=>ev σ b
  | _=>.bad
 | .ife t a b=>do
  let x<-tst σ t
  if x then ev σ a else ev σ b
 | .cmp o a b=>do
  let x<-ev σ a
  let y<-ev σ b
  match dM o x.d y.d with
  | some k=>.ok (.cl (.bl k))
  | none=>.bad
 | .cmp2 o o' a b c=>do
  let x<-ev σ a
  let y<-ev σ b
  match dM o x.d y.d with
  | some true=>do
   let z<-ev σ c
   match dM o' y.d z.d with
   | some k=>.ok (.cl (.bl k))
   | none=>.bad
  | some false=>.ok (.cl (.bl false))
  | none=>.bad
 | .idx a b=>do let x<-ev σ a;let y<-ev σ b;bV x y
 | .sli a lo hi=>do
  let x<-ev σ a
  let l<-evs σ lo
  let h<-evs σ hi
  match l,h with
  | [],[]=>eW x none none
  | [l],[]=>match l.d with
   | .int l=>.iff (aY l) (eW x (some l) none)
   | _=>.bad
  | [],[h]=>match h.d with
   | .int h=>.iff (aY h) (eW x none (some h))
   | _=>.bad
  | [l],[h]=>match l.d,h.d with
   | .int l,.int h=>.iff (aY l&&aY h) (eW x (some l) (some h))
   | _,_=>.bad
  | _,_=>.bad
 | .tup es=>do let vs<-evs σ es;.ok (jD vs)
 | .lst es=>do let vs<-evs σ es;.ok (jV vs)
 | .dic ks vs=>do
  let ks<-evs σ ks
  let vs<-evs σ vs
  match (ks.map (λ(v:Vl)=>v.d):List D),(vs.map (λ(v:Vl)=>v.d):List D) with
  | [.int k],[.int v]=>.ok (.cl (.dic [(.int k,.int v)]))
  | _,_=>.bad
 | .call f es=>do
  let vs<-evs σ es
  let r<-cl f (vs.map (·.d))
  .ok (hG vs r)
 | .bi b es=>do let vs<-evs σ es;biD b vs
 | .mth m o es=>do let x<-ev σ o;let ys<-evs σ es;mtD m x ys
 | .isi a cs=>do
  let x<-ev σ a
  match isI cs P x.d with
  | some k=>.ok (.cl (.bl k))
  | none=>.bad
 | .attr a f=>do
  let x<-ev σ a
  match x.d with
  | .err _ fs=>match fs[f]? with
   | some d=>.ok (x.sub d)
   | none=>.bad
  | _=>.bad
 | .comp k caps t it cond elt=>do
  let xs<-walk σ it
  let vs<-eG (λx=>do
   let σ1<-cF (List.replicate k .dead++caps.map λi=>((freeze σ xs.2)[i]?).getD .dead) x t
   let k<-tsts σ1 cond
   if k then do let y<-ev σ1 elt;.ok (some y) else .ok none) xs.1
  .iff (decide (vs.length<=lim)) (.ok (jW k caps xs.2 vs))
 | .numset a=>do
  let x<-ev σ a
  match x.d with
  | .lst ds=>match qW ds with
   | some ks=>.iff (decide (ds.length<=1000)) (.ok (.cl (.int (aBc ks).length)))
   | none=>.bad
  | _=>.bad
 | .tget i a=>do
  let x<-ev σ a
  match x.d,P.tabs[i]? with
  | .str k,some t=>.ok (.cl ((t.lookup k).getD .non))
  | _,_=>.bad
 | .lzip a b=>do
  let x<-ev σ a
  let y<-ev σ b
  match fS x.d,fS y.d with
  | some as,some bs=>.iff (decide (as.length<=lim)) (.ok (aEy x y (hX as bs)))
  | _,_=>.bad
 | .dnin a j=>do
  let x<-ev σ a
  match σ[j]?,kZ x.d with
  | some (.dct ks),some k=>.ok (.cl (.bl (!decide (k∈ks.map (·.1)))))
  | _,_=>.bad
 | .dget j a=>do
  let x<-ev σ a
  match σ[j]?,kZ x.d with
  | some (.dct ks),some k=>(match aHP ks k with
   | some d=>.iff (aHO d) (.ok (.cl d))
   | none=>.bad)
  | _,_=>.bad
 | .dlen j=>match σ[j]? with
  | some (.dct ks)=>.ok (.cl (.int ks.length))
  | _=>.bad
 | .callP f i es=>do
  let vs<-evs σ es
  let d<-zM σ i
  let r<-cl f (d::vs.map (·.d))
  jI r
def tst(σ:Sg):E->R Bool
 | .nt a=>do let x<-tst σ a;.ok (!x)
 | .an a b=>do
  let x<-tst σ a
  if x then tst σ b else .ok false
 | .orr a b=>do
  let x<-tst σ a
  if x then .ok true else tst σ b
 | .c d=>eV (.cl d)
 | .v i=>do let x<-aL σ i;eV x
 | .cmp o a b=>do
  let x<-ev σ a
  let y<-ev σ b
  match dM o x.d y.d with
  | some k=>.ok k
  | none=>.bad
 | .cmp2 o o' a b c=>do
  let x<-ev σ a
  let y<-ev σ b
  match dM o x.d y.d with
  | some true=>do
   let z<-ev σ c
   match dM o' y.d z.d with
   | some k=>.ok k
   | none=>.bad
  | some false=>.ok false
  | none=>.bad
 | .call f es=>do
  let vs<-evs σ es
  let r<-cl f (vs.map (·.d))
  eV (hG vs r)
 | .bi b es=>do let vs<-evs σ es;let x<-biD b vs;eV x
 | .mth m o es=>do let x<-ev σ o;let ys<-evs σ es;let z<-mtD m x ys;eV z
 | .idx a b=>do let x<-ev σ a;let y<-ev σ b;let z<-bV x y;eV z
 | .isi a cs=>do
  let x<-ev σ a
  match isI cs P x.d with
  | some k=>.ok k
  | none=>.bad
 | .dnin a j=>do
  let x<-ev σ a
  match σ[j]?,kZ x.d with
  | some (.dct ks),some k=>.ok (!decide (k∈ks.map (·.1)))
  | _,_=>.bad
 | .callP f i es=>do
  let vs<-evs σ es
  let d<-zM σ i
  let r<-cl f (d::vs.map (·.d))
  let x<-jI r
  eV x
 | _=>.bad
def evs(σ:Sg):Es->R (List Vl)
 | .nil=>.ok []
 | .cons e es=>do let x<-ev σ e;let xs<-evs σ es;.ok (x::xs)
def walk(σ:Sg):It->R (List Vl×List Nat)
 | .seq e=>do
  let x<-ev σ e
  match x.d with
  | .lst ds=>.ok (items x ds,x.al)
  | .tup ds=>.ok (items x ds,x.al)
  | .str a=>.iff (decide (a.length<=lim)) (.ok (a.cps.toList.map λn=>.cl (.str ⟨#[n]⟩),[]))
  | _=>.bad
 | .rng a b=>do
  let x<-ev σ a
  let y<-ev σ b
  match x.d,y.d with
  | .int i,.int j=>.iff (aY i&&aY j) (.ok ((fI i j).map .cl,[]))
  | _,_=>.bad
 | .zip a b=>do
  let x<-ev σ a
  let y<-ev σ b
  match fS x.d,fS y.d with
  | some as,some bs=>.ok (items ⟨.non,false,x.pa||y.pa,x.al++y.al⟩ (hX as bs),x.al++y.al)
  | _,_=>.bad
 | .enum a=>do
  let x<-ev σ a
  match fS x.d with
  | some as=>.ok (items x (eN 0 as),x.al)
  | none=>.bad
 | .rev a=>do
  let x<-ev σ a
  match fS x.d with
  | some as=>.ok (items x as.reverse,x.al)
  | none=>.bad
def tsts(σ:Sg):Es->R Bool
 | .nil=>.ok true
 | .cons e es=>do
  let x<-tst σ e
  if x then tsts σ es else .ok false
end
inductive O where
 | next (σ:Sg)|brk (σ:Sg)|cnt (σ:Sg)|ret (v:Vl)|exc (x:D) (σ:Sg)|bad
 deriving Inhabited
def O.from{α:Type}(σ:Sg)(x:R α)(f:α->O):O:=match x with
 | .ok a=>f a
 | .exc e=>.exc e σ
 | .bad=>.bad
def O.on(o:O)(f:Sg->O):O:=match o with
 | .next σ=>f σ
 | o=>o
def dJ(f:Sg->Vl->O):List Vl->Sg->O
 | [],σ=>.next σ
 | x::xs,σ=>match f σ x with
  | .next σ'=>dJ f xs σ'
  | .cnt σ'=>dJ f xs σ'
  | .brk σ'=>.next σ'
  | o=>o
def fJ(t:Sg->R Bool)(f:Sg->O):Nat->Sg->O
 | 0,_=>.bad
 | n+1,σ=>O.from σ (t σ) λk=>if k then (match f σ with
     | .next σ'=>fJ t f n σ'
     | .cnt σ'=>fJ t f n σ'
     | .brk σ'=>.next σ'
     | o=>o) else .next σ
def mY:Nat:=1000000
def eO(σ:Sg)(i:Nat):Option (Bool×List D):=match σ[i]? with
 | some (.own pa ds)=>some (pa,ds)
 | _=>none
def put(σ:Sg)(i:Nat)(v:Vl)(f:List D->Option (List D)):O:=match eO (freeze σ v.al) i with
 | some (pa,ds)=>match f ds with
  | some ds'=>if ds'.length<=lim then .next ((freeze σ v.al).set i (.own (pa||v.pa) ds')) else .bad
  | none=>.bad
 | none=>.bad
def aEz(σ:Sg)(i:Nat)(v:Vl):O:=put σ i v λds=>some (ds++[v.d])
def pN(v:Vl):Option (Vl×List D):=match v.fr,v.d with
 | true,.lst ds=>some (⟨.non,false,v.pa&&!noLs ds,if noLs ds then [] else v.al⟩,ds)
 | _,_=>none
def aBe(σ:Sg)(i:Nat)(k:Option Int):R (Vl×Sg):=match eO σ i with
 | some (pa,ds)=>match (match k with|none=>ixN ds.length (-1)|some k=>ixN ds.length k) with
  | some j=>match ds[j]? with
   | some d=>.ok (Vl.sub ⟨.non,false,pa,[]⟩ d,σ.set i (.own pa (ds.eraseIdx j)))
   | none=>.bad
  | none=>.bad
 | none=>.bad
def vN(e:Sg->E->R Vl):Sg->List Vl->List Arg->R (List Vl×Sg)
 | σ,acc,[]=>.ok (acc,σ)
 | σ,acc,.e a::as=>do let x<-e σ a;vN e σ (acc++[x]) as
 | σ,acc,.pop j::as=>do
  let (x,σ')<-aBe σ j none
  if (dO acc).contains j then .bad else vN e σ' (acc++[x]) as
def aHQ(e:Option (R Vl)):R (Option Int):=match e with
 | none=>.ok none
 | some x=>do
  let v<-x
  match v.d with
  | .int k=>.iff (aY k) (.ok (some k))
  | _=>.bad
mutual
def ex(σ:Sg):S->O
 | .set t e=>O.from σ (ev P cl σ e) λv=>O.from σ (cF (freeze σ v.al) v t) .next
 | .mov i j=>match σ[j]? with
  | some (.own pa ds)=>if i=j then .bad else .next ((σ.set j .dead).set i (.own pa ds))
  | some (.sh pa d)=>.next (σ.set i (.sh (pa&&!noL d) d))
  | _=>.bad
 | .setIx i k e=>O.from σ (ev P cl σ e) λv=>O.from σ (ev P cl σ k) λkv=>match kv.d with
  | .int k=>put σ i v λds=>match ixN ds.length k with
   | some j=>some (ds.set j v.d)
   | none=>none
  | _=>.bad
 | .app i e=>O.from σ (ev P cl σ e) λv=>aEz σ i v
 | .ext i e=>O.from σ (ev P cl σ e) λv=>match pN v with
  | some (v',ds')=>put σ i v' λds=>some (ds++ds')
  | none=>.bad
 | .pop t i k=>O.from σ (aHQ (k.map λe=>ev P cl σ e)) λk=>O.from σ (aBe σ i k) λ(v,σ')=>match t with
  | none=>.next σ'
  | some t=>O.from σ' (cF σ' v t) .next
 | .clr i=>put σ i (.cl .non) λ_=>some []
 | .ins i k e=>O.from σ (ev P cl σ k) λkv=>O.from σ (ev P cl σ e) λv=>match kv.d with
  | .int k=>if 0<=k/\k<1000000 then put σ i v λds=>some (ds.take k.toNat++v.d::ds.drop k.toNat) else .bad
  | _=>.bad
 | .rev i=>put σ i (.cl .non) λds=>some ds.reverse
 | .appCall i f as=>O.from σ (vN (λσ a=>ev P cl σ a) σ [] as) λ(vs,σ')=>O.from σ' (cl f (vs.map (·.d))) λr=>aEz σ' i (hG vs r)
 | .ret e=>O.from σ (ev P cl σ e) .ret
 | .retv i=>match σ[i]? with
  | some (.own pa ds)=>.ret ⟨.lst ds,true,pa,[]⟩
  | _=>O.from σ (aL σ i) .ret
 | .retN=>.ret (.cl .non)
 | .iff c a b=>O.from σ (tst P cl σ c) λk=>if k then exs σ a else exs σ b
 | .for t it b=>O.from σ (walk P cl σ it) λxs=>dJ (λσ x=>O.from σ (cF σ x t) λσ'=>exs σ' b) xs.1 (freeze σ xs.2)
 | .whl c b=>fJ (λσ=>tst P cl σ c) (λσ=>exs σ b) mY σ
 | .brk=>.brk σ
 | .cnt=>.cnt σ
 | .pass=>.next σ
 | .ex e=>O.from σ (ev P cl σ e) λ_=>.next σ
 | .dnew i=>.next (σ.set i (.dct []))
 | .dput i e=>O.from σ (ev P cl σ e) λv=>match σ[i]?,kZ v.d with
  | some (.dct ks),some k=>if ks.length<lim then .next (σ.set i (.dct (gE ks (k,.bl true)))) else .bad
  | _,_=>.bad
 | .dfrom i e=>O.from σ (ev P cl σ e) λv=>match v.fr,v.d with
  | true,.lst ds=>(match aBd ds with
   | some ks=>.next (σ.set i (.dct (ks.foldl gE [])))
   | none=>.bad)
  | _,_=>.bad
 | .two i a b=>O.from σ (ev P cl σ a) λx=>O.from σ (ev P cl σ b) λy=>match frD x,frD y,mX σ with
  | some ds,some es,true=>.next (σ.set i (.par ds es))
  | _,_,_=>.bad
 | .appP i z e=>O.from σ (ev P cl σ e) λv=>match σ[i]?,noL v.d with
  | some (.par ds es),true=>if ds.length<lim/\es.length<lim then .next (σ.set i (aDq z (·++[v.d]) ds es)) else .bad
  | _,_=>.bad
 | .clrP i z=>match σ[i]? with
  | some (.par ds es)=>.next (σ.set i (aDq z (λ_=>[]) ds es))
  | _=>.bad
 | .rse c keep es=>O.from σ (evs P cl σ es) λvs=>.exc (.err c (if keep then vs.map (·.d) else [])) σ
 | .try b hs=>match exs σ b with
  | .exc x σ'=>hdl σ' x hs
  | o=>o
def exs(σ:Sg):Ss->O
 | .nil=>.next σ
 | .cons s ss=>(ex σ s).on λσ'=>exs σ' ss
def hdl(σ:Sg)(x:D):Hs->O
 | .nil=>.exc x σ
 | .cons cs n b hs=>match isI cs P x with
  | some true=>match n with
   | none=>exs σ b
   | some i=>match exs (σ.set i (.sh true x)) b with
    | .next σ'=>.next (σ'.set i .dead)
    | .brk σ'=>.brk (σ'.set i .dead)
    | .cnt σ'=>.cnt (σ'.set i .dead)
    | .exc x σ'=>.exc x (σ'.set i .dead)
    | o=>o
  | some false=>hdl σ x hs
  | none=>.bad
end
def vO(f:Nat)(ds:List D):R Rt:=match P.fns[f]? with
 | none=>.bad
 | some F=>if ds.length=F.np then
  match exs P cl ((ds.map λd=>Sl.sh true d)++List.replicate (F.ns-F.np) Sl.dead) F.body with
  | .ret v=>.ok (v.d,v.fr,v.pa)
  | .next _=>.ok (.non,false,false)
  | .exc x _=>.exc x
  | _=>.bad
  else .bad
end
def call(P:Pg):Nat->Caller
 | 0=>λ_ _=>.bad
 | n+1=>vO P (call P n)
end Hp
end
noncomputable section
namespace Hp
open PySem
structure Ct where
 N:List Str
 sc:List (Str×NameKind)
 fns:List Str
 cns:List (Str×D)
 cls:List Str
 fn:Bool
 tbs:List Str
def aBf(Γ:Ct)(x:Str):Bool:=match Γ.sc.lookup x with
 | some .local=>true
 | some .cell=>true
 | some .free=>true
 | _=>false
def tB(Γ:Ct)(x:Str):Bool:=match Γ.sc.lookup x with
 | some .local=>true
 | some .cell=>Γ.fn
 | _=>false
def mZ(sc names:List (Str×NameKind)):List (Str×NameKind):=names.map λ(n,k)=>if (k==.free&&sc.lookup n==some .cell) then (n,.cell) else (n,k)
def nA:Expr->Bool
 | .Tuple _ _ _=>true
 | _=>false
def tIx:T->List Nat
 | .n i=>[i]
 | .t is=>is
def eR(Γ:Ct)(x:Str):Bool:=match Γ.sc.lookup x with
 | some .globalImplicit=>true
 | _=>false
def dC(x:Str):Bool:=!(x==("__debug__" : Str))&&!(x==("__classdict__" : Str))
def cB(Γ:Ct)(i:Nat)(x:Str):Bool:=(Γ.N[i]?==some x)&&aBf Γ x&&dC x
def cG(Γ:Ct)(i:Nat)(x:Str):Bool:=(Γ.N[i]?==some x)&&tB Γ x&&dC x
def eqC:D->Const->Bool
 | .non,.none=>true
 | .bl a,.bool b=>a==b
 | .int a,.int b=>a==b
 | .str a,.str b=>a==b
 | _,_=>false
def eqK:D->D->Bool
 | .non,.non=>true
 | .bl a,.bl b=>a==b
 | .int a,.int b=>a==b
 | .str a,.str b=>a==b
 | _,_=>false
def jJ:Bi->Str
 | .len => "len" | .list => "list" | .tuple => "tuple" | .min => "min" | .max => "max" | .abs => "abs" | .int => "int" | .str => "str" | .sum => "sum" | .all => "all" | .any => "any" | .sorted => "sorted" | .bool => "bool" | .repr => "repr"
def aBg:Bi->Bool
 | .len=>true|.list=>true|.tuple=>true|.int=>true|.all=>true
 | _=>false
def aKs:Cl->Bool
 | .own _=>false
 | .tValueError=>false
 | _=>true
def aBh:Mt->Str
 | .join => "join" | .upper => "upper" | .lower => "lower" | .get => "get" | .startswith => "startswith" | .endswith => "endswith" | .index => "index" | .count => "count" | .copy => "copy"
 | .isdigit => "isdigit" | .find => "find" | .replace => "replace" | .split => "split" | .strip => "strip"
def vP(Γ:Ct):Cl->Option Str
 | .tInt=>some "int" | .tBool=>some "bool" | .tStr=>some "str" | .tList=>some "list" | .tTuple=>some "tuple" | .tDict=>some "dict" | .tValueError=>some "ValueError"
 | .own c=>Γ.cls[c]?
def aEA(Γ:Ct)(c:Cl):Expr->Bool
 | .Name x _=>(vP Γ c==some x)&&eR Γ x&&dC x
 | _=>false
def oY(Γ:Ct):T->Expr->Bool
 | .n i,.Name x _=>cG Γ i x
 | .t is,.Tuple es _ _=>is.length==es.length&&(is.zip es).all λp=>match p.2 with
  | .Name x _=>cG Γ p.1 x
  | _=>false
 | _,_=>false
def fX:Expr->List Str
 | .Name x _=>[x]
 | .Tuple es _ _=>es.filterMap fun|.Name x _=>some x|_=>none
 | _=>[]
def aKt:Mt->Bool
 | .join=>true
 | _=>false
def aHR:Expr->Bool
 | .Name _ _=>true
 | .Constant _ _ _=>true
 | _=>false
def vQ:E->Bool
 | .c (.int i)=>i==0
 | _=>false
def asC(e:Expr):Option { c:Const // ∃k p,e=.Constant c k p }:=match e with
 | .Constant c k p=>some ⟨c,k,p,rfl⟩
 | _=>none
def asN(e:Expr):Option { x:Str // ∃p,e=.Name x p }:=match e with
 | .Name x p=>some ⟨x,p,rfl⟩
 | _=>none
def aHS(e:Expr):Option { r:Expr×Operator×Expr // ∃p,e=.BinOp r.1 r.2.1 r.2.2 p }:=match e with
 | .BinOp l o r p=>some ⟨(l,o,r),p,rfl⟩
 | _=>none
def aKu(e:Expr):Option { r:UnaryOp×Expr // ∃p,e=.UnaryOp r.1 r.2 p }:=match e with
 | .UnaryOp o x p=>some ⟨(o,x),p,rfl⟩
 | _=>none
def aHT(e:Expr):Option { r:BoolOp×List Expr×Pos // e=.BoolOp r.1 r.2.1 r.2.2 }:=match e with
 | .BoolOp o xs p=>some ⟨(o,xs,p),rfl⟩
 | _=>none
def aKv(e:Expr):Option { r:Expr×Expr×Expr // ∃p,e=.IfExp r.1 r.2.1 r.2.2 p }:=match e with
 | .IfExp t a b p=>some ⟨(t,a,b),p,rfl⟩
 | _=>none
def aBi(e:Expr):Option { r:Expr×List CmpOp×List Expr // ∃p,e=.Compare r.1 r.2.1 r.2.2 p }:=match e with
 | .Compare l os rs p=>some ⟨(l,os,rs),p,rfl⟩
 | _=>none
def pO(e:Expr):Option { r:Expr×Expr // ∃p,e=.Subscript r.1 r.2 p }:=match e with
 | .Subscript x i p=>some ⟨(x,i),p,rfl⟩
 | _=>none
def aKw(e:Expr):Option { r:Option Expr×Option Expr // ∃p,e=.Slice r.1 r.2 none p }:=match e with
 | .Slice l h none p=>some ⟨(l,h),p,rfl⟩
 | _=>none
def aHU(e:Expr):Option { r:List Expr // ∃k p,e=.Tuple r k p }:=match e with
 | .Tuple xs k p=>some ⟨xs,k,p,rfl⟩
 | _=>none
def aEB(e:Expr):Option { r:List Expr // ∃p,e=.List r p }:=match e with
 | .List xs p=>some ⟨xs,p,rfl⟩
 | _=>none
def oZ(e:Expr):Option { r:Str×List Expr // ∃p1 p2,e=.Call (.Name r.1 p1) r.2 [] p2 }:=match e with
 | .Call (.Name x p1) xs [] p2=>some ⟨(x,xs),p1,p2,rfl⟩
 | _=>none
def aFE(e:Expr):Option { r:Expr×Str×List Expr×Bool // ∃ap cp,e=.Call (.Attribute r.1 r.2.1 ap) r.2.2.1 [] cp/\(ap.endLine==cp.line)=r.2.2.2 }:=match e with
 | .Call (.Attribute x a ap) xs [] cp=>some ⟨(x,a,xs,ap.endLine==cp.line),ap,cp,rfl,rfl⟩
 | _=>none
def aKx(e:Expr):Option { r:Expr×List Comprehension×Scope // ∃p,e=.ListComp r.1 r.2.1 r.2.2 p }:=match e with
 | .ListComp e gs s p=>some ⟨(e,gs,s),p,rfl⟩
 | _=>none
def oB{α:Type}(o:Option α)(f:α->Bool):Bool:=match o with
 | some a=>f a
 | none=>false
def oS{α:Type}{q:α->Prop}(o:Option { a:α // q a })(f:α->Bool):Bool:=match o with
 | some a=>f a.1
 | none=>false
mutual
def bL(Γ:Ct):E->Expr->Bool
 | .c d,e=>oS (asC e) (eqC d)||oS (asN e) λx=>eR Γ x&&dC x&&oB (Γ.cns.lookup x) (eqK d)
 | .v i,e=>oS (asN e) (cB Γ i)
 | .op o a b,e=>oS (aHS e) λp=>o==p.2.1&&bL Γ a p.1&&bL Γ b p.2.2
 | .neg _,_=>false
 | .nt a,e=>oS (aKu e) λp=>p.1==.Not&&bL Γ a p.2
 | .an a b,e=>oS (aHT e) λp=>p.1==.And&&(match p.2.1 with
  | [x,y]=>bL Γ a x&&bL Γ b y
  | x::y::z::r=>bL Γ a x&&bL Γ b (.BoolOp .And (y::z::r) p.2.2)
  | _=>false)
 | .orr a b,e=>oS (aHT e) λp=>p.1==.Or&&(match p.2.1 with
  | [x,y]=>bL Γ a x&&bL Γ b y
  | x::y::z::r=>bL Γ a x&&bL Γ b (.BoolOp .Or (y::z::r) p.2.2)
  | _=>false)
 | .ife t a b,e=>oS (aKv e) λp=>bL Γ t p.1&&bL Γ a p.2.1&&bL Γ b p.2.2
 | .cmp o a b,e=>oS (aBi e) λp=>(match p.2.1,p.2.2 with
  | [o'],[r]=>o==o'&&bL Γ a p.1&&bL Γ b r
  | _,_=>false)
 | .cmp2 o1 o2 a b c,e=>oS (aBi e) λp=>(match p.2.1,p.2.2 with
  | [o1',o2'],[m,r]=>o1==o1'&&o2==o2'&&bL Γ a p.1&&bL Γ b m&&bL Γ c r
  | _,_=>false)
 | .dnin a j,e=>oS (aBi e) λp=>(match p.2.1,p.2.2 with
  | [o'],[r]=>CmpOp.NotIn==o'&&bL Γ a p.1&&oS (asN r) λx=>cB Γ j x
  | _,_=>false)
 | .dget _ _,_=>false
 | .dlen _,_=>false
 | .idx a b,e=>oS (pO e) λp=>bL Γ a p.1&&bL Γ b p.2
 | .sli a lo hi,e=>oS (pO e) λp=>oS (aKw p.2) λq=>bL Γ a p.1&&chkO Γ lo q.1&&chkO Γ hi q.2
 | .tup es,e=>oS (aHU e) λxs=>decide (xs.length<=1000)&&chkEs Γ es xs
 | .lst es,e=>oS (aEB e) λxs=>decide (xs.length<=1000)&&chkEs Γ es xs
 | .call f es,e=>oS (oZ e) λp=>(Γ.fns[f]?==some p.1)&&eR Γ p.1&&dC p.1&&chkEs Γ es p.2
 | .callP f i es,e=>oS (oZ e) λp=>(Γ.fns[f]?==some p.1)&&eR Γ p.1&&dC p.1&&(match p.2 with
  | y::ys=>oS (asN y) (λx=>cB Γ i x)&&chkEs Γ es ys
  | []=>false)
 | .bi b es,e=>oS (oZ e) λp=>aBg b&&(jJ b==p.1)&&eR Γ p.1&&dC p.1&&!p.2.isEmpty&&chkEs Γ es p.2
 | .mth m o es,e=>oS (aFE e) λp=>aKt m&&(aBh m==p.2.1)&&aHR p.1&&p.2.2.2&&decide (p.2.2.1.length=1)&&bL Γ o p.1&&chkEs Γ es p.2.2.1
 | .numset _,_=>false
 | .tget _ _,_=>false
 | .lzip _ _,_=>false
 | .isi a cs,e=>oS (oZ e) λp=>(match cs,p.2 with
  | [c],[x,y]=>(p.1==("isinstance" : Str))&&eR Γ p.1&&aKs c&&bL Γ a x&&aEA Γ c y
  | _,_=>false)
 | .comp k caps t it cond elt,e=>oS (aKx e) λp=>(match p.2.1 with
  | [⟨tg,iter,ifs,as⟩]=>
   as==0&&(fX tg).length==k&&(caps.all λi=>decide (i<Γ.N.length))&&decide caps.Nodup&&p.2.2.kind==.function&&decide (fX tg++caps.filterMap λi=>Γ.N[i]?).Nodup &&
   ((caps.filterMap λi=>Γ.N[i]?).all λx=>p.2.2.names.lookup x==some .free&&Γ.sc.lookup x==some .cell) &&
   (p.2.2.names.all λq=>q.2 != .cell&&(q.2 != .local||p.2.2.names.lookup q.1==some .local)&&(q.2 != .free||Γ.sc.lookup q.1==some .cell)) &&
   ((tIx t).all λi=>decide (i<k))&&decide (ifs.length<=1) &&
   oY { Γ with N:=fX tg++caps.filterMap λi=>Γ.N[i]?,sc:=mZ Γ.sc p.2.2.names,fn:=false } t tg&&chkI Γ (nA tg) it iter &&
   chkEs { Γ with N:=fX tg++caps.filterMap λi=>Γ.N[i]?,sc:=mZ Γ.sc p.2.2.names,fn:=false } cond ifs &&
   bL { Γ with N:=fX tg++caps.filterMap λi=>Γ.N[i]?,sc:=mZ Γ.sc p.2.2.names,fn:=false } elt p.1
  | _=>false)
 | .dic _ _,_=>false
 | .attr _ _,_=>false
def chkEs(Γ:Ct):Es->List Expr->Bool
 | .nil,[]=>true
 | .cons e es,x::xs=>bL Γ e x&&chkEs Γ es xs
 | _,_=>false
def chkO(Γ:Ct):Es->Option Expr->Bool
 | .nil,none=>true
 | .cons e .nil,some x=>bL Γ e x
 | _,_=>false
def chkI(Γ:Ct)(tt:Bool):It->Expr->Bool
 | .rng a b,e=>oS (oZ e) λp=>(p.1==("range" : Str))&&eR Γ p.1&&(match p.2 with
  | [x]=>vQ a&&bL Γ b x
  | [x,y]=>bL Γ a x&&bL Γ b y
  | _=>false)
 | .zip a b,e=>oS (oZ e) λp=>(match p.2 with
  | [x,y]=>tt&&(p.1==("zip" : Str))&&eR Γ p.1&&bL Γ a x&&bL Γ b y
  | _=>false)
 | .seq c,x=>bL Γ c x
 | .enum a,e=>oS (oZ e) λp=>(match p.2 with
  | [x]=>tt&&(p.1==("enumerate" : Str))&&eR Γ p.1&&bL Γ a x
  | _=>false)
 | .rev _,_=>false
end
def nB:Expr->Bool
 | .ListComp _ _ _ _=>true
 | .SetComp _ _ _ _=>true
 | .DictComp _ _ _ _ _=>true
 | _=>false
def vR:Expr->Bool
 | .Tuple _ _ _=>true
 | .List _ _=>true
 | _=>false
def aFF:Expr->Bool
 | .Name _ _=>true
 | _=>false
def pA(Γ:Ct)(i:Nat)(m:Str):Expr->Option (List Expr)
 | .Call (.Attribute (.Name x _) a ap) xs [] cp=>if (a==m)&&cB Γ i x&&(ap.endLine==cp.line) then some xs else none
 | _=>none
def aKy(e:Expr):Option { r:Unit // ∃p,e=.Dict [] [] p }:=match e with
 | .Dict [] [] p=>some ⟨(),p,rfl⟩
 | _=>none
def zN(s:Stmt):Option { r:Expr×Expr // ∃p,s=.Assign [r.1] r.2 p }:=match s with
 | .Assign [t] v p=>some ⟨(t,v),p,rfl⟩
 | _=>none
def sEx(s:Stmt):Option { r:Expr // ∃p,s=.Expr r p }:=match s with
 | .Expr v p=>some ⟨v,p,rfl⟩
 | _=>none
def aFG(s:Stmt):Option { r:Option Expr // ∃p,s=.Return r p }:=match s with
 | .Return v p=>some ⟨v,p,rfl⟩
 | _=>none
def sIf(s:Stmt):Option { r:Expr×List Stmt×List Stmt // ∃p,s=.If r.1 r.2.1 r.2.2 p }:=match s with
 | .If t x y p=>some ⟨(t,x,y),p,rfl⟩
 | _=>none
def aKz(s:Stmt):Option { r:Expr×Expr×List Stmt // ∃p,s=.For r.1 r.2.1 r.2.2 [] p }:=match s with
 | .For t i b [] p=>some ⟨(t,i,b),p,rfl⟩
 | _=>none
def aKA(s:Stmt):Option { r:Expr×List Stmt // ∃p,s=.While r.1 r.2 [] p }:=match s with
 | .While t b [] p=>some ⟨(t,b),p,rfl⟩
 | _=>none
def aKB(s:Stmt):Option { r:Unit // ∃p,s=.Break p }:=match s with
 | .Break p=>some ⟨(),p,rfl⟩
 | _=>none
def aKC(s:Stmt):Option { r:Unit // ∃p,s=.Continue p }:=match s with
 | .Continue p=>some ⟨(),p,rfl⟩
 | _=>none
def aHV(s:Stmt):Option { r:Unit // ∃p,s=.Pass p }:=match s with
 | .Pass p=>some ⟨(),p,rfl⟩
 | _=>none
mutual
def fK(Γ:Ct):S->Stmt->Bool
 | .set t e,s=>oS (zN s) λr=>oY Γ t r.1&&bL Γ e r.2&&(aFF r.1||!vR r.2)
 | .mov i j,s=>oS (zN s) λr=>oS (asN r.1) λx=>oS (asN r.2) λy=>cG Γ i x&&cB Γ j y
 | .dnew i,s=>oS (zN s) λr=>oS (asN r.1) λx=>cG Γ i x&&oS (aKy r.2) λ_=>true
 | .dput i e,s=>oS (zN s) λr=>oS (pO r.1) λu=>oS (asN u.1) λx=>cB Γ i x&&bL Γ e u.2&&bL Γ (.c (.bl true)) r.2
 | .dfrom _ _,_=>false
 | .setIx i k e,s=>oS (zN s) λr=>oS (pO r.1) λu=>oS (asN u.1) λx=>cB Γ i x&&bL Γ k u.2&&bL Γ e r.2
 | .two i a b,s=>oS (zN s) λr=>oS (asN r.1) λx=>oS (aEB r.2) λys=>cG Γ i x&&(match ys with|[y,z]=>bL Γ a y&&bL Γ b z|_=>false)
 | .appP i z e,s=>oS (sEx s) λc=>oS (aFE c) λr=>oS (pO r.1) λu=>oS (asN u.1) λx=>cB Γ i x&&bL Γ (.c (.int (b2i z))) u.2&&(r.2.1==("append" : Str))&&r.2.2.2&&(match r.2.2.1 with|[a]=>bL Γ e a|_=>false)
 | .clrP i z,s=>oS (sEx s) λc=>oS (aFE c) λr=>oS (pO r.1) λu=>oS (asN u.1) λx=>cB Γ i x&&bL Γ (.c (.int (b2i z))) u.2&&(r.2.1==("clear" : Str))&&r.2.2.2&&r.2.2.1.isEmpty
 | .app i e,s=>oS (sEx s) λc=>(match pA Γ i "append" c with|some [a]=>bL Γ e a|_=>false)
 | .appCall _ _ _,_=>false
 | .ext i e,s=>oS (sEx s) λc=>(match pA Γ i "extend" c with|some [a]=>bL Γ e a|_=>false)
 | .pop _ _ _,_=>false
 | .clr _,_=>false
 | .rev _,_=>false
 | .ret e,s=>oS (aFG s) λr=>oB r (bL Γ e)
 | .retv i,s=>oS (aFG s) λr=>oB r λv=>oS (asN v) (cB Γ i)
 | .retN,s=>oS (aFG s) λr=>r.isNone
 | .iff c a b,s=>oS (sIf s) λr=>bL Γ c r.1&&chkSs Γ a r.2.1&&chkSs Γ b r.2.2
 | .for t it b,s=>oS (aKz s) λr=>oY Γ t r.1&&chkI Γ (nA r.1) it r.2.1&&chkSs Γ b r.2.2
 | .whl c b,s=>oS (aKA s) λr=>bL Γ c r.1&&chkSs Γ b r.2
 | .brk,s=>oS (aKB s) λ_=>true
 | .cnt,s=>oS (aKC s) λ_=>true
 | .pass,s=>oS (aHV s) λ_=>true
 | .ex e,s=>oS (sEx s) λv=>bL Γ e v&&!nB v
 | .rse _ _ _,_=>true
 | .ins _ _ _,_=>false
 | .try _ _,_=>false
def chkSs(Γ:Ct):Ss->List Stmt->Bool
 | .nil,[]=>true
 | .cons s ss,x::xs=>fK Γ s x&&chkSs Γ ss xs
 | _,_=>false
end
end Hp
end
noncomputable section
namespace Hp
open PySem PySem.Spec PyProof.Rows L2
theorem jX(n:Nat){d:Nat}(hd:d<=n):∀lo,sIx n d lo<=n
 | none=>hd
 | some v=>by
  unfold sIx
  dsimp only
  split <;> omega
theorem tD(lo hi:Option Int)(n:Nat):Builtin.Str.strSliceIndices lo hi 1 n=Builtin.Str.strSliceIndices (some ((sIx n 0 lo:Nat):Int)) (some ((sIx n n hi:Nat):Int)) 1 n:=by
 have h1:(1:Int)>0:=by decide
 have key:∀(d:Nat) (hd:d<=n) (o:Option Int),(match o with|none=>(d:Int)|some i=>max 0 (min (if i<0 then i+(n:Int) else i) (n:Int)))=((sIx n d o:Nat):Int):=by
  intro d hd o
  cases o with
  | none=>rfl
  | some i=>
   unfold sIx
   dsimp only
   split <;> omega
 have k2:∀(m:Nat),m<=n->max (0:Int) (min (if (m:Int)<0 then (m:Int)+(n:Int) else (m:Int)) (n:Int))=(m:Int):=by
  intro m hm
  split <;> omega
 unfold Builtin.Str.strSliceIndices
 simp only[h1,if_true]
 have e1:=key 0 (Nat.zero_le _) lo
 have e2:=key n (Nat.le_refl _) hi
 have f1:=k2 _ (jX n (Nat.zero_le _) lo)
 have f2:=k2 _ (jX n (Nat.le_refl _) hi)
 rw[f1,f2]
 cases lo <;> cases hi <;> simp_all
theorem pB(x:Str)(lo hi:Option Int):StrLaws.sliceText x lo hi=vM x lo hi:=by
 have hl:x.cps.toList.length=x.length:=by show _=x.cps.size;simp
 have e:StrLaws.sliceText x lo hi=StrLaws.sliceText x (some ((sIx x.length 0 lo:Nat):Int)) (some ((sIx x.length x.length hi:Nat):Int)):=by
  unfold StrLaws.sliceText
  rw[tD]
 rw[e]
 unfold vM cut
 rw[hl]
 by_cases h:sIx x.length 0 lo<=sIx x.length x.length hi
 . exact StrLaws.sliceText_nat x h (jX _ (Nat.le_refl _) hi)
 . have h0:sIx x.length x.length hi-sIx x.length 0 lo=0:=by omega
   have hlo:=jX x.length (Nat.zero_le _) lo
   have hhi:=jX x.length (Nat.le_refl _) hi
   rw[h0,List.take_zero]
   generalize sIx x.length 0 lo=i at *
   generalize sIx x.length x.length hi=j at *
   have he:Builtin.Str.strSliceIndices (some (i:Int)) (some (j:Int)) 1 x.length=[]:=by
    unfold Builtin.Str.strSliceIndices
    have h1:(1:Int)>0:=by decide
    simp only[h1,if_true]
    rw[if_neg (by omega),if_neg (by omega)]
    have a1:max (0:Int) (min (i:Int) (x.length:Int))=i:=by omega
    have a2:max (0:Int) (min (j:Int) (x.length:Int))=j:=by omega
    rw[a1,a2]
    unfold sliceRange
    simp
    omega
   unfold StrLaws.sliceText
   rw[he]
   simp
   intro hz
   omega
def aBj:V->Option Int->Option Int->L2.Hp->VK->Prop:=λx lo hi H Q=>∃a,x=.str a/\a.length<=sizeLine/\Q (.str (vM a lo hi)) H
section
variable {X:Cx}
theorem aFH:SlR X aBj:=by
 intro pins s σ H x v vl vu lo hi sl Q I rx hs pl pu h
 obtain⟨a,rfl,hz,q⟩:=h
 obtain⟨t,rfl⟩:=rx
 have fin:∀(l u:Option (Int×Tok)),l.map (·.1)=lo->u.map (·.1)=hi->s.heap.IsSlice sl l u none->wpAny (model X.prog X.w) X.A (getItem (.str a t) (.ref sl)) (EP X pins σ Q) X.xe s:=by
  intro l u e1 e2 h
  refine wpAny_getItem_str_slice h rfl ?_
  have e:StrLaws.sliceText a lo hi=vM a lo hi:=pB a lo hi
  unfold StrLaws.sliceText at e
  subst e1 e2
  show Made.post (if ((1:Int)==1&&(Builtin.Str.strSliceIndices (l.map (·.1)) (u.map (·.1)) 1 a.length).length==a.length)=true then _ else _) _ s
  split
  . rename_i hc
    rw[if_pos hc] at e
    exact⟨.str a,H,I,⟨t,rfl⟩,by rw[e];exact q⟩
  . rename_i hc
    rw[if_neg hc] at e
    have hle:(vM a (l.map (·.1)) (u.map (·.1))).length<=sizeLine:=by
     refine Nat.le_trans ?_ hz
     show(cut a.cps.toList _ _).toArray.size<=a.cps.size
     unfold cut
     rw[List.size_toArray,List.length_take,List.length_drop,Array.length_toList]
     omega
    refine⟨by rw[<-e] at hle;exact hle,.str (vM a (l.map (·.1)) (u.map (·.1))),H,I.tok _,?_,q⟩
    rw[<-e]
    exact⟨_,rfl⟩
 refine⟨"str",_,slot_str_getitem.lookup,rfl,?_⟩
 cases pl with
 | none=>
  cases pu with
  | none=>exact fin none none rfl rfl hs
  | int j tj=>exact fin none (some (j,tj)) rfl rfl hs
 | int i ti=>
  cases pu with
  | none=>exact fin (some (i,ti)) none rfl rfl hs
  | int j tj=>exact fin (some (i,ti)) (some (j,tj)) rfl rfl hs
end
end Hp
end
noncomputable section
namespace Hp
open PySem L2
abbrev Fg:=PySem.W.Frag
def kD:Key->D
 | .inl i=>.int i
 | .inr x=>.str x
mutual
def Rep(K:Fg)(H:Hp)(ex:Addr->Prop):D->V->Prop
 | .non,v=>v=.non
 | .bl b,v=>v=.bl b
 | .int i,v=>v=.int i
 | .str x,v=>v=.str x
 | .tup ds,v=>∃a xs,v=.ref a/\SqT K H a xs/\Reps K H ex ds xs
 | .lst ds,v=>∃a xs,v=.ref a/\SqL K H a xs/\¬ ex a/\Reps K H ex ds xs
 | .dic kvs,v=>∃a ks,v=.ref a/\H a=some (.dK ks)/\RepKV K H ex kvs ks
 | .err _ _,_=>False
def Reps(K:Fg)(H:Hp)(ex:Addr->Prop):List D->List V->Prop
 | [],xs=>xs=[]
 | d::ds,xs=>∃x r,xs=x::r/\Rep K H ex d x/\Reps K H ex ds r
def RepKV(K:Fg)(H:Hp)(ex:Addr->Prop):List (D×D)->List (Key×V)->Prop
 | [],ks=>ks=[]
 | (k,d)::r,ks=>∃k' x r',ks=(k',x)::r'/\kD k'=k/\Rep K H ex d x/\RepKV K H ex r r'
end
section
variable {K:Fg} {H H':Hp} {ex ex':Addr->Prop}
theorem bG.seqT{a:Addr}{xs:List V}(e:bG H H')(h:SqT K H a xs):SqT K H' a xs:=by
 rcases h with(h|⟨o,h⟩)|h
 . exact .inl (.inl (e _ _ h))
 . exact .inl (.inr ⟨o,e _ _ h⟩)
 . exact .inr h
mutual
theorem Rep.imp(hT:∀a xs,SqT K H a xs->SqT K H' a xs)(hL:∀a xs,¬ ex a->SqL K H a xs->¬ ex' a/\SqL K H' a xs)(hD:∀a ks,H a=some (.dK ks)->H' a=some (.dK ks)) :
 ∀(d:D) (v:V),Rep K H ex d v->Rep K H' ex' d v
 | .non,_,h=>h
 | .bl _,_,h=>h
 | .int _,_,h=>h
 | .str _,_,h=>h
 | .tup ds,_,h=>by
  obtain⟨a,xs,e,q,r⟩:=h
  exact⟨a,xs,e,hT a xs q,Reps.imp hT hL hD ds xs r⟩
 | .lst ds,_,h=>by
  obtain⟨a,xs,e,q,n,r⟩:=h
  obtain⟨n',q'⟩:=hL a xs n q
  exact⟨a,xs,e,q',n',Reps.imp hT hL hD ds xs r⟩
 | .dic kvs,_,h=>by
  obtain⟨a,ks,e,q,r⟩:=h
  exact⟨a,ks,e,hD a ks q,RepKV.imp hT hL hD kvs ks r⟩
 | .err _ _,_,h=>h.elim
theorem Reps.imp(hT:∀a xs,SqT K H a xs->SqT K H' a xs)(hL:∀a xs,¬ ex a->SqL K H a xs->¬ ex' a/\SqL K H' a xs)(hD:∀a ks,H a=some (.dK ks)->H' a=some (.dK ks)) :
 ∀(ds:List D) (xs:List V),Reps K H ex ds xs->Reps K H' ex' ds xs
 | [],_,h=>h
 | d::ds,_,h=>by
  obtain⟨x,r,e,h1,h2⟩:=h
  exact⟨x,r,e,Rep.imp hT hL hD d x h1,Reps.imp hT hL hD ds r h2⟩
theorem RepKV.imp(hT:∀a xs,SqT K H a xs->SqT K H' a xs)(hL:∀a xs,¬ ex a->SqL K H a xs->¬ ex' a/\SqL K H' a xs)(hD:∀a ks,H a=some (.dK ks)->H' a=some (.dK ks)) :
 ∀(ds:List (D×D)) (xs:List (Key×V)),RepKV K H ex ds xs->RepKV K H' ex' ds xs
 | [],_,h=>h
 | (k,d)::ds,_,h=>by
  obtain⟨k',x,r,e,ek,h1,h2⟩:=h
  exact⟨k',x,r,e,ek,Rep.imp hT hL hD d x h1,RepKV.imp hT hL hD ds r h2⟩
end
theorem Rep.weak{d:D}{v:V}(h:Rep K H ex d v)(e:∀a,ex' a->ex a):Rep K H ex' d v:=Rep.imp (λ_ _ q=>q) (λa _ n q=>⟨λz=>n (e a z),q⟩) (λ_ _ q=>q) d v h
theorem Reps.weak{d:List D}{v:List V}(h:Reps K H ex d v)(e:∀a,ex' a->ex a):Reps K H ex' d v:=Reps.imp (λ_ _ q=>q) (λa _ n q=>⟨λz=>n (e a z),q⟩) (λ_ _ q=>q) d v h
theorem Rep.grow{d:D}{v:V}(h:Rep K H ex d v)(s:bG H H'):Rep K H' ex d v:=Rep.imp (λ_ _ q=>bG.seqT s q) (λ_ _ n q=>⟨n,s.seq q⟩) (λ_ _ q=>s _ _ q) d v h
theorem Reps.grow{d:List D}{v:List V}(h:Reps K H ex d v)(s:bG H H'):Reps K H' ex d v:=Reps.imp (λ_ _ q=>bG.seqT s q) (λ_ _ n q=>⟨n,s.seq q⟩) (λ_ _ q=>s _ _ q) d v h
theorem Rep.keep{d:D}{v:V}(h:Rep K H ex d v)(s:∀a o,H a=some o->(∀xs,o=.lst xs->¬ ex a)->(∀φ,o≠.ext φ)->H' a=some o):Rep K H' ex d v:=by
 refine Rep.imp (λa xs q=>?_) (λa xs n q=>⟨n,?_⟩) (λa ks q=>s a _ q (λxs e=>by cases e) (λ_ z=>by cases z)) d v h
 . rcases q with(q|⟨o,q⟩)|q
   . exact .inl (.inl (s _ _ q (λxs e=>by cases e) (λ_ z=>by cases z)))
   . exact .inl (.inr ⟨o,s _ _ q (λxs e=>by cases e) (λ_ z=>by cases z)⟩)
   . exact .inr q
 . rcases q with(q|⟨o,q⟩)|q
   . exact .inl (.inl (s _ _ q (λ_ _=>n) (λ_ z=>by cases z)))
   . exact .inl (.inr ⟨o,s _ _ q (λxs e=>by cases e) (λ_ z=>by cases z)⟩)
   . exact .inr q
theorem Reps.keep{d:List D}{v:List V}(h:Reps K H ex d v)(s:∀a o,H a=some o->(∀xs,o=.lst xs->¬ ex a)->(∀φ,o≠.ext φ)->H' a=some o):Reps K H' ex d v:=by
 refine Reps.imp (λa xs q=>?_) (λa xs n q=>⟨n,?_⟩) (λa ks q=>s a _ q (λxs e=>by cases e) (λ_ z=>by cases z)) d v h
 . rcases q with(q|⟨o,q⟩)|q
   . exact .inl (.inl (s _ _ q (λxs e=>by cases e) (λ_ z=>by cases z)))
   . exact .inl (.inr ⟨o,s _ _ q (λxs e=>by cases e) (λ_ z=>by cases z)⟩)
   . exact .inr q
 . rcases q with(q|⟨o,q⟩)|q
   . exact .inl (.inl (s _ _ q (λ_ _=>n) (λ_ z=>by cases z)))
   . exact .inl (.inr ⟨o,s _ _ q (λxs e=>by cases e) (λ_ z=>by cases z)⟩)
   . exact .inr q
mutual
theorem Rep.free:∀(d:D) (v:V),noL d=true->Rep K H ex d v->Rep K H ex' d v
 | .non,_,_,h=>h
 | .bl _,_,_,h=>h
 | .int _,_,_,h=>h
 | .str _,_,_,h=>h
 | .tup ds,_,n,h=>by
  obtain⟨a,xs,e,q,r⟩:=h
  exact⟨a,xs,e,q,Reps.free ds xs (by simpa[noL] using n) r⟩
 | .lst ds,_,n,_=>by simp[noL] at n
 | .dic kvs,_,n,_=>by simp[noL] at n
 | .err _ _,_,n,_=>by simp[noL] at n
theorem Reps.free:∀(ds:List D) (xs:List V),noLs ds=true->Reps K H ex ds xs->Reps K H ex' ds xs
 | [],_,_,h=>h
 | d::ds,_,n,h=>by
  obtain⟨x,r,e,h1,h2⟩:=h
  simp only[noLs,bA] at n
  exact⟨x,r,e,Rep.free d x n.1 h1,Reps.free ds r n.2 h2⟩
end
theorem Reps.length:∀{ds:List D} {xs:List V},Reps K H ex ds xs->ds.length=xs.length
 | [],_,h=>by rw[show _=[] from h];rfl
 | d::ds,_,h=>by
  obtain⟨x,r,e,_,h2⟩:=h
  subst e
  rw[lC,lC,Reps.length h2]
theorem Reps.get:∀{ds:List D} {xs:List V} {j:Nat} {d:D},Reps K H ex ds xs->ds[j]? = some d->∃x,xs[j]? = some x/\Rep K H ex d x
 | [],_,_,_,_,e=>by simp at e
 | d::ds,_,0,_,h,e=>by
  obtain⟨x,r,e',h1,_⟩:=h
  subst e'
  simp at e
  subst e
  exact⟨x,rfl,h1⟩
 | d::ds,_,j+1,d',h,e=>by
  obtain⟨x,r,e',_,h2⟩:=h
  subst e'
  obtain⟨y,hy,q⟩:=Reps.get (j:=j) (d:=d') h2 (by simpa using e)
  exact⟨y,by simpa using hy,q⟩
theorem Reps.get'{ds:List D}{xs:List V}{j:Nat}{x:V}(h:Reps K H ex ds xs)(e:xs[j]? = some x):∃d,ds[j]? = some d/\Rep K H ex d x:=by
 have hl:=h.length
 have hj:j<xs.length:=(List.getElem?_eq_some_iff.mp e).1
 obtain⟨d,hd⟩:∃d,ds[j]? = some d:=⟨ds[j],List.getElem?_eq_getElem (by omega)⟩
 obtain⟨y,hy,q⟩:=h.get hd
 rw[e] at hy
 cases hy
 exact⟨d,hd,q⟩
theorem Reps.nil:Reps K H ex [] []:=rfl
theorem Reps.cons{d:D}{ds:List D}{x:V}{xs:List V}(h:Rep K H ex d x)(t:Reps K H ex ds xs):Reps K H ex (d::ds) (x::xs):=⟨x,xs,rfl,h,t⟩
theorem Reps.append:∀{ds es:List D} {xs ys:List V},Reps K H ex ds xs->Reps K H ex es ys->Reps K H ex (ds++es) (xs++ys)
 | [],_,_,_,h,t=>by rw[show _=[] from h];exact t
 | d::ds,_,_,_,h,t=>by
  obtain⟨x,r,e,h1,h2⟩:=h
  subst e
  exact⟨x,_,rfl,h1,Reps.append h2 t⟩
theorem Reps.take:∀{ds:List D} {xs:List V} (n:Nat),Reps K H ex ds xs->Reps K H ex (ds.take n) (xs.take n)
 | _,_,0,_=>by simp[Reps]
 | [],_,n+1,h=>by rw[show _=[] from h];simp[Reps]
 | d::ds,_,n+1,h=>by
  obtain⟨x,r,e,h1,h2⟩:=h
  subst e
  exact⟨x,_,rfl,h1,Reps.take n h2⟩
theorem Reps.drop:∀{ds:List D} {xs:List V} (n:Nat),Reps K H ex ds xs->Reps K H ex (ds.drop n) (xs.drop n)
 | _,_,0,h=>h
 | [],_,n+1,h=>by rw[show _=[] from h];simp[Reps]
 | d::ds,_,n+1,h=>by
  obtain⟨x,r,e,h1,h2⟩:=h
  subst e
  exact Reps.drop n h2
theorem Reps.set:∀{ds:List D} {xs:List V} {d:D} {x:V} (j:Nat),Reps K H ex ds xs->Rep K H ex d x->Reps K H ex (ds.set j d) (xs.set j x)
 | [],_,_,_,_,h,_=>by rw[show _=[] from h];simp[Reps]
 | d::ds,_,_,_,0,h,q=>by
  obtain⟨x,r,e,h1,h2⟩:=h
  subst e
  exact⟨_,_,rfl,q,h2⟩
 | d::ds,_,_,_,j+1,h,q=>by
  obtain⟨x,r,e,h1,h2⟩:=h
  subst e
  exact⟨x,_,rfl,h1,Reps.set j h2 q⟩
theorem Reps.eraseIdx:∀{ds:List D} {xs:List V} (j:Nat),Reps K H ex ds xs->Reps K H ex (ds.eraseIdx j) (xs.eraseIdx j)
 | [],_,_,h=>by rw[show _=[] from h];simp[Reps]
 | d::ds,_,0,h=>by
  obtain⟨x,r,e,h1,h2⟩:=h
  subst e
  exact h2
 | d::ds,_,j+1,h=>by
  obtain⟨x,r,e,h1,h2⟩:=h
  subst e
  exact⟨x,_,rfl,h1,Reps.eraseIdx j h2⟩
theorem Reps.reverse:∀{ds:List D} {xs:List V},Reps K H ex ds xs->Reps K H ex ds.reverse xs.reverse
 | [],_,h=>by rw[show _=[] from h];simp[Reps]
 | d::ds,_,h=>by
  obtain⟨x,r,e,h1,h2⟩:=h
  subst e
  rw[List.reverse_cons,List.reverse_cons]
  exact(Reps.reverse h2).append (.cons h1 .nil)
theorem Reps.flat:∀{ds:List D} {xs:List V},Reps K H ex ds xs->∀k:Nat,Reps K H ex (List.replicate k ds).flatten (List.replicate k xs).flatten
 | _,_,_,0=>by simp[Reps]
 | ds,xs,h,k+1=>by
  rw[List.replicate_succ,List.replicate_succ,List.flatten_cons,List.flatten_cons]
  exact h.append (Reps.flat h k)
end
end Hp
end
noncomputable section
namespace Hp
open PySem PySem.Spec PyProof.Rows L2
theorem jY(a b:Str):(a++b).length=a.length+b.length:=by
 show(a.cps++b.cps).size=_
 rw[Array.size_append];rfl
theorem aDr{x:Str}(h:qX x=true):(reprText x).length=x.length+2:=by
 have q:reprQuote x=39:=by
  unfold reprQuote
  have:x.cps.contains 39=false:=by
   cases z:x.cps.contains 39 with
   | false=>rfl
   | true=>
    have hm:39∈x.cps:=by simpa using z
    unfold qX at h
    rw[Array.all_eq_true'] at h
    have:=h 39 hm
    simp at this
  rw[this];rfl
 have all:∀c∈List.range 26,(Builtin.Str.reprChar 39 (97+c)).length=1:=by decide +kernel
 have one:∀c∈x.cps.toList,(Builtin.Str.reprChar 39 c).length=1:=λc hc=>by
  unfold qX at h
  rw[Array.all_eq_true'] at h
  have:=h c (by simpa using hc)
  simp only[bA,decide_eq_true_eq] at this
  have z:=all (c-97) (by rw[List.mem_range];omega)
  rwa [show 97+(c-97)=c by omega] at z
 have fold:∀(l:List Nat) (n:Nat),(∀c∈l,(Builtin.Str.reprChar 39 c).length=1)->l.foldl (λn c=>n+(Builtin.Str.reprChar 39 c).length) n=n+l.length:=by
  intro l
  induction l with
  | nil=>intro n _;rfl
  | cons c l ih=>
   intro n hl
   rw[List.foldl_cons,ih _ λd hd=>hl d (List.mem_cons_of_mem _ hd),hl c List.mem_cons_self,lC]
   omega
 have e:=reprLen_eq x
 rw[q,<-Array.foldl_toList,fold _ _ one] at e
 rw[<-e]
 show 2+x.cps.toList.length=x.cps.size+2
 rw[Array.length_toList];omega
mutual
theorem aBk:∀d:D,wt d<lim->(gM d).shown.length<=wt d/\(gM d).showable=true/\(gM d).hasDict=false/\(gM d).depth=dpt d
 | .non,_=>by simp only[gM,PyData.shown,PyData.showable,PyData.hasDict,PyData.depth,dpt,wt];decide
 | .bl b,_=>by simp only[gM,PyData.shown,PyData.showable,PyData.hasDict,PyData.depth,dpt,wt];cases b <;> decide
 | .int i,h=>by
  rw[wt] at h
  by_cases hi:i.natAbs<1000000000
  . have e:=int_text_length_le10 (k:=9) (by decide) (show i.natAbs<10 ^ 9 from hi)
    have l:=log2_of hi
    simp only[gM,PyData.shown,PyData.showable,PyData.hasDict,PyData.depth,dpt,wt,if_pos hi,decide_eq_true l,and_self,and_true]
    rw[PySem.ofString_length];omega
  . rw[if_neg hi] at h;exact absurd h (Nat.lt_irrefl _)
 | .str x,h=>by
  rw[wt] at h
  by_cases hx:qX x=true
  . have e:=aDr hx
    simp only[gM,PyData.shown,PyData.showable,PyData.hasDict,PyData.depth,dpt,wt,if_pos hx,e,and_self,Nat.le_refl]
  . rw[if_neg hx] at h;exact absurd h (Nat.lt_irrefl _)
 | .tup ds,h=>by
  rw[wt] at h
  obtain⟨h1,h2,h3,h4⟩:=shown_les ds (by omega)
  have e:(tupleText (PyData.shownAll (toPys ds))).length<=3+piled (PyData.shownAll (toPys ds)):=by
   unfold tupleText
   rw[jY,jY]
   have e1:((("(" : String):Str)).length=1:=rfl
   have e2:(((if (PyData.shownAll (toPys ds)).length==1 then ",)" else ")" : String):Str)).length<=2:=by split <;> decide
   have e3:(Str.join ", " (PyData.shownAll (toPys ds))).length<=piled (PyData.shownAll (toPys ds)):=by
    by_cases z:PyData.shownAll (toPys ds)=[]
    . rw[z];decide
    . have:=join_length_add _ z;omega
   omega
  simp only[gM,PyData.shown,PyData.showable,PyData.hasDict,PyData.depth,dpt,wt,h2,h3,h4,and_self,and_true]
  omega
 | .lst ds,h=>by
  rw[wt] at h
  obtain⟨h1,h2,h3,h4⟩:=shown_les ds (by omega)
  have e:(listText (PyData.shownAll (toPys ds))).length<=2+piled (PyData.shownAll (toPys ds)):=by
   unfold listText
   rw[jY]
   have e1:((("]" : String):Str)).length=1:=rfl
   have e2:(textFrom 0 "[" (PyData.shownAll (toPys ds))).length<=1+piled (PyData.shownAll (toPys ds)):=by
    cases PyData.shownAll (toPys ds) with
    | nil=>decide
    | cons t r=>
     have z:=textFrom_length_pos r 1 (("[" : Str)++(if (0:Nat)>0 then ", " else "" : String)++t) (Nat.succ_pos 0)
     show(textFrom 1 (("[" : Str)++(if (0:Nat)>0 then ", " else "" : String)++t) r).length<=_
     rw[z,jY,jY,piled_cons]
     have e0:((("[" : String):Str)).length=1:=rfl
     have e1:(((if (0:Nat)>0 then ", " else "" : String):Str)).length=0:=rfl
     omega
   omega
  simp only[gM,PyData.shown,PyData.showable,PyData.hasDict,PyData.depth,dpt,wt,h2,h3,h4,and_self,and_true]
  omega
 | .dic _,h=>by rw[wt] at h;exact absurd h (Nat.lt_irrefl _)
 | .err _ _,h=>by rw[wt] at h;exact absurd h (Nat.lt_irrefl _)
theorem shown_les:∀ds:List D,wts ds<lim->piled (PyData.shownAll (toPys ds))<=wts ds/\PyData.showableAll (toPys ds)=true/\PyData.hasDictAll (toPys ds)=false/\PyData.depthAll (toPys ds)=dpts ds
 | [],_=>by simp only[toPys,PyData.shownAll,PyData.showableAll,PyData.hasDictAll,PyData.depthAll,dpts,wts];decide
 | d::ds,h=>by
  rw[wts] at h
  obtain⟨h1,h2,h3,h4⟩:=aBk d (by omega)
  obtain⟨g1,g2,g3,g4⟩:=shown_les ds (by omega)
  simp only[toPys,PyData.shownAll,PyData.showableAll,PyData.hasDictAll,PyData.depthAll,dpts,wts,piled_cons,h2,h3,h4,g2,g3,g4,Bool.and_self,Bool.or_self,and_self,and_true]
  omega
theorem log2_of{n:Nat}(h:n<1000000000):n.log2<1920:=by
 by_cases hz:n=0
 . rw[hz];decide
 . exact Nat.lt_of_lt_of_le ((Nat.log2_lt hz).mpr (Nat.lt_trans h (by decide:1000000000<2 ^ 30))) (by decide)
end
section
variable {X:Cx} {pins:List (Addr×Obj)} {σ:L2.St} {H:Hp} {s:Shared}
mutual
theorem aBl{ex:Addr->Prop}(I:Inv X pins σ H s):∀(d:D) {v:V} {u:Value},Rep X.K H ex d v->cI v u->wt d<lim->∃as,Reads s.heap u (gM d) as
 | .non,v,u,h,r,_=>by
  rw[show v=.non from h] at r
  rw[show u=.none from r,gM]
  exact⟨_,.none⟩
 | .bl b,v,u,h,r,_=>by
  rw[show v=.bl b from h] at r
  rw[show u=.bool b from r,gM]
  exact⟨_,.bool b⟩
 | .int i,v,u,h,r,_=>by
  rw[show v=.int i from h] at r
  obtain⟨t,e⟩:∃t,u=.int i t:=r
  rw[e,gM]
  exact⟨_,.int i t⟩
 | .str x,v,u,h,r,_=>by
  rw[show v=.str x from h] at r
  obtain⟨t,e⟩:∃t,u=.str x t:=r
  rw[e,gM]
  exact⟨_,.str x t⟩
 | .tup ds,v,u,h,r,hw=>by
  obtain⟨a,xs,e,q,rr⟩:=h
  subst e
  rw[show u=.ref a from r,gM]
  rw[wt] at hw
  obtain⟨its,rv,⟨o,ho,hc,n,hd⟩,_⟩:=I.tuple q
  obtain⟨as,ra⟩:=reads_ofs I ds rr rv (by omega)
  exact⟨_,.tuple ho hc hd (by simpa using ra)⟩
 | .lst ds,v,u,h,r,hw=>by
  obtain⟨a,xs,e,q,_,rr⟩:=h
  subst e
  rw[show u=.ref a from r,gM]
  rw[wt] at hw
  obtain⟨its,rv,pl,_⟩:=I.list q
  obtain⟨o,ho,hc,n,hd⟩:=pl.isList
  obtain⟨as,ra⟩:=reads_ofs I ds rr rv (by omega)
  exact⟨_,.list ho hc hd (by simpa using ra)⟩
 | .dic _,_,_,_,_,hw=>by rw[wt] at hw;exact absurd hw (Nat.lt_irrefl _)
 | .err _ _,_,_,h,_,_=>h.elim
theorem reads_ofs{ex:Addr->Prop}(I:Inv X pins σ H s):∀(ds:List D) {vs:List V} {us:List Value},Reps X.K H ex ds vs->bR vs us->wts ds<lim->∃as,ReadsAll s.heap us (toPys ds) as
 | [],vs,us,h,r,_=>by
  rw[show vs=[] from h] at r
  cases r
  exact⟨_,by rw[toPys];exact .nil⟩
 | d::ds,vs,us,h,r,hw=>by
  obtain⟨x,r',e,h1,h2⟩:=h
  subst e
  cases r with
  | cons r1 r2=>
   rw[wts] at hw
   obtain⟨as,ra⟩:=aBl I d h1 r1 (by omega)
   obtain⟨bs,rb⟩:=reads_ofs I ds h2 r2 (by omega)
   exact⟨_,by rw[toPys];exact .cons ra rb⟩
end
end
def Kp(R:Addr->Prop)(H H':Hp):Prop:=∀a o,H a=some o->¬ R a->H' a=some o
def RE{α:Type}:R α->(α->Prop)->Prop
 | .ok a,p=>p a
 | _,_=>False
theorem RE.mono{α:Type}{x:R α}{p q:α->Prop}(h:RE x p)(f:∀a,p a->q a):RE x q:=by
 cases x with
 | ok a=>exact f a h
 | exc e=>exact h
 | bad=>exact h
theorem RE.bind{α β:Type}{x:R α}{f:α->R β}{p:β->Prop}:RE (x >>= f) p=RE x λa=>RE (f a) p:=by
 cases x <;> rfl
theorem RE.iff{α:Type}{c:Bool}{x:R α}{p:α->Prop}(h:RE (R.iff c x) p):c=true/\RE x p:=by
 cases c with
 | true=>exact⟨rfl,h⟩
 | false=>exact h.elim
section
variable (K:Fg) (RT Y old:Addr->Prop)
def exB(pa:Bool)(a:Addr):Prop:=Y a\/(pa=false/\old a)
def Tk(H:Hp):Prop:=∀b,H b≠none->K.lookup b=none
def dV:D->V
 | .int i=>.int i
 | .bl b=>.bl b
 | _=>.non
abbrev kV(x:NK×D):NK×V:=(x.1,dV x.2)
def Pt(σ:Sg)(σV:L2.St)(p:Addr):Prop:=RT p/\¬ old p/\∀(k:Nat) (pa:Bool) (ds:List D),σ[k]? = some (.own pa ds)->σV[k]?≠some (some (.ref p))
structure Dx (σ:Sg) (σV:L2.St) (H:Hp):Prop where
 at':∀(i:Nat) (ks:List (NK×D)),σ[i]? = some (.dct ks)->∃a xs,σV[i]? = some (some (.ref a))/\H a=some (dX a xs)/\RT a/\¬ old a/\xs.map pj=ks.map kV/\∀x∈xs,dN K H x.1 x.2.1
 inj:∀(i j:Nat) (ks ks':List (NK×D)) (a:Addr),σ[i]? = some (.dct ks)->σ[j]? = some (.dct ks')->σV[i]? = some (some (.ref a))->σV[j]? = some (some (.ref a))->i=j
 at2:∀(i:Nat) (ds es:List D),σ[i]? = some (.par ds es)->∃a b c xs ys,σV[i]? = some (some (.ref a))/\(H a=some (.lst [.ref b,.ref c])/\H b=some (.lst xs)/\H c=some (.lst ys))/\(Pt RT old σ σV a/\Pt RT old σ σV b/\Pt RT old σ σV c)/\(a≠b/\a≠c/\b≠c)/\(noLs ds=true/\noLs es=true)/\Reps K H (λ_=>False) ds xs/\Reps K H (λ_=>False) es ys
 one:∀(i j:Nat) (ds es ds' es':List D),σ[i]? = some (.par ds es)->σ[j]? = some (.par ds' es')->i=j
def RtO(H:Hp)(a:Addr):Prop:=(∃xs,H a=some (.lst xs))\/∃xs,H a=some (dX a xs)
structure Sx (σ:Sg) (σV:L2.St) (H:Hp):Prop where
 sh:∀(i:Nat) (pa:Bool) (d:D),σ[i]? = some (.sh pa d)->∃v,σV[i]? = some (some v)/\Rep K H (λa=>RT a\/exB Y old pa a) d v
 own:∀(i:Nat) (pa:Bool) (ds:List D),σ[i]? = some (.own pa ds)->∃a xs,σV[i]? = some (some (.ref a))/\H a=some (.lst xs)/\RT a/\¬ old a/\Reps K H (λa=>RT a\/exB Y old pa a) ds xs
 trk:∀a,RT a\/Y a\/old a->H a≠none
 yo:∀a,Y a->old a
 tk:Tk K H
 rt:∀a,RT a->RtO H a
 inj:∀(i j:Nat) (pa pa':Bool) (ds ds':List D) (a:Addr),σ[i]? = some (.own pa ds)->σ[j]? = some (.own pa' ds')->σV[i]? = some (some (.ref a))->σV[j]? = some (some (.ref a))->i=j
 len:σ.length=σV.length
 dx:Dx K RT old σ σV H
def alR(σ:Sg)(σV:L2.St)(al:List Nat)(a:Addr):Prop:=∃j∈al,(∃pa ds,σ[j]? = some (.own pa ds))/\σV[j]? = some (some (.ref a))
def exV(σ:Sg)(σV:L2.St)(pa:Bool)(al:List Nat)(a:Addr):Prop:=(RT a/\¬ alR σ σV al a)\/exB Y old pa a
def Rv(σ:Sg)(σV:L2.St)(H:Hp)(v:Vl)(u:V):Prop:=Rep K H (exV RT Y old σ σV v.pa v.al) v.d u
def Ro(σ:Sg)(σV:L2.St)(H H':Hp)(v:Vl)(u:V):Prop:=
 bG H H'/\(if v.fr=true then ∃a xs ds,u=.ref a/\v.d=.lst ds/\H a=none/\H' a=some (.lst xs)/\Reps K H' (λb=>b=a\/exV RT Y old σ σV v.pa v.al b) ds xs
  else Rv K RT Y old σ σV H' v u)
def Rvs(σ:Sg)(σV:L2.St)(H:Hp):List Vl->List V->Prop
 | [],us=>us=[]
 | v::vs,us=>∃u r,us=u::r/\Rv K RT Y old σ σV H v u/\Rvs σ σV H vs r
end
section
variable {K:Fg} {RT Y old:Addr->Prop} {σ:Sg} {σV:L2.St} {H H' H1 H2:Hp} {v:Vl} {u:V}
theorem dN.imp(hr:∀b ks,SqT K H b ks->SqT K H' b ks){k:NK}{b:Addr}(h:dN K H k b):dN K H' k b:=by
 obtain⟨bs,h1,h2⟩:=h
 refine⟨bs,hr _ _ h1,?_⟩
 clear h1
 induction h2 with
 | nil=>exact .nil
 | cons h t ih=>exact .cons (hr _ _ h) ih
mutual
theorem Rep.noT{ex:Addr->Prop}(hr:∀b ks,SqT K H b ks->SqT K H' b ks):∀(d:D) (v:V),noL d=true->Rep K H ex d v->Rep K H' ex d v
 | .non,_,_,h=>h
 | .bl _,_,_,h=>h
 | .int _,_,_,h=>h
 | .str _,_,_,h=>h
 | .tup ds,_,n,h=>by
  obtain⟨a,xs,e,q,r⟩:=h
  exact⟨a,xs,e,hr _ _ q,Reps.noT hr ds xs (by simpa[noL] using n) r⟩
 | .lst ds,_,n,_=>by simp[noL] at n
 | .dic kvs,_,n,_=>by simp[noL] at n
 | .err _ _,_,n,_=>by simp[noL] at n
theorem Reps.noT{ex:Addr->Prop}(hr:∀b ks,SqT K H b ks->SqT K H' b ks):∀(ds:List D) (xs:List V),noLs ds=true->Reps K H ex ds xs->Reps K H' ex ds xs
 | [],_,_,h=>h
 | d::ds,_,n,h=>by
  obtain⟨x,r,e,h1,h2⟩:=h
  simp only[noLs,bA] at n
  exact⟨x,r,e,Rep.noT hr d x n.1 h1,Reps.noT hr ds r n.2 h2⟩
end
theorem Dx.imp{RT':Addr->Prop}{σ':Sg}{σV':L2.St}(L:Dx K RT old σ σV H)(m:Nat->Nat)(hs:∀j ks,σ'[j]? = some (.dct ks)->σ[m j]? = some (.dct ks)/\σV'[j]? = σV[m j]?)(hm:∀i j ks ks',σ'[i]? = some (.dct ks)->σ'[j]? = some (.dct ks')->m i=m j->i=j)
 (hh:∀a xs,H a=some (dX a xs)->RT a->¬ old a->H' a=some (dX a xs)/\RT' a) (hr:∀b ks,SqT K H b ks->SqT K H' b ks)
 (hs2:∀j ds es,σ'[j]? = some (.par ds es)->σ[m j]? = some (.par ds es)/\σV'[j]? = σV[m j]?) (hm2:∀i j ds es ds' es',σ'[i]? = some (.par ds es)->σ'[j]? = some (.par ds' es')->m i=m j->i=j)
 (hh2:∀p xs,H p=some (.lst xs)->Pt RT old σ σV p->H' p=some (.lst xs)/\Pt RT' old σ' σV' p):Dx K RT' old σ' σV' H' where
 at':=λi ks e=>by
  obtain⟨e1,e2⟩:=hs i ks e
  obtain⟨a,xs,h1,h2,h3,h4,h5,h6⟩:=L.at' (m i) ks e1
  obtain⟨g1,g2⟩:=hh a xs h2 h3 h4
  exact⟨a,xs,by rw[e2];exact h1,g1,g2,h4,h5,λx hx=>dN.imp hr (h6 x hx)⟩
 inj:=λi j ks ks' a q1 q2 v1 v2=>by
  obtain⟨e1,e2⟩:=hs i ks q1
  obtain⟨e3,e4⟩:=hs j ks' q2
  exact hm i j ks ks' q1 q2 (L.inj (m i) (m j) ks ks' a e1 e3 (by rw[<-e2];exact v1) (by rw[<-e4];exact v2))
 at2:=λi ds es e=>by
  obtain⟨e1,e2⟩:=hs2 i ds es e
  obtain⟨a,b,c,xs,ys,h1,⟨ha,hb,hc⟩,⟨pa,pb,pc⟩,hn,⟨n1,n2⟩,r1,r2⟩:=L.at2 (m i) ds es e1
  obtain⟨ha,pa⟩:=hh2 a _ ha pa
  obtain⟨hb,pb⟩:=hh2 b _ hb pb
  obtain⟨hc,pc⟩:=hh2 c _ hc pc
  exact⟨a,b,c,xs,ys,by rw[e2];exact h1,⟨ha,hb,hc⟩,⟨pa,pb,pc⟩,hn,⟨n1,n2⟩,Reps.noT hr ds xs n1 r1,Reps.noT hr es ys n2 r2⟩
 one:=λi j ds es ds' es' q1 q2=>hm2 i j ds es ds' es' q1 q2 (L.one _ _ _ _ _ _ (hs2 i ds es q1).1 (hs2 j ds' es' q2).1)
theorem RtO.grow{a:Addr}(h:RtO H a)(s:bG H H'):RtO H' a:=h.imp (λ⟨xs,e⟩=>⟨xs,s _ _ e⟩) λ⟨xs,e⟩=>⟨xs,s _ _ e⟩
theorem Sx.grow(S:Sx K RT Y old σ σV H)(s:bG H H')(t:Tk K H'):Sx K RT Y old σ σV H' where
 sh:=λi pa d e=>let ⟨v,h1,h2⟩:=S.sh i pa d e;⟨v,h1,h2.grow s⟩
 own:=λi pa ds e=>let ⟨a,xs,h1,h2,h3,h4,h5⟩:=S.own i pa ds e;⟨a,xs,h1,s _ _ h2,h3,h4,h5.grow s⟩
 trk:=λa h z=>S.trk a h (s.free z)
 yo:=S.yo
 tk:=t
 rt:=λa h=>(S.rt a h).grow s
 inj:=S.inj
 len:=S.len
 dx:=S.dx.imp id (λ_ _ e=>⟨e,rfl⟩) (λ_ _ _ _ _ _ e=>e) (λa xs e z _=>⟨s _ _ e,z⟩) (λ_ _ r=>bG.seqT s r) (λ_ _ _ e=>⟨e,rfl⟩) (λ_ _ _ _ _ _ _ _ e=>e) λp xs e z=>⟨s _ _ e,z⟩
theorem exV.trk(S:Sx K RT Y old σ σV H){pa:Bool}{al:List Nat}{a:Addr}(h:exV RT Y old σ σV pa al a):H a≠none:=by
 rcases h with⟨h,_⟩|h|⟨_,h⟩
 . exact S.trk a (.inl h)
 . exact S.trk a (.inr (.inl h))
 . exact S.trk a (.inr (.inr h))
theorem Ro.rv(S:Sx K RT Y old σ σV H)(h:Ro K RT Y old σ σV H H' v u):Rv K RT Y old σ σV H' v u:=by
 obtain⟨s,h⟩:=h
 by_cases hf:v.fr=true
 . rw[if_pos hf] at h
   obtain⟨a,xs,ds,e1,e2,e3,e4,r⟩:=h
   unfold Rv
   rw[e2]
   exact⟨a,xs,e1,SqL.of e4,λz=>exV.trk S z e3,r.weak λb z=>.inr z⟩
 . rw[if_neg hf] at h
   exact h
theorem Rv.grow(h:Rv K RT Y old σ σV H v u)(s:bG H H'):Rv K RT Y old σ σV H' v u:=Rep.grow h s
theorem Rvs.grow:∀{vs:List Vl} {us:List V},Rvs K RT Y old σ σV H vs us->bG H H'->Rvs K RT Y old σ σV H' vs us
 | [],_,h,_=>h
 | v::vs,_,h,s=>by
  obtain⟨u,r,e,h1,h2⟩:=h
  exact⟨u,r,e,h1.grow s,Rvs.grow h2 s⟩
theorem Ro.plain(s:bG H H')(hf:v.fr=false)(h:Rv K RT Y old σ σV H' v u):Ro K RT Y old σ σV H H' v u:=⟨s,by rw[if_neg (by rw[hf];decide)];exact h⟩
theorem Ro.from(h:Ro K RT Y old σ σV H1 H' v u)(s:bG H H1):Ro K RT Y old σ σV H H' v u:=by
 obtain⟨s',h⟩:=h
 refine⟨s.trans s',?_⟩
 by_cases hf:v.fr=true
 . rw[if_pos hf] at h ⊢
   obtain⟨a,xs,ds,e1,e2,e3,e4,r⟩:=h
   exact⟨a,xs,ds,e1,e2,s.free e3,e4,r⟩
 . rw[if_neg hf] at h ⊢
   exact h
theorem Ro.cl{d:D}(s:bG H H')(h:Rep K H' (exV RT Y old σ σV false []) d u):Ro K RT Y old σ σV H H' (.cl d) u:=Ro.plain s rfl h
theorem Rv.sub{d:D}{x:V}{ds:List D}{xs:List V}{j:Nat}(h:Rep K H (exV RT Y old σ σV v.pa v.al) d x):Rv K RT Y old σ σV H (v.sub d) x:=by
 unfold Rv Vl.sub
 by_cases hn:noL d=true
 . rw[if_pos hn]
   exact Rep.free d x hn h
 . rw[if_neg hn]
   exact h
theorem alR.mono{al al':List Nat}{a:Addr}(h:alR σ σV al a)(s:∀j∈al,j∈al'):alR σ σV al' a:=by
 obtain⟨j,hj,q⟩:=h
 exact⟨j,s j hj,q⟩
theorem exV.mono{pa pa':Bool}{al al':List Nat}{a:Addr}(h:exV RT Y old σ σV pa' al' a)(hp:pa=true->pa'=true)(s:∀j∈al,j∈al'):exV RT Y old σ σV pa al a:=by
 rcases h with⟨h1,h2⟩|h|⟨h1,h2⟩
 . exact .inl ⟨h1,λz=>h2 (z.mono s)⟩
 . exact .inr (.inl h)
 . refine .inr (.inr ⟨?_,h2⟩)
   cases pa with
   | false=>rfl
   | true=>rw[hp rfl] at h1;cases h1
theorem Rvs.length:∀{vs:List Vl} {us:List V},Rvs K RT Y old σ σV H vs us->vs.length=us.length
 | [],_,h=>by rw[show _=[] from h];rfl
 | v::vs,_,h=>by
  obtain⟨u,r,e,_,h2⟩:=h
  subst e
  rw[lC,lC,Rvs.length h2]
theorem lR{vs:List Vl}{v:Vl}(h:v∈vs):∀j∈v.al,j∈dO vs:=λj hj=>List.mem_flatMap.mpr ⟨v,h,hj⟩
theorem tE{vs:List Vl}{v:Vl}(h:v∈vs)(hp:v.pa=true):gD vs=true:=List.any_eq_true.mpr ⟨v,h,hp⟩
theorem Rvs.reps:∀{vs:List Vl} {us:List V} {pa:Bool} {al:List Nat},Rvs K RT Y old σ σV H vs us->(∀v∈vs,(v.pa=true->pa=true)/\∀j∈v.al,j∈al) ->
 Reps K H (exV RT Y old σ σV pa al) (vs.map (·.d)) us
 | [],_,_,_,h,_=>h
 | v::vs,_,_,_,h,q=>by
  obtain⟨u,r,e,h1,h2⟩:=h
  have q1:=q v List.mem_cons_self
  exact⟨u,r,e,Rep.weak h1 λa z=>z.mono q1.1 q1.2,Rvs.reps h2 λw hw=>q w (List.mem_cons_of_mem _ hw)⟩
theorem Rvs.all{vs:List Vl}{us:List V}(h:Rvs K RT Y old σ σV H vs us):Reps K H (exV RT Y old σ σV (gD vs) (dO vs)) (vs.map (·.d)) us:=
 h.reps λv hv=>⟨λz=>tE hv z,lR hv⟩
theorem Ro.fresh{p:Addr}{xs:List V}{ds:List D}(hp:H p=none)(ht:Tk K (upd H p (.lst xs)))(hd:v.d=.lst ds)(hf:v.fr=true)(S:Sx K RT Y old σ σV H)(r:Reps K H (exV RT Y old σ σV v.pa v.al) ds xs) :
 Ro K RT Y old σ σV H (upd H p (.lst xs)) v (.ref p):=by
 have s:bG H (upd H p (.lst xs)):=λb o q=>by rw[aN (bZ q hp)];exact q
 refine⟨s,?_⟩
 rw[if_pos hf]
 refine⟨p,xs,ds,rfl,hd,hp,bU,?_⟩
 refine Reps.imp (λ_ _ q=>bG.seqT s q) (λa ys n q=>⟨λz=>?_,s.seq q⟩) (λ_ _ q=>s _ _ q) ds xs r
 rcases z with z|z
 . subst z
   rcases q with(q|⟨o,q⟩)|⟨o,its,n',q,_⟩
   . rw[hp] at q;cases q
   . rw[hp] at q;cases q
   . have z:=ht a (by rw[bU];simp)
     rw[q] at z;cases z
 . exact n z
theorem bG.new{p:Addr}{o:HO}(hp:H p=none):bG H (upd H p o):=λb u q=>by rw[aN (bZ q hp)];exact q
theorem Ro.tup{p:Addr}{xs:List V}{ds:List D}(hp:H p=none)(hd:v.d=.tup ds)(hf:v.fr=false)(r:Reps K H (exV RT Y old σ σV v.pa v.al) ds xs) :
 Ro K RT Y old σ σV H (upd H p (.tup xs)) v (.ref p):=by
 refine Ro.plain (bG.new hp) hf ?_
 unfold Rv
 rw[hd]
 exact⟨p,xs,rfl,SqT.of bU,r.grow (bG.new hp)⟩
end
section
variable (X:Cx) (P:Pg) (cl:Caller) (RT Y old:Addr->Prop)
def wE(σ:Sg)(c:E):TE:=λσV H Q=>Sx X.K RT Y old σ σV H/\RE (ev P cl σ c) λv=>∀u H',Tk X.K H'->Ro X.K RT Y old σ σV H H' v u->Q u H'
def wT(σ:Sg)(c:E):TT:=λσV H Q=>Sx X.K RT Y old σ σV H/\RE (tst P cl σ c) λk=>∀H',Tk X.K H'->bG H H'->Q k H'
def wA(σ:Sg)(cs:Es):TA:=λσV H Q=>Sx X.K RT Y old σ σV H/\RE (evs P cl σ cs) λvs=>∀us H',Tk X.K H'->bG H H'->Rvs X.K RT Y old σ σV H' vs us->Q us H'
end
section
variable {X:Cx} {P:Pg} {cl:Caller} {RT Y old:Addr->Prop} {σ:Sg} {pos:Pos}
theorem _root_.L2.Inv.tk{pins:List (Addr×Obj)}{σV:L2.St}{H:Hp}{s:Shared}(I:Inv X pins σV H s):Tk X.K H:=λb hb=>by
 cases q:X.K.lookup b with
 | none=>rfl
 | some o=>exact absurd (I.bs b o (I.ok.mod.kin b o q)).2 hb
theorem _root_.L2.PE.imp{e:Expr}{t t':TE}(h:PE X e t)(f:∀σV H Q,Tk X.K H->t' σV H Q->t σV H λv H'=>Tk X.K H'->Q v H'):PE X e t':=λpins s σV H Q I hw=>
 thn (h pins s σV H _ I (f σV H Q I.tk hw)) λu s' ⟨v,H',I',r,q⟩=>⟨v,H',I',r,q I'.tk⟩
theorem _root_.L2.PT.imp{e:Expr}{t t':TT}(h:PT X e t)(f:∀σV H Q,Tk X.K H->t' σV H Q->t σV H λv H'=>Tk X.K H'->Q v H'):PT X e t':=λpins s σV H Q I hw=>
 thn (h pins s σV H _ I (f σV H Q I.tk hw)) λk s' ⟨H',I',q⟩=>⟨H',I',q I'.tk⟩
theorem _root_.L2.PA.imp{es:List Expr}{t t':TA}(h:PA X es t)(f:∀σV H Q,Tk X.K H->t' σV H Q->t σV H λv H'=>Tk X.K H'->Q v H'):PA X es t':=λpos pins s σV H Q I hw=>
 thn (h pos pins s σV H _ I (f σV H Q I.tk hw)) λu s' ⟨v,H',I',r,q⟩=>⟨v,H',I',r,q I'.tk⟩
theorem wE.two{a b:E}{σV:L2.St}{H:Hp}{p:Vl->Vl->Prop}{Q:V->V->Hp->Prop}(S:Sx X.K RT Y old σ σV H)(h:RE (ev P cl σ a) λx=>RE (ev P cl σ b) λy=>p x y)
 (f:∀x y ux uy H2,p x y->Tk X.K H2->bG H H2->Sx X.K RT Y old σ σV H2->Rv X.K RT Y old σ σV H2 x ux->Rv X.K RT Y old σ σV H2 y uy->Q ux uy H2) :
 wE X P cl RT Y old σ a σV H λux H1=>wE X P cl RT Y old σ b σV H1 λuy H2=>Q ux uy H2:=by
 refine⟨S,h.mono λx hx ux H1 t1 r1=>⟨S.grow r1.1 t1,hx.mono λy hy uy H2 t2 r2=>?_⟩⟩
 have S1:=S.grow r1.1 t1
 exact f x y ux uy H2 hy t2 (r1.1.trans r2.1) (S1.grow r2.1 t2) ((r1.rv S).grow r2.1) (r2.rv S1)
theorem Ro.val{d:D}{u:V}{σV:L2.St}{H H':Hp}(s:bG H H')(h:∀ex,Rep X.K H' ex d u):Ro X.K RT Y old σ σV H H' (.cl d) u:=Ro.cl s (h _)
theorem s_c {d : D} {c : Const} {k : Nat} (h : eqC d c = true) : PE X (.Constant c k pos) (wE X P cl RT Y old σ (.c d)) := by
 have key : ∀ {v : V}, (∀ (H : Hp) ex, Rep X.K H ex d v) -> PE X (.Constant c k pos) (tC v) -> PE X (.Constant c k pos) (wE X P cl RT Y old σ (.c d)) := λ hv hp =>
  hp.imp λ σV H Q t ⟨S, q⟩ t' => q _ H t' (Ro.val (bG.refl H) (hv H))
 cases d with
 | non => cases c with
  | none => exact key (λ _ _ => rfl) aET
  | _ => cases h
 | bl b => cases c with
  | bool b' => have e : b = b' := by simpa [eqC] using h
               subst e; exact key (λ _ _ => rfl) aHh
  | _ => cases h
 | int b => cases c with
  | int b' => have e : b = b' := by simpa [eqC] using h
              subst e; exact key (λ _ _ => rfl) aES
  | _ => cases h
 | str b => cases c with
  | str b' => have e : b = b' := by simpa [eqC] using h
              subst e; exact key (λ _ _ => rfl) aEU
  | _ => cases h
 | _ => cases c <;> cases h
theorem s_v{i:Nat}{x:Str}(hN:X.N[i]? = some x)(hv:Vis X.env.scope x)(hd:(x==("__debug__" : Str))=false)(hcd:(x==("__classdict__" : Str))=false) :
 PE X (.Name x pos) (wE X P cl RT Y old σ (.v i)):=by
 refine(kP hN hv hd hcd).imp λσV H Q t ⟨S,q⟩=>?_
 have q:RE (aL σ i) _:=q
 unfold aL at q
 cases e:σ[i]? with
 | none=>rw[e] at q;exact q.elim
 | some sl=>
  rw[e] at q
  cases sl with
  | dead=>exact q.elim
  | dct _=>exact q.elim
  | par _ _=>exact q.elim
  | sh pa d=>
   obtain⟨v,h1,h2⟩:=S.sh i pa d e
   refine⟨v,h1,λt'=>q v H t' (Ro.plain (bG.refl H) rfl ?_)⟩
   unfold Rv
   by_cases hn:noL d=true
   . exact Rep.free d v hn h2
   . refine Rep.weak h2 λa z=>?_
     rcases z with⟨z,_⟩|z|⟨z,z'⟩
     . exact .inl z
     . exact .inr (.inl z)
     . have:pa=false:=by simpa[hn] using z
       exact .inr (.inr ⟨this,z'⟩)
  | own pa ds=>
   obtain⟨a,xs,h1,h2,h3,h4,h5⟩:=S.own i pa ds e
   refine⟨.ref a,h1,λt'=>q _ H t' (Ro.plain (bG.refl H) rfl ?_)⟩
   unfold Rv
   refine⟨a,xs,rfl,SqL.of h2,λz=>?_,h5.weak λb z=>?_⟩
   . rcases z with⟨_,z⟩|z|⟨_,z⟩
     . exact z ⟨i,by simp,⟨pa,ds,e⟩,h1⟩
     . exact h4 (S.yo a z)
     . exact h4 z
   . rcases z with⟨z,_⟩|z
     . exact .inl z
     . exact .inr z
end
def aBm(prog:Program)(w:World)(K:Fg)(a:Addr)(t:List (Str×D)):Prop:=(a==sysModules)=false/\∃vs:List (Key×Value),(∀h:Heap,K.In h->h.DictOf (iK prog w) a vs) /\
 ∀k:Str,(t.lookup k=none/\valueAt vs (Sum.inr k:Key)=none)\/∃d u v,t.lookup k=some d/\valueAt vs (Sum.inr k:Key)=some u/\cI v u/\∀(H:Hp) (ex:Addr->Prop),Rep K H ex d v
section
variable {X:Cx}
end
section
variable {X:Cx} {RT Y old:Addr->Prop} {σ:Sg} {σV:L2.St} {H:Hp} {s:Shared} {pins:List (Addr×Obj)} {Q:VK} {ux uy:V} {vx vy:Value} {x y:Vl}
theorem _root_.L2.EP.tk{u:Value}{s':Shared}(h:EP X pins σV (λv H'=>Tk X.K H'->Q v H') u s'):EP X pins σV Q u s':=by
 obtain⟨v,H',I',r,q⟩:=h
 exact⟨v,H',I',r,q (Inv.tk I')⟩
abbrev Wn(X:Cx)(RT Y old:Addr->Prop)(σ:Sg)(σV:L2.St)(H:Hp)(Q:VK)(v:Vl):Prop:=∀u H',Tk X.K H'->Ro X.K RT Y old σ σV H H' v u->Q u H'
theorem Wn.val{d:D}{u:V}(w:Wn X RT Y old σ σV H Q (.cl d))(t:Tk X.K H)(h:∀ex,Rep X.K H ex d u):Q u H:=w u H t (Ro.cl (bG.refl H) (h _))
theorem Rv.int{i:Int}{u:V}(h:Rv X.K RT Y old σ σV H x u)(e:x.d=.int i):u=.int i:=by unfold Rv at h;rw[e] at h;exact h
theorem Rv.str{i:Str}{u:V}(h:Rv X.K RT Y old σ σV H x u)(e:x.d=.str i):u=.str i:=by unfold Rv at h;rw[e] at h;exact h
theorem Rv.bl{i:Bool}{u:V}(h:Rv X.K RT Y old σ σV H x u)(e:x.d=.bl i):u=.bl i:=by unfold Rv at h;rw[e] at h;exact h
theorem Rv.non{u:V}(h:Rv X.K RT Y old σ σV H x u)(e:x.d=.non):u=.non:=by unfold Rv at h;rw[e] at h;exact h
theorem Rv.tup{ds:List D}{u:V}(h:Rv X.K RT Y old σ σV H x u)(e:x.d=.tup ds):∃a xs,u=.ref a/\SqT X.K H a xs/\Reps X.K H (exV RT Y old σ σV x.pa x.al) ds xs:=by unfold Rv at h;rw[e] at h;exact h
theorem Rv.lst{ds:List D}{u:V}(h:Rv X.K RT Y old σ σV H x u)(e:x.d=.lst ds):∃a xs,u=.ref a/\SqL X.K H a xs/\¬ exV RT Y old σ σV x.pa x.al a/\Reps X.K H (exV RT Y old σ σV x.pa x.al) ds xs:=by unfold Rv at h;rw[e] at h;exact h
theorem aFI:lim<=sizeLine:=by unfold lim;rw[sizeLine_eq];decide
theorem fA{n:Nat}(h:n<=lim):n<=sizeLine:=Nat.le_trans h aFI
theorem fT{ds:List D}{xs:List V}{pa:Bool}{al:List Nat}{K:Fg}(r:Reps K H (exV RT Y old σ σV pa al) ds xs) :
 Reps K H (exV RT Y old σ σV (pa&&!noLs ds) (if noLs ds=true then [] else al)) ds xs:=by
 by_cases hn:noLs ds=true
 . exact Reps.free ds xs hn r
 . rw[if_neg hn]
   refine r.weak λa z=>z.mono (λhp=>?_) λj hj=>hj
   rw[hp];simp[hn]
def aHW(K:Fg):R2:=λx y H Q=>∃l b xs zs,x=.ref l/\y=.ref b/\SqL K H l xs/\SqL K H b zs/\xs.length+zs.length<=sizeLine/\∀p,H p=none->Q (.ref p) (upd H p (.lst (xs++zs)))
theorem aDs:OpR X (binaryOp .Add) (aHW X.K):=by
 intro pins s σV H x y v u Q I rx ry h
 obtain⟨l,b,xs,zs,rfl,rfl,hH,hB,hz,q⟩:=h
 cases rx
 cases ry
 obtain⟨its,r,pl,z⟩:=I.list hH
 obtain⟨its2,r2,pl2,z2⟩:=I.list hB
 obtain⟨⟨cls,dd,data,sl⟩,ho,hc,n,hd⟩:=pl.isList
 obtain⟨⟨cls2,dd2,data2,sl2⟩,ho2,hc2,n2,hd2⟩:=pl2.isList
 simp only at hc hd hc2 hd2
 subst hc hd hc2 hd2
 have e:its.toArray++its2.toArray=(its++its2).toArray:=by simp
 have hl:=r.length
 have hl2:=r2.length
 refine concat_meets ⟨_,ho,rfl⟩ ⟨_,ho2,rfl⟩ noFill_list_add seq_list_add PySem.F.slot_list_add PySem.F.entry_list_add (PySem.F.args_list_add_2 _ _) (list_addW l b its.toArray its2.toArray n n2 dd dd2 sl sl2 (by rw[List.size_toArray,List.size_toArray];omega)) ⟨ho,ho2,?_⟩
 rw[e]
 exact⟨.ref _,_,I.lnew (t':=s.toks) (r.append r2) (by rw[lA];omega),rfl,q _ I.fresh⟩
theorem aDt(x:Str):Str.rep x 1=x:=by
 unfold Str.rep
 cases x
 simp
theorem zO(x:Str)(h:x.length=0)(k:Nat):Str.rep x k=x:=by
 have hx:x.cps=#[]:=by
  unfold Str.length at h
  exact Array.eq_empty_of_size_eq_zero h
 have go:∀k,(List.replicate k x.cps).foldl (·++·) #[]=#[]:=by
  intro k
  rw[hx]
  induction k with
  | zero=>rfl
  | succ k ih=>rw[List.replicate_succ,List.foldl_cons];simpa using ih
 unfold Str.rep
 rw[go k]
 cases x
 simp at hx
 rw[hx]
theorem vS(x:Str)(k:Nat):(⟨(List.replicate k x.cps).foldl (·++·) #[]⟩:Str).length=x.length*k:=by
 have go:∀(k:Nat) (acc:Array Nat),((List.replicate k x.cps).foldl (·++·) acc).size=acc.size+x.cps.size*k:=by
  intro k
  induction k with
  | zero=>intro acc;simp
  | succ k ih=>
   intro acc
   rw[List.replicate_succ,List.foldl_cons,ih,Array.size_append,Nat.mul_succ]
   omega
 show((List.replicate k x.cps).foldl (·++·) #[]).size=x.cps.size*k
 rw[go]
 simp
theorem aDu:OpR X (binaryOp .Mult) (λx y H Q=>∃a k,x=.str a/\y=.int k/\aY k=true/\a.length*k.toNat<=lim/\Q (.str (Str.rep a k.toNat)) H):=by
 intro pins s σV H x y v u Q I rx ry h
 obtain⟨a,k,rfl,rfl,hk,hl,q⟩:=h
 obtain⟨t,rfl⟩:=rx
 obtain⟨t',rfl⟩:=ry
 unfold aY at hk
 simp only[bA,decide_eq_true_eq] at hk
 have h1:-(2 ^ 62:Int)<=k:=hk.1
 have h2:k<(2 ^ 62:Int):=hk.2
 have e1:decide (k < -(2 ^ 63:Int))=false:=decide_eq_false (by omega)
 have e2:decide (k ≥ (2 ^ 63:Int))=false:=decide_eq_false (by omega)
 have fin:∀z:Str,z=Str.rep a k.toNat->∀tk,EP X pins σV Q (.str z tk) { s with toks:=s.toks+1 }:=λz e tk=>by
  subst e
  exact⟨.str _,H,I.tok _,⟨_,rfl⟩,q⟩
 refine P.mul_str (by rw[e1,e2];rfl) (λn1 n2 z=>?_) (λn1 n2=>?_) ?_
 . have k1:1<=k:=by omega
   have z1:(a.length:Int)*k<=(lim:Int):=by
    have hk':((k.toNat:Nat):Int)=k:=by omega
    have:=Int.ofNat_le.mpr hl
    rw[Int.natCast_mul] at this
    rw[<-hk']
    exact_mod_cast this
   have z2:(2 ^ 63-1:Int) / k<a.length:=z
   have z3:(2 ^ 63-1:Int)<a.length*k:=Int.lt_mul_of_ediv_lt (by omega) z2
   have z4:(lim:Int)=1000000:=rfl
   omega
 . unfold Builtin.Str.tooLong
   have:=fA hl
   exact decide_eq_false (by omega)
 . split
   . rename_i hn
     have:k.toNat=0:=by omega
     refine⟨by decide,?_⟩
     exact fin _ (by rw[this];rfl) _
   . split
     . rename_i hn h1'
       have hz:Str.rep a k.toNat=a:=by
        rcases Bool.or_eq_true_iff.mp h1' with z|z
        . have:k=1:=eq_of_beq z
          subst this
          exact aDt a
        . exact zO a (eq_of_beq z) _
       exact⟨.str a,H,I,⟨_,rfl⟩,by rw[hz] at q;exact q⟩
     . refine⟨?_,fin _ rfl _⟩
       have:=fA hl
       rw[vS]
       exact this
def aFJ(K:Fg):R2:=λx y H Q=>∃a b xs ys,x=.ref a/\y=.ref b/\SqT K H a xs/\SqT K H b ys/\xs.length+ys.length<=sizeLine /\
 (xs=[]->Q (.ref b) H)/\(xs≠[]->ys=[]->Q (.ref a) H)/\(xs≠[]->ys≠[]->∀p,H p=none->Q (.ref p) (upd H p (.tup (xs++ys))))
theorem aBn:OpR X (binaryOp .Add) (aFJ X.K):=by
 intro pins s σ H x y v u Q I rx ry h
 obtain⟨a,b,xs,ys,rfl,rfl,ha,hb,hz,q0,q1,q2⟩:=h
 by_cases hx:xs=[]
 . cases rx
   cases ry
   obtain⟨its,r1,p1,_⟩:=I.tuple ha
   obtain⟨its2,r2,p2,_⟩:=I.tuple hb
   obtain⟨⟨cls,dd,data,sl⟩,ho,hc,n,hd⟩:=id p1
   obtain⟨⟨cls2,dd2,data2,sl2⟩,ho2,hc2,n2,hd2⟩:=id p2
   simp only at hc hd hc2 hd2
   subst hc hd hc2 hd2
   have hi:its=[]:=r1.nil_iff.mpr hx
   exact concat_meets ⟨_,ho,rfl⟩ ⟨_,ho2,rfl⟩ noFill_tuple_add seq_tuple_add PySem.F.slot_tuple_add PySem.F.entry_tuple_add (PySem.F.args_tuple_add_2 _ _)
    (tuple_addW0 a b its.toArray its2.toArray n n2 dd dd2 sl sl2 (by simp[hi])) ⟨ho,ho2,⟨.ref b,H,I,rfl,q0 hx⟩⟩
 . exact aDh pins s σ H _ _ v u Q I rx ry ⟨a,b,xs,ys,rfl,rfl,ha,hb,hx,hz,q1 hx,q2 hx⟩
theorem aBo{o:Operator}(I:Inv X pins σV H s)(S:Sx X.K RT Y old σ σV H)(rx:cI ux vx)(ry:cI uy vy)(hx:Rv X.K RT Y old σ σV H x ux)(hy:Rv X.K RT Y old σ σV H y uy)
 (hfr:x.fr=true->∃a xs,ux=.ref a/\H a=some (.lst xs)) (h:RE (opD o x y) (Wn X RT Y old σ σV H Q)):wpAny (model X.prog X.w) X.A (binaryOp o vx vy) (EP X pins σV Q) X.xe s:=by
 have t:=Inv.tk I
 have go:∀{f:Value->Value->Sem Value} {r:R2},OpR X f r->(r ux uy H λv H'=>Tk X.K H'->Q v H')->wpAny (model X.prog X.w) X.A (f vx vy) (EP X pins σV Q) X.xe s:=λhr q=>
  thn (hr pins s σV H ux uy vx vy _ I rx ry q) λu s' z=>EP.tk z
 cases o with
 | Add=>
  have h:RE (aFB x y) (Wn X RT Y old σ σV H Q):=h
  unfold aFB at h
  split at h
  . rename_i i j d1 d2
    exact go aFi ⟨i,j,hx.int d1,hy.int d2,λ_=>h.val t λ_=>rfl⟩
  . rename_i i j d1 d2
    obtain⟨c,h⟩:=h.iff
    exact go vE ⟨i,j,hx.str d1,hy.str d2,fA (of_decide_eq_true c),λ_=>Wn.val h t λ_=>rfl⟩
  . rename_i as bs d1 d2
    obtain⟨c,h⟩:=h.iff
    obtain⟨a,xs,e1,q1,r1⟩:=hx.tup d1
    obtain⟨b,ys,e2,q2,r2⟩:=hy.tup d2
    have l1:=r1.length
    have l2:=r2.length
    have c':=of_decide_eq_true c
    have r1':Reps X.K H (exV RT Y old σ σV (x.pa||y.pa) (x.al++y.al)) as xs:=r1.weak λa z=>z.mono (λhp=>by rw[hp];rfl) λj hj=>List.mem_append_left _ hj
    have r2':Reps X.K H (exV RT Y old σ σV (x.pa||y.pa) (x.al++y.al)) bs ys:=r2.weak λa z=>z.mono (λhp=>by rw[hp,Bool.or_true]) λj hj=>List.mem_append_right _ hj
    refine go aBn ⟨a,b,xs,ys,e1,e2,q1,q2,fA (by omega),λz t'=>?_,λz z' t'=>?_,λz z' p hp t'=>?_⟩
    . subst z
      have:as=[]:=List.length_eq_zero_iff.mp (by simpa using l1)
      subst this
      exact h _ _ t' (Ro.plain (bG.refl H) rfl ⟨b,ys,rfl,q2,r2'⟩)
    . subst z'
      have:bs=[]:=List.length_eq_zero_iff.mp (by simpa using l2)
      subst this
      exact h _ _ t' (Ro.plain (bG.refl H) rfl ⟨a,xs,rfl,q1,by rw[List.append_nil];exact r1'⟩)
    . exact h _ _ t' (Ro.tup hp rfl rfl (r1'.append r2'))
  . rename_i as bs d1 d2
    obtain⟨c,h⟩:=h.iff
    obtain⟨a,xs,e1,q1,_,r1⟩:=hx.lst d1
    obtain⟨b,ys,e2,q2,_,r2⟩:=hy.lst d2
    have l1:=r1.length
    have l2:=r2.length
    have c':=of_decide_eq_true c
    refine go aDs ⟨a,b,xs,ys,e1,e2,q1,q2,fA (by omega),λp hp t'=>h _ _ t' (Ro.fresh hp t' rfl rfl S ?_)⟩
    refine Reps.append ((fT r1).weak λa z=>z.mono (λhp=>?_) λj hj=>List.mem_append_left _ hj) ((fT r2).weak λa z=>z.mono (λhp=>?_) λj hj=>List.mem_append_right _ hj)
    . show(_||_)=true
      rw[hp];rfl
    . show(_||_)=true
      rw[hp,Bool.or_true]
  . exact h.elim
 | Mult=>
  have h:RE (aFC x y) (Wn X RT Y old σ σV H Q):=h
  unfold aFC at h
  split at h
  . rename_i i j d1 d2
    obtain⟨c,h⟩:=h.iff
    refine go aFk ⟨i,j,hx.int d1,hy.int d2,?_,λ_=>Wn.val h t λ_=>rfl⟩
    simp only[fF,Bool.or_eq_true,bA,decide_eq_true_eq] at c
    exact c
  . rename_i i j d1 d2
    obtain⟨c,h⟩:=h.iff
    simp only[bA,decide_eq_true_eq] at c
    exact go aDu ⟨i,j,hx.str d1,hy.int d2,c.1,c.2,λ_=>Wn.val h t λ_=>rfl⟩
  . rename_i as k d1 d2
    obtain⟨c,h⟩:=h.iff
    simp only[bA,decide_eq_true_eq] at c
    obtain⟨a,xs,e1,q1,_,r1⟩:=hx.lst d1
    obtain⟨a',xs',e1',q1'⟩:=hfr c.1.1.1
    rw[e1] at e1'
    cases e1'
    have e3:xs=xs':=I.list_inj q1 (SqL.of q1')
    subst e3
    have l1:=r1.length
    have hk:=c.1.1.2
    unfold aY at hk
    simp only[bA,decide_eq_true_eq] at hk
    have hk1:=hk.1
    have hk2:=hk.2
    refine go aFw ⟨a,k,xs,e1,hy.int d2,q1',by omega,by omega,fA (by rw[<-l1];exact c.1.2),λp hp t'=>h _ _ t' (Ro.fresh hp t' rfl rfl S ?_)⟩
    exact Reps.flat (Reps.free as xs c.2 r1) _
  . rename_i as k d1 d2
    obtain⟨c,h⟩:=h.iff
    simp only[bA,decide_eq_true_eq,Bool.not_eq_true',List.isEmpty_eq_false_iff] at c
    obtain⟨⟨⟨⟨c1,c2⟩,c3⟩,c4⟩,c5⟩:=c
    obtain⟨a,xs,e1,q1,r1⟩:=hx.tup d1
    have l1:=r1.length
    unfold aY at c2
    simp only[bA,decide_eq_true_eq] at c2
    have hk2:=c2.2
    have r2:=Reps.flat (Reps.free (ex':=exV RT Y old σ σV false []) as xs c5 r1) k.toNat
    refine go aDp ⟨a,k,xs,e1,hy.int d2,q1,λz=>c3 (List.length_eq_zero_iff.mp (by rw[l1,z];rfl)),c1,by omega,fA (by rw[<-l1];exact c4),λz t'=>?_,λ_ p hp t'=>h _ _ t' (Ro.tup hp rfl rfl r2)⟩
    subst z
    have e:∀{α:Type} (l:List α),(List.replicate (1:Int).toNat l).flatten=l:=λl=>by simp
    rw[e] at h
    rw[e,e] at r2
    exact h _ _ t' (Ro.cl (bG.refl H) ⟨a,xs,rfl,q1,r2⟩)
  . exact h.elim
 | Sub=>
  dsimp only[opD,sZ] at h
  split at h
  . rename_i i j d1 d2
    exact go aFj ⟨i,j,hx.int d1,hy.int d2,λ_=>h.val t λ_=>rfl⟩
  . exact h.elim
 | FloorDiv=>
  dsimp only[opD,sZ] at h
  split at h
  . rename_i i j d1 d2
    obtain⟨c,h⟩:=h.iff
    refine go aDa ⟨i,j,hx.int d1,hy.int d2,?_,λ_=>Wn.val h t λ_=>rfl⟩
    simp only[xK,bA,decide_eq_true_eq] at c
    exact c
  . exact h.elim
 | Mod=>
  dsimp only[opD,sZ] at h
  split at h
  . rename_i i j d1 d2
    obtain⟨c,h⟩:=h.iff
    exact go aFl ⟨i,j,hx.int d1,hy.int d2,of_decide_eq_true c,λ_=>Wn.val h t λ_=>rfl⟩
  . exact h.elim
 | Pow=>
  dsimp only[opD,sZ] at h
  split at h
  . rename_i i j d1 d2
    obtain⟨c,h⟩:=h.iff
    refine go aFm ⟨i,j,hx.int d1,hy.int d2,?_,λ_=>Wn.val h t λ_=>rfl⟩
    simp only[aEv,bA,decide_eq_true_eq] at c
    exact⟨c.1.1,by omega,c.2⟩
  . exact h.elim
 | _=>exact h.elim
end
end Hp
end
noncomputable section
namespace Hp
open PySem PySem.Spec PyProof.Rows L2 PySem.SeqAt
def hZ(n:Nat)(ds es:List D)(j:Nat):Bool:=match ds[j]?,es[j]? with
 | some x,some y=>(eqF n x y).getD false
 | _,_=>false
theorem xL:∀{n:Nat} {ds es:List D} {k:Bool},fR n ds es=some k->∀{j:Nat} {x y:D},ds[j]? = some x->es[j]? = some y->∃b,eqF n x y=some b
 | n,[],es,k,h,j,x,y,e1,e2=>by simp at e1
 | n,d::ds,[],k,h,j,x,y,e1,e2=>by simp at e2
 | n,d::ds,e::es,k,h,j,x,y,e1,e2=>by
  rw[fR] at h
  cases h1:eqF n d e with
  | none=>rw[h1] at h;simp at h
  | some b=>
   cases h2:fR n ds es with
   | none=>rw[h1,h2] at h;simp at h
   | some b'=>
    cases j with
    | zero=>simp at e1 e2;subst e1 e2;exact⟨b,h1⟩
    | succ j=>exact xL h2 (by simpa using e1) (by simpa using e2)
theorem nC:∀{n:Nat} {ds es:List D} {k:Bool},fR n ds es=some k->k=((List.range (min ds.length es.length)).all (hZ n ds es)&&ds.length==es.length)
 | n,[],[],k,h=>by simp[fR] at h;simp[<-h]
 | n,[],e::es,k,h=>by simp[fR] at h;simp[<-h]
 | n,d::ds,[],k,h=>by simp[fR] at h;simp[<-h]
 | n,d::ds,e::es,k,h=>by
  rw[fR] at h
  cases h1:eqF n d e with
  | none=>rw[h1] at h;simp at h
  | some b=>
   cases h2:fR n ds es with
   | none=>rw[h1,h2] at h;simp at h
   | some b'=>
    rw[h1,h2] at h
    have hk:(b&&b')=k:=Option.some.inj h
    have ih:=nC h2
    have e0:hZ n (d::ds) (e::es) 0=b:=by simp[hZ,h1]
    have es':∀j,hZ n (d::ds) (e::es) (j+1)=hZ n ds es j:=λj=>by simp[hZ]
    have hm:min (d::ds).length (e::es).length=min ds.length es.length+1:=by simp only[lC];omega
    rw[hm,List.range_succ_eq_map,List.all_cons,e0,List.all_map]
    have:(hZ n (d::ds) (e::es))∘Nat.succ=hZ n ds es:=funext λj=>es' j
    rw[this,<-hk,ih]
    simp[Bool.and_assoc]
section
variable {X:Cx} {σV:L2.St} {H:Hp} {s:Shared} {pins:List (Addr×Obj)}
theorem _root_.L2.Inv.lt_ne(I:L2.Inv X pins σV H s){a:Addr}{xs ys:List V}(h1:SqL X.K H a xs)(h2:SqT X.K H a ys):False:=by
 obtain⟨its,_,pl,_⟩:=I.list h1
 obtain⟨its2,_,pt,_⟩:=I.tuple h2
 exact ne_of_list_tuple pl.isList (show s.heap.IsTuple a its2.toArray from pt) rfl
theorem aBp{n:Nat}{ds:List (D×D)}{e:D}{k:Bool}(h:eqF (n+1) (.dic ds) e=some k):False:=by
 unfold eqF at h
 split at h <;> first|(cases h;done)|(rename_i e1 e2;cases e1;done)|(rename_i e1;cases e1;done)
mutual
theorem qY(I:L2.Inv X pins σV H s):∀(n:Nat) (d e:D) (u:V) (k:Bool) (ex ex':Addr->Prop),Rep X.K H ex d u->Rep X.K H ex' e u->eqF n d e=some k->k=true
 | 0,d,e,u,k,_,_,_,_,h=>by simp[eqF] at h
 | n+1,.non,e,u,k,_,_,h1,h2,h=>by
  rw[show u=.non from h1] at h2
  cases e with
  | non=>simpa[eqF] using h.symm
  | tup ds=>obtain⟨a,xs,z,_⟩:=h2;cases z
  | lst ds=>obtain⟨a,xs,z,_⟩:=h2;cases z
  | dic ds=>obtain⟨a,xs,z,_⟩:=h2;cases z
  | err _ _=>exact h2.elim
  | bl b=>cases(show V.non=.bl b from h2)
  | int b=>cases(show V.non=.int b from h2)
  | str b=>cases(show V.non=.str b from h2)
 | n+1,.bl b,e,u,k,_,_,h1,h2,h=>by
  rw[show u=.bl b from h1] at h2
  cases e with
  | bl b'=>cases(show V.bl b=.bl b' from h2);simpa[eqF] using h.symm
  | tup ds=>obtain⟨a,xs,z,_⟩:=h2;cases z
  | lst ds=>obtain⟨a,xs,z,_⟩:=h2;cases z
  | dic ds=>obtain⟨a,xs,z,_⟩:=h2;cases z
  | err _ _=>exact h2.elim
  | non=>cases(show V.bl b=.non from h2)
  | int b'=>cases(show V.bl b=.int b' from h2)
  | str b'=>cases(show V.bl b=.str b' from h2)
 | n+1,.int b,e,u,k,_,_,h1,h2,h=>by
  rw[show u=.int b from h1] at h2
  cases e with
  | int b'=>cases(show V.int b=.int b' from h2);simpa[eqF] using h.symm
  | tup ds=>obtain⟨a,xs,z,_⟩:=h2;cases z
  | lst ds=>obtain⟨a,xs,z,_⟩:=h2;cases z
  | dic ds=>obtain⟨a,xs,z,_⟩:=h2;cases z
  | err _ _=>exact h2.elim
  | non=>cases(show V.int b=.non from h2)
  | bl b'=>cases(show V.int b=.bl b' from h2)
  | str b'=>cases(show V.int b=.str b' from h2)
 | n+1,.str b,e,u,k,_,_,h1,h2,h=>by
  rw[show u=.str b from h1] at h2
  cases e with
  | str b'=>cases(show V.str b=.str b' from h2);simpa[eqF] using h.symm
  | tup ds=>obtain⟨a,xs,z,_⟩:=h2;cases z
  | lst ds=>obtain⟨a,xs,z,_⟩:=h2;cases z
  | dic ds=>obtain⟨a,xs,z,_⟩:=h2;cases z
  | err _ _=>exact h2.elim
  | non=>cases(show V.str b=.non from h2)
  | bl b'=>cases(show V.str b=.bl b' from h2)
  | int b'=>cases(show V.str b=.int b' from h2)
 | n+1,.tup ds,e,u,k,ex,ex',h1,h2,h=>by
  obtain⟨a,xs,z,q,r⟩:=h1
  subst z
  cases e with
  | tup es=>
   obtain⟨a',ys,z,q',r'⟩:=h2
   cases z
   have:xs=ys:=I.tuple_inj q q'
   subst this
   exact eqs_same I n ds es xs k ex ex' r r' (by simpa[eqF] using h)
  | lst es=>
   obtain⟨a',ys,z,q',_,r'⟩:=h2
   cases z
   exact(I.lt_ne q' q).elim
  | dic ds=>simp[eqF] at h
  | err _ _=>exact h2.elim
  | non=>cases(show V.ref a=.non from h2)
  | bl b'=>cases(show V.ref a=.bl b' from h2)
  | int b'=>cases(show V.ref a=.int b' from h2)
  | str b'=>cases(show V.ref a=.str b' from h2)
 | n+1,.lst ds,e,u,k,ex,ex',h1,h2,h=>by
  obtain⟨a,xs,z,q,_,r⟩:=h1
  subst z
  cases e with
  | lst es=>
   obtain⟨a',ys,z,q',_,r'⟩:=h2
   cases z
   have:xs=ys:=I.list_inj q q'
   subst this
   have hl:ds.length=es.length:=r.length.trans r'.length.symm
   exact eqs_same I n ds es xs k ex ex' r r' (by simpa[eqF,hl] using h)
  | tup es=>
   obtain⟨a',ys,z,q',r'⟩:=h2
   cases z
   exact(I.lt_ne q q').elim
  | dic ds=>simp[eqF] at h
  | err _ _=>exact h2.elim
  | non=>cases(show V.ref a=.non from h2)
  | bl b'=>cases(show V.ref a=.bl b' from h2)
  | int b'=>cases(show V.ref a=.int b' from h2)
  | str b'=>cases(show V.ref a=.str b' from h2)
 | n+1,.dic ds,e,u,k,ex,ex',h1,h2,h=>by
  exact(aBp h).elim
 | n+1,.err _ _,e,u,k,ex,ex',h1,h2,h=>h1.elim
theorem eqs_same(I:L2.Inv X pins σV H s):∀(n:Nat) (ds es:List D) (us:List V) (k:Bool) (ex ex':Addr->Prop),Reps X.K H ex ds us->Reps X.K H ex' es us->fR n ds es=some k->k=true
 | n,[],[],us,k,_,_,h1,h2,h=>by simpa[fR] using h.symm
 | n,[],e::es,us,k,_,_,h1,h2,h=>by
  obtain⟨x,r,z,_⟩:=h2
  rw[show us=[] from h1] at z;cases z
 | n,d::ds,[],us,k,_,_,h1,h2,h=>by
  obtain⟨x,r,z,_⟩:=h1
  rw[show us=[] from h2] at z;cases z
 | n,d::ds,e::es,us,k,ex,ex',h1,h2,h=>by
  obtain⟨x,r,z,a1,b1⟩:=h1
  obtain⟨x',r',z',a2,b2⟩:=h2
  rw[z] at z'
  cases z'
  rw[fR] at h
  cases q1:eqF n d e with
  | none=>rw[q1] at h;simp at h
  | some b=>
   cases q2:fR n ds es with
   | none=>rw[q1,q2] at h;simp at h
   | some b'=>
    rw[q1,q2] at h
    have e1:=qY I n d e x b ex ex' a1 a2 q1
    have e2:=eqs_same I n ds es r b' ex ex' b1 b2 q2
    subst e1 e2
    simpa using h.symm
end
def Eq3(A:Around)(s:Shared)(v z:Value)(k:Bool):Prop:=EqAt A s v z k/\RcAt A s v z k/\RcNeAt A s v z (!k)
theorem xM{xs:List V}{us:List Value}(r:bR xs us){j:Nat}(h:j<us.toArray.size):∃x,xs[j]? = some x/\cI x us.toArray[j]:=by
 have hl:=r.length
 have hj:j<xs.length:=by rw[List.size_toArray] at h;omega
 obtain⟨u,e,q⟩:=r.get (List.getElem?_eq_getElem hj)
 refine⟨xs[j],List.getElem?_eq_getElem hj,?_⟩
 have:us.toArray[j]=u:=by
  have e':us[j]? = some us.toArray[j]:=by simp[List.getElem?_eq_getElem (show j<us.length by simpa using h)]
  rw[e'] at e
  exact Option.some.inj e
 rw[this]
 exact q
theorem zP(A:Around):A.in1.units=A.units+1:=rfl
theorem aDv(I:L2.Inv X pins σV H s):∀(n:Nat) (A:Around) (d e:D) (u w:V) (v z:Value) (k:Bool) (ex ex':Addr->Prop),A.units+n<cLine->Rep X.K H ex d u->Rep X.K H ex' e w->cI u v->cI w z->eqF n d e=some k->Eq3 A s v z k:=by
 intro n
 induction n with
 | zero=>intro A d e u w v z k ex ex' _ _ _ _ _ h;simp[eqF] at h
 | succ n ih=>
  intro A d e u w v z k ex ex' hA h1 h2 r1 r2 h
  have hu:A.units<cLine:=by omega
  have items:∀{ds es:List D} {xs ys:List V} {its its2:List Value} {k:Bool},Reps X.K H ex ds xs->Reps X.K H ex' es ys->bR xs its->bR ys its2->fR n ds es=some k ->
   ∀j (_:j<its.toArray.size) (_:j<its2.toArray.size),EqAt A.in1 s its.toArray[j] its2.toArray[j] (hZ n ds es j):=by
   intro ds es xs ys its its2 k q1 q2 v1 v2 hk j hj1 hj2
   obtain⟨x,ex1,rx⟩:=xM v1 hj1
   obtain⟨y,ey1,ry⟩:=xM v2 hj2
   obtain⟨d',ed,rd⟩:=q1.get' ex1
   obtain⟨e',ee,re⟩:=q2.get' ey1
   obtain⟨b,hb⟩:=xL hk ed ee
   have hj:hZ n ds es j=b:=by simp[hZ,ed,ee,hb]
   rw[hj]
   exact(ih A.in1 d' e' x y _ _ b ex ex' (by rw[zP];omega) rd re rx ry hb).1
  cases d with
  | err _ _=>exact h1.elim
  | dic ds=>
   exact(aBp h).elim
  | non=>
   rw[show u=.non from h1] at r1
   cases r1
   cases e with
   | err _ _=>exact h2.elim
   | dic _=>simp[eqF] at h
   | non=>rw[show w=.non from h2] at r2;cases r2;simp[eqF] at h;subst h;exact⟨EqAt.same _,RcAt.none_none,RcNeAt.none_none⟩
   | bl b=>rw[show w=.bl b from h2] at r2;cases r2;simp[eqF] at h;subst h;exact⟨EqAt.none_bool _,RcAt.none_bool _,RcNeAt.none_bool _⟩
   | int b=>rw[show w=.int b from h2] at r2;obtain⟨t,rfl⟩:=r2;simp[eqF] at h;subst h;exact⟨EqAt.none_int _ _,RcAt.none_int _ _,RcNeAt.none_int _ _⟩
   | str b=>rw[show w=.str b from h2] at r2;obtain⟨t,rfl⟩:=r2;simp[eqF] at h;subst h;exact⟨EqAt.none_str _ _,RcAt.none_str _ _,RcNeAt.none_str _ _⟩
   | tup es=>
    obtain⟨b,ys,rfl,q,r⟩:=h2
    cases r2
    obtain⟨its,_,p,_⟩:=I.tuple q
    simp[eqF] at h;subst h
    exact⟨EqAt.none_tuple (show s.heap.IsTuple b its.toArray from p) hu,RcAt.none_tuple (show s.heap.IsTuple b its.toArray from p) hu,RcNeAt.none_tuple (show s.heap.IsTuple b its.toArray from p) hu⟩
   | lst es=>
    obtain⟨b,ys,rfl,q,_,r⟩:=h2
    cases r2
    obtain⟨its,_,p,_⟩:=I.list q
    simp[eqF] at h;subst h
    exact⟨EqAt.none_list p.isList hu,RcAt.none_list p.isList hu,RcNeAt.none_list p.isList hu⟩
  | bl a=>
   rw[show u=.bl a from h1] at r1
   cases r1
   cases e with
   | err _ _=>exact h2.elim
   | dic _=>simp[eqF] at h
   | non=>rw[show w=.non from h2] at r2;cases r2;simp[eqF] at h;subst h;exact⟨EqAt.bool_none _,RcAt.bool_none _,RcNeAt.bool_none _⟩
   | bl b=>rw[show w=.bl b from h2] at r2;cases r2;simp only[eqF,Option.some.injEq] at h;subst h;exact⟨EqAt.bool_bool _ _,RcAt.bool_bool _ _,RcNeAt.bool_bool _ _⟩
   | int b=>rw[show w=.int b from h2] at r2;obtain⟨t,rfl⟩:=r2;simp only[eqF,Option.some.injEq] at h;subst h;exact⟨EqAt.bool_int _ _ _,RcAt.bool_int _ _ _,RcNeAt.bool_int _ _ _⟩
   | str b=>rw[show w=.str b from h2] at r2;obtain⟨t,rfl⟩:=r2;simp[eqF] at h;subst h;exact⟨EqAt.bool_str _ _ _,RcAt.bool_str _ _ _,RcNeAt.bool_str _ _ _⟩
   | tup es=>
    obtain⟨b,ys,rfl,q,r⟩:=h2
    cases r2
    obtain⟨its,_,p,_⟩:=I.tuple q
    simp[eqF] at h;subst h
    exact⟨EqAt.bool_tuple _ (show s.heap.IsTuple b its.toArray from p) hu,RcAt.bool_tuple _ (show s.heap.IsTuple b its.toArray from p) hu,RcNeAt.bool_tuple _ (show s.heap.IsTuple b its.toArray from p) hu⟩
   | lst es=>
    obtain⟨b,ys,rfl,q,_,r⟩:=h2
    cases r2
    obtain⟨its,_,p,_⟩:=I.list q
    simp[eqF] at h;subst h
    exact⟨EqAt.bool_list _ p.isList hu,RcAt.bool_list _ p.isList hu,RcNeAt.bool_list _ p.isList hu⟩
  | int a=>
   rw[show u=.int a from h1] at r1
   obtain⟨t1,rfl⟩:=r1
   cases e with
   | err _ _=>exact h2.elim
   | dic _=>simp[eqF] at h
   | non=>rw[show w=.non from h2] at r2;cases r2;simp[eqF] at h;subst h;exact⟨EqAt.int_none _ _,RcAt.int_none _ _,RcNeAt.int_none _ _⟩
   | bl b=>rw[show w=.bl b from h2] at r2;cases r2;simp only[eqF,Option.some.injEq] at h;subst h;exact⟨EqAt.int_bool _ _ _,RcAt.int_bool _ _ _,RcNeAt.int_bool _ _ _⟩
   | int b=>rw[show w=.int b from h2] at r2;obtain⟨t,rfl⟩:=r2;simp only[eqF,Option.some.injEq] at h;subst h;exact⟨EqAt.int_int _ _ _ _,RcAt.int_int _ _ _ _,RcNeAt.int_int _ _ _ _⟩
   | str b=>rw[show w=.str b from h2] at r2;obtain⟨t,rfl⟩:=r2;simp[eqF] at h;subst h;exact⟨EqAt.int_str _ _ _ _,RcAt.int_str _ _ _ _,RcNeAt.int_str _ _ _ _⟩
   | tup es=>
    obtain⟨b,ys,rfl,q,r⟩:=h2
    cases r2
    obtain⟨its,_,p,_⟩:=I.tuple q
    simp[eqF] at h;subst h
    exact⟨EqAt.int_tuple _ _ (show s.heap.IsTuple b its.toArray from p) hu,RcAt.int_tuple _ _ (show s.heap.IsTuple b its.toArray from p) hu,RcNeAt.int_tuple _ _ (show s.heap.IsTuple b its.toArray from p) hu⟩
   | lst es=>
    obtain⟨b,ys,rfl,q,_,r⟩:=h2
    cases r2
    obtain⟨its,_,p,_⟩:=I.list q
    simp[eqF] at h;subst h
    exact⟨EqAt.int_list _ _ p.isList hu,RcAt.int_list _ _ p.isList hu,RcNeAt.int_list _ _ p.isList hu⟩
  | str a=>
   rw[show u=.str a from h1] at r1
   obtain⟨t1,rfl⟩:=r1
   cases e with
   | err _ _=>exact h2.elim
   | dic _=>simp[eqF] at h
   | non=>rw[show w=.non from h2] at r2;cases r2;simp[eqF] at h;subst h;exact⟨EqAt.str_none _ _,RcAt.str_none _ _,RcNeAt.str_none _ _⟩
   | bl b=>rw[show w=.bl b from h2] at r2;cases r2;simp[eqF] at h;subst h;exact⟨EqAt.str_bool _ _ _,RcAt.str_bool _ _ _,RcNeAt.str_bool _ _ _⟩
   | int b=>rw[show w=.int b from h2] at r2;obtain⟨t,rfl⟩:=r2;simp[eqF] at h;subst h;exact⟨EqAt.str_int _ _ _ _,RcAt.str_int _ _ _ _,RcNeAt.str_int _ _ _ _⟩
   | str b=>rw[show w=.str b from h2] at r2;obtain⟨t,rfl⟩:=r2;simp only[eqF,Option.some.injEq] at h;subst h;exact⟨EqAt.str_str _ _ _ _,RcAt.str_str _ _ _ _,RcNeAt.str_str _ _ _ _⟩
   | tup es=>
    obtain⟨b,ys,rfl,q,r⟩:=h2
    cases r2
    obtain⟨its,_,p,_⟩:=I.tuple q
    simp[eqF] at h;subst h
    exact⟨EqAt.str_tuple _ _ (show s.heap.IsTuple b its.toArray from p) hu,RcAt.str_tuple _ _ (show s.heap.IsTuple b its.toArray from p) hu,RcNeAt.str_tuple _ _ (show s.heap.IsTuple b its.toArray from p) hu⟩
   | lst es=>
    obtain⟨b,ys,rfl,q,_,r⟩:=h2
    cases r2
    obtain⟨its,_,p,_⟩:=I.list q
    simp[eqF] at h;subst h
    exact⟨EqAt.str_list _ _ p.isList hu,RcAt.str_list _ _ p.isList hu,RcNeAt.str_list _ _ p.isList hu⟩
  | tup ds=>
   have h1':=h1
   obtain⟨a,xs,rfl,q1,rp1⟩:=h1
   cases r1
   obtain⟨its1,v1,p1,_⟩:=I.tuple q1
   have p1':s.heap.IsTuple a its1.toArray:=p1
   cases e with
   | err _ _=>exact h2.elim
   | dic _=>simp[eqF] at h
   | non=>rw[show w=.non from h2] at r2;cases r2;simp[eqF] at h;subst h;exact⟨EqAt.tuple_none p1' hu,RcAt.tuple_none p1' hu,RcNeAt.tuple_none p1' hu⟩
   | bl b=>rw[show w=.bl b from h2] at r2;cases r2;simp[eqF] at h;subst h;exact⟨EqAt.tuple_bool _ p1' hu,RcAt.tuple_bool _ p1' hu,RcNeAt.tuple_bool _ p1' hu⟩
   | int b=>rw[show w=.int b from h2] at r2;obtain⟨t,rfl⟩:=r2;simp[eqF] at h;subst h;exact⟨EqAt.tuple_int _ _ p1' hu,RcAt.tuple_int _ _ p1' hu,RcNeAt.tuple_int _ _ p1' hu⟩
   | str b=>rw[show w=.str b from h2] at r2;obtain⟨t,rfl⟩:=r2;simp[eqF] at h;subst h;exact⟨EqAt.tuple_str _ _ p1' hu,RcAt.tuple_str _ _ p1' hu,RcNeAt.tuple_str _ _ p1' hu⟩
   | tup es=>
    have h2':=h2
    obtain⟨b,ys,rfl,q2,rp2⟩:=h2
    cases r2
    obtain⟨its2,v2,p2,_⟩:=I.tuple q2
    have hk:fR n ds es=some k:=by simpa[eqF] using h
    have hv:=nC hk
    have l1:its1.toArray.size=ds.length:=by rw[List.size_toArray,<-v1.length,rp1.length]
    have l2:its2.toArray.size=es.length:=by rw[List.size_toArray,<-v2.length,rp2.length]
    have rc:RcAt A s (.ref a) (.ref b) k:=by
     rw[hv,<-l1,<-l2]
     exact RcAt.tuples p1' (show s.heap.IsTuple b its2.toArray from p2) hu (items rp1 rp2 v1 v2 hk)
    have rn:RcNeAt A s (.ref a) (.ref b) (!k):=by
     rw[hv,<-l1,<-l2]
     exact RcNeAt.tuples p1' (show s.heap.IsTuple b its2.toArray from p2) hu (items rp1 rp2 v1 v2 hk)
    refine⟨?_,rc,rn⟩
    by_cases hab:a=b
    . subst hab
      have:=qY I (n+1) (.tup ds) (.tup es) (.ref a) k ex ex' h1' h2' h
      subst this
      exact EqAt.same _
    . exact EqAt.of_refs hab rc
   | lst es=>
    obtain⟨b,ys,rfl,q2,_,rp2⟩:=h2
    cases r2
    obtain⟨its2,v2,p2,_⟩:=I.list q2
    simp[eqF] at h;subst h
    exact⟨EqAt.tuple_list p1' p2.isList hu,RcAt.tuple_list p1' p2.isList hu,RcNeAt.tuple_list p1' p2.isList hu⟩
  | lst ds=>
   have h1':=h1
   obtain⟨a,xs,rfl,q1,_,rp1⟩:=h1
   cases r1
   obtain⟨its1,v1,p1,_⟩:=I.list q1
   have p1':=p1.isList
   cases e with
   | err _ _=>exact h2.elim
   | dic _=>simp[eqF] at h
   | non=>rw[show w=.non from h2] at r2;cases r2;simp[eqF] at h;subst h;exact⟨EqAt.list_none p1' hu,RcAt.list_none p1' hu,RcNeAt.list_none p1' hu⟩
   | bl b=>rw[show w=.bl b from h2] at r2;cases r2;simp[eqF] at h;subst h;exact⟨EqAt.list_bool _ p1' hu,RcAt.list_bool _ p1' hu,RcNeAt.list_bool _ p1' hu⟩
   | int b=>rw[show w=.int b from h2] at r2;obtain⟨t,rfl⟩:=r2;simp[eqF] at h;subst h;exact⟨EqAt.list_int _ _ p1' hu,RcAt.list_int _ _ p1' hu,RcNeAt.list_int _ _ p1' hu⟩
   | str b=>rw[show w=.str b from h2] at r2;obtain⟨t,rfl⟩:=r2;simp[eqF] at h;subst h;exact⟨EqAt.list_str _ _ p1' hu,RcAt.list_str _ _ p1' hu,RcNeAt.list_str _ _ p1' hu⟩
   | lst es=>
    have h2':=h2
    obtain⟨b,ys,rfl,q2,_,rp2⟩:=h2
    cases r2
    obtain⟨its2,v2,p2,_⟩:=I.list q2
    have l1:its1.toArray.size=ds.length:=by rw[List.size_toArray,<-v1.length,rp1.length]
    have l2:its2.toArray.size=es.length:=by rw[List.size_toArray,<-v2.length,rp2.length]
    have both:RcAt A s (.ref a) (.ref b) k/\RcNeAt A s (.ref a) (.ref b) (!k):=by
     by_cases hl:ds.length=es.length
     . have hk:fR n ds es=some k:=by simpa[eqF,hl] using h
       have hv:=nC hk
       rw[<-hl,Nat.min_self,beq_self_eq_true,Bool.and_true,<-l1] at hv
       rw[hv]
       exact⟨RcAt.lists p1' p2.isList (by rw[l1,l2,hl]) hu (items rp1 rp2 v1 v2 hk),RcNeAt.lists p1' p2.isList (by rw[l1,l2,hl]) hu (items rp1 rp2 v1 v2 hk)⟩
     . have hk:k=false:=by simpa[eqF,hl] using h.symm
       subst hk
       have hz:(its1.toArray.size != its2.toArray.size)=true:=by rw[l1,l2];simpa using hl
       exact⟨RcAt.lists_lengths p1' p2.isList hz hu,RcNeAt.lists_lengths p1' p2.isList hz hu⟩
    refine⟨?_,both.1,both.2⟩
    by_cases hab:a=b
    . subst hab
      have:=qY I (n+1) (.lst ds) (.lst es) (.ref a) k ex ex' h1' h2' h
      subst this
      exact EqAt.same _
    . exact EqAt.of_refs hab both.1
   | tup es=>
    obtain⟨b,ys,rfl,q2,rp2⟩:=h2
    cases r2
    obtain⟨its2,v2,p2,_⟩:=I.tuple q2
    have p2':s.heap.IsTuple b its2.toArray:=p2
    simp[eqF] at h;subst h
    exact⟨EqAt.list_tuple p1' p2' hu,RcAt.list_tuple p1' p2' hu,RcNeAt.list_tuple p1' p2' hu⟩
end
end Hp
end
noncomputable section
namespace HT
open PySem PyProof.Rows
section
open PySem.SeqAt
open PySem.AutoSeq1 (wpAny_loadPart')
open PySem.MeetsSeq PySem.MeetsSeq2 PySem.MeetsSeq3
end
section
variable {prog:Program} {w:World} {A:Around} {E:Value->Shared->Prop} {s:Shared}
end
end HT
end
noncomputable section
namespace Hp
open PySem PySem.Spec PyProof.Rows L2 PySem.SeqAt
section
variable {X:Cx} {RT Y old:Addr->Prop} {σ:Sg} {σV:L2.St} {H:Hp} {s:Shared} {pins:List (Addr×Obj)} {Q:VK} {ux uy:V} {vx vy:Value} {x y:Vl}
theorem zQ{o:CmpOp}{k:Bool}{σV2:L2.St}(I:L2.Inv X pins σV H s)(hA:X.A.units+200<cLine)(rx:cI ux vx)(ry:cI uy vy)(hx:Rv X.K RT Y old σ σV2 H x ux)(hy:Rv X.K RT Y old σ σV2 H y uy)
 (h:dM o x.d y.d=some k) (q:Q (.bl k) H):wpAny (model X.prog X.w) X.A (compareOp o vx vy) (EP X pins σV Q) X.xe s:=by
 have hu:X.A.units<cLine:=by omega
 have fin:EP X pins σV Q (.bool k) s:=⟨.bl k,H,I,rfl,q⟩
 have hD:qV=120:=rfl
 have go:∀{f:Value->Value->Sem Value} {r:R2},OpR X f r->r ux uy H Q->wpAny (model X.prog X.w) X.A (f vx vy) (EP X pins σV Q) X.xe s:=λhr q=>hr pins s σV H ux uy vx vy Q I rx ry q
 have e3:∀{b:Bool},eqD x.d y.d=some b->Eq3 X.A s vx vy b:=λ{b} hb=>aDv I qV X.A x.d y.d ux uy vx vy b _ _ (by omega) hx hy rx ry hb
 cases o with
 | Eq=>exact(e3 h).2.1 X.prog X.w X.xe _ fin
 | NotEq=>
  simp only[dM,Option.map_eq_some_iff] at h
  obtain⟨b,hb,e⟩:=h
  subst e
  exact(e3 hb).2.2 X.prog X.w X.xe _ fin
 | Lt=>
  simp only[dM] at h
  unfold ltD at h
  split at h
  . rename_i a b d1 d2
    exact go aHv ⟨a,b,hx.int d1,hy.int d2,by show Q (.bl (decide (a<b))) H;rw[Option.some.inj h];exact q⟩
  . cases h
 | Gt=>
  simp only[dM] at h
  split at h
  . rename_i a b d1 d2
    exact go aHx ⟨a,b,hx.int d1,hy.int d2,by show Q (.bl (decide (b<a))) H;rw[Option.some.inj h];exact q⟩
  . cases h
 | LtE=>
  simp only[dM] at h
  unfold leD at h
  split at h
  . rename_i a b d1 d2
    exact go aHw ⟨a,b,hx.int d1,hy.int d2,by show Q (.bl (decide (a<=b))) H;rw[Option.some.inj h];exact q⟩
  . cases h
 | GtE=>
  simp only[dM] at h
  split at h
  . rename_i a b d1 d2
    exact go aHy ⟨a,b,hx.int d1,hy.int d2,by show Q (.bl (decide (b<=a))) H;rw[Option.some.inj h];exact q⟩
  . cases h
 | Is=>
  simp only[dM] at h
  split at h
  . rename_i d2
    refine go aFn ⟨hy.non d2,?_⟩
    have:decide (ux=V.non)=k:=by
     rw[<-Option.some.inj h]
     unfold isNone
     split
     . rename_i d1;rw[hx.non d1];simp
     . rename_i d1
       refine decide_eq_false λz=>?_
       rw[z] at hx
       unfold Rv at hx
       cases q':x.d with
       | non=>exact d1 q'
       | _=>rw[q'] at hx;first|(obtain⟨a,xs,z',_⟩:=hx;cases z')|exact hx.elim|injection hx
    rw[this]
    exact q
  . cases h
 | IsNot=>
  simp only[dM] at h
  split at h
  . rename_i d2
    refine go aDb ⟨hy.non d2,?_⟩
    have:(!decide (ux=V.non))=k:=by
     rw[<-Option.some.inj h]
     unfold isNone
     split
     . rename_i d1;rw[hx.non d1];simp
     . rename_i d1
       rw[decide_eq_false λz=>?_]
       rw[z] at hx
       unfold Rv at hx
       cases q':x.d with
       | non=>exact d1 q'
       | _=>rw[q'] at hx;first|(obtain⟨a,xs,z',_⟩:=hx;cases z')|exact hx.elim|injection hx
    rw[this]
    exact q
  . cases h
 | In=>
  simp only[dM] at h
  unfold inD at h
  split at h
  . rename_i a b d1 d2
    exact go zD ⟨a,b,hx.str d1,hy.str d2,by rw[show(!(Builtin.Str.occurrences b a 0 b.length 1).isEmpty)=k from Option.some.inj h];exact q⟩
  . cases h
 | NotIn=>
  simp only[dM,Option.map_eq_some_iff] at h
  obtain⟨k',h,ek⟩:=h
  subst ek
  unfold inD at h
  split at h
  . rename_i a b d1 d2
    exact go qO ⟨a,b,hx.str d1,hy.str d2,by rw[show(!(Builtin.Str.occurrences b a 0 b.length 1).isEmpty)=k' from Option.some.inj h];exact q⟩
  . cases h
end
end Hp
end
noncomputable section
namespace Hp
open PySem PySem.Spec PyProof.Rows L2
section
variable {X:Cx} {RT Y old:Addr->Prop} {σ:Sg} {σV:L2.St} {H:Hp} {s:Shared} {pins:List (Addr×Obj)} {Q:VK} {ux uy:V} {vx vy:Value} {x y:Vl}
theorem qZ(n:Nat)(k:Int):Hp.ixN n k=L2.ixN n k:=rfl
theorem Rv.ofSub{d:D}{u:V}(h:Rep X.K H (exV RT Y old σ σV x.pa x.al) d u):Ro X.K RT Y old σ σV H H (x.sub d) u:=by
 refine Ro.plain (bG.refl H) ?_ (Rv.sub (ds:=[]) (xs:=[]) (j:=0) h)
 unfold Vl.sub Vl.cl
 split <;> rfl
theorem zR(t:Tk X.K H)(hx:Rv X.K RT Y old σ σV H x ux)(hy:Rv X.K RT Y old σ σV H y uy)(h:RE (bV x y) (Wn X RT Y old σ σV H Q)):rIx X.K ux uy H (λv H'=>Tk X.K H'->Q v H'):=by
 unfold bV at h
 split at h
 . rename_i ds k d1 d2
   obtain⟨a,xs,e,q,_,r⟩:=hx.lst d1
   cases hj:Hp.ixN ds.length k with
   | none=>rw[hj] at h;exact h.elim
   | some j=>
    rw[hj] at h
    cases hd:ds[j]? with
    | none=>simp only[hd] at h;exact h.elim
    | some d=>
     simp only[hd] at h
     obtain⟨v,hv,rv⟩:=r.get hd
     refine .inl ⟨a,xs,k,v,e,hy.int d2,q,?_,λt'=>h v H t' (Rv.ofSub rv)⟩
     unfold atI
     rw[<-r.length,<-qZ,hj]
     exact hv
 . rename_i ds k d1 d2
   obtain⟨a,xs,e,q,r⟩:=hx.tup d1
   cases hj:Hp.ixN ds.length k with
   | none=>rw[hj] at h;exact h.elim
   | some j=>
    rw[hj] at h
    cases hd:ds[j]? with
    | none=>simp only[hd] at h;exact h.elim
    | some d=>
     simp only[hd] at h
     obtain⟨v,hv,rv⟩:=r.get hd
     refine .inr (.inl ⟨a,xs,k,v,e,hy.int d2,q,?_,λt'=>h v H t' (Rv.ofSub rv)⟩)
     unfold atI
     rw[<-r.length,<-qZ,hj]
     exact hv
 . rename_i z k d1 d2
   obtain⟨c,h⟩:=h.iff
   have c':=of_decide_eq_true c
   cases hj:Hp.ixN z.length k with
   | none=>rw[hj] at h;exact h.elim
   | some j=>
    rw[hj] at h
    cases hd:z.cps.toList[j]? with
    | none=>simp only[hd] at h;exact h.elim
    | some c=>
     simp only[hd] at h
     refine .inr (.inr ⟨z,k,c,hx.str d1,hy.int d2,fA c',?_,λt'=>Wn.val h t' λ_=>rfl⟩)
     unfold atI
     have hl:z.cps.toList.length=z.length:=by simp[Str.length]
     rw[hl,<-qZ,hj]
     exact hd
 . exact h.elim
theorem rA(n d:Nat)(o:Option Int):Hp.sIx n d o=HT.sIx n d o:=by cases o <;> rfl
theorem tF{K:Fg}{ex:Addr->Prop}{ds:List D}{xs:List V}(r:Reps K H ex ds xs)(lo hi:Option Int):Reps K H ex (cut ds lo hi) (sN xs lo hi):=by
 unfold cut sN
 rw[rA,rA,r.length]
 exact(r.drop _).take _
theorem iZ{prog:Program}{w:World}{A:Around}{E:Value->Shared->Prop}{t sl:Addr}{items:Array Value}{vl vu:Value}{lo hi:Option Int}{Q:Value->Shared->Prop}(ht:IsTup s.heap t items)(hs:s.heap.IsSliceOf sl vl vu .none)(pl:IsPart vl lo)(pu:IsPart vu hi)
 (hw:HT.sIx items.size 0 lo=0/\HT.sIx items.size items.size hi=items.size) (h:Q (.ref t) s):wpAny (model prog w) A (getItem (.ref t) (.ref sl)) Q E s:=by
 obtain⟨os,hos,hcs,hds⟩:=id hs
 have hTs:s.TypeIs (.ref sl) "slice" := ⟨os,hos,hcs⟩
 unfold getItem
 try with_reducible refine wpAny_holding ?_
 first|refine wpAny_bind (wpAny_pure ?_)|skip
 refine wpAny_bind (wpAny_sequenceKey ht.typeIs (by decide) ?_)
 refine wpAny_bind (wpAny_callSpecial?_slot (name:=Str.ofString "__getitem__") ht.typeIs PyProof.Rows.slot_tuple_getitem
  (wpAny_call_entry PyProof.Rows.slot_tuple_getitem ht.typeIs entry_tuple_getitem ?_ (args_tuple_getitem _ _)))
 show wpAny _ _ (Builtin.Tuple.tupleItemsOf (.ref t) >>= _) _ _ s
 refine wpAny_bind (tupleItemsOf_ ht ?_)
 refine wpAny_bind (wpAny_typeOf hTs ?_)
 rw[if_pos (by decide)]
 refine wpAny_bind (HT.sliceApplied_gen hs pl pu ?_)
 have hyes:(((HT.sIx items.size 0 lo:Nat):Int)==0&&(1:Int)==1&&(HT.sIx items.size items.size hi-HT.sIx items.size 0 lo)==items.size)=true:=by
  rw[hw.1,hw.2]
  simp
 show wpAny _ _ (if (((HT.sIx items.size 0 lo:Nat):Int)==0&&(1:Int)==1&&(HT.sIx items.size items.size hi-HT.sIx items.size 0 lo)==items.size)=true then _ else _) _ _ s
 rw[if_pos hyes]
 unfold Builtin.Tuple.tupleIsExact
 refine wpAny_bind (wpAny_bind (wpAny_typeOf ht.typeIs (wpAny_pure ?_)))
 rw[if_pos (beq_self_eq_true _)]
 exact wpAny_bind (wpAny_rule (wpAny_pure ⟨_,rfl,wpAny_pure h⟩))
def tG(K:Fg):V->Option Int->Option Int->Hp->VK->Prop:=λx lo hi H Q=>∃a xs,x=.ref a/\SqT K H a xs/\(HT.sIx xs.length 0 lo=0/\HT.sIx xs.length xs.length hi=xs.length)/\Q (.ref a) H
theorem aDw:SlR X (tG X.K):=by
 intro pins s σ H x v vl vu lo hi sl Q I rx hs pl pu h
 obtain⟨a,xs,rfl,hx,hw,q⟩:=h
 cases rx
 obtain⟨its,r,ht,hz⟩:=I.tuple hx
 have hlen:its.toArray.size=xs.length:=by rw[List.size_toArray];exact r.length.symm
 refine⟨"tuple",_,PyProof.Rows.slot_tuple_getitem.lookup,ht.typeIs,?_⟩
 exact iZ ht hs pl pu (by rw[hlen];exact hw) ⟨.ref a,H,I,rfl,q⟩
theorem aFK:SlR X (λx lo hi H Q=>aAS X.K x lo hi H Q\/aAP X.K x lo hi H Q\/tG X.K x lo hi H Q\/aBj x lo hi H Q):=aDi.or (aFq.or (aDw.or aFH))
theorem zS{α:Type}{xs:List α}{lo hi:Option Int}(h1:Hp.sIx xs.length 0 lo=0)(h2:Hp.sIx xs.length xs.length hi=xs.length):cut xs lo hi=xs:=by
 unfold cut
 rw[h1,h2,List.drop_zero,Nat.sub_zero,List.take_length]
theorem zT{lo hi:Option Int}(S:Sx X.K RT Y old σ σV H)(t:Tk X.K H)(hx:Rv X.K RT Y old σ σV H x ux)(h:RE (eW x lo hi) (Wn X RT Y old σ σV H Q)) :
 aAS X.K ux lo hi H (λv H'=>Tk X.K H'->Q v H')\/aAP X.K ux lo hi H (λv H'=>Tk X.K H'->Q v H')\/tG X.K ux lo hi H (λv H'=>Tk X.K H'->Q v H')\/aBj ux lo hi H (λv H'=>Tk X.K H'->Q v H'):=by
 unfold eW at h
 split at h
 . rename_i ds d1
   obtain⟨a,xs,e,q,_,r⟩:=hx.lst d1
   refine .inl ⟨a,xs,e,q,λp hp t'=>h _ _ t' (Ro.fresh hp t' rfl rfl S ?_)⟩
   exact tF (fT r) lo hi
 . rename_i ds d1
   obtain⟨a,xs,e,q,r⟩:=hx.tup d1
   have r':=fT r
   by_cases hw:HT.sIx xs.length 0 lo=0/\HT.sIx xs.length xs.length hi=xs.length
   . refine .inr (.inr (.inl ⟨a,xs,e,q,hw,λt'=>h _ _ t' (Ro.plain (bG.refl H) rfl ?_)⟩))
     have e':cut ds lo hi=ds:=zS (by rw[rA,r.length];exact hw.1) (by rw[rA,r.length];exact hw.2)
     unfold Rv
     show Rep X.K H _ (.tup (cut ds lo hi)) (.ref a)
     rw[e']
     exact⟨a,xs,rfl,q,r'⟩
   . exact .inr (.inl ⟨a,xs,e,q,hw,λp hp t'=>h _ _ t' (Ro.tup hp rfl rfl (tF r' lo hi))⟩)
 . rename_i a d1
   obtain⟨hl,h⟩:=h.iff
   have e:ux=.str a:=by
    have z:=hx
    unfold Rv at z
    rw[d1] at z
    exact z
   exact .inr (.inr (.inr ⟨a,e,fA (of_decide_eq_true hl),λt'=>h _ _ t' (Ro.cl (bG.refl H) rfl)⟩))
 . exact h.elim
theorem jZ:∀{ds:List D} {bs:List Bool} {xs:List V} {ex:Addr->Prop},cW ds=some bs->Reps X.K H ex ds xs->xs=bs.map V.bl
 | [],bs,xs,ex,h,r=>by
  simp[cW] at h
  subst h
  exact r
 | .bl a::ds,bs,xs,ex,h,r=>by
  obtain⟨x,r',z,h1,h2⟩:=r
  rw[cW] at h
  cases q:cW ds with
  | none=>rw[q] at h;cases h
  | some ms=>
   rw[q] at h
   cases h
   rw[z,show x=.bl a from h1,jZ q h2]
   rfl
 | .non::ds,ns,xs,ex,h,r=>by simp[cW] at h
 | .int _::ds,ns,xs,ex,h,r=>by simp[cW] at h
 | .str _::ds,ns,xs,ex,h,r=>by simp[cW] at h
 | .tup _::ds,ns,xs,ex,h,r=>by simp[cW] at h
 | .lst _::ds,ns,xs,ex,h,r=>by simp[cW] at h
 | .dic _::ds,ns,xs,ex,h,r=>by simp[cW] at h
 | .err _ _::ds,ns,xs,ex,h,r=>by simp[cW] at h
theorem zU:∀{bs:List Bool} {us:List Value},bR (bs.map V.bl) us->us=bs.map Value.bool:=by
 intro bs
 induction bs with
 | nil=>intro us r;rw[mN] at r;cases r;rfl
 | cons b bs ih=>
  intro us r
  rw[mC] at r
  cases r with
  | cons r1 r2=>
   rw[show _=Value.bool b from r1,ih r2]
   rfl
theorem vT(bs:List Bool):((List.range bs.length).all λi=>(bs[i]?).getD true)=bs.all id:=by
 rw[Bool.eq_iff_iff]
 simp only[List.all_eq_true,List.mem_range,id]
 constructor
 . intro h b hb
   obtain⟨i,hi⟩:=List.getElem?_of_mem hb
   have:=h i (List.getElem?_eq_some_iff.mp hi).1
   rw[hi] at this
   simpa using this
 . intro h i hi
   have e:=List.getElem?_eq_getElem hi
   rw[e]
   exact h _ (List.getElem_mem hi)
theorem zV(hc:X.calm=true):gC X (.builtin "all") (λxs H Q=>∃(p:Addr) (bs:List Bool),xs=[.ref p]/\SqL X.K H p (bs.map V.bl)/\Q (.bl (bs.all id)) H):=by
 intro pins s σ H xs us Q I r h
 obtain⟨p,bs,rfl,hq,q⟩:=h
 obtain⟨u,rfl,rx⟩:=mR r
 cases rx
 obtain⟨its,rv,pl,hz⟩:=I.list hq
 have hit:=zU rv
 subst hit
 have hl:=pl.isList
 have hlt:p<s.heap.objs.size:=pl.lt
 refine call_all_walk (wpAny_pyIter_list hl ?_)
 refine⟨s.heap.objs.size,[s.heap.objs.size,p],[s.heap.objs.size],(bs.map Value.bool).toArray.size,_,_,λi=>(bs[i]?).getD true,rfl,Walks.list (A:=X.A.in1) (I.ok.hd hc) _ p (Nat.ne_of_lt hlt) _,
  ⟨⟨_,Heap.get?_push_size _ rfl,rfl,rfl⟩,hl.push _⟩,λi v s' Q' E' hP hQ=>?_,λh' tk hk=>?_⟩
 . have hP':bs[i]?.map Value.bool=some v:=by simpa using hP
   cases e:bs[i]? with
   | none=>rw[e] at hP';cases hP'
   | some b=>
    rw[e] at hP'
    cases hP'
    simp only[e,Option.getD_some] at hQ
    exact wpAny_truthy_bool hQ
 . have e:((List.range (bs.map Value.bool).toArray.size).all λi=>(bs[i]?).getD true)=bs.all id:=by
    rw[List.size_toArray,lM];exact vT bs
   rw[e]
   refine⟨.bl _,H,I.kept (t':=tk) λb o e'=>hk b o ?_ (Heap.get?_push_of_some _ e'),rfl,q⟩
   intro hm
   rw[List.mem_singleton.mp hm] at e'
   exact Nat.lt_irrefl _ (Heap.lt_size e')
def rBi(X:Cx)(b:Bi):List V->Hp->VK->Prop:=match b with
 | .len=>λxs H Q=>(∃p ys,xs=[.ref p]/\(SqL X.K H p ys\/SqT X.K H p ys)/\Q (.int ys.length) H)\/∃z,xs=[.str z]/\z.length<=sizeLine/\Q (.int z.length) H
 | .list=>λxs H Q=>∃p ys,xs=[.ref p]/\(SqL X.K H p ys\/SqT X.K H p ys)/\∀l,H l=none->Q (.ref l) (upd H l (.lst ys))
 | .tuple=>λxs H Q=>∃p ys,xs=[.ref p]/\((SqL X.K H p ys/\∀l,H l=none->Q (.ref l) (upd H l (.tup ys)))\/(SqT X.K H p ys/\Q (.ref p) H))
 | .int=>λxs H Q=>(∃i,xs=[.int i]/\Q (.int i) H)\/∃k,xs=[.bl k]/\Q (.int (if k then 1 else 0)) H
 | .all=>λxs H Q=>∃(p:Addr) (bs:List Bool),xs=[.ref p]/\SqL X.K H p (bs.map V.bl)/\Q (.bl (bs.all id)) H
 | _=>λ_ _ _=>False
def aEC:Bi->Value
 | .len=>.builtin "len" | .list=>.type "list" | .tuple=>.type "tuple" | .min=>.builtin "min" | .max=>.builtin "max" | .abs=>.builtin "abs" | .int=>.type "int" | .str=>.type "str"
 | .all=>.builtin "all" | .any=>.builtin "any" | .sum=>.builtin "sum" | .sorted=>.builtin "sorted" | .bool=>.type "bool" | .repr=>.builtin "repr"
theorem aDx(hc:X.calm=true)(hg:X.A.guards=some [])(hu:X.A.units+200<cLine)(b:Bi)(hb:aBg b=true):gC X (aEC b) (rBi X b):=by
 cases b with
 | len=>exact qP.or qQ
 | list=>exact qR
 | tuple=>exact oX
 | int=>exact zE
 | all=>exact zV hc
 | _=>cases hb
theorem aBq{b:Bi}(hb:aBg b=true)(S:Sx X.K RT Y old σ σV H){vs:List Vl}{us:List V}(hv:Rvs X.K RT Y old σ σV H vs us)(h:RE (biD b vs) (Wn X RT Y old σ σV H Q)) :
 rBi X b us H (λv H'=>Tk X.K H'->Q v H'):=by
 unfold biD at h
 split at h
 . rename_i x
   obtain⟨u,r,e,hx,hr⟩:=hv
   rw[show r=[] from hr] at e
   subst e
   cases b with
   | len=>
    dsimp only[zL] at h
    split at h
    . rename_i ds d1
      obtain⟨a,xs,e,q,_,r⟩:=hx.lst d1
      exact .inl ⟨a,xs,by rw[e],.inl q,λt'=>by rw[<-r.length];exact Wn.val h t' λ_=>rfl⟩
    . rename_i ds d1
      obtain⟨a,xs,e,q,r⟩:=hx.tup d1
      exact .inl ⟨a,xs,by rw[e],.inr q,λt'=>by rw[<-r.length];exact Wn.val h t' λ_=>rfl⟩
    . rename_i z d1
      obtain⟨c,h⟩:=h.iff
      exact .inr ⟨z,by rw[hx.str d1],fA (of_decide_eq_true c),λt'=>Wn.val h t' λ_=>rfl⟩
    . exact h.elim
   | list=>
    dsimp only[zL] at h
    split at h
    . rename_i ds d1
      obtain⟨a,xs,e,q,_,r⟩:=hx.lst d1
      exact⟨a,xs,by rw[e],.inl q,λp hp t'=>h _ _ t' (Ro.fresh hp t' rfl rfl S (fT r))⟩
    . rename_i ds d1
      obtain⟨a,xs,e,q,r⟩:=hx.tup d1
      exact⟨a,xs,by rw[e],.inr q,λp hp t'=>h _ _ t' (Ro.fresh hp t' rfl rfl S (fT r))⟩
    . exact h.elim
   | tuple=>
    dsimp only[zL] at h
    split at h
    . rename_i ds d1
      obtain⟨a,xs,e,q,_,r⟩:=hx.lst d1
      exact⟨a,xs,by rw[e],.inl ⟨q,λp hp t'=>h _ _ t' (Ro.tup hp rfl rfl (fT r))⟩⟩
    . rename_i ds d1
      obtain⟨a,xs,e,q,r⟩:=hx.tup d1
      exact⟨a,xs,by rw[e],.inr ⟨q,λt'=>h _ _ t' (Ro.plain (bG.refl H) rfl ⟨a,xs,rfl,q,r⟩)⟩⟩
    . exact h.elim
   | abs=>cases hb
   | int=>
    dsimp only[zL] at h
    split at h
    . rename_i i d1
      exact .inl ⟨i,by rw[hx.int d1],λt'=>Wn.val h t' λ_=>rfl⟩
    . rename_i k d1
      exact .inr ⟨k,by rw[hx.bl d1],λt'=>Wn.val h t' λ_=>rfl⟩
    . exact h.elim
   | str=>cases hb
   | all=>
    dsimp only[zL] at h
    split at h
    . rename_i ds d1
      obtain⟨a,xs,e,q,_,r⟩:=hx.lst d1
      split at h
      . rename_i bs hbs
        rw[jZ hbs r] at q
        exact⟨a,bs,by rw[e],q,λt'=>Wn.val h t' λ_=>rfl⟩
      . exact h.elim
    . exact h.elim
   | repr=>cases hb
   | bool=>cases hb
   | sum=>cases hb
   | any=>cases hb
   | sorted=>cases hb
   | min=>exact h.elim
   | max=>exact h.elim
 . rename_i x y
   obtain⟨u,r,e,hx,u',r',e',hy,hr⟩:=hv
   rw[show r'=[] from hr] at e'
   subst e' e
   cases b <;> first|exact h.elim|cases hb
 . exact h.elim
def tH:Cl->Option Value
 | .tInt=>some (.type "int")|.tBool=>some (.type "bool")|.tStr=>some (.type "str")|.tList=>some (.type "list")|.tTuple=>some (.type "tuple")|.tDict=>some (.type "dict")
 | _=>none
def tyD:D->Option String
 | .non=>some "NoneType" | .bl _=>some "bool" | .int _=>some "int" | .str _=>some "str" | .tup _=>some "tuple" | .lst _=>some "list" | .dic _=>some "dict" | .err _ _=>none
theorem gO(K:Fg)(P:Pg){c:Cl}{cv:Value}{d:D}{k:Bool}{T:String}(hc:tH c=some cv)(hT:tyD d=some T)(h:isI [c] P d=some k):PySem.W.kitOne K (.type T) cv=some k:=by
 cases c with
 | own c=>cases hc
 | tValueError=>cases hc
 | tInt=>cases hc;cases d <;> cases hT <;> simp[isI] at h <;> subst h <;> kernel_rfl
 | tBool=>cases hc;cases d <;> cases hT <;> simp[isI] at h <;> subst h <;> kernel_rfl
 | tStr=>cases hc;cases d <;> cases hT <;> simp[isI] at h <;> subst h <;> kernel_rfl
 | tList=>cases hc;cases d <;> cases hT <;> simp[isI] at h <;> subst h <;> kernel_rfl
 | tTuple=>cases hc;cases d <;> cases hT <;> simp[isI] at h <;> subst h <;> kernel_rfl
 | tDict=>cases hc;cases d <;> cases hT <;> simp[isI] at h <;> subst h <;> kernel_rfl
theorem zW(P:Pg){c:Cl}{cv:Value}{k:Bool}(I:L2.Inv X pins σV H s)(rx:cI ux vx)(hx:Rv X.K RT Y old σ σV H x ux)(hc:tH c=some cv)(h:isI [c] P x.d=some k)(q:Q (.bl k) H) :
 wpAny (model X.prog X.w) X.A (PySem.call (.builtin "isinstance") [vx,cv]) (EP X pins σV Q) X.xe s:=by
 have fin:∀tk,EP X pins σV Q (.bool k) { s with toks:=tk }:=λtk=>⟨.bl k,H,I.tok tk,rfl,q⟩
 cases d:x.d with
 | non=>
  have e:=gO X.K P hc (by rw[d];rfl) h
  rw[hx.non d] at rx;cases rx
  exact PySem.W.kia_one PySem.W.kitx_none I.kIn True.intro e (λz=>nomatch z) fin
 | bl b=>
  have e:=gO X.K P hc (by rw[d];rfl) h
  rw[hx.bl d] at rx;cases rx
  exact PySem.W.kia_one PySem.W.kitx_bool I.kIn True.intro e (λz=>nomatch z) fin
 | int i=>
  have e:=gO X.K P hc (by rw[d];rfl) h
  rw[hx.int d] at rx;obtain⟨t,rfl⟩:=rx
  exact PySem.W.kia_one PySem.W.kitx_int I.kIn True.intro e (λz=>nomatch z) fin
 | str z=>
  have e:=gO X.K P hc (by rw[d];rfl) h
  rw[hx.str d] at rx;obtain⟨t,rfl⟩:=rx
  exact PySem.W.kia_one PySem.W.kitx_str I.kIn True.intro e (λz=>nomatch z) fin
 | tup ds=>
  have e:=gO X.K P hc (by rw[d];rfl) h
  obtain⟨a,xs,e1,p,_⟩:=hx.tup d
  subst e1
  cases rx
  obtain⟨its,_,t,_⟩:=I.tuple p
  obtain⟨o,h1,h2,_⟩:=t
  exact PySem.W.kia_one PySem.W.kitx_tuple I.kIn ⟨o,h1,h2⟩ e (λz=>nomatch z) fin
 | lst ds=>
  have e:=gO X.K P hc (by rw[d];rfl) h
  obtain⟨a,xs,e1,p,_⟩:=hx.lst d
  subst e1
  cases rx
  obtain⟨its,_,t,_⟩:=I.list p
  obtain⟨o,n,h1,h2,_⟩:=t
  exact PySem.W.kia_one PySem.W.kitx_list I.kIn ⟨o,h1,h2⟩ e (λz=>nomatch z) fin
 | dic kvs=>
  have e:=gO X.K P hc (by rw[d];rfl) h
  unfold Rv at hx
  rw[d] at hx
  obtain⟨a,ks,e1,p,_⟩:=hx
  subst e1
  cases rx
  obtain⟨_,_,vs,_,o,es,ep,h1,h2,_⟩:=(show eM X.prog X.w H s.heap a (.dK ks) from I.hok a _ p)
  exact PySem.W.kia_one PySem.W.kitx_dict I.kIn ⟨o,h1,h2.1⟩ e (λz=>nomatch z) fin
 | err _ _=>
  unfold Rv at hx
  rw[d] at hx
  exact hx.elim
end
end Hp
end
noncomputable section
namespace L2
open PySem PySem.Spec PyProof.Rows
def jA(cells:List (Str×Addr)):List (Str×NameKind)->List (Str×Addr)->List (Str×Addr)
 | [],acc=>acc
 | (n,k)::r,acc=>if k==.free then jA cells r ((n,(cells.lookup n).getD 0)::acc) else jA cells r acc
theorem clos_mem{cells:List (Str×Addr)}:∀{names:List (Str×NameKind)} {acc:List (Str×Addr)} {p:Str×Addr},p∈jA cells names acc->p∈acc\/((p.1,NameKind.free)∈names/\p.2=(cells.lookup p.1).getD 0)
 | [],_,_,h=>.inl h
 | (n,k)::r,acc,p,h=>by
  unfold jA at h
  by_cases hk:(k==NameKind.free)=true
  . rw[if_pos hk] at h
    rcases clos_mem h with q|q
    . rcases List.mem_cons.mp q with q|q
      . subst q
        have:k=.free:=eq_of_beq hk
        subst this
        exact .inr ⟨List.mem_cons_self,rfl⟩
      . exact .inl q
    . exact .inr ⟨List.mem_cons_of_mem _ q.1,q.2⟩
  . rw[if_neg hk] at h
    rcases clos_mem h with q|q
    . exact .inl q
    . exact .inr ⟨List.mem_cons_of_mem _ q.1,q.2⟩
theorem nD{cells:List (Str×Addr)}:∀{names:List (Str×NameKind)} {acc:List (Str×Addr)} {p:Str×Addr},p∈acc->p∈jA cells names acc
 | [],_,_,h=>h
 | (n,k)::r,acc,p,h=>by
  unfold jA
  by_cases hk:(k==NameKind.free)=true
  . rw[if_pos hk];exact nD (List.mem_cons_of_mem _ h)
  . rw[if_neg hk];exact nD h
theorem kA{cells:List (Str×Addr)}:∀{names:List (Str×NameKind)} {acc:List (Str×Addr)} {n:Str},(n,NameKind.free)∈names->(n,(cells.lookup n).getD 0)∈jA cells names acc
 | [],_,_,h=>by simp at h
 | (m,k)::r,acc,n,h=>by
  unfold jA
  rcases List.mem_cons.mp h with q|q
  . cases q
    rw[if_pos (by rfl:(NameKind.free==NameKind.free)=true)]
    exact nD List.mem_cons_self
  . by_cases hk:(k==NameKind.free)=true
    . rw[if_pos hk];exact kA q
    . rw[if_neg hk];exact kA q
theorem fB{α:Type}:∀{l:List (Str×α)} {x:Str} {a:α},(x,a)∈l->∃b,l.lookup x=some b
 | (y,b)::r,x,a,h=>by
  rw[List.lookup_cons]
  cases hx:x==y with
  | true=>exact⟨b,rfl⟩
  | false=>
   rcases List.mem_cons.mp h with q|q
   . cases q
     simp at hx
   . exact fB q
theorem dB{cells:List (Str×Addr)}{names:List (Str×NameKind)}(hh:∀n,(n,NameKind.free)∈names->∃c,cells.lookup n=some c){x:Str}{c:Addr}(h:(jA cells names []).lookup x=some c):cells.lookup x=some c:=by
 rcases clos_mem (PySem.mem_of_lookup h) with q|⟨q1,q2⟩
 . simp at q
 . obtain⟨c',e⟩:=hh x q1
   simp only at q2
   rw[e] at q2
   rw[e,q2];rfl
theorem gX{scope:Scope}{env:Env}(hh:∀n,(n,NameKind.free)∈scope.names->∃c,env.cells.lookup n=some c):closureFor scope env=pure (jA env.cells scope.names []):=by
 have go:∀(l:List (Str×NameKind)) (acc:List (Str×Addr)),(∀n,(n,NameKind.free)∈l->∃c,env.cells.lookup n=some c) ->
  (forIn l acc (λ(x:Str×NameKind) (r:List (Str×Addr))=>(match x with|(name,kind)=>if (kind==NameKind.free)=true then do let __do_lift<-cellOf env name;pure (ForInStep.yield ((name,__do_lift)::r)) else pure (ForInStep.yield r):Sem (ForInStep (List (Str×Addr))))))=(pure (jA env.cells l acc):Sem (List (Str×Addr))):=by
  intro l
  induction l with
  | nil=>intro acc _;rfl
  | cons p r ih=>
   intro acc hl
   obtain⟨n,k⟩:=p
   rw[List.forIn_cons]
   unfold jA
   by_cases hk:(k==NameKind.free)=true
   . have:k=.free:=eq_of_beq hk
     subst this
     obtain⟨c,e⟩:=hl n List.mem_cons_self
     have e':cellOf env n=pure c:=by unfold cellOf;rw[e]
     simp only[beq_self_eq_true,if_true,e']
     rw[e]
     exact ih _ λm hm=>hl m (List.mem_cons_of_mem _ hm)
   . simp only[hk,if_false]
     exact ih _ λm hm=>hl m (List.mem_cons_of_mem _ hm)
 unfold closureFor
 exact(bind_pure _).trans (go scope.names [] hh)
section
variable {prog:Program} {w:World} {A:Around} {R:Result->Shared->Prop} {s:Shared}
theorem iA{elt target iter:Expr}{ifs:List Expr}{scope:Scope}{pos:Pos}{it acc:Value}{env:Env}(I:Nat->Shared->Prop)
 (turn:∀n s,I n s->wpAny (model prog w) A (pyNext it) (λr s₁=>match r with
  | none=>R (.ok .next) s₁
  | some v=>wpAny (model prog w) A (letOwnedTupleGo target it v) (λ_ s₁'=>wpAny (model prog w) A (assign target env v) (λ_ s₂=>
   wpAny (model prog w) A (forIn ifs true λc r=>if r=true then do let ok<-isTrue c env (eval c env);pure (ForInStep.yield ok) else pure (ForInStep.yield r)) (λok s₃=>
    if ok=true then wpAny (model prog w) A (eval elt env) (λx s₄=>
     wpAny (model prog w) A (call (.builtin "list.append") [acc,x]) (λ_ s₅=>∃m,m<n/\I m s₅) (λ_ _=>False) s₄) (λ_ _=>False) s₃
    else ∃m,m<n/\I m s₃) (λ_ _=>False) s₂) (λ_ _=>False) s₁') (λ_ _=>False) s₁) (λ_ _=>False) s)
 (n:Nat) (h:I n s) :
 codeAny (model prog w) A (.compLoop (.ListComp elt [⟨target,iter,ifs,0⟩] scope pos) 0 it acc env) R s:=by
 refine codeAny_loop rfl I (λn s hI=>?_) n h
 show wpAny _ A ((compTurn (.ListComp elt [⟨target,iter,ifs,0⟩] scope pos) 0 it acc env).onRaise (λx=>do noteFrame x env;theTreesLotGoes x)) _ _ s
 refine wpAny_noted ?_
 rw[compTurn_list]
 refine wpAny_bind (wpAny_standAt (wpAny_bind (wpAny_mono (turn n s hI) (λr s₁ h₁=>?_) λ_ _ h'=>h'.elim)))
 cases r with
 | none=>exact wpAny_pure h₁
 | some v=>
  refine wpAny_bind (wpAny_mono h₁ (λ_ s₁' h₁'=>?_) λ_ _ h'=>h'.elim)
  refine wpAny_bind (wpAny_mono h₁' (λ_ s₂ h₂=>wpAny_bind (wpAny_mono h₂ (λok s₃ h₃=>?_) λ_ _ h'=>h'.elim)) λ_ _ h'=>h'.elim)
  cases ok with
  | false=>exact wpAny_pure ⟨rfl,h₃⟩
  | true=>
   exact wpAny_bind (wpAny_bind (wpAny_mono h₃ (λx s₄ h₄=>wpAny_bind (wpAny_mono h₄ (λ_ s₅ h₅=>wpAny_pure (wpAny_pure ⟨rfl,h₅⟩)) λ_ _ h'=>h'.elim)) λ_ _ h'=>h'.elim))
end
def eF(X:Cx)(scope:Scope)(N':List Str)(C:Addr)(s₀:Shared)(H₀:Hp)(ex:List Addr):Cx:=
 { X with env:=compEnvC scope (jA X.env.cells scope.names []) C X.env,N:=N',s₀:=s₀,H₀:=H₀,outer:=X.stack,ex:=ex,fn:=λ_=>false,pn:=[],xe:=λ_ _=>False }
def PTs(X:Cx)(ifs:List Expr)(t:TT):Prop:=
 ∀(pins:List (Addr×Obj)) (s:Shared) (σ:St) (H:Hp) (Q:Bool->Hp->Prop),Inv X pins σ H s->t σ H Q ->
  wpAny (model X.prog X.w) X.A (forIn ifs true λc r=>if r=true then do let ok<-isTrue c X.env (eval c X.env);pure (ForInStep.yield ok) else pure (ForInStep.yield r)) (TP X pins σ Q) X.xe s
theorem aDy{X:Cx}:PTs X [] (λ_ H Q=>Q true H):=λpins s σ H Q I h=>wpAny_pure ⟨H,I,h⟩
theorem aDz{X:Cx}{c:Expr}{t:TT}(h:PT X c t):PTs X [c] t:=λpins s σ H Q I hw=>wpAny_tests_one (h pins s σ H Q I hw)
structure dW (X:Cx) (scope:Scope) (k:Nat) (caps:List Nat) (N':List Str):Prop where
 kind:scope.kind=.function
 nocell:∀y∈scope.names,y.2≠.cell
 loc:∀y∈scope.names,y.2=.local->scope.names.lookup y.1=some .local
 free:∀n,(n,NameKind.free)∈scope.names->X.env.kindOf n=some .cell\/X.env.kindOf n=some .free
 len:N'.length=k+caps.length
 cap:∀j i,caps[j]? = some i->∃x,N'[k+j]? = some x/\X.N[i]? = some x/\scope.names.lookup x=some .free/\X.env.kindOf x=some .cell
 ndp:X.N.Nodup
def jK(k:Nat)(caps:List Nat)(σ:St):St:=List.replicate k none++caps.map λi=>(σ[i]?).getD none
def aBr(k:Nat)(caps:List Nat)(wi:TI)(g:TG)(tt:TT)(te:TE):TE:=λσ H Q=>wi σ H λJ H1=>
 ∃W:Nat->Nat->List V->St->Hp->Prop,(∃m,W 0 m [] (jK k caps σ) H1)/\∀i m ys σ1 H,W i m ys σ1 H ->
  (J.stop i H/\ys.length<=sizeLine/\∀p,H p=none->Q (.ref p) (upd H p (.lst ys))) \/
  (J.go i H/\ys.length<sizeLine/\∀x H',J.yld i H x H'->g x σ1 H' λσ2 H2=>tt σ2 H2 λb H3=>
   if b=true then te σ2 H3 λy H4=>∃m',m'<m/\W (i+1) m' (ys++[y]) σ2 H4 else ∃m',m'<m/\W (i+1) m' ys σ2 H3)
theorem HOk.track{P:Program}{w:World}{H:Hp}{h:Heap}{a:Addr}{o:HO}(ok:HOk P w H h)(n:H a=none)(new:eM P w (upd H a o) h a o):HOk P w (upd H a o) h:=λb u e=>by
 by_cases hb:b=a
 . subst hb;rw[bU] at e;cases e;exact new
 . rw[aN hb] at e
   exact(ok b u e).stay (λ_ _ _ q=>q) (λc q=>by rw[aN (bZ q n)];exact q) λc xs q=>by rw[aN (bZ q n)];exact q
abbrev eB(its:List Value)(n:Nat):Obj:={ cls:=.type "list",data:=.seq its.toArray n }
section
variable {X:Cx} {scope:Scope} {k:Nat} {caps:List Nat} {N':List Str} {pins:List (Addr×Obj)} {σ:St} {H:Hp} {s:Shared} {fp:List Addr}
theorem Inv.cellLt(I:Inv X pins σ H s){x:Str}{c:Addr}(e:X.env.cells.lookup x=some c):c<s.heap.objs.size:=by
 obtain⟨v,q⟩:=I.cell x c e
 exact q.lt
theorem fU:∀{l:List (Str×NameKind)} {x:Str} {k:NameKind},l.lookup x=some k->(x,k)∈l:=λh=>PySem.mem_of_lookup h
theorem relabel_lookup{env:Env}:∀{names:List (Str×NameKind)} {x:Str} {k:NameKind},
 (names.map λ(n,k)=>if (k==NameKind.free&&env.scope.kind==.function&&env.kindOf n==some .cell) then (n,NameKind.cell) else (n,k)).lookup x=some k ->
 (k=.cell/\names.lookup x=some .free/\env.kindOf x=some .cell)\/names.lookup x=some k
 | [],_,_,h=>by simp at h
 | (n,k')::r,x,k,h=>by
  have ih:=@relabel_lookup env r x k
  rw[mC] at h
  by_cases hc:(k'==NameKind.free&&env.scope.kind==.function&&env.kindOf n==some .cell)=true
  . simp only[hc,if_true,List.lookup_cons] at h ⊢
    cases hx:x==n with
    | true=>
     rw[hx] at h
     simp only at h ⊢
     simp only[bA] at hc
     have e1:k'=.free:=eq_of_beq hc.1.1
     have e2:env.kindOf n=some .cell:=eq_of_beq hc.2
     have e3:x=n:=eq_of_beq hx
     subst e3
     cases h
     exact .inl ⟨rfl,by rw[e1],e2⟩
    | false=>rw[hx] at h;exact ih h
  . simp only[Bool.not_eq_true] at hc
    simp only[hc,if_false,List.lookup_cons,bF] at h ⊢
    cases hx:x==n with
    | true=>rw[hx] at h;exact .inr h
    | false=>rw[hx] at h;exact ih h
theorem aKD(CS:dW X scope k caps N')(I:Inv X pins σ H s)(f:∀b∈fp,jU X pins H b)(hf:∀b∈fp,b<s.heap.objs.size) :
 (eF X scope N' (s.heap.objs.size+1) { s with heap:=s.heap.push (eB [] 0) } H (s.heap.objs.size::fp)).Ok:=by
 have hh:∀n,(n,NameKind.free)∈scope.names->∃c,X.env.cells.lookup n=some c:=λn hn=>I.ok.has n (CS.free n hn)
 have ge:∀b o,s.heap.get? b=some o->(s.heap.push (eB [] 0)).get? b=some o:=λb o e=>Heap.get?_push_of_some _ e
 have fsub:∀b∈frs X.stack,∃o,s.heap.get? b=some o:=λb hb=>by
  obtain⟨_,o,ho,_⟩:=I.stack.mem hb
  exact⟨o,ho⟩
 refine⟨I.ok.mod,?_,I.ok.glob,I.ok.blt,?_,λx y c h1 h2=>?_,λx hx=>?_,λx c h _=>?_,I.ok.hd,I.ok.frames,.inl rfl,λb hb=>?_,λb o e=>?_,?_,λb o e hb=>?_,λb hb=>?_,?_,I.stkFree⟩
 . exact CS.kind
 . show(s.heap.push (eB [] 0)).objs.size<=s.heap.objs.size+1
   rw[Heap.size_push]
   exact Nat.le_refl _
 . exact I.ok.inj x y c (dB hh h1) (dB hh h2)
 . have fr:(x,NameKind.free)∈scope.names:=by
    rcases hx with q|q
    . rcases relabel_lookup q with⟨_,z,_⟩|z
      . exact fU z
      . exact absurd rfl (CS.nocell _ (fU z))
    . rcases relabel_lookup q with⟨z,_⟩|z
      . cases z
      . exact fU z
   obtain⟨c,e⟩:=fB (kA (cells:=X.env.cells) (acc:=[]) fr)
   exact⟨c,e⟩
 . cases(show false=true from h)
 . refine⟨?_,λx c e=>?_⟩
   . show b≠s.heap.objs.size+1
     rcases List.mem_cons.mp hb with z|z
     . rw[z];exact Nat.ne_of_lt (Nat.lt_succ_self _)
     . exact Nat.ne_of_lt (Nat.lt_succ_of_lt (hf b z))
   . have e':=dB hh e
     rcases List.mem_cons.mp hb with z|z
     . rw[z];exact Nat.ne_of_lt (I.cellLt e')
     . exact(f b z).2.2.2.2.1 x c e'
 . exact⟨ge b o (I.bs b o e).1,(I.bs b o e).2⟩
 . show X.base.objs.size<=(s.heap.push (eB [] 0)).objs.size
   rw[Heap.size_push]
   exact Nat.le_succ_of_le (Nat.le_trans I.ok.bsz I.sz)
 . have lt:=Heap.lt_size e
   rcases List.mem_cons.mp hb with z|z
   . subst z
     exact absurd (Nat.lt_of_lt_of_le lt (Nat.le_trans I.ok.bsz I.sz)) (Nat.lt_irrefl _)
   . rcases(f b z).2.2.2.1 with q|q
     . exact I.ok.noex b o e q
     . exact absurd (Nat.lt_of_lt_of_le lt (Nat.le_trans I.ok.bsz q)) (Nat.lt_irrefl _)
 . show b∉frs X.stack
   intro hs
   rcases List.mem_cons.mp hb with z|z
   . subst z
     obtain⟨o,e⟩:=fsub _ hs
     exact absurd (Heap.lt_size e) (Nat.lt_irrefl _)
   . rcases List.mem_cons.mp (I.stkSub b hs) with q|q
     . exact(f b z).2.1 q
     . exact(f b z).2.2.1 q
 . exact I.stack.of_keeps λb o e _=>⟨o,ge b o e,rfl⟩
theorem aBs(CS:dW X scope k caps N'){j:Nat}{v:V}(h:(jK k caps σ)[j]? = some (some v)):∃j' i,j=k+j'/\caps[j']? = some i/\σ[i]? = some (some v):=by
 unfold jK at h
 by_cases hj:j<k
 . rw[List.getElem?_append_left (by simpa using hj),List.getElem?_replicate] at h
   split at h <;> cases h
 . rw[List.getElem?_append_right (by simpa using hj),List.length_replicate,List.getElem?_map] at h
   cases e:caps[j-k]? with
   | none=>rw[e] at h;cases h
   | some i=>
    rw[e] at h
    have h':(σ[i]?).getD none=some v:=Option.some.inj h
    refine⟨j-k,i,by omega,e,?_⟩
    cases q:σ[i]? with
    | none=>rw[q] at h';cases h'
    | some z=>rw[q] at h';exact congrArg some h'
theorem aHX(CS:dW X scope k caps N')(I:Inv X pins σ H s)(f:∀b∈fp,jU X pins H b)(hf:∀b∈fp,b<s.heap.objs.size){h₁:Heap}{tk:Nat}
 (hns:h₁.Ns (s.heap.objs.size+1) λ_=>none) (hk:∀b o,(s.heap.push (eB [] 0)).get? b=some o->h₁.get? b=some o) :
 Inv (eF X scope N' (s.heap.objs.size+1) { s with heap:=s.heap.push (eB [] 0) } H (s.heap.objs.size::fp)) [] (jK k caps σ) H { s with heap:=h₁,toks:=tk }:=by
 have hh:∀n,(n,NameKind.free)∈scope.names->∃c,X.env.cells.lookup n=some c:=λn hn=>I.ok.has n (CS.free n hn)
 have ge:∀b o,s.heap.get? b=some o->h₁.get? b=some o:=λb o e=>hk b o (Heap.get?_push_of_some _ e)
 have cellK:∀{c:Addr} {v:Option Value},s.heap.IsCell c v->h₁.IsCell c v:=λ{c v} ⟨o,e,d⟩=>⟨o,ge _ _ e,d⟩
 refine⟨aKD CS I f hf,rfl,I.bare,Un.kept hk,⟨_,hns,λj x v e1 e2 e3=>?_⟩,λx c e=>?_,?_,λx c e=>?_,λp hp=>absurd (show p∈([]:List (Addr×Obj)) from hp) (by simp),I.hok.kept ge,?_⟩
 . obtain⟨j',i,ej,ec,es⟩:=aBs CS e2
   obtain⟨y,h1,h2,h3,h4⟩:=CS.cap j' i ec
   have e1':N'[j]? = some x:=e1
   rw[ej,h1] at e1'
   have ey:y=x:=Option.some.inj e1'
   subst ey
   obtain⟨m,hn,hl⟩:=I.loc
   obtain⟨u,ru,lk⟩:=hl i y v h2 es (.inr (.inl h4))
   rcases lk with⟨k1,_⟩|⟨_,c,ec',hc⟩
   . rw[h4] at k1;cases k1
   . refine⟨u,ru,.inr ⟨?_,c,?_,cellK hc⟩⟩
     . have e3':Vis (relabel scope X.env) y:=e3
       rcases e3' with z|z|z
       . rcases relabel_lookup z with⟨z,_⟩|z
         . cases z
         . rw[h3] at z;cases z
       . exact .inl z
       . exact .inr z
     . obtain⟨c',e⟩:=fB (kA (cells:=X.env.cells) (acc:=[]) (fU h3))
       have e':=dB hh e
       rw[ec'] at e'
       cases e'
       exact e
 . obtain⟨v,q⟩:=I.cell x c (dB hh e)
   exact⟨v,cellK q⟩
 . exact I.hok.fresh (Nat.le_succ _)
 . exact I.freeC x c (dB hh e)
 . show(jK k caps σ).length=N'.length
   unfold jK
   rw[lA,List.length_replicate,lM,CS.len]
theorem tJ{tg iter elt:Expr}{ifs:List Expr}{pos:Pos}{g:TG}{tt:TT}{te:TE}{it:Addr}{tn:Nat->Heap->Prop}{J:It}{RR:Value->Addr->Result->Shared->Prop}{E:Value->Shared->Prop}{Q:VK}
 (CS:dW X scope k caps N') (hc:X.calm=true) (I:Inv X pins σ H s) (T:sJ X.prog X.w X.K tg J fp it tn) (st:tn 0 s.heap) (f:∀b∈fp,jU X pins H b)
 (hch:∀C s₀ H₀ ex,PG (eF X scope N' C s₀ H₀ ex) tg g/\PTs (eF X scope N' C s₀ H₀ ex) ifs tt/\PE (eF X scope N' C s₀ H₀ ex) elt te)
 (hw:∃W:Nat->Nat->List V->St->Hp->Prop,(∃m,W 0 m [] (jK k caps σ) H)/\∀i m ys σ1 H,W i m ys σ1 H ->
  (J.stop i H/\ys.length<=sizeLine/\∀p,H p=none->Q (.ref p) (upd H p (.lst ys))) \/
  (J.go i H/\ys.length<sizeLine/\∀x H',J.yld i H x H'->g x σ1 H' λσ2 H2=>tt σ2 H2 λb H3=>
   if b=true then te σ2 H3 λy H4=>∃m',m'<m/\W (i+1) m' (ys++[y]) σ2 H4 else ∃m',m'<m/\W (i+1) m' ys σ2 H3))
 (hR:∀D C s' H' m,Inv X pins σ H' s'->s'.heap.Ns C m->s.heap.objs.size<C->(∀(σ':St) (s'':Shared) (h':Heap),Inv X pins σ' H' s''->Heap.SameBut C s''.heap h'->Inv X pins σ' H' { s'' with heap:=h' })->Q (.ref D) H'->RR (.ref D) C (.ok .next) s') :
 wpAny (model X.prog X.w) X.A (newList []) (λacc s₃=>wpAny (model X.prog X.w) X.A (newFunctionEnv scope X.env.globals (jA X.env.cells scope.names []) [] X.env.qual none .none (some X.env)) (λcenv s₄=>
  codeAny (model X.prog X.w) X.A (.compStart (.ListComp elt [⟨tg,iter,ifs,0⟩] scope pos) 0 (.ref it) acc { cenv with scope:=relabel scope X.env }) (RR acc cenv.locals) s₄) E s₃) E s:=by
 obtain⟨W,⟨m0,w0⟩,turn⟩:=hw
 have hf:∀b∈fp,b<s.heap.objs.size:=λb hb=>by
  obtain⟨o,e,_⟩:=T.obj 0 _ st b hb
  exact Heap.lt_size e
 refine wpAny_newObj_type (wpAny_newFunctionEnv CS.nocell (by intro y hy;simp at hy) (λh₁ hns₁ hsb₁=>?_) CS.kind)
 have hsz:(s.heap.push (eB [] 0)).objs.size=s.heap.objs.size+1:=Heap.size_push _ _
 have hns:h₁.Ns (s.heap.objs.size+1) λ_=>none:=by
  have:=hns₁
  rw[show({ s with heap:=s.heap.push (eB [] 0) }:Shared).heap.objs.size=s.heap.objs.size+1 from hsz] at this
  exact this
 have hk:∀b o,(s.heap.push (eB [] 0)).get? b=some o->h₁.get? b=some o:=λb o e=>
  hsb₁.extBut b o (Nat.ne_of_lt (by have:=Heap.lt_size e;rw[hsz] at this;show b<(s.heap.push (eB [] 0)).objs.size;rw[hsz];exact this)) (Heap.get?_push_of_some _ e)
 have I0:=aHX (N':=N') CS I f hf (tk:=s.toks+([]:List (Str×Value)).length) hns hk
 have noC:∀{b:Addr},b<s.heap.objs.size->b≠s.heap.objs.size+1:=λ{b} hb=>Nat.ne_of_lt (Nat.lt_succ_of_lt hb)
 have hDn:H s.heap.objs.size=none:=I.fresh
 have hh:∀n,(n,NameKind.free)∈scope.names->∃c,X.env.cells.lookup n=some c:=λn hn=>I.ok.has n (CS.free n hn)
 have hD1:h₁.get? s.heap.objs.size=some (eB [] 0):=hk _ _ (Heap.get?_push_size _ rfl)
 have stFs:∀b∈frs X.stack,b<s.heap.objs.size:=λb hb=>by
  obtain⟨_,o,ho,_⟩:=I.stack.mem hb
  exact Heap.lt_size ho
 have fpc:∀(pl:List (Addr×Obj)),(∀p∈pl,p.1=s.heap.objs.size)->∀{H':Hp},(∀b∈fp,H' b=none)->∀b∈fp,jU (eF X scope N' (s.heap.objs.size+1) { s with heap:=s.heap.push (eB [] 0) } H (s.heap.objs.size::fp)) pl H' b:=by
  intro pl hpl H' hn b hb
  refine⟨hn b hb,noC (hf b hb),λz=>?_,.inl (List.mem_cons_of_mem _ hb),λx c e=>(f b hb).2.2.2.2.1 x c (dB hh e),λp hp z=>?_⟩
  . rcases List.mem_cons.mp (I.stkSub b z) with q|q
    . exact(f b hb).2.1 q
    . exact(f b hb).2.2.1 q
  . have hp':p∈pl:=by simpa[eF] using hp
    rw[hpl p hp'] at z
    exact absurd (hf b hb) (by rw[<-z];exact Nat.lt_irrefl _)
 have pinD:∀{σ':St} {H':Hp} {s':Shared} {its:List Value} {n:Nat} {pl:List (Addr×Obj)},Inv (eF X scope N' (s.heap.objs.size+1) { s with heap:=s.heap.push (eB [] 0) } H (s.heap.objs.size::fp)) pl σ' H' s' ->
  s'.heap.get? s.heap.objs.size=some (eB its n)->H' s.heap.objs.size=none->Inv (eF X scope N' (s.heap.objs.size+1) { s with heap:=s.heap.push (eB [] 0) } H (s.heap.objs.size::fp)) [(s.heap.objs.size,eB its n)] σ' H' s':=by
  intro σ' H' s' its n pl J e nn
  refine J.pins_of λp hp=>?_
  have:p=(s.heap.objs.size,eB its n):=by simpa using hp
  subst this
  refine⟨e,nn,Nat.ne_of_lt (Nat.lt_succ_self _),λz=>absurd (stFs _ z) (Nat.lt_irrefl _),λv z=>by cases z⟩
 have start:codeAny (model X.prog X.w) X.A (.compLoop (.ListComp elt [⟨tg,iter,ifs,0⟩] scope pos) 0 (.ref it) (.ref s.heap.objs.size) (compEnvC scope (jA X.env.cells scope.names []) (s.heap.objs.size+1) X.env))
  (RR (.ref s.heap.objs.size) (s.heap.objs.size+1)) { s with heap:=h₁,toks:=s.toks+([]:List (Str×Value)).length }:=by
  refine iA (λn s'=>∃i ys its cnt σ1 H',Inv (eF X scope N' (s.heap.objs.size+1) { s with heap:=s.heap.push (eB [] 0) } H (s.heap.objs.size::fp)) [(s.heap.objs.size,eB its cnt)] σ1 H' s' /\
   tn i s'.heap/\(∀b∈fp,H' b=none)/\bR ys its/\W i n ys σ1 H') ?_ m0 ⟨0,[],[],0,_,H,pinD I0 hD1 hDn,T.keep _ _ _ st λb _ o e=>hk b o (Heap.get?_push_of_some _ e),λb hb=>(f b hb).1,.nil,w0⟩
  rintro n s3 ⟨i,ys,its,cnt,σ1,H3,I3,st3,fr3,rv3,w3⟩
  obtain⟨hD3,nD3,_⟩:=I3.pin (s.heap.objs.size,eB its cnt) (by simp[eF])
  have pl1:∀p∈[(s.heap.objs.size,eB its cnt)],p.1=s.heap.objs.size:=λp hp=>by
   have:p=(s.heap.objs.size,eB its cnt):=by simpa using hp
   rw[this]
  rcases turn i n ys σ1 H3 w3 with⟨stop,hz,qn⟩|⟨go,hz,step⟩
  . refine thn (T.done (eF X scope N' (s.heap.objs.size+1) { s with heap:=s.heap.push (eB [] 0) } H (s.heap.objs.size::fp)) rfl rfl rfl hc i _ s3 _ H3 _ I3 (fpc _ pl1 fr3) st3 stop) λr s4 ⟨hr,I4⟩=>?_
    subst hr
    obtain⟨hD4,nD4,_⟩:=I4.pin (s.heap.objs.size,eB its cnt) (by simp[eF])
    have u4:=I4.base
    have nb:∀{b:Addr} {o:Obj},s.heap.get? b=some o->b∉fp->b∉s.heap.objs.size::fp:=λ{b o} e hb z=>by
     rcases List.mem_cons.mp z with z|z
     . exact absurd (Heap.lt_size e) (by rw[z];exact Nat.lt_irrefl _)
     . exact hb z
    have neD:∀{b:Addr} {o:Obj},s.heap.get? b=some o->b≠s.heap.objs.size:=λ{b o} e=>Nat.ne_of_lt (Heap.lt_size e)
    have trD:∀{b:Addr} {o:HO},H b=some o->b≠s.heap.objs.size:=λ{b o} e=>bZ e hDn
    have u:Un (frs X.stack) fp H (upd H3 s.heap.objs.size (.lst ys)) s.heap s4.heap:={
     keep:=λb o e nn hb hx=>u4.keep b o (Heap.get?_push_of_some _ e) nn hb (nb e hx)
     slot:=λb o e nn hb hx=>u4.slot b o (Heap.get?_push_of_some _ e) nn hb (nb e hx)
     free:=λb o e nn hx=>by rw[aN (neD e)];exact u4.free b o (Heap.get?_push_of_some _ e) nn (nb e hx)
     there:=λb o e hx=>u4.there b o (Heap.get?_push_of_some _ e) (nb e hx)
     tups:=λb xs e=>by rw[aN (trD e)];exact u4.tups b xs e
     frzs:=λb o u e=>by rw[aN (trD e)];exact u4.frzs b o u e
     tbls:=λb ps e=>by rw[aN (trD e)];exact u4.tbls b ps e }
    have hl:=rv3.length
    have hok:HOk X.prog X.w (upd H3 s.heap.objs.size (.lst ys)) s4.heap:=HOk.track I4.hok nD4 ⟨hz,its,cnt,rv3,hD4⟩
    have I5:Inv X pins σ (upd H3 s.heap.objs.size (.lst ys)) s4:=I.call' I4.os u hok I4.bare λb hb=>⟨(f b hb).2.2.2.1,(f b hb).2.1,(f b hb).2.2.2.2.1,(f b hb).2.2.2.2.2⟩
    obtain⟨m4,hn4,_⟩:=I4.loc
    refine hR s.heap.objs.size (s.heap.objs.size+1) s4 _ m4 I5 hn4 (Nat.lt_succ_self _) (λσ' s'' h' I6 hs'=>?_) (qn _ nD4)
    have:=I6.turned (t':=s''.toks) (h':=h') (it:=s.heap.objs.size+1) (λb o hb e=>hs'.extBut b o hb e) (by rw[aN (Nat.ne_of_gt (Nat.lt_succ_self _))];exact I4.free)
     (Nat.ne_of_gt (Nat.lt_succ_of_lt I.lt)) (.inr (Nat.le_succ_of_le I.sz)) (λx c e=>Nat.ne_of_lt (Nat.lt_succ_of_lt (I.cellLt e))) λp hp z=>?_
    . exact this
    . have:=Heap.lt_size (I.pin p hp).1
      rw[z] at this
      exact absurd this (Nat.not_lt.mpr (Nat.le_succ _))
  . refine thn (T.item (eF X scope N' (s.heap.objs.size+1) { s with heap:=s.heap.push (eB [] 0) } H (s.heap.objs.size::fp)) rfl rfl rfl hc i _ s3 _ H3 _ I3 (fpc _ pl1 fr3) st3 go) λr s4 ⟨u,hr,h4⟩=>?_
    subst hr
    refine thn h4 λ_ s5 ⟨x,H5,I5,r5,y5,st5,fr5⟩=>?_
    obtain⟨hg,ht,he⟩:=hch (s.heap.objs.size+1) { s with heap:=s.heap.push (eB [] 0) } H (s.heap.objs.size::fp)
    have I5':=I5.pinned (fpc _ pl1 fr5) (T.obj _ _ st5)
    have keep:∀{σ7:St} {H7:Hp} {s7:Shared},Inv (eF X scope N' (s.heap.objs.size+1) { s with heap:=s.heap.push (eB [] 0) } H (s.heap.objs.size::fp)) ([(s.heap.objs.size,eB its cnt)]++mP fp s5.heap) σ7 H7 s7 ->
     tn (i+1) s7.heap/\(∀b∈fp,H7 b=none)/\s7.heap.get? s.heap.objs.size=some (eB its cnt)/\H7 s.heap.objs.size=none:=by
     intro σ7 H7 s7 I7
     obtain⟨hD7,nD7,_⟩:=I7.pin (s.heap.objs.size,eB its cnt) (by simp[eF])
     refine⟨T.keep _ _ _ st5 λb hb o e=>(I7.pin (b,o) (List.mem_append_right _ (List.mem_append_right _ (gJ hb e)))).1,λb hb=>?_,hD7,nD7⟩
     obtain⟨o,e,d⟩:=T.obj _ _ st5 b hb
     exact(I7.pin (b,o) (List.mem_append_right _ (List.mem_append_right _ (gJ hb e)))).2.1
    refine thn (hg _ s5 _ H5 x u _ I5' r5 (step x H5 y5)) λ_ s6 ⟨σ6,H6,I6,q6⟩=>?_
    refine thn (ht _ s6 σ6 H6 _ I6 q6) λb s7 ⟨H7,I7,q7⟩=>?_
    cases b with
    | false=>
     rw[if_neg bN] at q7 ⊢
     obtain⟨m',hm,w7⟩:=q7
     obtain⟨t7,f7,d7,n7⟩:=keep I7
     exact⟨m',hm,i+1,ys,its,cnt,σ6,H7,pinD I7 d7 n7,t7,f7,rv3,w7⟩
    | true=>
     rw[if_pos rfl] at q7 ⊢
     refine thn (he _ s7 σ6 H7 _ I7 q7) λyv s8 ⟨y,H8,I8,r8,q8⟩=>?_
     obtain⟨m',hm,w8⟩:=q8
     obtain⟨t8,f8,d8,n8⟩:=keep I8
     have hl:=rv3.length
     have hzv:its.toArray.size<=sizeLine:=by rw[List.size_toArray];omega
     refine call_meets F.slot_list_append ⟨_,d8,rfl⟩ F.entry_list_append (F.args_list_append_2 _ _) (PySem.list_append s.heap.objs.size its.toArray cnt yv hzv) ⟨d8,?_⟩
     have q:=PySem.IsL.update d8 (λa=>a.push yv)
     have e':its.toArray.push yv=(its++[yv]).toArray:=by simp
     rw[e'] at q
     have I9:=(I8.unpinned (pins:=[(s.heap.objs.size,eB its cnt)])).pins_of (pins':=[]) (λp hp=>absurd hp (by simp))
     have I10:=I9.turned (t':=s8.toks) (it:=s.heap.objs.size) (h':=s8.heap.update s.heap.objs.size (Obj.mapSeq λa=>a.push yv)) (λb o hb e=>(Heap.get?_update_other s8.heap _ (Ne.symm hb)).trans e) n8
      (Nat.ne_of_lt (Nat.lt_succ_self _)) (.inl List.mem_cons_self) (λx c e=>Nat.ne_of_lt (I.cellLt (dB hh e))) (λp hp=>absurd (show p∈([]:List (Addr×Obj)) from by simpa[eF] using hp) (by simp))
     refine⟨m',hm,i+1,ys++[y],its++[yv],_,σ6,H8,pinD I10 q n8,?_,f8,rv3.append (.cons r8 .nil),w8⟩
     refine T.keep _ _ _ t8 λb hb o e=>(Heap.get?_update_other s8.heap _ ?_).trans e
     intro z
     exact absurd (hf b hb) (by rw[<-z];exact Nat.lt_irrefl _)
 have startC:∀C,C=s.heap.objs.size+1->codeAny (model X.prog X.w) X.A (.compLoop (.ListComp elt [⟨tg,iter,ifs,0⟩] scope pos) 0 (.ref it) (.ref s.heap.objs.size) (compEnvC scope (jA X.env.cells scope.names []) C X.env))
  (RR (.ref s.heap.objs.size) C) { s with heap:=h₁,toks:=s.toks+([]:List (Str×Value)).length }:=by
  rintro C rfl
  exact start
 exact codeAny_compStart_list (startC _ hsz) (T.self X.A 0 _ _ _ (T.keep _ _ _ st λb _ o e=>hk b o (Heap.get?_push_of_some _ e)) (startC _ hsz))
end
section
variable {X:Cx} {scope:Scope} {k:Nat} {caps:List Nat} {N':List Str} {tg iter elt:Expr} {ifs:List Expr} {pos:Pos} {wi:TI} {g:TG} {tt:TT} {te:TE}
theorem xN(CS:dW X scope k caps N')(hc:X.calm=true)(hi:PI X tg iter wi)
 (hch:∀C s₀ H₀ ex,PG (eF X scope N' C s₀ H₀ ex) tg g/\PTs (eF X scope N' C s₀ H₀ ex) ifs tt/\PE (eF X scope N' C s₀ H₀ ex) elt te) (hs:∀x,foldedSetIterable iter X.env x=pure x) :
 PE X (.ListComp elt [⟨tg,iter,ifs,0⟩] scope pos) (aBr k caps wi g tt te):=by
 intro pins s σ H Q I h
 rw[eval_ListComp]
 refine wpAny_comprehension_free (use:=none) rfl hs (gX λn hn=>I.ok.has n (CS.free n hn)) CS.kind CS.loc (thn (hi pins s σ H _ I h) λxv s1 h1=>thn h1 λitv s2 h2=>?_)
 obtain⟨it,fp,tn,J,H2,e,I2,T,st2,f2,hw⟩:=h2
 subst e
 exact tJ (RR:=λacc C=>compPost (model X.prog X.w) X.A X.xe none (EP X pins σ Q) acc C) (Q:=Q) CS hc I2 T st2 f2 hch hw λD C s' H' m J hn _ hall q=>⟨m,hn,λh' hs'=>⟨.ref D,H',hall σ s' h' J hs',rfl,q⟩⟩
theorem vU{i:Nat}{x:Str}{pos' spos:Pos}(CS:dW X scope k caps N')(hc:X.calm=true)(hi:PI X tg iter wi)
 (hch:∀C s₀ H₀ ex,PG (eF X scope N' C s₀ H₀ ex) tg g/\PTs (eF X scope N' C s₀ H₀ ex) ifs tt/\PE (eF X scope N' C s₀ H₀ ex) elt te) (hs:∀x,foldedSetIterable iter X.env x=pure x)
 (hN:X.N.Nodup) (hx':X.N[i]? = some x) (hx:Loc X.env.scope x) (hf:X.fn x=true\/X.env.scope.names.lookup x=some .local) :
 PS X (.Assign [.Name x pos'] (.ListComp elt [⟨tg,iter,ifs,0⟩] scope pos) spos) (aFe (aBr k caps wi g tt te) (pF i)):=by
 have hb:∃b,swapsWith (.ListComp elt [⟨tg,iter,ifs,0⟩] scope pos) (some (.Name x pos')) spos.line X.env=pure b:=⟨_,rfl⟩
 obtain⟨b,hb⟩:=hb
 cases b with
 | false=>exact mM hN hx' hx (xN CS hc hi hch hs) hb hf
 | true=>
  intro pins s σ H D I h
  rw[exec_Assign_Name_used x pos' _ spos hb]
  refine wpAny_bind (wpAny_standAt (wpAny_bind ?_))
  show wpAny _ _ (comprehension (.ListComp elt [⟨tg,iter,ifs,0⟩] scope pos) scope X.env (firstIterPos [⟨tg,iter,ifs,0⟩] pos) (newList []) (firstAsync [⟨tg,iter,ifs,0⟩]) (firstIter [⟨tg,iter,ifs,0⟩] X.env) (some (assign (.Name x pos') X.env)) >>= λ_=>pure ()) _ _ s
  refine wpAny_bind (wpAny_comprehension_free (use:=some (assign (.Name x pos') X.env)) rfl hs (gX λn hn=>I.ok.has n (CS.free n hn)) CS.kind CS.loc (thn (hi pins s σ H _ I h) λxv s1 h1=>thn h1 λitv s2 h2=>?_))
  obtain⟨it,fp,tn,J,H2,e,I2,T,st2,f2,hw⟩:=h2
  subst e
  refine tJ (Q:=λv H'=>D.nx (σ.set i (some v)) H') (RR:=λacc C=>compPost (model X.prog X.w) X.A X.xe (some (assign (.Name x pos') X.env)) (λ_ s'=>wpAny (model X.prog X.w) X.A (pure ()) (λ_ s'=>wpAny (model X.prog X.w) X.A (pure Flow.next) (SP X pins D) X.xe s') X.xe s') acc C) CS hc I2 T st2 f2 hch hw λD' C s' H' m J hn lt hall q=>?_
  show wpAny _ _ (assign (.Name x pos') X.env (.ref D')) _ _ s'
  refine wpAny_assign_Name (pE (v:=V.ref D') J hN hx' hx rfl (λs'' J' hsb=>?_) hf)
  obtain⟨a,sb,ha⟩:=hsb
  refine⟨m,hn.sameBut sb ?_,λh' hs'=>?_⟩
  . rcases ha with z|z
    . rw[z];exact Nat.ne_of_gt (Nat.lt_trans I2.lt lt)
    . exact Nat.ne_of_gt (Nat.lt_trans (I2.cellLt z) lt)
  . exact wpAny_pure (wpAny_pure ⟨_,H',hall _ s'' h' J' hs',q⟩)
end
end L2
end
noncomputable section
namespace Hp
open PySem PySem.Spec PyProof.Rows L2
def Rr(K:Fg)(H H':Hp)(Y:Addr->Prop)(r:Rt)(u:V):Prop:=
 if r.2.1=true then ∃a xs ds,u=.ref a/\r.1=.lst ds/\H a=none/\H' a=some (.lst xs)/\Reps K H' (λb=>b=a\/Y b\/(r.2.2=false/\H b≠none)) ds xs
 else Rep K H' (λb=>Y b\/(r.2.2=false/\H b≠none)) r.1 u
def spF(K:Fg)(P:Pg)(n:Nat)(f:Nat):Sp:=λvs H Q _=>∃(ds:List D) (Y:Addr->Prop),(∀a,Y a->H a≠none)/\Reps K H Y ds vs/\RE (call P n f ds) λr=>∀u H',Tk K H'->bG H H'->Rr K H H' Y r u->Q u H'
def bltNames:List Str:=["len", "list", "tuple", "min", "max", "abs", "int", "str", "sum", "all", "any", "sorted", "bool", "range", "zip", "enumerate", "reversed", "set", "isinstance", "dict", "repr"]
structure Md (X:Cx) (P:Pg) (Γ:Ct) (n:Nat):Prop where
 fn:∀(f:Nat) (x:Str),Γ.fns[f]? = some x->∃fa fd ps,X.mg x=some (.ref fa)/\PySem.W.keepIn X.K (.ref fa)=true/\jC X.K fd ps []/\lX X.prog X.w X.K X.mg X.base CX0 n fa fd ps (spF X.K P n f)
 blt:∀x∈bltNames,X.mg x=none
 cns:∀(x:Str) (d:D),Γ.cns.lookup x=some d->∃u v,X.mg x=some u/\cI v u/\∀H ex,Rep X.K H ex d v
 tab:∀(i:Nat) (x:Str),Γ.tbs[i]? = some x->∃a t,X.mg x=some (.ref a)/\P.tabs[i]? = some t/\aBm X.prog X.w X.K a t
structure Mc (X:Cx) (P:Pg) (Γ:Ct) (n:Nat):Prop where
 md:Md X P Γ n
 N:X.N=Γ.N
 nd:X.N.Nodup
 sc:X.env.scope.names=Γ.sc
 calm:X.calm=true
 room:jH n X.A
 xe:X.xe=λ_ _=>False
 st:∀x:Str,tB Γ x=true->X.fn x=true\/X.env.scope.names.lookup x=some .local
 fk:X.env.scope.kind=.function
section
variable {X:Cx} {P:Pg} {Γ:Ct} {n:Nat}
theorem Mc.units(M:Mc X P Γ n):X.A.units+200<cLine:=by have:=M.room.un;omega
theorem Mc.vis(M:Mc X P Γ n){x:Str}(h:aBf Γ x=true):Vis X.env.scope x:=by
 unfold aBf at h
 unfold Vis
 rw[M.sc]
 cases q:Γ.sc.lookup x with
 | none=>rw[q] at h;cases h
 | some k=>rw[q] at h;cases k <;> first|exact .inl rfl|exact .inr (.inl rfl)|exact .inr (.inr rfl)|cases h
theorem Mc.loc(M:Mc X P Γ n){x:Str}(h:tB Γ x=true):L2.Loc X.env.scope x:=by
 unfold tB at h
 unfold L2.Loc
 rw[M.sc]
 cases q:Γ.sc.lookup x with
 | none=>rw[q] at h;cases h
 | some k=>rw[q] at h;cases k <;> first|exact .inl rfl|exact .inr rfl|cases h
theorem Mc.gl(M:Mc X P Γ n){x:Str}(h:eR Γ x=true):Gl X x:=by
 unfold eR at h
 unfold Gl
 show X.env.scope.names.lookup x=_
 rw[M.sc]
 cases q:Γ.sc.lookup x with
 | none=>rw[q] at h;cases h
 | some k=>rw[q] at h;cases k <;> first|rfl|cases h
theorem bP{x:Str}(h:dC x=true):(x==("__debug__" : Str))=false:=by
 unfold dC at h
 simp only[bA,Bool.not_eq_true'] at h
 exact h.1
theorem fH{x:Str}(h:dC x=true):(x==("__classdict__" : Str))=false:=by
 unfold dC at h
 simp only[bA,Bool.not_eq_true'] at h
 exact h.2
theorem aFL:∀{d d':D},eqK d d'=true->d=d':=by
 intro d d' h
 cases d <;> cases d' <;> simp[eqK] at h <;> first|rfl|(subst h;rfl)
def bS:Expr->Bool
 | .Starred _ _=>false
 | .Slice _ _ _ _=>false
 | .Set _ _ _=>false
 | _=>true
theorem aBt{α:Type}{o:Option α}{f:α->Bool}(h:oB o f=true):∃a,o=some a/\f a=true:=by
 cases o with
 | none=>cases h
 | some a=>exact⟨a,rfl,h⟩
theorem aJ{α:Type}{q:α->Prop}{o:Option { a:α // q a }}{f:α->Bool}(h:oS o f=true):∃a,q a/\f a=true:=by
 cases o with
 | none=>cases h
 | some a=>exact⟨a.1,a.2,h⟩
theorem bD{c:E}{e:Expr}(h:bL Γ c e=true):bS e=true:=by
 cases c with
 | c d=>
  rcases(Bool.or_eq_true _ _).mp (show(oS (asC e) (eqC d)||oS (asN e) λx=>eR Γ x&&dC x&&oB (Γ.cns.lookup x) (eqK d))=true from h) with h|h
  . obtain⟨_,⟨_,_,rfl⟩,_⟩:=aJ h;rfl
  . obtain⟨_,⟨_,rfl⟩,_⟩:=aJ h;rfl
 | v i=>obtain⟨_,⟨_,rfl⟩,_⟩:=aJ h;rfl
 | op o a b=>obtain⟨_,⟨_,rfl⟩,_⟩:=aJ h;rfl
 | neg _=>cases h
 | nt a=>obtain⟨_,⟨_,rfl⟩,_⟩:=aJ h;rfl
 | an a b=>obtain⟨_,rfl,_⟩:=aJ h;rfl
 | orr a b=>obtain⟨_,rfl,_⟩:=aJ h;rfl
 | ife t a b=>obtain⟨_,⟨_,rfl⟩,_⟩:=aJ h;rfl
 | cmp o a b=>obtain⟨_,⟨_,rfl⟩,_⟩:=aJ h;rfl
 | dnin a j=>obtain⟨_,⟨_,rfl⟩,_⟩:=aJ h;rfl
 | dget _ _=>cases h
 | dlen _=>cases h
 | cmp2 o1 o2 a b c=>obtain⟨_,⟨_,rfl⟩,_⟩:=aJ h;rfl
 | idx a b=>obtain⟨_,⟨_,rfl⟩,_⟩:=aJ h;rfl
 | sli a lo hi=>obtain⟨_,⟨_,rfl⟩,_⟩:=aJ h;rfl
 | tup es=>obtain⟨_,⟨_,_,rfl⟩,_⟩:=aJ h;rfl
 | lst es=>obtain⟨_,⟨_,rfl⟩,_⟩:=aJ h;rfl
 | call f es=>obtain⟨_,⟨_,_,rfl⟩,_⟩:=aJ h;rfl
 | callP f i es=>obtain⟨_,⟨_,_,rfl⟩,_⟩:=aJ h;rfl
 | bi b es=>obtain⟨_,⟨_,_,rfl⟩,_⟩:=aJ h;rfl
 | mth m o es=>obtain⟨_,⟨_,_,rfl,_⟩,_⟩:=aJ h;rfl
 | isi a cs=>obtain⟨_,⟨_,_,rfl⟩,_⟩:=aJ h;rfl
 | comp k caps t it cond elt=>obtain⟨_,⟨_,rfl⟩,_⟩:=aJ h;rfl
 | numset _=>cases h
 | tget _ _=>cases h
 | lzip _ _=>cases h
 | dic ks vs=>cases h
 | attr _ _=>cases h
theorem aG{e:Expr}{es:List Expr}{env:Env}(h:bS e=true):starEach (e::es) env=(false,eval e env)::starEach es env:=by
 cases e <;> first|rfl|cases h
theorem eX:∀{cs:Es} {es:List Expr},chkEs Γ cs es=true->es.all bS=true
 | .nil,[],_=>rfl
 | .nil,_::_,h=>by cases h
 | .cons _ _,[],h=>by cases h
 | .cons c cs,e::es,h=>by
  simp only[chkEs,bA] at h
  rw[List.all_cons,bD h.1,eX h.2]
  rfl
theorem dR{pos:Pos}{env:Env}:∀{es:List Expr},es.all bS=true->(backTo pos (starEach es env)).any (·.1)=false
 | [],_=>rfl
 | e::es,h=>by
  rw[List.all_cons,bA] at h
  rw[aG h.1]
  show(false||(backTo pos (starEach es env)).any (·.1))=false
  rw[dR h.2]
  rfl
theorem jL{e:Expr}(h:bS e=true):xG e:=by
 intro o i
 cases e <;> first|rfl|cases h
theorem lB{e:Expr}{env:Env}(h:bS e=true):∀x,foldedSetIterable e env x=pure x:=by
 intro x
 cases e <;> first|rfl|cases h
theorem iB{op:CmpOp}{e:Expr}(h:bS e=true):behindInMarks op e=false:=by
 cases e <;> first|rfl|cases h
variable {RT Y old:Addr->Prop} {σ:Sg} {pos:Pos}
abbrev WE(X:Cx)(P:Pg)(n:Nat)(RT Y old:Addr->Prop)(σ:Sg)(c:E):TE:=wE X P (call P n) RT Y old σ c
abbrev WT(X:Cx)(P:Pg)(n:Nat)(RT Y old:Addr->Prop)(σ:Sg)(c:E):TT:=wT X P (call P n) RT Y old σ c
abbrev WA(X:Cx)(P:Pg)(n:Nat)(RT Y old:Addr->Prop)(σ:Sg)(c:Es):TA:=wA X P (call P n) RT Y old σ c
theorem RE.bind'{α β:Type}{x:R α}{f:α->R β}{p:β->Prop}(h:RE (x >>= f) p):RE x λa=>RE (f a) p:=by rwa [RE.bind] at h
theorem wE.one{a:E}{σV:L2.St}{H:Hp}{p:Vl->Prop}{Q:V->Hp->Prop}(S:Sx X.K RT Y old σ σV H)(h:RE (ev P (call P n) σ a) p)
 (f:∀x u H',p x->Tk X.K H'->Sx X.K RT Y old σ σV H'->Ro X.K RT Y old σ σV H H' x u->Q u H'):WE X P n RT Y old σ a σV H Q:=
 ⟨S,h.mono λx hx u H' t r=>f x u H' hx t (S.grow r.1 t) r⟩
theorem aKE{o:Operator}{a b:E}{ea eb:Expr}(ha:PE X ea (WE X P n RT Y old σ a))(hb:PE X eb (WE X P n RT Y old σ b)):PE X (.BinOp ea o eb pos) (WE X P n RT Y old σ (.op o a b)):=by
 intro pins s σV H Q I hw
 obtain⟨S,h⟩:=hw
 have h:=RE.bind' (show RE (ev P (call P n) σ a >>= λx=>ev P (call P n) σ b >>= λy=>opD o x y) _ from h)
 refine wpAny_BinOp (thn (ha pins s σV H (λux H1=>WE X P n RT Y old σ b σV H1 λuy H2=>∃x y,Sx X.K RT Y old σ σV H2/\bG H H2/\Rv X.K RT Y old σ σV H2 x ux/\Rv X.K RT Y old σ σV H2 y uy/\(x.fr=true->∃a xs,ux=.ref a/\H2 a=some (.lst xs))/\RE (opD o x y) (Wn X RT Y old σ σV H Q)) I
  (wE.one S h λx u H1 hx t1 S1 r1=>wE.one S1 (RE.bind' hx) λy u' H2 hy t2 S2 r2=>⟨x,y,S2,r1.1.trans r2.1,(r1.rv S).grow r2.1,r2.rv S1,λhf=>?_,hy⟩)) λv s1 ⟨x',H1,I1,rx,q1⟩=>thn (hb pins s1 σV H1 _ I1 q1) λu s2 ⟨y',H2,I2,ry,q2⟩=>?_)
 . have:=r1.2
   rw[if_pos hf] at this
   obtain⟨a',xs,ds,e1,_,_,e4,_⟩:=this
   exact⟨a',xs,e1,r2.1 _ _ e4⟩
 . obtain⟨x,y,S2,sm,hx,hy,hf,h⟩:=q2
   exact aBo I2 S2 rx ry hx hy hf (h.mono λv hv u H' t r=>hv u H' t (r.from sm))
theorem aBu{H:Hp}{σV:L2.St}{x:Vl}{u:V}{k:Bool}(hx:Rv X.K RT Y old σ σV H x u)(h:zK x.d=some k):aDc X.K u H k:=by
 unfold zK at h
 split at h
 . rename_i d;rw[hx.non d];exact(Option.some.inj h).symm
 . rename_i b d;rw[hx.bl d];exact(Option.some.inj h).symm
 . rename_i i d;rw[hx.int d];exact(Option.some.inj h).symm
 . rename_i z d
   by_cases hl:z.length<=lim
   . rw[if_pos hl] at h
     rw[hx.str d]
     refine⟨fA hl,?_⟩
     rw[<-Option.some.inj h]
     cases hz:z.length with
     | zero=>rfl
     | succ m=>simp;omega
   . rw[if_neg hl] at h;cases h
 . rename_i ds d
   obtain⟨a,xs,e,q,r⟩:=hx.tup d
   rw[e]
   refine .inr (.inl ⟨xs,q,?_⟩)
   rw[<-Option.some.inj h]
   have:=r.length
   cases ds <;> cases xs <;> first|rfl|(simp at this)
 . rename_i ds d
   obtain⟨a,xs,e,q,_,r⟩:=hx.lst d
   rw[e]
   refine .inl ⟨xs,q,?_⟩
   rw[<-Option.some.inj h]
   have:=r.length
   cases ds <;> cases xs <;> first|rfl|(simp at this)
 . cases h
theorem RE.tru{x:Vl}{p:Bool->Prop}(h:RE (eV x) p):∃k,zK x.d=some k/\p k:=by
 unfold eV at h
 cases q:zK x.d with
 | none=>rw[q] at h;exact h.elim
 | some k=>rw[q] at h;exact⟨k,rfl,h⟩
theorem aHY{a:E}{ea:Expr}(ha:PE X ea (WE X P n RT Y old σ a)):PE X (.UnaryOp .Not ea pos) (WE X P n RT Y old σ (.nt a)):=by
 intro pins s σV H Q I hw
 obtain⟨S,h⟩:=hw
 have h:=RE.bind' (show RE (ev P (call P n) σ a >>= λx=>eV x >>= λk=>R.ok (Vl.cl (.bl (!k)))) _ from h)
 refine UnaryOp_ (thn (ha pins s σV H (λu H1=>∃k,aDc X.K u H1 k/\Q (.bl (!k)) H1) I (wE.one S h λx u H1 hx t1 S1 r1=>?_)) λv s1 ⟨u,H1,I1,ru,k,hk,q⟩=>?_)
 . obtain⟨k,hk,hp⟩:=RE.tru (RE.bind' hx)
   exact⟨k,aBu (r1.rv S) hk,(show Wn X RT Y old σ σV H Q (Vl.cl (.bl (!k))) from hp) _ _ t1 (Ro.cl r1.1 rfl)⟩
 . refine not_of (thn (aAI pins s1 σV H1 u v (λk' H'=>k'=k/\H'=H1) I1 ru ⟨k,hk,rfl,rfl⟩) λb s2 ⟨H2,I2,e1,e2⟩=>?_)
   subst e1 e2
   exact⟨.bl (!b),H2,I2,rfl,q⟩
theorem lT{c:E}{e:Expr}(ha:PE X e (WE X P n RT Y old σ c))(he:∀whole,isTrue e X.env whole=(do let v<-whole;standAt e.pos;holding [v] (truthy v)))
 (hc:∀p,RE (tst P (call P n) σ c) p->RE (ev P (call P n) σ c) λx=>RE (eV x) p):PT X e (WT X P n RT Y old σ c):=by
 refine(aAJ ha he).imp λσV H Q t ⟨S,h⟩=>?_
 refine wE.one S (hc _ h) λx u H1 hx t1 S1 r1=>?_
 obtain⟨k,hk,hp⟩:=RE.tru hx
 exact⟨k,aBu (r1.rv S) hk,λt'=>hp _ t' r1.1⟩
theorem aHZ{a b:E}{ea eb:Expr}{r:List Expr}(ha:PE X ea (WE X P n RT Y old σ a))(hb:PE X (.BoolOp .And (eb::r) pos) (WE X P n RT Y old σ b)):PE X (.BoolOp .And (ea::eb::r) pos) (WE X P n RT Y old σ (.an a b)):=by
 refine(aEY ha hb).imp λσV H Q t ⟨S,h⟩=>?_
 have h:=RE.bind' (show RE (ev P (call P n) σ a >>= λx=>(match x.d with|.bl true=>ev P (call P n) σ b|.bl false=>R.ok (Vl.cl (.bl false))|_=>.bad)) _ from h)
 refine wE.one S h λx u H1 hx t1 S1 r1=>?_
 split at hx
 . rename_i d1
   refine⟨true,(r1.rv S).bl d1,?_⟩
   rw[if_pos rfl]
   exact⟨S1,hx.mono λv hv u H' t r=>λ_=>hv u H' t (r.from r1.1)⟩
 . rename_i d1
   refine⟨false,(r1.rv S).bl d1,?_⟩
   rw[if_neg bN]
   exact λt'=>hx _ _ t' (Ro.cl r1.1 rfl)
 . exact hx.elim
theorem aED{a b:E}{ea eb:Expr}{r:List Expr}(ha:PE X ea (WE X P n RT Y old σ a))(hb:PE X (.BoolOp .Or (eb::r) pos) (WE X P n RT Y old σ b)):PE X (.BoolOp .Or (ea::eb::r) pos) (WE X P n RT Y old σ (.orr a b)):=by
 refine(aHk ha hb).imp λσV H Q t ⟨S,h⟩=>?_
 have h:=RE.bind' (show RE (ev P (call P n) σ a >>= λx=>(match x.d with|.bl true=>R.ok (Vl.cl (.bl true))|.bl false=>ev P (call P n) σ b|_=>.bad)) _ from h)
 refine wE.one S h λx u H1 hx t1 S1 r1=>?_
 split at hx
 . rename_i d1
   refine⟨true,(r1.rv S).bl d1,?_⟩
   rw[if_pos rfl]
   exact λt'=>hx _ _ t' (Ro.cl r1.1 rfl)
 . rename_i d1
   refine⟨false,(r1.rv S).bl d1,?_⟩
   rw[if_neg bN]
   exact⟨S1,hx.mono λv hv u H' t r=>λ_=>hv u H' t (r.from r1.1)⟩
 . exact hx.elim
theorem aIa{t a b:E}{et ea eb:Expr}(ht:PT X et (WT X P n RT Y old σ t))(ha:PE X ea (WE X P n RT Y old σ a))(hb:PE X eb (WE X P n RT Y old σ b)):PE X (.IfExp et ea eb pos) (WE X P n RT Y old σ (.ife t a b)):=by
 refine(aAx ht ha hb).imp λσV H Q t0 ⟨S,h⟩=>?_
 have h:=RE.bind' (show RE (tst P (call P n) σ t >>= λx=>if x=true then ev P (call P n) σ a else ev P (call P n) σ b) _ from h)
 refine⟨S,h.mono λk hk H1 t1 s1=>?_⟩
 cases k with
 | true=>rw[if_pos rfl] at hk ⊢;exact⟨S.grow s1 t1,hk.mono λv hv u H' t r=>λ_=>hv u H' t (r.from s1)⟩
 | false=>rw[if_neg bN] at hk ⊢;exact⟨S.grow s1 t1,hk.mono λv hv u H' t r=>λ_=>hv u H' t (r.from s1)⟩
def w2(X:Cx)(P:Pg)(n:Nat)(RT Y old:Addr->Prop)(σ:Sg)(σV:L2.St)(H:Hp)(p:Vl->Vl->Prop)(ux uy:V)(H2:Hp):Prop:=
 ∃x y,Sx X.K RT Y old σ σV H2/\bG H H2/\Rv X.K RT Y old σ σV H2 x ux/\Rv X.K RT Y old σ σV H2 y uy/\p x y
theorem iN(M:Mc X P Γ n)(o:CmpOp):OpR X (compareOp o) (λux uy H Q=>∃(σ:Sg) (σV:L2.St) (x y:Vl) (k:Bool),Rv X.K RT Y old σ σV H x ux/\Rv X.K RT Y old σ σV H y uy/\dM o x.d y.d=some k/\Q (.bl k) H):=by
 intro pins s σV H ux uy v u Q I rx ry h
 obtain⟨σ',σV',x,y,k,hx,hy,hk,q⟩:=h
 exact zQ I M.units rx ry hx hy hk q
theorem aIb(M:Mc X P Γ n){o:CmpOp}{a b:E}{ea eb:Expr}(ha:PE X ea (WE X P n RT Y old σ a))(hb:PE X eb (WE X P n RT Y old σ b))(hp:bS eb=true):PE X (.Compare ea [o] [eb] pos) (WE X P n RT Y old σ (.cmp o a b)):=by
 refine(xB (iN (RT:=RT) (Y:=Y) (old:=old) M o) ha hb (iB hp)).imp λσV H Q t ⟨S,h⟩=>?_
 have h:=RE.bind' (show RE (ev P (call P n) σ a >>= λx=>ev P (call P n) σ b >>= λy=>(match dM o x.d y.d with|some k=>R.ok (Vl.cl (.bl k))|none=>.bad)) _ from h)
 refine wE.two S (h.mono λx hx=>RE.bind' hx) λx y ux uy H2 hp t2 s2 S2 hx hy=>?_
 split at hp
 . rename_i k hk
   exact⟨σ,σV,x,y,k,hx,hy,hk,λt'=>hp _ _ t' (Ro.cl s2 rfl)⟩
 . exact hp.elim
theorem aIc(M:Mc X P Γ n){o:CmpOp}{a b:E}{ea eb:Expr}(ha:PE X ea (WE X P n RT Y old σ a))(hb:PE X eb (WE X P n RT Y old σ b))(hp:bS eb=true):PT X (.Compare ea [o] [eb] pos) (WT X P n RT Y old σ (.cmp o a b)):=by
 refine(xC (iN (RT:=RT) (Y:=Y) (old:=old) M o) ha hb (iB hp)).imp λσV H Q t ⟨S,h⟩=>?_
 have h:=RE.bind' (show RE (ev P (call P n) σ a >>= λx=>ev P (call P n) σ b >>= λy=>(match dM o x.d y.d with|some k=>R.ok k|none=>.bad)) _ from h)
 refine wE.two S (h.mono λx hx=>RE.bind' hx) λx y ux uy H2 hp t2 s2 S2 hx hy=>?_
 split at hp
 . rename_i k hk
   exact⟨σ,σV,x,y,k,hx,hy,hk,k,rfl,λt'=>hp _ t' s2⟩
 . exact hp.elim
theorem nE{K:Fg}{H:Hp}{ex:Addr->Prop}:∀{ds:List D} {ns:List Int} {xs:List V},kY ds=some ns->Reps K H ex ds xs->xs=ns.map V.int
 | [],ns,xs,h,r=>by cases h;exact r
 | d::ds,ns,xs,h,r=>by
  obtain⟨x,r',e,h1,h2⟩:=r
  subst e
  cases d with
  | int i=>
   unfold kY at h
   split at h
   . rename_i ms q
     cases h
     rw[show x=.int i from h1,nE q h2]
     rfl
   . cases h
  | _=>cases h
theorem nF{K:Fg}{H:Hp}{ex:Addr->Prop}:∀{ds:List D} {k:NK} {xs:List V},pM ds=some k->Reps K H ex ds xs->∃bs:List Addr,xs=bs.map V.ref/\Paired (λis c=>SqT K H c (is.map V.int)) k bs
 | [],k,xs,h,r=>by cases h;exact⟨[],r,.nil⟩
 | d::ds,k,xs,h,r=>by
  obtain⟨x,r',e,h1,h2⟩:=r
  subst e
  cases d with
  | tup as=>
   unfold pM at h
   split at h
   . rename_i a q e1 e2
     cases h
     obtain⟨bs,rfl,p⟩:=nF e2 h2
     obtain⟨c,ys,rfl,q1,q2⟩:=h1
     rw[nE e1 q2] at q1
     exact⟨c::bs,rfl,.cons q1 p⟩
   . cases h
  | _=>cases h
theorem aBv{K:Fg}{H:Hp}{ex:Addr->Prop}{d:D}{k:NK}{u:V}(h:kZ d=some k)(r:Rep K H ex d u):∃b,u=.ref b/\dN K H k b:=by
 cases d with
 | tup ds=>
  obtain⟨b,xs,rfl,q,r⟩:=r
  obtain⟨bs,rfl,p⟩:=nF (show pM ds=some k from h) r
  exact⟨b,rfl,bs,q,p⟩
 | _=>cases h
theorem aDA{xs:List NE}{ks:List (NK×D)}(h:xs.map pj=ks.map kV):xs.map (·.1)=ks.map (·.1):=by
 have:=congrArg (List.map (·.1)) h
 rw[List.map_map,List.map_map] at this
 exact this
theorem xO{a:E}{j:Nat}{σV:L2.St}{H:Hp}{α:Type}{mk:Bool->α}{p:α->Prop}{Q:V->Hp->Prop}(S:Sx X.K RT Y old σ σV H)(h:RE (ev P (call P n) σ a >>= λx=>(match σ[j]?,kZ x.d with|some (.dct ks),some k=>R.ok (mk (!decide (k∈ks.map (·.1))))|_,_=>.bad)) p)
 (f:∀b H',Tk X.K H'->bG H H'->p (mk b)->Q (.bl b) H'):tOp (λux uy H Q=>∃a b xs k,ux=.ref b/\uy=.ref a/\H a=some (dX a xs)/\(∀x∈xs,dN X.K H x.1 x.2.1)/\dN X.K H k b/\Q (.bl (!decide (k∈xs.map (·.1)))) H) (WE X P n RT Y old σ a) (aCS j) σV H Q:=by
 refine wE.one S (RE.bind' h) λx u H1 hx t1 S1 r1=>?_
 split at hx
 . rename_i ks k e1 e2
   obtain⟨b,rfl,hk⟩:=aBv e2 (r1.rv S)
   obtain⟨ad,xs,g1,g2,g3,g4,g5,g6⟩:=S1.dx.at' j ks e1
   refine⟨.ref ad,g1,ad,b,xs,k,rfl,rfl,g2,g6,hk,?_⟩
   rw[aDA g5]
   exact f _ H1 t1 r1.1 hx
 . exact hx.elim
theorem aFM(M:Mc X P Γ n){a:E}{j:Nat}{ea:Expr}{x:Str}{p:Pos}(hx:cB Γ j x=true)(ha:PE X ea (WE X P n RT Y old σ a)):PE X (.Compare ea [.NotIn] [.Name x p] pos) (WE X P n RT Y old σ (.dnin a j)):=by
 unfold cB at hx
 simp only[bA] at hx
 obtain⟨⟨h1,h2⟩,h3⟩:=hx
 exact(xB (aEu (by have:=M.units;omega)) ha (kP (by rw[M.N];exact eq_of_beq h1) (M.vis h2) (bP h3) (fH h3)) (iB rfl)).imp λσV H Q t ⟨S,h⟩=>xO (mk:=λb=>Vl.cl (.bl b)) S h λb H' t s w=>λt'=>w _ _ t' (Ro.cl s rfl)
theorem aFN(M:Mc X P Γ n){a:E}{j:Nat}{ea:Expr}{x:Str}{p:Pos}(hx:cB Γ j x=true)(ha:PE X ea (WE X P n RT Y old σ a)):PT X (.Compare ea [.NotIn] [.Name x p] pos) (WT X P n RT Y old σ (.dnin a j)):=by
 unfold cB at hx
 simp only[bA] at hx
 obtain⟨⟨h1,h2⟩,h3⟩:=hx
 exact(xC (aEu (by have:=M.units;omega)) ha (kP (by rw[M.N];exact eq_of_beq h1) (M.vis h2) (bP h3) (fH h3)) (iB rfl)).imp λσV H Q t ⟨S,h⟩=>xO (mk:=λb=>b) S h λb H' t s w=>⟨b,rfl,λt'=>w _ t' s⟩
theorem aId{a b:E}{ea eb:Expr}(ha:PE X ea (WE X P n RT Y old σ a))(hb:PE X eb (WE X P n RT Y old σ b))(hp:bS eb=true):PE X (.Subscript ea eb pos) (WE X P n RT Y old σ (.idx a b)):=by
 refine(aAQ aFt ha hb (jL hp)).imp λσV H Q t ⟨S,h⟩=>?_
 have h:=RE.bind' (show RE (ev P (call P n) σ a >>= λx=>ev P (call P n) σ b >>= λy=>bV x y) _ from h)
 refine wE.two S (h.mono λx hx=>RE.bind' hx) λx y ux uy H2 hp t2 s2 S2 hx hy=>?_
 exact zR t2 hx hy (hp.mono λv hv u H' t r=>hv u H' t (r.from s2))
theorem tK:PA X [] (WA X P n RT Y old σ .nil):=mS.imp λσV H Q t ⟨S,h⟩ t'=>h [] H t' (bG.refl H) rfl
theorem jM{c:E}{cs:Es}{e:Expr}{es:List Expr}(ha:PE X e (WE X P n RT Y old σ c))(hr:PA X es (WA X P n RT Y old σ cs))(hp:bS e=true):PA X (e::es) (WA X P n RT Y old σ (.cons c cs)):=by
 refine(gL ha hr (aG hp)).imp λσV H Q t ⟨S,h⟩=>?_
 have h:=RE.bind' (show RE (ev P (call P n) σ c >>= λx=>evs P (call P n) σ cs >>= λxs=>R.ok (x::xs)) _ from h)
 refine wE.one S h λx u H1 hx t1 S1 r1=>⟨S1,(RE.bind' hx).mono λvs hv us H2 t2 s2 r2 t'=>?_⟩
 exact hv (u::us) H2 t' (r1.1.trans s2) ⟨u,us,rfl,(r1.rv S).grow s2,r2⟩
theorem rB:∀{cs:Es} {es:List Expr} {vs:List Vl},chkEs Γ cs es=true->evs P (call P n) σ cs=.ok vs->vs.length=es.length
 | .nil,[],vs,_,h=>by cases(show R.ok []=R.ok vs from h);rfl
 | .nil,_::_,_,h,_=>by cases h
 | .cons _ _,[],_,h,_=>by cases h
 | .cons c cs,e::es,vs,hc,h=>by
  simp only[chkEs,bA] at hc
  have h:(ev P (call P n) σ c >>= λx=>evs P (call P n) σ cs >>= λxs=>R.ok (x::xs))=R.ok vs:=h
  cases q1:ev P (call P n) σ c with
  | ok x=>
   cases q2:evs P (call P n) σ cs with
   | ok xs=>
    rw[q1] at h
    have h:(evs P (call P n) σ cs >>= λxs=>R.ok (x::xs))=R.ok vs:=h
    rw[q2] at h
    cases(show R.ok (x::xs)=R.ok vs from h)
    rw[lC,lC,rB hc.2 q2]
   | exc z=>rw[q1] at h;have h:(evs P (call P n) σ cs >>= λxs=>R.ok (x::xs))=R.ok vs:=h;rw[q2] at h;cases h
   | bad=>rw[q1] at h;have h:(evs P (call P n) σ cs >>= λxs=>R.ok (x::xs))=R.ok vs:=h;rw[q2] at h;cases h
  | exc z=>rw[q1] at h;cases h
  | bad=>rw[q1] at h;cases h
theorem RE.eq{α:Type}{x:R α}{p:α->Prop}(h:RE x p):∃a,x=.ok a/\p a:=by
 cases x with
 | ok a=>exact⟨a,rfl,h⟩
 | exc e=>exact h.elim
 | bad=>exact h.elim
theorem aIe{cs:Es}{es:List Expr}{k:Nat}(ha:PA X es (WA X P n RT Y old σ cs))(hc:chkEs Γ cs es=true)(hl:es.length<=1000):PE X (.Tuple es k pos) (WE X P n RT Y old σ (.tup cs)):=by
 refine(aFo ha).imp λσV H Q t ⟨S,h⟩=>?_
 have h:=RE.bind' (show RE (evs P (call P n) σ cs >>= λvs=>R.ok (jD vs)) _ from h)
 obtain⟨vs,e,hv⟩:=h.eq
 refine⟨S,?_⟩
 show RE (evs P (call P n) σ cs) _
 rw[e]
 intro us H1 t1 s1 r1
 have hn:us.length<=sizeLine:=by rw[<-r1.length,rB hc e,sizeLine_eq];omega
 exact⟨hn,λp hp t'=>(show Wn X RT Y old σ σV H Q (jD vs) from hv) _ _ t' ((Ro.tup hp rfl rfl r1.all).from s1)⟩
theorem aIf{cs:Es}{es:List Expr}(ha:PA X es (WA X P n RT Y old σ cs))(hc:chkEs Γ cs es=true)(hl:es.length<=1000):PE X (.List es pos) (WE X P n RT Y old σ (.lst cs)):=by
 refine(aAK ha).imp λσV H Q t ⟨S,h⟩=>?_
 have h:=RE.bind' (show RE (evs P (call P n) σ cs >>= λvs=>R.ok (jV vs)) _ from h)
 obtain⟨vs,e,hv⟩:=h.eq
 refine⟨S,?_⟩
 show RE (evs P (call P n) σ cs) _
 rw[e]
 intro us H1 t1 s1 r1
 have hn:us.length<=sizeLine:=by rw[<-r1.length,rB hc e,sizeLine_eq];omega
 exact⟨hn,λp hp t'=>(show Wn X RT Y old σ σV H Q (jV vs) from hv) _ _ t' ((Ro.fresh hp t' rfl rfl (S.grow s1 t1) r1.all).from s1)⟩
theorem aDB:∀b:Bi,aBg b=true->bootBuiltins (jJ b)=some (aEC b):=by
 intro b hb
 cases b <;> first|kernel_rfl|cases hb
theorem fL:∀b:Bi,jJ b∈bltNames:=by
 intro b
 cases b <;> decide +kernel
theorem gF:∀b:Bi,jJ b ≠ "__name__" := by
 intro b
 cases b <;> decide +kernel
theorem aKF(M:Mc X P Γ n){b:Bi}{cs:Es}{x:Str}{p:Pos}{e:Expr}{es:List Expr}(hb:aBg b=true)(hx:jJ b=x)(hg:eR Γ x=true)(ho:dC x=true)(ha:PA X (e::es) (WA X P n RT Y old σ cs))(hp:(e::es).all bS=true) :
 PE X (.Call (.Name x p) (e::es) [] pos) (WE X P n RT Y old σ (.bi b cs)):=by
 subst hx
 have hp':bS e=true/\es.all bS=true:=by simpa using hp
 have body:∀(f:PE X (.Call (.Name (jJ b) p) (e::es) [] pos) (tCB (rBi X b) (WA X P n RT Y old σ cs))),PE X (.Call (.Name (jJ b) p) (e::es) [] pos) (WE X P n RT Y old σ (.bi b cs)):=λf=>f.imp λσV H Q t ⟨S,h⟩=>by
  have h:=RE.bind' (show RE (evs P (call P n) σ cs >>= λvs=>biD b vs) _ from h)
  refine⟨S,h.mono λvs hv us H1 t1 s1 r1=>?_⟩
  exact aBq hb (S.grow s1 t1) r1 (hv.mono λv hv u H' t r=>hv u H' t (r.from s1))
 refine body ?_
 have r:=aDx M.calm M.room.gd M.units b hb
 have bo:=aDB b hb
 cases b with
 | len=>exact sM r (M.gl hg) (M.md.blt _ (fL _)) bo ha (gF _) (bP ho) (aG hp'.1) (dR hp'.2)
 | all=>exact sM r (M.gl hg) (M.md.blt _ (fL _)) bo ha (gF _) (bP ho) (aG hp'.1) (dR hp'.2)
 | list=>exact kQ r (M.gl hg) (M.md.blt _ (fL _)) bo ha (gF _) (bP ho) (aG hp'.1) (dR hp'.2)
 | tuple=>exact kQ r (M.gl hg) (M.md.blt _ (fL _)) bo ha (gF _) (bP ho) (aG hp'.1) (dR hp'.2)
 | int=>exact kQ r (M.gl hg) (M.md.blt _ (fL _)) bo ha (gF _) (bP ho) (aG hp'.1) (dR hp'.2)
 | _=>cases hb
theorem aDC{σV:L2.St}{H H1 H':Hp}{vs:List Vl}{r:Rt}{u:V}(S1:Sx X.K RT Y old σ σV H1)(s1:bG H H1)(s':bG H1 H')(h:Rr X.K H1 H' (λb=>H1 b≠none/\exV RT Y old σ σV (gD vs) (dO vs) b) r u) :
 Ro X.K RT Y old σ σV H H' (hG vs r) u:=by
 obtain⟨d,fr,pa⟩:=r
 have key:∀b,exV RT Y old σ σV (hG vs (d,fr,pa)).pa (hG vs (d,fr,pa)).al b->(H1 b≠none/\exV RT Y old σ σV (gD vs) (dO vs) b)\/(pa=false/\H1 b≠none):=by
  intro b z
  have tk:=exV.trk S1 z
  cases pa with
  | true=>exact .inl ⟨tk,z⟩
  | false=>exact .inr ⟨rfl,tk⟩
 have efr:(hG vs (d,fr,pa)).fr=fr:=by unfold hG;split <;> rfl
 have ed:(hG vs (d,fr,pa)).d=d:=by unfold hG;split <;> rfl
 refine⟨s1.trans s',?_⟩
 rw[efr]
 unfold Rr at h
 cases fr with
 | true=>
  rw[if_pos rfl] at h ⊢
  obtain⟨a,xs,ds,e1,e2,e3,e4,rr⟩:=h
  exact⟨a,xs,ds,e1,by rw[ed];exact e2,s1.free e3,e4,rr.weak λb z=>z.elim (λz=>.inl z) λz=>.inr (key b z)⟩
 | false=>
  rw[if_neg bN] at h ⊢
  unfold Rv
  rw[ed]
  exact Rep.weak h key
theorem aBw{f:Nat}{cs:Es}{σV:L2.St}{H:Hp}{Q:VK}(S:Sx X.K RT Y old σ σV H)(h:RE (ev P (call P n) σ (.call f cs)) (Wn X RT Y old σ σV H Q)) :
 WA X P n RT Y old σ cs σV H λus H1=>spF X.K P n f (us++[]) H1 (λv H'=>Tk X.K H'->Q v H') E0:=by
 have h:=RE.bind' (show RE (evs P (call P n) σ cs >>= λvs=>call P n f (vs.map (·.d)) >>= λr=>R.ok (hG vs r)) _ from h)
 refine⟨S,h.mono λvs hv us H1 t1 s1 r1=>?_⟩
 have S1:=S.grow s1 t1
 refine⟨vs.map (·.d),λb=>H1 b≠none/\exV RT Y old σ σV (gD vs) (dO vs) b,λa z=>z.1,by rw[List.append_nil];exact r1.all.weak λa z=>z.2,(RE.bind' hv).mono λr hr u H' t' s' rr _=>?_⟩
 exact(show Wn X RT Y old σ σV H Q (hG vs r) from hr) u H' t' (aDC S1 s1 s' rr)
theorem aFO(M:Mc X P Γ n){f:Nat}{cs:Es}{x:Str}{p:Pos}{es:List Expr}(hf:Γ.fns[f]? = some x)(hg:eR Γ x=true)(ho:dC x=true)(ha:PA X es (WA X P n RT Y old σ cs))(hp:es.all bS=true)(hc:chkEs Γ cs es=true) :
 PE X (.Call (.Name x p) es [] pos) (WE X P n RT Y old σ (.call f cs)):=by
 obtain⟨fa,fd,ps,h1,h2,h3,h4⟩:=M.md.fn f x hf
 cases es with
 | cons e es=>
  have hp':bS e=true/\es.all bS=true:=by simpa using hp
  exact(xD h4 M.room (M.gl hg) h1 h2 h3 .nil aAW ha (bP ho) (aG hp'.1) (dR hp'.2)).imp λσV H Q t ⟨S,h⟩=>aBw S h
 | nil=>
  cases cs with
  | cons _ _=>cases hc
  | nil=>
   refine(aAM h4 M.room (M.gl hg) h1 h2 h3 .nil aAW (bP ho)).imp λσV H Q t ⟨S,h⟩=>?_
   exact(aBw S h).2 [] H t (bG.refl H) rfl
theorem aDD(M:Mc X P Γ n){f i:Nat}{cs:Es}{x y:Str}{p q:Pos}{es:List Expr}(hf:Γ.fns[f]? = some x)(hg:eR Γ x=true)(ho:dC x=true)(hy:cB Γ i y=true)(ha:PA X es (WA X P n RT Y old σ cs))(hp:es.all bS=true) :
 PE X (.Call (.Name x p) (.Name y q::es) [] pos) (WE X P n RT Y old σ (.callP f i cs)):=by
 obtain⟨fa,fd,ps,h1,h2,h3,h4⟩:=M.md.fn f x hf
 unfold cB at hy
 simp only[bA] at hy
 obtain⟨⟨y1,y2⟩,y3⟩:=hy
 refine(xD h4 M.room (M.gl hg) h1 h2 h3 .nil aAW (gL (kP (by rw[M.N];exact eq_of_beq y1) (M.vis y2) (bP y3) (fH y3)) ha rfl) (bP ho) rfl (dR hp)).imp λσV H Q t ⟨S,h⟩=>?_
 have h:=RE.bind' (show RE (evs P (call P n) σ cs >>= λvs=>zM σ i >>= λd=>call P n f (d::vs.map (·.d)) >>= jI) _ from h)
 obtain⟨vs,ev1,h⟩:=h.eq
 obtain⟨d,ed,h⟩:=(RE.bind' h).eq
 unfold zM at ed
 split at ed
 . rename_i ds es' e1
   cases ed
   obtain⟨a,b,c,xs,ys,g1,⟨ha',hb,hc⟩,_,_,_,r1,r2⟩:=S.dx.at2 i ds es' e1
   refine⟨.ref a,g1,S,?_⟩
   rw[ev1]
   intro us H1 t1 s1 rr1
   refine⟨.lst [.lst ds,.lst es']::vs.map (·.d),λ_=>False,λ_ z=>z.elim,?_,(RE.bind' h).mono λr hr u H' t' s' rr _=>?_⟩
   . rw[List.append_nil]
     exact⟨.ref a,us,rfl,⟨a,[.ref b,.ref c],rfl,SqL.of (s1 _ _ ha'),λz=>z,.ref b,[.ref c],rfl,⟨b,xs,rfl,SqL.of (s1 _ _ hb),λz=>z,r1.grow s1⟩,.ref c,[],rfl,⟨c,ys,rfl,SqL.of (s1 _ _ hc),λz=>z,r2.grow s1⟩,rfl⟩,rr1.all.weak λ_ z=>z.elim⟩
   . obtain⟨hc,hw⟩:=RE.iff (show RE (R.iff (noL r.1&&!r.2.1) (.ok (Vl.cl r.1))) _ from hr)
     rw[bA] at hc
     obtain⟨n1,n2⟩:=hc
     have n2:r.2.1=false:=by simpa using n2
     unfold Rr at rr
     rw[if_neg (by rw[n2];decide)] at rr
     exact(show Wn X RT Y old σ σV H Q (.cl r.1) from hw) u H' t' (Ro.cl (s1.trans s') (Rep.free _ _ n1 rr))
 . cases ed
theorem zX{c:Cl}{cv:Value}{x:Str}(hc:tH c=some cv)(hx:vP Γ c=some x):bootBuiltins x=some cv/\x∈bltNames/\x ≠ "__name__" := by
 cases c <;> cases hc <;> cases hx <;> exact⟨by kernel_rfl,by decide +kernel,by decide +kernel⟩
theorem aIg(M:Mc X P Γ n){a:E}{c:Cl}{cv:Value}{f x:Str}{pf py:Pos}{ea:Expr}(hf:f=("isinstance" : Str))(hg:eR Γ f=true)(hc:tH c=some cv)(hx:vP Γ c=some x)(hgx:eR Γ x=true)(hox:dC x=true)
 (ha:PE X ea (WE X P n RT Y old σ a)) (hp:bS ea=true):PE X (.Call (.Name f pf) [ea,.Name x py] [] pos) (WE X P n RT Y old σ (.isi a [c])):=by
 subst hf
 intro pins s σV H Q I hw
 obtain⟨S,h⟩:=hw
 have h:=RE.bind' (show RE (ev P (call P n) σ a >>= λx=>(match isI [c] P x.d with|some k=>R.ok (Vl.cl (.bl k))|none=>.bad)) _ from h)
 obtain⟨b1,b2,b3⟩:=zX hc hx
 refine wpAny_Call_Name_kw (hU I (M.gl hg) (M.md.blt _ (by decide +kernel)) (show bootBuiltins "isinstance" = some (.builtin "isinstance") by kernel_rfl) ?_ (by decide +kernel) (by decide +kernel))
 refine PyProof.Rows.callWith_builtin1 ?_ (aG hp) rfl
 rw[aG hp]
 show wpAny _ _ (spliced ((false,eval ea X.env)::backTo pos (starEach [.Name x py] X.env))) _ _ s
 refine Calls.spliced_cons (thn (ha pins s σV H (λu H1=>∃y k,Rv X.K RT Y old σ σV H1 y u/\isI [c] P y.d=some k/\Q (.bl k) H1) I (wE.one S h λy u H1 hy t1 S1 r1=>?_)) λv s1 ⟨u,H1,I1,ru,y,k,hy,hk,q⟩=>?_)
 . split at hy
   . rename_i k hk
     exact⟨y,k,r1.rv S,hk,(show Wn X RT Y old σ σV H Q (Vl.cl (.bl k)) from hy) _ _ t1 (Ro.cl r1.1 rfl)⟩
   . exact hy.elim
 . show wpAny _ _ (spliced ((false,eval (.Name x py) X.env)::backTo pos (starEach [] X.env))) _ _ s1
   refine Calls.spliced_cons (hU I1 (M.gl hgx) (M.md.blt _ b2) b1 (Calls.spliced_nil ?_) b3 (bP hox))
   exact zW P I1 ru hy hc hk q
end
section
variable {X:Cx} {P:Pg} {n:Nat} {RT Y old:Addr->Prop} {σ:Sg} {pos:Pos}
end
section
variable {X:Cx} {P:Pg} {Γ:Ct} {n:Nat} {RT Y old:Addr->Prop} {σ:Sg} {pos:Pos}
theorem nG{o o':CmpOp}{eb ec:Expr}(hq:bS ec=true):lastMarks [o,o'] [eb,ec]=false:=iB hq
theorem aFP(M:Mc X P Γ n){o o':CmpOp}{a b c:E}{ea eb ec:Expr}(ha:PE X ea (WE X P n RT Y old σ a))(hb:PE X eb (WE X P n RT Y old σ b))(hc:PE X ec (WE X P n RT Y old σ c))(hq:bS ec=true) :
 PE X (.Compare ea [o,o'] [eb,ec] pos) (WE X P n RT Y old σ (.cmp2 o o' a b c)):=by
 refine(aAG (iN (RT:=RT) (Y:=Y) (old:=old) M o) (iN (RT:=RT) (Y:=Y) (old:=old) M o') ha hb hc (nG hq)).imp λσV H Q t ⟨S,h⟩=>?_
 have h:=RE.bind' (show RE (ev P (call P n) σ a >>= λx=>ev P (call P n) σ b >>= λy=>(match dM o x.d y.d with
  | some true=>ev P (call P n) σ c >>= λz=>(match dM o' y.d z.d with|some k=>R.ok (Vl.cl (.bl k))|none=>.bad)
  | some false=>R.ok (Vl.cl (.bl false))
  | none=>.bad)) _ from h)
 refine wE.two S (h.mono λx hx=>RE.bind' hx) λx y ux uy H2 hp t2 s2 S2 hx hy=>?_
 split at hp
 . rename_i hk
   refine⟨σ,σV,x,y,true,hx,hy,hk,true,rfl,?_⟩
   rw[if_pos rfl]
   refine wE.one S2 (RE.bind' hp) λz u H3 hz t3 S3 r3=>?_
   split at hz
   . rename_i k' hk'
     exact⟨σ,σV,y,z,k',hy.grow r3.1,r3.rv S2,hk',λt'=>hz _ _ t' (Ro.cl (s2.trans r3.1) rfl)⟩
   . exact hz.elim
 . rename_i hk
   refine⟨σ,σV,x,y,false,hx,hy,hk,false,rfl,?_⟩
   rw[if_neg bN]
   exact λt'=>hp _ _ t' (Ro.cl s2 rfl)
 . exact hp.elim
theorem aFQ(M:Mc X P Γ n){o o':CmpOp}{a b c:E}{ea eb ec:Expr}(ha:PE X ea (WE X P n RT Y old σ a))(hb:PE X eb (WE X P n RT Y old σ b))(hc:PE X ec (WE X P n RT Y old σ c))(hq:bS ec=true) :
 PT X (.Compare ea [o,o'] [eb,ec] pos) (WT X P n RT Y old σ (.cmp2 o o' a b c)):=by
 refine(aAH (iN (RT:=RT) (Y:=Y) (old:=old) M o) (iN (RT:=RT) (Y:=Y) (old:=old) M o') ha hb hc (nG hq)).imp λσV H Q t ⟨S,h⟩=>?_
 have h:=RE.bind' (show RE (ev P (call P n) σ a >>= λx=>ev P (call P n) σ b >>= λy=>(match dM o x.d y.d with
  | some true=>ev P (call P n) σ c >>= λz=>(match dM o' y.d z.d with|some k=>R.ok k|none=>.bad)
  | some false=>R.ok false
  | none=>.bad)) _ from h)
 refine wE.two S (h.mono λx hx=>RE.bind' hx) λx y ux uy H2 hp t2 s2 S2 hx hy=>?_
 split at hp
 . rename_i hk
   refine⟨σ,σV,x,y,true,hx,hy,hk,true,rfl,?_⟩
   rw[if_pos rfl]
   refine wE.one S2 (RE.bind' hp) λz u H3 hz t3 S3 r3=>?_
   split at hz
   . rename_i k' hk'
     exact⟨σ,σV,y,z,k',hy.grow r3.1,r3.rv S2,hk',k',rfl,λt'=>hz _ t' (s2.trans r3.1)⟩
   . exact hz.elim
 . rename_i hk
   refine⟨σ,σV,x,y,false,hx,hy,hk,false,rfl,?_⟩
   rw[if_neg bN]
   exact⟨false,rfl,λt'=>hp _ t' s2⟩
 . exact hp.elim
theorem aKG{a:E}{ea:Expr}(ha:PT X ea (WT X P n RT Y old σ a)):PT X (.UnaryOp .Not ea pos) (WT X P n RT Y old σ (.nt a)):=by
 refine(aEX ha).imp λσV H Q t ⟨S,h⟩=>?_
 have h:=RE.bind' (show RE (tst P (call P n) σ a >>= λx=>R.ok (!x)) _ from h)
 exact⟨S,h.mono λk hk H1 t1 s1 t'=>(show ∀H',Tk X.K H'->bG H H'->Q (!k) H' from hk) _ t' s1⟩
theorem aBx{e:Expr}{t t':TT}(h:PW X e t)(f:∀σV H Q,Tk X.K H->t' σV H Q->t σV H λv H'=>Tk X.K H'->Q v H'):PW X e t':=λwh pins s σV H Q I hw=>
 thn (h wh pins s σV H _ I (f σV H Q I.tk hw)) λk s' ⟨H',I',q⟩=>⟨H',I',q I'.tk⟩
theorem aIh{a b:E}{ea eb:Expr}{r:List Expr}(ha:PT X ea (WT X P n RT Y old σ a))(hb:PW X (.BoolOp .And (eb::r) pos) (WT X P n RT Y old σ b)):PW X (.BoolOp .And (ea::eb::r) pos) (WT X P n RT Y old σ (.an a b)):=by
 refine aBx (aEW ha hb) λσV H Q t ⟨S,h⟩=>?_
 have h:=RE.bind' (show RE (tst P (call P n) σ a >>= λx=>if x=true then tst P (call P n) σ b else R.ok false) _ from h)
 refine⟨S,h.mono λk hk H1 t1 s1=>?_⟩
 cases k with
 | true=>rw[if_pos rfl] at hk ⊢;exact⟨S.grow s1 t1,hk.mono λv hv H' t s' _=>hv H' t (s1.trans s')⟩
 | false=>rw[if_neg bN] at hk ⊢;exact λt'=>(show ∀H',Tk X.K H'->bG H H'->Q false H' from hk) _ t' s1
theorem aEE{a b:E}{ea eb:Expr}{r:List Expr}(ha:PT X ea (WT X P n RT Y old σ a))(hb:PW X (.BoolOp .Or (eb::r) pos) (WT X P n RT Y old σ b)):PW X (.BoolOp .Or (ea::eb::r) pos) (WT X P n RT Y old σ (.orr a b)):=by
 refine aBx (aHi ha hb) λσV H Q t ⟨S,h⟩=>?_
 have h:=RE.bind' (show RE (tst P (call P n) σ a >>= λx=>if x=true then R.ok true else tst P (call P n) σ b) _ from h)
 refine⟨S,h.mono λk hk H1 t1 s1=>?_⟩
 cases k with
 | true=>rw[if_pos rfl] at hk ⊢;exact λt'=>(show ∀H',Tk X.K H'->bG H H'->Q true H' from hk) _ t' s1
 | false=>rw[if_neg bN] at hk ⊢;exact⟨S.grow s1 t1,hk.mono λv hv H' t s' _=>hv H' t (s1.trans s')⟩
def wO(X:Cx)(P:Pg)(n:Nat)(RT Y old:Addr->Prop)(σ:Sg)(cs:Es):TO:=λσV H Q=>Sx X.K RT Y old σ σV H/\RE (evs P (call P n) σ cs) λvs=>
 (vs=[]/\∀H',Tk X.K H'->bG H H'->Q none H')\/∃v i,vs=[v]/\v.d=.int i/\∀H',Tk X.K H'->bG H H'->Q (some i) H'
theorem aBy{e:Option Expr}{t t':TO}(h:PO X e t)(f:∀σV H Q,Tk X.K H->t' σV H Q->t σV H λv H'=>Tk X.K H'->Q v H'):PO X e t':=λpins s σV H Q I hw=>
 thn (h pins s σV H _ I (f σV H Q I.tk hw)) λu s' ⟨o,H',I',r,q⟩=>⟨o,H',I',r,q I'.tk⟩
theorem aIi:PO X none (wO X P n RT Y old σ .nil):=aBy aDf λσV H Q t ⟨S,h⟩ t'=>by
 rcases(show([]:List Vl)=[]/\_\/_ from h) with⟨_,q⟩|⟨v,i,e,_⟩
 . exact q H t' (bG.refl H)
 . cases e
theorem aIj{c:E}{e:Expr}(ha:PE X e (WE X P n RT Y old σ c)):PO X (some e) (wO X P n RT Y old σ (.cons c .nil)):=by
 refine aBy (aDg ha) λσV H Q t ⟨S,h⟩=>?_
 have h:=RE.bind' (show RE (ev P (call P n) σ c >>= λx=>evs P (call P n) σ .nil >>= λxs=>R.ok (x::xs)) _ from h)
 refine wE.one S h λx u H1 hx t1 S1 r1=>?_
 rcases(show([x]:List Vl)=[]/\_\/∃v i,([x]:List Vl)=[v]/\_/\_ from hx) with⟨e,_⟩|⟨v,i,e,hd,q⟩
 . cases e
 . cases e
   exact⟨i,(r1.rv S).int hd,λt'=>q _ t' r1.1⟩
theorem aIk{a:E}{lo hi:Es}{ea:Expr}{el eh:Option Expr}{p2:Pos}(ha:PE X ea (WE X P n RT Y old σ a))(hl:PO X el (wO X P n RT Y old σ lo))(hh:PO X eh (wO X P n RT Y old σ hi)) :
 PE X (.Subscript ea (.Slice el eh none p2) pos) (WE X P n RT Y old σ (.sli a lo hi)):=by
 refine(aAO (aFK (X:=X)) ha hl hh).imp λσV H Q t ⟨S,h⟩=>?_
 have h:=RE.bind' (show RE (ev P (call P n) σ a >>= λx=>evs P (call P n) σ lo >>= λl=>evs P (call P n) σ hi >>= λh=>(match l,h with
  | [],[]=>eW x none none
  | [l],[]=>(match l.d with|.int l=>R.iff (aY l) (eW x (some l) none)|_=>.bad)
  | [],[h]=>(match h.d with|.int h=>R.iff (aY h) (eW x none (some h))|_=>.bad)
  | [l],[h]=>(match l.d,h.d with|.int l,.int h=>R.iff (aY l&&aY h) (eW x (some l) (some h))|_,_=>.bad)
  | _,_=>.bad)) _ from h)
 refine wE.one S h λx u H1 hx t1 S1 r1=>?_
 have hx:=RE.bind' hx
 refine⟨S1,hx.mono λl hl=>?_⟩
 have hl:=RE.bind' hl
 have up:∀(L:Option Int) (H2:Hp),Tk X.K H2->bG H1 H2->(RE (evs P (call P n) σ hi) λh=>(h=[]/\RE (eW x L none) (Wn X RT Y old σ σV H Q))\/∃v i,h=[v]/\v.d=.int i/\RE (eW x L (some i)) (Wn X RT Y old σ σV H Q)) ->
  wO X P n RT Y old σ hi σV H2 λhv H3=>aAS X.K u L hv H3 (λv H'=>Tk X.K H'->Q v H')\/aAP X.K u L hv H3 (λv H'=>Tk X.K H'->Q v H')\/tG X.K u L hv H3 (λv H'=>Tk X.K H'->Q v H')\/aBj u L hv H3 (λv H'=>Tk X.K H'->Q v H'):=by
  intro L H2 t2 s2 hh
  refine⟨S1.grow s2 t2,hh.mono λhv hq=>?_⟩
  have fin:∀(U:Option Int) (H3:Hp),Tk X.K H3->bG H2 H3->RE (eW x L U) (Wn X RT Y old σ σV H Q) ->
   aAS X.K u L U H3 (λv H'=>Tk X.K H'->Q v H')\/aAP X.K u L U H3 (λv H'=>Tk X.K H'->Q v H')\/tG X.K u L U H3 (λv H'=>Tk X.K H'->Q v H')\/aBj u L U H3 (λv H'=>Tk X.K H'->Q v H'):=λU H3 t3 s3 hs=>
   zT (S1.grow (s2.trans s3) t3) t3 ((r1.rv S).grow (s2.trans s3)) (hs.mono λv hv u H' t r=>hv u H' t (r.from (r1.1.trans (s2.trans s3))))
  rcases hq with⟨e,hs⟩|⟨v,i,e,hd,hs⟩
  . exact .inl ⟨e,λH3 t3 s3=>fin none H3 t3 s3 hs⟩
  . exact .inr ⟨v,i,e,hd,λH3 t3 s3=>fin (some i) H3 t3 s3 hs⟩
 match l,hl with
 | [],hl=>
  refine .inl ⟨rfl,λH2 t2 s2=>up none H2 t2 s2 (hl.mono λh hh=>?_)⟩
  match h,hh with
  | [],hh=>exact .inl ⟨rfl,hh⟩
  | [h],hh=>
   have hh:RE (match h.d with|.int h=>R.iff (aY h) (eW x none (some h))|_=>.bad) _:=hh
   split at hh
   . rename_i i hd
     exact .inr ⟨h,i,rfl,hd,hh.iff.2⟩
   . exact hh.elim
  | _::_::_,hh=>exact hh.elim
 | [l],hl=>
  have hd:∃i,l.d=.int i:=by
   obtain⟨h,_,hh⟩:=hl.eq
   match h,hh with
   | [],hh=>
    have hh:RE (match l.d with|.int l=>R.iff (aY l) (eW x (some l) none)|_=>.bad) _:=hh
    split at hh
    . rename_i i hd;exact⟨i,hd⟩
    . exact hh.elim
   | [h],hh=>
    have hh:RE (match l.d,h.d with|.int l,.int h=>R.iff (aY l&&aY h) (eW x (some l) (some h))|_,_=>.bad) _:=hh
    split at hh
    . rename_i i j hd _;exact⟨i,hd⟩
    . exact hh.elim
   | _::_::_,hh=>exact hh.elim
  obtain⟨i,hd⟩:=hd
  refine .inr ⟨l,i,rfl,hd,λH2 t2 s2=>up (some i) H2 t2 s2 (hl.mono λh hh=>?_)⟩
  match h,hh with
  | [],hh=>
   have hh:RE (match l.d with|.int l=>R.iff (aY l) (eW x (some l) none)|_=>.bad) _:=hh
   rw[hd] at hh
   exact .inl ⟨rfl,hh.iff.2⟩
  | [h],hh=>
   have hh:RE (match l.d,h.d with|.int l,.int h=>R.iff (aY l&&aY h) (eW x (some l) (some h))|_,_=>.bad) _:=hh
   rw[hd] at hh
   split at hh
   . rename_i i' j e1 e2
     cases e1
     exact .inr ⟨h,j,rfl,e2,hh.iff.2⟩
   . exact hh.elim
  | _::_::_,hh=>exact hh.elim
 | _::_::_,hl=>exact(by
     obtain⟨h,_,hh⟩:=hl.eq
     match h,hh with
     | [],hh=>exact hh.elim
     | [_],hh=>exact hh.elim
     | _::_::_,hh=>exact hh.elim)
end
end Hp
end
noncomputable section
namespace L2
open PySem PySem.Spec PyProof.Rows
set_option maxRecDepth 100000
instance:LawfulBEq Key where
 eq_of_beq:=λ{a b} h=>by
  cases a with
  | inl x=>cases b with
   | inl y=>exact congrArg Sum.inl (eq_of_beq (show(x==y)=true from h))
   | inr y=>cases h
  | inr x=>cases b with
   | inl y=>cases h
   | inr y=>exact congrArg Sum.inr (eq_of_beq (show(x==y)=true from h))
 rfl:=λ{a}=>by
  cases a with
  | inl x=>exact(beq_self_eq_true x:(x==x)=true)
  | inr x=>exact(beq_self_eq_true x:(x==x)=true)
def aFR(prog:Program)(w:World)(vs:List Value)(ks:List Key):Prop:=Paired (λv k=>(iK prog w).is k v=true) vs ks
theorem aFR.get{prog:Program}{w:World}:∀{vs:List Value} {ks:List Key},aFR prog w vs ks->∀{i:Nat} {v:Value},vs[i]? = some v->∃k,ks[i]? = some k/\(iK prog w).is k v=true
 | _,_,.nil,_,_,h=>by simp at h
 | _,_,.cons r _,0,_,h=>by simp at h;subst h;exact⟨_,rfl,r⟩
 | _,_,.cons _ t,i+1,v,h=>by
  obtain⟨k,h1,h2⟩:=aFR.get t (i:=i) (v:=v) (by simpa using h)
  exact⟨k,by simpa using h1,h2⟩
section
variable {prog:Program} {w:World} {A:Around} {R:Result->Shared->Prop} {I:Addr} {fp wr:List Addr} {G:Array GenState->Array GenState->Prop} {n:Nat} {P:Nat->Value->Prop} {St:Nat->Shared->Prop}
end
section
variable {prog:Program} {w:World} {A:Around} {E:Value->Shared->Prop} {s:Shared}
end
end L2
end
noncomputable section
namespace Hp
open PySem PySem.Spec PyProof.Rows L2
section
variable {X:Cx} {P:Pg} {Γ:Ct} {n:Nat} {RT Y old:Addr->Prop} {σ:Sg} {pos:Pos} {K:Fg} {H:Hp}
theorem pP:∀{ds:List D} {xs:List Str} {ex:Addr->Prop} {vs:List V} {us:List Value},gN ds=some xs->Reps K H ex ds vs->bR vs us->StrsAre us xs
 | [],xs,ex,vs,us,h,r,rv=>by
  cases h
  rw[show vs=[] from r] at rv
  cases rv
  exact .nil
 | d::ds,xs,ex,vs,us,h,r,rv=>by
  obtain⟨v,vr,e,h1,h2⟩:=r
  subst e
  cases rv with
  | cons r1 r2=>
   cases d with
   | str x=>
    unfold gN at h
    cases q:gN ds with
    | none=>rw[q] at h;cases h
    | some ys=>
     rw[q] at h
     cases h
     rw[show v=.str x from h1] at r1
     obtain⟨t,rfl⟩:=r1
     exact .cons _ _ (pP q h2 r2)
   | _=>cases h
theorem aFS{o:E}{cs:Es}{eo e:Expr}{ap cp:Pos}(ho:PE X eo (WE X P n RT Y old σ o))(ha:PA X [e] (WA X P n RT Y old σ cs))(hn:aHR eo=true)(hl:(ap.endLine==cp.line)=true)(hp:bS e=true) :
 PE X (.Call (.Attribute eo "join" ap) [e] [] cp) (WE X P n RT Y old σ (.mth .join o cs)):=by
 have rule:MtR X "str.join" (λx vs H Q=>∃a b ds ex xs ys,x=.str a/\vs=[.ref b]/\SqL X.K H b xs/\Reps X.K H ex ds xs/\gN ds=some ys/\(ys.map (·.length)).sum+ys.length*a.length<=lim/\Q (.str (PySem.Str.join a ys)) H):=by
  intro pins s σV H x vs v us Q I rx rv h
  obtain⟨a,b,ds,ex,xs,ys,rfl,rfl,hS,r,hs,hb,q⟩:=h
  obtain⟨t,rfl⟩:=rx
  obtain⟨u,rfl,ru⟩:=rv.one
  cases ru
  obtain⟨its,r2,p,_⟩:=I.list hS
  refine join_list p.isList (ys:=ys) (by simpa using pP hs r r2) (Nat.le_trans hb (by decide)) λt' k=>?_
  refine⟨.str (PySem.Str.join a ys),H,I.tok k,⟨t',?_⟩,q⟩
  rw[<-PySem.StrLaws.glued_eq_join]
  rfl
 refine(xH PySem.F.plainAttrs_str PySem.F.slot_str_join PySem.F.type_str_join rule ho ha (by cases eo <;> first|rfl|cases hn) (by rw[aG hp];rfl) hl (aG hp) rfl).imp λσV H Q t ⟨S,h⟩=>?_
 have h:=RE.bind' (show RE (ev P (call P n) σ o >>= λx=>evs P (call P n) σ cs >>= λys=>mtD .join x ys) _ from h)
 refine wE.one S h λx u H1 hx t1 S1 r1=>?_
 obtain⟨ys,ey,hy⟩:=(RE.bind' hx).eq
 cases d1:x.d with
 | str a=>
  cases ys with
  | nil=>unfold mtD at hy;rw[d1] at hy;exact False.elim hy
  | cons y ys=>cases ys with
   | cons _ _=>unfold mtD at hy;rw[d1] at hy;exact False.elim hy
   | nil=>
    unfold mtD at hy
    rw[d1] at hy
    cases d2:y.d with
    | lst ds=>
     simp only[d2] at hy
     cases hs:gN ds with
     | none=>simp only[hs] at hy;exact False.elim hy
     | some xs=>
      simp only[hs] at hy
      obtain⟨hb,hy⟩:=hy.iff
      have rv:=(r1.rv S).str d1
      subst rv
      refine⟨rfl,S1,?_⟩
      rw[ey]
      intro us H2 t2 s2 r2
      obtain⟨u2,r',e1,ru,hr⟩:=r2
      rw[show r'=[] from hr] at e1
      subst e1
      obtain⟨b,zs,rfl,q,_,rr⟩:=ru.lst d2
      exact⟨a,b,ds,_,zs,xs,rfl,rfl,q,rr,hs,of_decide_eq_true hb,λt'=>(show Wn X RT Y old σ σV H Q (Vl.cl (.str (PySem.Str.join a xs))) from hy) _ _ t' (Ro.cl (r1.1.trans s2) rfl)⟩
    | _=>simp only[d2] at hy;exact False.elim hy
 | _=>unfold mtD at hy;rw[d1] at hy;exact False.elim hy
end
end Hp
end
noncomputable section
namespace L2
open PySem PySem.Spec PyProof.Rows
section
variable {X:Cx} {pins:List (Addr×Obj)} {σ:St} {H:Hp} {s:Shared} {h':Heap}
theorem Inv.turnsNew{its:List Addr}{T:Addr}{o:HO}{t':Nat}(I:Inv X pins σ H s)(f:∀b∈its,jU X pins H b)(k:∀b o,b∉its->s.heap.get? b=some o->h'.get? b=some o)(there:∀b∈its,∃o,h'.get? b=some o)
 (hT:s.heap.objs.size<=T) (new:eM X.prog X.w (upd H T o) h' T o):Inv X pins σ (upd H T o) { s with heap:=h',toks:=t' }:=by
 have nit:∀b u,H b=some u->b∉its:=λb u e z=>by rw[(f b z).1] at e;cases e
 have hn:H T=none:=I.hok.fresh hT
 have neT:∀b o,s.heap.get? b=some o->b≠T:=λb o e=>Nat.ne_of_lt (Nat.lt_of_lt_of_le (Heap.lt_size e) hT)
 refine I.step (g':=s.gens) (d':=s.drawn) (ch:=its) (λb hb=>?_) (λb o _ _ hc e _=>k b o hc e) (λb o _ _ hc e _=>⟨o.slots,k b o hc e⟩) (λb o _ e n=>by rw[aN (neT b o e)];exact n)
  (λb o hc e=>⟨o,k b o hc e⟩) (λb xs e=>by rw[aN (bZ e hn)];exact e) (λb o u e=>by rw[aN (bZ e hn)];exact e) (λb ps e=>⟨#[],by rw[aN (bZ e hn),e];simp⟩) (λm hm=>?_) (λb u e=>?_) I.bare
 . obtain⟨_,f1,f2,f3,f4,f5⟩:=f b hb
   exact⟨f3,f1,f4,f5⟩
 . obtain⟨o,es,ep,ho,r⟩:=hm
   exact⟨o,es,ep,k _ o (λz=>(f _ z).2.1 rfl) ho,r⟩
 . by_cases hb:b=T
   . subst hb
     rw[bU] at e
     cases e
     exact new
   . rw[aN hb] at e
     refine(I.hok b u e).stay (λc v hc q=>k c v ?_ q) (λc q=>by rw[aN (bZ q hn)];exact q) λc xs q=>by rw[aN (bZ q hn)];exact q
     rcases hc with z|z
     . rw[z];exact nit b u e
     . exact nit c _ z
theorem Inv.turns{its:List Addr}{t':Nat}(I:Inv X pins σ H s)(f:∀b∈its,jU X pins H b)(k:∀b o,b∉its->s.heap.get? b=some o->h'.get? b=some o):Inv X pins σ H { s with heap:=h',toks:=t' }:=by
 have nit:∀b u,H b=some u->b∉its:=λb u e z=>by rw[(f b z).1] at e;cases e
 refine I.step (g':=s.gens) (d':=s.drawn) (ch:=its) (λb hb=>?_) (λb o _ _ hc e _=>k b o hc e) (λb o _ _ hc e _=>⟨o.slots,k b o hc e⟩) (λb o _ e n=>n)
  (λb o hc e=>⟨o,k b o hc e⟩) (λb xs e=>e) (λb o u e=>e) (λb ps e=>⟨#[],by rw[e];simp⟩) (λm hm=>?_) (λb u e=>?_) I.bare
 . obtain⟨_,f1,f2,f3,f4,f5⟩:=f b hb
   exact⟨f3,f1,f4,f5⟩
 . obtain⟨o,es,ep,ho,r⟩:=hm
   exact⟨o,es,ep,k _ o (λz=>(f _ z).2.1 rfl) ho,r⟩
 . refine(I.hok b u e).stay (λc v hc q=>k c v ?_ q) (λc q=>q) λc xs q=>q
   rcases hc with z|z
   . rw[z];exact nit b u e
   . exact nit c _ z
theorem Inv.newK(I:Inv X pins σ H s):X.K.lookup s.heap.objs.size=none:=by
 cases q:X.K.lookup s.heap.objs.size with
 | none=>rfl
 | some o=>exact absurd (Heap.lt_size (I.bk _ o (I.ok.mod.kin _ o q))) (Nat.lt_irrefl _)
def Sq(k:Bool)(K:PySem.W.Frag)(H:Hp)(a:Addr)(xs:List V):Prop:=match k with
 | true=>SqL K H a xs
 | false=>SqT K H a xs
def eC(k:Bool)(h:Heap)(a:Addr)(its:Array Value):Prop:=match k with
 | true=>h.IsList a its
 | false=>h.IsTuple a its
def cY(k:Bool)(h:Heap)(it a:Addr)(i:Nat):Prop:=match k with
 | true=>h.IsListIter it a i
 | false=>h.IsTupleIter it a i
theorem eC.at{k:Bool}{h:Heap}{a:Addr}{its:Array Value}(q:eC k h a its)(e:∀o,h.get? a=some o->h'.get? a=some o):eC k h' a its:=by
 cases k with
 | true=>exact Heap.IsList.at q e
 | false=>exact Heap.IsTuple.at q e
theorem cY.at{k:Bool}{h:Heap}{a it:Addr}{i:Nat}(q:cY k h it a i)(e:∀o,h.get? it=some o->h'.get? it=some o):cY k h' it a i:=by
 cases k with
 | true=>exact Heap.IsListIter.at q e
 | false=>exact Heap.IsTupleIter.at q e
theorem cY.obj{k:Bool}{h:Heap}{a it:Addr}{i:Nat}(q:cY k h it a i):∃o,h.get? it=some o/\∀v,o.data≠.cell v:=by
 cases k with
 | true=>obtain⟨o,e,c,d⟩:=q;exact⟨o,e,λv z=>by rw[d] at z;cases z⟩
 | false=>obtain⟨o,e,c,d⟩:=q;exact⟨o,e,λv z=>by rw[d] at z;cases z⟩
theorem Inv.sq{k:Bool}{a:Addr}{xs:List V}(I:Inv X pins σ H s)(h:Sq k X.K H a xs):∃its:List Value,bR xs its/\eC k s.heap a its.toArray/\xs.length<=sizeLine:=by
 cases k with
 | true=>obtain⟨its,r,p,z⟩:=I.list h;exact⟨its,r,p.isList,z⟩
 | false=>obtain⟨its,r,p,z⟩:=I.tuple h;exact⟨its,r,p,z⟩
theorem Inv.sq_inj{k:Bool}{a:Addr}{xs ys:List V}(I:Inv X pins σ H s)(h:Sq k X.K H a xs)(h':Sq k X.K H a ys):xs=ys:=by
 cases k with
 | true=>exact I.list_inj h h'
 | false=>exact I.tuple_inj h h'
theorem Sq.there{k:Bool}{K:PySem.W.Frag}{a:Addr}{xs:List V}(h:Sq k K H a xs):H a≠none\/∃o,K.lookup a=some o:=by
 cases k with
 | true=>
  rcases h with(h|⟨o,h⟩)|⟨o,its,n,q,_⟩
  . exact .inl (by rw[h];simp)
  . exact .inl (by rw[h];simp)
  . exact .inr ⟨_,q⟩
 | false=>
  rcases h with(h|⟨o,h⟩)|⟨o,its,n,q,_⟩
  . exact .inl (by rw[h];simp)
  . exact .inl (by rw[h];simp)
  . exact .inr ⟨_,q⟩
theorem Inv.sqNe{k:Bool}{a b:Addr}{xs:List V}(I:Inv X pins σ H s)(h:Sq k X.K H a xs)(f:jU X pins H b):a≠b:=by
 intro e
 subst e
 rcases h.there with z|⟨o,z⟩
 . exact z f.1
 . have hb:=I.ok.mod.kin a o z
   rcases f.2.2.2.1 with q|q
   . exact I.ok.noex a o hb q
   . exact absurd (Nat.lt_of_lt_of_le (Heap.lt_size hb) (Nat.le_trans I.ok.bsz q)) (Nat.lt_irrefl _)
end
section
variable {prog:Program} {w:World} {A:Around} {E:Value->Shared->Prop} {s:Shared}
theorem kB{it l:Addr}{i:Nat}{items}{x:Value}{Q:Value->Shared->Prop}(hit:s.heap.IsTupleIter it l i)
 (hl:s.heap.IsTuple l items) (hx:items[i]? = some x)
 (hQ:∀h',h'.IsTupleIter it l (i+1)->Heap.SameBut it s.heap h'->Q x { s with heap:=h' }) :
 wpAny (model prog w) A (Builtin.SmallTypes.nextOf (.ref it)) Q E s:=by
 obtain⟨o,ho,hc,hd⟩:=id hit
 obtain⟨ol,hol,_,nl,hdl⟩:=hl
 unfold Builtin.SmallTypes.nextOf
 refine wpAny_bind (wpAny_callSpecial?_slot (name:=Str.ofString "__next__") hit.typeIs F.slot_tuple_iterator_next
  (wpAny_call_entry F.slot_tuple_iterator_next hit.typeIs F.entry_tuple_iterator_next ?_ (F.args_tuple_iterator_next_1 _)))
 show wpAny _ _ (field (.ref it) 0 >>= _) _ _ s
 refine wpAny_bind (wpAny_field ho hd (x:=.ref l) rfl ?_)
 show wpAny _ _ (if (Value.ref l==Value.none)=true then _ else _) _ _ s
 rw[if_neg (show ¬ ((Value.ref l==Value.none)=true) from bN)]
 show wpAny _ _ (field (.ref it) 1 >>= _) _ _ s
 refine wpAny_bind (wpAny_field ho hd (x:=.int i 0) rfl ?_)
 show wpAny _ _ (seqItems? (.ref l) >>= _) _ _ s
 refine wpAny_bind (wpAny_seqItems hol hdl ?_)
 simp only[Int.toNat_natCast,hx]
 refine wpAny_bind (wpAny_setField ho hd (by simp) (wpAny_pure ⟨x,rfl,wpAny_pure (hQ _ ?_ (Heap.SameBut.update ..))⟩))
 exact⟨_,Heap.get?_update_self _ ho (Obj.isFreed_of_fields (Obj.data_mapFields hd _)),(Obj.cls_mapFields ..).trans hc,by
  rw[Obj.data_mapFields hd];simp[rawInt]⟩
theorem lD{it l:Addr}{i:Nat}{items}{Q:Value->Shared->Prop}(hh:A.handled=none)
 (hit:s.heap.IsTupleIter it l i) (hl:s.heap.IsTuple l items) (hx:items[i]? = none)
 (hE:∀h' e,Heap.ExtBut it s.heap h'->(∃o,h'.get? e=some o/\o.cls=.type "StopIteration")->E (.ref e) { s with heap:=h' }) :
 wpAny (model prog w) A (Builtin.SmallTypes.nextOf (.ref it)) Q E s:=by
 obtain⟨o,ho,hc,hd⟩:=id hit
 obtain⟨ol,hol,_,nl,hdl⟩:=hl
 unfold Builtin.SmallTypes.nextOf
 refine wpAny_bind (wpAny_callSpecial?_slot (name:=Str.ofString "__next__") hit.typeIs F.slot_tuple_iterator_next
  (wpAny_call_entry F.slot_tuple_iterator_next hit.typeIs F.entry_tuple_iterator_next ?_ (F.args_tuple_iterator_next_1 _)))
 show wpAny _ _ (field (.ref it) 0 >>= _) _ _ s
 refine wpAny_bind (wpAny_field ho hd (x:=.ref l) rfl ?_)
 show wpAny _ _ (if (Value.ref l==Value.none)=true then _ else _) _ _ s
 rw[if_neg (show ¬ ((Value.ref l==Value.none)=true) from bN)]
 show wpAny _ _ (field (.ref it) 1 >>= _) _ _ s
 refine wpAny_bind (wpAny_field ho hd (x:=.int i 0) rfl ?_)
 show wpAny _ _ (seqItems? (.ref l) >>= _) _ _ s
 refine wpAny_bind (wpAny_seqItems hol hdl ?_)
 simp only[Int.toNat_natCast,hx]
 refine wpAny_bind (wpAny_rule (wpAny_bind (wpAny_setField ho hd (by simp) ?_)))
 show wpAny _ _ (newExc (.type "StopIteration") [] >>= _) _ _ _
 refine wpAny_bind ?_
 simp only[newExc,newTuple]
 refine wpAny_bind (wpAny_newObj_type ?_ (by size_fits))
 refine wpAny_bind (m:=firstArgMember _ _) (wpAny_of_eq (a:=Value.none) (by first|rfl|(simp only[firstArgMember];rfl)) ?_)
 refine wpAny_newObj_type ?_ (by size_fits)
 simp only[raiseNew]
 refine wpAny_bind (wpAny_handled ?_)
 first|rw[show A.in1.handled=none from hh]|rw[hh]
 refine wpAny_bind (wpAny_pure (wpAny_throw ?_))
 exact hE _ _ (((Heap.SameBut.update ..).extBut.push _).push _) ⟨_,Heap.get?_push_size _ rfl,rfl⟩
theorem fV{k:Bool}{it l:Addr}{i:Nat}{items:Array Value}{x:Value}{Q:Value->Shared->Prop}(hit:cY k s.heap it l i)(hl:eC k s.heap l items)(hx:items[i]? = some x)
 (hQ:∀h',cY k h' it l (i+1)->Heap.SameBut it s.heap h'->Q x { s with heap:=h' }):wpAny (model prog w) A (Builtin.SmallTypes.nextOf (.ref it)) Q E s:=by
 cases k with
 | true=>exact wpAny_nextOf_list_item hit hl hx hQ
 | false=>exact kB hit hl hx hQ
theorem jN{k:Bool}{it l:Addr}{i:Nat}{items:Array Value}{Q:Value->Shared->Prop}(hh:A.handled=none)(hit:cY k s.heap it l i)(hl:eC k s.heap l items)(hx:items[i]? = none)
 (hE:∀h' e,Heap.ExtBut it s.heap h'->(∃o,h'.get? e=some o/\o.cls=.type "StopIteration")->E (.ref e) { s with heap:=h' }):wpAny (model prog w) A (Builtin.SmallTypes.nextOf (.ref it)) Q E s:=by
 cases k with
 | true=>exact wpAny_nextOf_list_end hh hit hl hx hE
 | false=>exact lD hh hit hl hx hE
theorem zY{ka kb:Bool}{z TI TO i1 i2 l1 l2:Addr}{k1 k2:Nat}{xs ys:Array Value}{x y a b:Value}{Q:Value->Shared->Prop}(D:ZipApart z TI TO i1 i2 l1 l2)
 (hz:IsZip s.heap z TI TO .none) (hTI:IsPair s.heap TI (.ref i1) (.ref i2)) (hTO:IsPair s.heap TO a b)
 (h1:cY ka s.heap i1 l1 k1) (h2:cY kb s.heap i2 l2 k2) (hl1:eC ka s.heap l1 xs) (hl2:eC kb s.heap l2 ys) (hx:xs[k1]? = some x) (hy:ys[k2]? = some y)
 (hQ:∀h',IsZip h' z TI TO (rawInt s.heap.objs.size)->IsPair h' TO x y->cY ka h' i1 l1 (k1+1)->cY kb h' i2 l2 (k2+1)->IsPair h' s.heap.objs.size x y->h'.objs.size=s.heap.objs.size+1 ->
  (∀c o,c≠z->c≠TO->c≠i1->c≠i2->s.heap.get? c=some o->h'.get? c=some o)->Q (.ref s.heap.objs.size) { s with heap:=h' }) :
 wpAny (model prog w) A (Builtin.«zip.__next__» ⟨[.ref z],[]⟩) (λfin s'=>∃v,fin=.done (.ret v)/\Q v s') E s:=by
 show wpAny _ _ (field (.ref z) 2 >>= _) _ _ _
 refine wpAny_bind (wpAny_field hz rfl (x:=.bool false) rfl ?_)
 show wpAny _ _ (field (.ref z) 3 >>= _) _ _ _
 refine wpAny_bind (wpAny_field hz rfl (x:=.ref TI) rfl ?_)
 refine wpAny_bind (wpAny_seqItems hTI rfl ?_)
 show wpAny _ _ (Builtin.SmallTypes.ownedTupleIsFree (.ref z) >>= _) _ _ _
 refine wpAny_bind ?_
 unfold Builtin.SmallTypes.ownedTupleIsFree
 refine wpAny_bind (wpAny_field hz rfl (x:=.none) rfl (wpAny_pure ?_))
 simp only[if_true]
 refine wpAny_bind (wpAny_rule ?_)
 refine wpAny_bind (wpAny_field hz rfl (x:=.ref TO) rfl ?_)
 refine wpAny_bind (wpAny_setField_rec hz (by simp) λh₁ hz₁ hs₁=>?_)
 replace hz₁:IsZip h₁ z TI TO .ellipsis:=hz₁
 refine wpAny_bind ?_
 simp only[List.zipIdx_cons,List.zipIdx_nil,List.forIn_cons,List.forIn_nil]
 refine wpAny_bind (wpAny_bind (wpAny_onRaise ?_))
 show wpAny _ _ (Builtin.SmallTypes.nextOf (.ref i1) >>= _) _ _ _
 refine wpAny_bind (fV (h1.at λo e=>hs₁.extBut _ _ D.i1z e) (hl1.at λo e=>hs₁.extBut _ _ D.l1z e) hx λh₂ h1₂ hs₂=>wpAny_pure ?_)
 have hTO₂:IsPair h₂ TO a b:=hs₂.extBut _ _ D.TOi1 (hs₁.extBut _ _ D.TOz hTO)
 refine wpAny_bind (wpAny_seqItems hTO₂ rfl ?_)
 refine wpAny_bind (wpAny_updateSeq_pair hTO₂ λh₃ hTO₃ hs₃=>?_)
 replace hTO₃:IsPair h₃ TO x b:=hTO₃
 refine wpAny_bind (wpAny_letGo (wpAny_pure ?_))
 refine wpAny_bind (wpAny_bind (wpAny_onRaise ?_))
 show wpAny _ _ (Builtin.SmallTypes.nextOf (.ref i2) >>= _) _ _ _
 refine wpAny_bind (fV (h2.at λo e=>hs₃.extBut _ _ D.TOi2.symm (hs₂.extBut _ _ D.i12.symm (hs₁.extBut _ _ D.i2z e)))
  (hl2.at λo e=>hs₃.extBut _ _ D.l2TO (hs₂.extBut _ _ D.l2i1 (hs₁.extBut _ _ D.l2z e))) hy λh₄ h2₄ hs₄=>wpAny_pure ?_)
 have hTO₄:IsPair h₄ TO x b:=hs₄.extBut _ _ D.TOi2 hTO₃
 refine wpAny_bind (wpAny_seqItems hTO₄ rfl ?_)
 refine wpAny_bind (wpAny_updateSeq_pair hTO₄ λh₅ hTO₅ hs₅=>?_)
 replace hTO₅:IsPair h₅ TO x y:=hTO₅
 refine wpAny_bind (wpAny_letGo (wpAny_pure (wpAny_pure ?_)))
 refine wpAny_bind (wpAny_seqItems hTO₅ rfl ?_)
 refine wpAny_bind (wpAny_newTuple ?_)
 have hsz:h₅.objs.size=s.heap.objs.size:=by rw[hs₅.1,hs₄.1,hs₃.1,hs₂.1,hs₁.1]
 have hz₅:IsZip h₅ z TI TO .ellipsis:=hs₅.extBut _ _ D.TOz.symm (hs₄.extBut _ _ D.i2z.symm (hs₃.extBut _ _ D.TOz.symm (hs₂.extBut _ _ D.i1z.symm hz₁)))
 have hk₅:∀c o,c≠z->c≠TO->c≠i1->c≠i2->s.heap.get? c=some o->h₅.get? c=some o:=λc o c1 c2 c3 c4 e=>
  hs₅.extBut _ _ c2 (hs₄.extBut _ _ c4 (hs₃.extBut _ _ c2 (hs₂.extBut _ _ c3 (hs₁.extBut _ _ c1 e))))
 have h1₅:cY ka h₅ i1 l1 (k1+1):=h1₂.at λo e=>hs₅.extBut _ _ D.TOi1.symm (hs₄.extBut _ _ D.i12 (hs₃.extBut _ _ D.TOi1.symm e))
 have h2₅:cY kb h₅ i2 l2 (k2+1):=h2₄.at λo e=>hs₅.extBut _ _ D.TOi2.symm e
 have hzlt:z<h₅.objs.size:=Heap.lt_size hz₅
 have hTOlt:TO<h₅.objs.size:=Heap.lt_size hTO₅
 show wpAny _ _ (Builtin.SmallTypes.ownedTupleHandOut (.ref z) (.ref h₅.objs.size) >>= _) _ _ _
 refine wpAny_bind ?_
 unfold Builtin.SmallTypes.ownedTupleHandOut
 have hz₆:IsZip (h₅.push { cls:=.type "tuple",data:=.seq #[x,y] }) z TI TO .ellipsis:=Heap.get?_push_of_some _ hz₅
 refine wpAny_bind (wpAny_setField_rec hz₆ (by simp) λh₇ hz₇ hs₇=>?_)
 replace hz₇:IsZip h₇ z TI TO (rawInt h₅.objs.size):=hz₇
 refine wpAny_setField_rec hz₇ (by simp) λh₈ hz₈ hs₈=>?_
 replace hz₈:IsZip h₈ z TI TO (rawInt h₅.objs.size):=hz₈
 have up:∀c o,c≠z->h₅.get? c=some o->h₈.get? c=some o:=λc o c1 e=>hs₈.extBut _ _ c1 (hs₇.extBut _ _ c1 (Heap.get?_push_of_some _ e))
 have hT₈:IsPair h₈ h₅.objs.size x y:=hs₈.extBut _ _ (Nat.ne_of_gt hzlt) (hs₇.extBut _ _ (Nat.ne_of_gt hzlt) (Heap.get?_push_size _ rfl))
 have hz8:h₈.objs.size=h₅.objs.size+1:=by rw[hs₈.1,hs₇.1,Heap.size_push]
 rw[hsz] at hz₈ hT₈ hz8
 refine wpAny_pure ⟨_,rfl,?_⟩
 show Q (.ref h₅.objs.size) _
 rw[hsz]
 exact hQ h₈ hz₈ (up _ _ D.TOz hTO₅) (h1₅.at λo e=>up _ o D.i1z e) (h2₅.at λo e=>up _ o D.i2z e) hT₈ hz8 λc o c1 c2 c3 c4 e=>up c o c1 (hk₅ c o c1 c2 c3 c4 e)
theorem aBz{ka kb:Bool}{z TI TO i1 i2 l1 l2:Addr}{k1 k2:Nat}{xs ys:Array Value}{a b:Value}{Q:Fin->Shared->Prop}(hh:A.handled=none)(D:ZipApart z TI TO i1 i2 l1 l2)
 (hz:IsZip s.heap z TI TO .none) (hTI:IsPair s.heap TI (.ref i1) (.ref i2)) (hTO:IsPair s.heap TO a b)
 (h1:cY ka s.heap i1 l1 k1) (h2:cY kb s.heap i2 l2 k2) (hl1:eC ka s.heap l1 xs) (hl2:eC kb s.heap l2 ys) (hend:xs[k1]? = none\/ys[k2]? = none)
 (hE:∀h' e,(∀c o,c≠z->c≠TO->c≠i1->c≠i2->s.heap.get? c=some o->h'.get? c=some o)->(∃o,h'.get? e=some o/\o.cls=.type "StopIteration")->E (.ref e) { s with heap:=h' }) :
 wpAny (model prog w) A (Builtin.«zip.__next__» ⟨[.ref z],[]⟩) Q E s:=by
 show wpAny _ _ (field (.ref z) 2 >>= _) _ _ _
 refine wpAny_bind (wpAny_field hz rfl (x:=.bool false) rfl ?_)
 show wpAny _ _ (field (.ref z) 3 >>= _) _ _ _
 refine wpAny_bind (wpAny_field hz rfl (x:=.ref TI) rfl ?_)
 refine wpAny_bind (wpAny_seqItems hTI rfl ?_)
 show wpAny _ _ (Builtin.SmallTypes.ownedTupleIsFree (.ref z) >>= _) _ _ _
 refine wpAny_bind ?_
 unfold Builtin.SmallTypes.ownedTupleIsFree
 refine wpAny_bind (wpAny_field hz rfl (x:=.none) rfl (wpAny_pure ?_))
 simp only[if_true]
 refine wpAny_bind (wpAny_rule ?_)
 refine wpAny_bind (wpAny_field hz rfl (x:=.ref TO) rfl ?_)
 refine wpAny_bind (wpAny_setField_rec hz (by simp) λh₁ hz₁ hs₁=>?_)
 replace hz₁:IsZip h₁ z TI TO .ellipsis:=hz₁
 refine wpAny_bind ?_
 simp only[List.zipIdx_cons,List.zipIdx_nil,List.forIn_cons,List.forIn_nil]
 refine wpAny_bind (wpAny_bind (wpAny_onRaise ?_))
 show wpAny _ _ (Builtin.SmallTypes.nextOf (.ref i1) >>= _) _ _ _
 cases hx:xs[k1]? with
 | none=>
  refine wpAny_bind (jN hh (h1.at λo e=>hs₁.extBut _ _ D.i1z e) (hl1.at λo e=>hs₁.extBut _ _ D.l1z e) hx λh₂ e hs₂ he=>?_)
  obtain⟨oe,hoe,hce⟩:=he
  have hz₂:IsZip h₂ z TI TO .ellipsis:=hs₂ _ _ D.i1z.symm hz₁
  have hez:e≠z:=λx=>by subst x;rw[hz₂] at hoe;cases hoe;simp at hce
  refine wpAny_setField_rec hz₂ (by simp) λh₃ _ hs₃=>hE h₃ e (λc o c1 _ c3 _ x=>hs₃.extBut _ _ c1 (hs₂ _ _ c3 (hs₁.extBut _ _ c1 x))) ⟨oe,hs₃.extBut _ _ hez hoe,hce⟩
 | some x=>
  have hy:ys[k2]? = none:=by rcases hend with h|h;rw[hx] at h;cases h;exact h
  refine wpAny_bind (fV (h1.at λo e=>hs₁.extBut _ _ D.i1z e) (hl1.at λo e=>hs₁.extBut _ _ D.l1z e) hx λh₂ h1₂ hs₂=>wpAny_pure ?_)
  have hTO₂:IsPair h₂ TO a b:=hs₂.extBut _ _ D.TOi1 (hs₁.extBut _ _ D.TOz hTO)
  refine wpAny_bind (wpAny_seqItems hTO₂ rfl ?_)
  refine wpAny_bind (wpAny_updateSeq_pair hTO₂ λh₃ hTO₃ hs₃=>?_)
  refine wpAny_bind (wpAny_letGo (wpAny_pure ?_))
  refine wpAny_bind (wpAny_bind (wpAny_onRaise ?_))
  show wpAny _ _ (Builtin.SmallTypes.nextOf (.ref i2) >>= _) _ _ _
  refine wpAny_bind (jN hh (h2.at λo e=>hs₃.extBut _ _ D.TOi2.symm (hs₂.extBut _ _ D.i12.symm (hs₁.extBut _ _ D.i2z e)))
   (hl2.at λo e=>hs₃.extBut _ _ D.l2TO (hs₂.extBut _ _ D.l2i1 (hs₁.extBut _ _ D.l2z e))) hy λh₄ e hs₄ he=>?_)
  obtain⟨oe,hoe,hce⟩:=he
  have hz₄:IsZip h₄ z TI TO .ellipsis:=hs₄ _ _ D.i2z.symm (hs₃.extBut _ _ D.TOz.symm (hs₂.extBut _ _ D.i1z.symm hz₁))
  have hez:e≠z:=λx=>by subst x;rw[hz₄] at hoe;cases hoe;simp at hce
  refine wpAny_setField_rec hz₄ (by simp) λh₅ _ hs₅=>hE h₅ e (λc o c1 c2 c3 c4 x=>hs₅.extBut _ _ c1 (hs₄ _ _ c4 (hs₃.extBut _ _ c2 (hs₂.extBut _ _ c3 (hs₁.extBut _ _ c1 x))))) ⟨oe,hs₅.extBut _ _ hez hoe,hce⟩
theorem mD{ka kb:Bool}{z TI TO i1 i2 l1 l2:Addr}{k1 k2:Nat}{xs ys:Array Value}{x y a b:Value}{Q:Option Value->Shared->Prop}(D:ZipApart z TI TO i1 i2 l1 l2)
 (hz:IsZip s.heap z TI TO .none) (hTI:IsPair s.heap TI (.ref i1) (.ref i2)) (hTO:IsPair s.heap TO a b)
 (h1:cY ka s.heap i1 l1 k1) (h2:cY kb s.heap i2 l2 k2) (hl1:eC ka s.heap l1 xs) (hl2:eC kb s.heap l2 ys) (hx:xs[k1]? = some x) (hy:ys[k2]? = some y)
 (hQ:∀h',IsZip h' z TI TO (rawInt s.heap.objs.size)->IsPair h' TO x y->cY ka h' i1 l1 (k1+1)->cY kb h' i2 l2 (k2+1)->IsPair h' s.heap.objs.size x y->h'.objs.size=s.heap.objs.size+1 ->
  (∀c o,c≠z->c≠TO->c≠i1->c≠i2->s.heap.get? c=some o->h'.get? c=some o)->Q (some (.ref s.heap.objs.size)) { s with heap:=h' }) :
 wpAny (model prog w) A (pyNext (.ref z)) Q E s:=by
 have hT:s.TypeIs (.ref z) "zip" := ⟨_,hz,rfl⟩
 unfold pyNext
 exact wpAny_bind (wpAny_attempt (wpAny_callSpecial?_slot (name:=Str.ofString "__next__") hT F.slot_zip_next
  (wpAny_call_entry F.slot_zip_next hT F.entry_zip_next
   (zY D hz hTI hTO h1 h2 hl1 hl2 hx hy λh' a1 a2 a3 a4 a5 a6 a7=>wpAny_pure (hQ h' a1 a2 a3 a4 a5 a6 a7)) (F.args_zip_next_1 _))))
theorem nH{ka kb:Bool}{z TI TO i1 i2 l1 l2:Addr}{k1 k2:Nat}{xs ys:Array Value}{a b:Value}{Q:Option Value->Shared->Prop}(hh:A.handled=none)(D:ZipApart z TI TO i1 i2 l1 l2)
 (hz:IsZip s.heap z TI TO .none) (hTI:IsPair s.heap TI (.ref i1) (.ref i2)) (hTO:IsPair s.heap TO a b)
 (h1:cY ka s.heap i1 l1 k1) (h2:cY kb s.heap i2 l2 k2) (hl1:eC ka s.heap l1 xs) (hl2:eC kb s.heap l2 ys) (hend:xs[k1]? = none\/ys[k2]? = none)
 (hQ:∀h',(∀c o,c≠z->c≠TO->c≠i1->c≠i2->s.heap.get? c=some o->h'.get? c=some o)->Q none { s with heap:=h' }):wpAny (model prog w) A (pyNext (.ref z)) Q E s:=by
 have hT:s.TypeIs (.ref z) "zip" := ⟨_,hz,rfl⟩
 unfold pyNext
 refine wpAny_bind (wpAny_attempt (wpAny_callSpecial?_slot (name:=Str.ofString "__next__") hT F.slot_zip_next
  (wpAny_call_entry F.slot_zip_next hT F.entry_zip_next (aBz hh D hz hTI hTO h1 h2 hl1 hl2 hend λh' e hk he=>?_) (F.args_zip_next_1 _))))
 obtain⟨o,ho,hc⟩:=he
 refine wpAny_bind (wpAny_isInstance (T:= "StopIteration") (b:=true) ⟨o,ho,hc⟩ isSubtype_stop ?_)
 exact wpAny_pure (hQ _ hk)
end
def gY(k:Bool)(l:Addr):Obj:=match k with
 | true=>{ cls:=.type "list_iterator",data:=.fields #[.ref l,.int 0 0] }
 | false=>{ cls:=.type "tuple_iterator",data:=.fields #[.ref l,.int 0 0] }
abbrev zH1(k:Bool)(h:Heap)(l1:Addr):Heap:=h.push (gY k l1)
abbrev zH2(ka kb:Bool)(h:Heap)(l1 l2:Addr):Heap:=(zH1 ka h l1).push (gY kb l2)
abbrev zH3(ka kb:Bool)(h:Heap)(l1 l2:Addr):Heap:=(zH2 ka kb h l1 l2).push { cls:=.type "tuple",data:=.seq #[.ref h.objs.size,.ref (zH1 ka h l1).objs.size] }
abbrev zH4(ka kb:Bool)(h:Heap)(l1 l2:Addr):Heap:=(zH3 ka kb h l1 l2).push { cls:=.type "tuple",data:=.seq #[.none,.none] }
abbrev zH5(ka kb:Bool)(h:Heap)(l1 l2:Addr):Heap:=(zH4 ka kb h l1 l2).push { cls:=.type "zip",data:=.fields #[.none,.bool false,.bool false,.ref (zH2 ka kb h l1 l2).objs.size,.ref (zH3 ka kb h l1 l2).objs.size] }
theorem iO{prog:Program}{w:World}{A:Around}{E:Value->Shared->Prop}{s:Shared}{k:Bool}{l:Addr}{items:Array Value}{Q:Value->Shared->Prop}(hl:eC k s.heap l items)
 (hQ:Q (.ref s.heap.objs.size) { s with heap:=s.heap.push (gY k l) }):wpAny (model prog w) A (pyIter (.ref l)) Q E s:=by
 cases k with
 | true=>exact wpAny_pyIter_list hl hQ
 | false=>exact wpAny_pyIter_tuple hl hQ
theorem vV(ka kb:Bool)(l1 l2:Addr)(xs ys:Array Value) :
 Meets (Builtin.«zip.__new__» ⟨[.type "zip",.ref l1,.ref l2],[]⟩) (λ_ R s=>eC ka s.heap l1 xs/\eC kb s.heap l2 ys /\
  R (.ok (.ret (.ref (zH4 ka kb s.heap l1 l2).objs.size))) { s with heap:=zH5 ka kb s.heap l1 l2 }):=
 .of_wp λprog w A R s h=>by
  obtain⟨hp,g,d,tk,os⟩:=s;obtain⟨hl1,hl2,h⟩:=h
  have hsub:=sub_zip
  have hL1:eC ka (Shared.heap ⟨hp,g,d,tk,os⟩) l1 xs:=hl1
  have hL2:eC kb (Shared.heap ⟨hp.push (gY ka l1),g,d,tk,os⟩) l2 ys:=hl2.at λo e=>Heap.get?_push_of_some _ e
  wp_walk using iO hL1,iO hL2
  exact⟨_,rfl,h⟩
theorem nI{k:Bool}{h:Heap}{it a:Addr}(e:h.get? it=some (gY k a)):cY k h it a 0:=by
 cases k with
 | true=>exact⟨_,e,rfl,rfl⟩
 | false=>exact⟨_,e,rfl,rfl⟩
theorem zZ{prog:Program}{w:World}{A:Around}{E:Value->Shared->Prop}{s:Shared}{ka kb:Bool}{l1 l2:Addr}{xs ys:Array Value}{Q:Value->Shared->Prop}(hl1:eC ka s.heap l1 xs)(hl2:eC kb s.heap l2 ys)
 (h:∀h',IsZip h' (s.heap.objs.size+4) (s.heap.objs.size+2) (s.heap.objs.size+3) .none->IsPair h' (s.heap.objs.size+2) (.ref s.heap.objs.size) (.ref (s.heap.objs.size+1)) ->
  IsPair h' (s.heap.objs.size+3) .none .none->cY ka h' s.heap.objs.size l1 0->cY kb h' (s.heap.objs.size+1) l2 0->h'.objs.size=s.heap.objs.size+5 ->
  (∀c o,s.heap.get? c=some o->h'.get? c=some o)->Q (.ref (s.heap.objs.size+4)) { s with heap:=h' }) :
 wpAny (model prog w) A (call (.type "zip") [.ref l1,.ref l2]) Q E s:=by
 refine callType_new F.called_zip (by decide) (F.typeCall_zip_2 _ _) (F.newCall_zip_2 _ _) (λobj=>F.args_object_init_3 obj _ _) F.entry_zip_new
  (vV ka kb l1 l2 xs ys) ⟨hl1,hl2,?_⟩
 have z1:(zH1 ka s.heap l1).objs.size=s.heap.objs.size+1:=Heap.size_push ..
 have z2:(zH2 ka kb s.heap l1 l2).objs.size=s.heap.objs.size+2:=by rw[Heap.size_push,z1]
 have z3:(zH3 ka kb s.heap l1 l2).objs.size=s.heap.objs.size+3:=by rw[Heap.size_push,z2]
 have z4:(zH4 ka kb s.heap l1 l2).objs.size=s.heap.objs.size+4:=by rw[Heap.size_push,z3]
 have z5:(zH5 ka kb s.heap l1 l2).objs.size=s.heap.objs.size+5:=by rw[Heap.size_push,z4]
 have nf:∀k l,(gY k l).isFreed=false:=by intro k l;cases k <;> rfl
 have g5:(zH5 ka kb s.heap l1 l2).get? (zH4 ka kb s.heap l1 l2).objs.size=some _:=Heap.get?_push_size _ rfl
 have g4:(zH5 ka kb s.heap l1 l2).get? (zH3 ka kb s.heap l1 l2).objs.size=some _:=Heap.get?_push_of_some _ (Heap.get?_push_size _ rfl)
 have g3:(zH5 ka kb s.heap l1 l2).get? (zH2 ka kb s.heap l1 l2).objs.size=some _:=Heap.get?_push_of_some _ (Heap.get?_push_of_some _ (Heap.get?_push_size _ rfl))
 have g2:(zH5 ka kb s.heap l1 l2).get? (zH1 ka s.heap l1).objs.size=some _:=Heap.get?_push_of_some _ (Heap.get?_push_of_some _ (Heap.get?_push_of_some _ (Heap.get?_push_size _ (nf _ _))))
 have g1:(zH5 ka kb s.heap l1 l2).get? s.heap.objs.size=some _:=Heap.get?_push_of_some _ (Heap.get?_push_of_some _ (Heap.get?_push_of_some _ (Heap.get?_push_of_some _ (Heap.get?_push_size _ (nf _ _)))))
 show _/\_
 rw[z2,z3,z4] at g5
 rw[z1,z2] at g3
 rw[z3] at g4
 rw[z1] at g2
 rw[z4]
 exact⟨⟨_,g5,rfl⟩,h _ g5 g3 g4 (nI g1) (nI g2) z5 λc o x=>
  Heap.get?_push_of_some _ (Heap.get?_push_of_some _ (Heap.get?_push_of_some _ (Heap.get?_push_of_some _ (Heap.get?_push_of_some _ x))))⟩
def Itz(K:PySem.W.Frag)(ka kb:Bool)(a b:Addr):It:=
 ⟨λi H=>∃xs ys x y,Sq ka K H a xs/\Sq kb K H b ys/\xs[i]? = some x/\ys[i]? = some y,
  λi H v H'=>∃p x y,v=.ref p/\H p=none/\K.lookup p=none/\H'=upd H p (.tup [x,y])/\∀xs ys,Sq ka K H a xs->Sq kb K H b ys->xs[i]? = some x/\ys[i]? = some y,
  λi H=>∃xs ys,Sq ka K H a xs/\Sq kb K H b ys/\(xs.length<=i\/ys.length<=i)⟩
structure aDE (z TI TO i1 i2:Addr):Prop where
 TIz:TI≠z
 TOz:TO≠z
 i1z:i1≠z
 i2z:i2≠z
 TITO:TI≠TO
 TIi1:TI≠i1
 TIi2:TI≠i2
 TOi1:TO≠i1
 TOi2:TO≠i2
 i12:i1≠i2
theorem aDE.apart{X:Cx}{pins:List (Addr×Obj)}{σ:St}{H:Hp}{s:Shared}{ka kb:Bool}{a b z TI TO i1 i2:Addr}{xs ys:List V}(F:aDE z TI TO i1 i2)(I:Inv X pins σ H s)(f:∀c∈[z,TI,TO,i1,i2],jU X pins H c)
 (ha:Sq ka X.K H a xs) (hb:Sq kb X.K H b ys):ZipApart z TI TO i1 i2 a b:=
 ⟨F.TIz,F.TOz,F.i1z,F.i2z,F.TITO,F.TIi1,F.TIi2,F.TOi1,F.TOi2,F.i12,I.sqNe ha (f z (by simp)),I.sqNe ha (f TO (by simp)),I.sqNe ha (f i1 (by simp)),I.sqNe ha (f i2 (by simp)),
  I.sqNe hb (f z (by simp)),I.sqNe hb (f TO (by simp)),I.sqNe hb (f i1 (by simp)),I.sqNe hb (f i2 (by simp))⟩
theorem aBA{P:Program}{w:World}{K:PySem.W.Frag}{ka kb:Bool}{elts:List Expr}{tk:Nat}{tp:Pos}{z TI TO i1 i2 a b:Addr}(F:aDE z TI TO i1 i2) :
 sJ P w K (.Tuple elts tk tp) (Itz K ka kb a b) [z,TI,TO,i1,i2] z (λi h=>IsZip h z TI TO .none/\IsPair h TI (.ref i1) (.ref i2)/\(∃u v,IsPair h TO u v)/\cY ka h i1 a i/\cY kb h i2 b i) where
 mem:=by simp
 obj:=λi h st c hc=>by
  obtain⟨hz,hTI,⟨u,v,hTO⟩,h1,h2⟩:=st
  have hc':c=z\/c=TI\/c=TO\/c=i1\/c=i2:=by simpa using hc
  rcases hc' with rfl|rfl|rfl|rfl|rfl
  . exact⟨_,hz,λv z=>by cases(show Data.fields _=Data.cell v from z)⟩
  . exact⟨_,hTI,λv z=>by cases(show Data.seq _ _=Data.cell v from z)⟩
  . exact⟨_,hTO,λv z=>by cases(show Data.seq _ _=Data.cell v from z)⟩
  . exact h1.obj
  . exact h2.obj
 keep:=λi h h' st k=>by
  obtain⟨hz,hTI,⟨u,v,hTO⟩,h1,h2⟩:=st
  exact⟨k z (by simp) _ hz,k TI (by simp) _ hTI,⟨u,v,k TO (by simp) _ hTO⟩,h1.at λo e=>k i1 (by simp) o e,h2.at λo e=>k i2 (by simp) o e⟩
 item:=by
  intro X hP hw hK hc i pins s σ H E I hf st hg
  subst hP hw hK
  obtain⟨hz,hTI,⟨u,v,hTO⟩,h1,h2⟩:=st
  obtain⟨xs,ys,x,y,ha,hb,hx,hy⟩:=hg
  obtain⟨as,ra,pa,_⟩:=I.sq ha
  obtain⟨bs,rb,pb,_⟩:=I.sq hb
  obtain⟨ux,hux,rx⟩:=ra.get hx
  obtain⟨uy,huy,ry⟩:=rb.get hy
  have D:=F.apart I hf ha hb
  refine mD D hz hTI hTO h1 h2 pa pb (x:=ux) (y:=uy) (by simpa using hux) (by simpa using huy) λh' a1 a2 a3 a4 a5 a6 hk=>?_
  refine⟨_,rfl,wpAny_letOwnedTupleGo_zip (s:={ s with heap:=h' }) a1 λh'' hz' hs'=>?_⟩
  have hTne:s.heap.objs.size≠z:=Nat.ne_of_gt (Heap.lt_size hz)
  have hk2:∀c o,c∉[z,TI,TO,i1,i2]->s.heap.get? c=some o->h''.get? c=some o:=λc o hc e=>by
   have hc':c≠z/\c≠TI/\c≠TO/\c≠i1/\c≠i2:=by simpa using hc
   exact hs'.extBut _ _ hc'.1 (hk c o hc'.1 hc'.2.2.1 hc'.2.2.2.1 hc'.2.2.2.2 e)
  have tI:IsPair h'' TI (.ref i1) (.ref i2):=hs'.extBut _ _ F.TIz (hk _ _ F.TIz F.TITO F.TIi1 F.TIi2 hTI)
  have tO:IsPair h'' TO ux uy:=hs'.extBut _ _ F.TOz a2
  have t1:cY ka h'' i1 a (i+1):=a3.at λo e=>hs'.extBut _ _ F.i1z e
  have t2:cY kb h'' i2 b (i+1):=a4.at λo e=>hs'.extBut _ _ F.i2z e
  have tT:IsPair h'' s.heap.objs.size ux uy:=hs'.extBut _ _ hTne a5
  have hn:H s.heap.objs.size=none:=I.fresh
  have I1:Inv X pins σ (upd H s.heap.objs.size (.tup [x,y])) { s with heap:=h'' }:=by
   refine I.turnsNew (t':=s.toks) hf hk2 (λc hc=>?_) (Nat.le_refl _) ⟨by show 2<=sizeLine;rw[sizeLine_eq];decide,[ux,uy],.cons rx (.cons ry .nil),_,tT,rfl,_,rfl⟩
   have hc':c=z\/c=TI\/c=TO\/c=i1\/c=i2:=by simpa using hc
   rcases hc' with rfl|rfl|rfl|rfl|rfl
   . exact⟨_,hz'⟩
   . exact⟨_,tI⟩
   . exact⟨_,tO⟩
   . obtain⟨o,e,_⟩:=t1.obj;exact⟨o,e⟩
   . obtain⟨o,e,_⟩:=t2.obj;exact⟨o,e⟩
  refine⟨.ref s.heap.objs.size,_,I1,rfl,⟨_,x,y,rfl,hn,I.newK,rfl,λxs' ys' ha' hb'=>?_⟩,⟨hz',tI,⟨_,_,tO⟩,t1,t2⟩,λc hc=>?_⟩
  . rw[I.sq_inj ha' ha,I.sq_inj hb' hb]
    exact⟨hx,hy⟩
  . rw[aN (Nat.ne_of_lt ?_)]
    . exact(hf c hc).1
    . obtain⟨o,e,_⟩:∃o,s.heap.get? c=some o/\True:=by
       have hc':c=z\/c=TI\/c=TO\/c=i1\/c=i2:=by simpa using hc
       rcases hc' with rfl|rfl|rfl|rfl|rfl
       . exact⟨_,hz,trivial⟩
       . exact⟨_,hTI,trivial⟩
       . exact⟨_,hTO,trivial⟩
       . obtain⟨o,e,_⟩:=h1.obj;exact⟨o,e,trivial⟩
       . obtain⟨o,e,_⟩:=h2.obj;exact⟨o,e,trivial⟩
      exact Heap.lt_size e
 done:=by
  intro X hP hw hK hc i pins s σ H E I hf st hg
  subst hP hw hK
  obtain⟨hz,hTI,⟨u,v,hTO⟩,h1,h2⟩:=st
  obtain⟨xs,ys,ha,hb,hend⟩:=hg
  obtain⟨as,ra,pa,_⟩:=I.sq ha
  obtain⟨bs,rb,pb,_⟩:=I.sq hb
  have la:=ra.length
  have lb:=rb.length
  refine nH (I.ok.hd hc) (F.apart I hf ha hb) hz hTI hTO h1 h2 pa pb ?_ λh' hk=>⟨rfl,I.turns (t':=s.toks) hf λc o hc e=>?_⟩
  . rcases hend with q|q
    . exact .inl (by simp;omega)
    . exact .inr (by simp;omega)
  . have hc':c≠z/\c≠TI/\c≠TO/\c≠i1/\c≠i2:=by simpa using hc
    exact hk c o hc'.1 hc'.2.2.1 hc'.2.2.2.1 hc'.2.2.2.2 e
 self:=λ_ _ _ _ _ st h=>wpAny_pyIter_zip st.1 h
def aKH(K:PySem.W.Frag)(ta:TA):TI:=λσ H R=>ta σ H λvs H1=>∃(ka kb:Bool) (a b:Addr) (xs ys:List V),vs=[.ref a,.ref b]/\Sq ka K H1 a xs/\Sq kb K H1 b ys/\R (Itz K ka kb a b) H1
theorem aBB:bootBuiltins "zip" = some (.type "zip"):=by kernel_rfl
theorem aBC(n:Nat):aDE (n+4) (n+2) (n+3) n (n+1) where
 TIz:=by simp
 TOz:=by simp
 i1z:=by simp
 i2z:=by simp
 TITO:=by simp
 TIi1:=by simp
 TIi2:=by simp
 TOi1:=by simp
 TOi2:=by simp
 i12:=by simp
theorem aFT{X:Cx}{a b:Expr}{ta:TA}{p pos:Pos}{elts:List Expr}{tk:Nat}{tp:Pos}(hg:Gl X "zip")(hm:X.mg "zip" = none)(ha:PA X [a,b] ta)(hs:starEach [a,b] X.env=[(false,eval a X.env),(false,eval b X.env)])(hs2:starEach [b] X.env=[(false,eval b X.env)]) :
 PI X (.Tuple elts tk tp) (.Call (.Name "zip" p) [a,b] [] pos) (aKH X.K ta):=by
 intro pins s σ H R I h
 refine Call_ (hU I hg hm aBB (PyProof.Rows.callWith_type1 (thn (ha pos pins s σ H _ I h) λus s1 ⟨vs,H1,I1,r1,q1⟩=>?_) (by rw[hs,hs2]) (by rw[hs2];rfl)))
 obtain⟨ka,kb,a1,b1,xs,ys,e,q1,q2,q⟩:=q1
 subst e
 cases r1 with
 | cons r rr=>
  cases rr with
  | cons r' rr=>
   cases rr
   cases r
   cases r'
   obtain⟨as,ra,pa,_⟩:=I1.sq q1
   obtain⟨bs,rb,pb,_⟩:=I1.sq q2
   refine zZ pa pb λh' hz hTI hTO h1 h2 hsz hk=>wpAny_pyIter_zip (s:={ s1 with heap:=h' }) hz ?_
   refine⟨s1.heap.objs.size+4,_,_,_,H1,rfl,I1.kept (t':=s1.toks) hk,aBA (aBC _),⟨hz,hTI,⟨_,_,hTO⟩,h1,h2⟩,λc hc=>?_,q⟩
   have hc':c=s1.heap.objs.size+4\/c=s1.heap.objs.size+2\/c=s1.heap.objs.size+3\/c=s1.heap.objs.size\/c=s1.heap.objs.size+1:=by simpa using hc
   have hle:s1.heap.objs.size<=c:=by rcases hc' with rfl|rfl|rfl|rfl|rfl <;> omega
   exact I1.fpOk hle (I1.hok.fresh hle)
def Its(x:Str):It:=⟨λi _=>i<x.cps.size,λi H v H'=>H'=H/\∃c,x.cps[i]? = some c/\v=.str ⟨#[c]⟩,λi _=>x.cps.size<=i⟩
theorem tL{P:Program}{w:World}{K:PySem.W.Frag}{tg:Expr}{it:Addr}{x:Str}{t:Tok}{ty:String}(hn:["enumerate", "zip", "dict_itemiterator", "dict_reverseitemiterator", "odict_iterator", "itertools.zip_longest", "itertools.pairwise"].contains ty=false)
 (W:∀A':Around,A'.handled=none->Walks P w A' it [it] [it] x.cps.size (SignAt x) (λi h=>h.IsStrIter it ty x t i))
 (S:∀(A:Around) (i:Nat) (s:Shared) (Q:Value->Shared->Prop) (E:Value->Shared->Prop),s.heap.IsStrIter it ty x t i->Q (.ref it) s->wpAny (model P w) A (pyIter (.ref it)) Q E s):sJ P w K tg (Its x) [it] it (λi h=>i<=x.cps.size/\h.IsStrIter it ty x t i) where
 mem:=by simp
 obj:=λi h st b hb=>by
  have e:b=it:=by simpa using hb
  subst e
  obtain⟨_,o,e,c,d⟩:=st
  exact⟨o,e,λv z=>by rw[d] at z;cases z⟩
 keep:=λi h h' st k=>by
  obtain⟨hi,o,e,c,d⟩:=st
  exact⟨hi,o,k it (by simp) o e,c,d⟩
 item:=by
  intro X hP hw hK hc i pins s σ H E I hf st hg
  subst hP hw hK
  obtain⟨f0,f1,f2,f3,f4,f5⟩:=hf it (by simp)
  refine(W X.A (I.ok.hd hc)).item i s _ _ hg st.2 λv h' tk hv st' kk=>?_
  obtain⟨c,u,hcc,rfl⟩:=hv
  have I1:Inv X pins σ H { s with heap:=h',toks:=tk }:=I.turned (λb o hb e=>kk b o (by simpa using hb) e) f0 f1 f3 f4 f5
  obtain⟨o,e,oc,od⟩:=id st'
  exact⟨_,rfl,mO (s:={ s with heap:=h',toks:=tk }) e oc od hn ⟨.str ⟨#[c]⟩,H,I1,⟨u,rfl⟩,⟨rfl,c,hcc,rfl⟩,⟨hg,st'⟩,λb hb=>(hf b hb).1⟩⟩
 done:=by
  intro X hP hw hK hc i pins s σ H E I hf st hg
  subst hP hw hK
  obtain⟨f0,f1,f2,f3,f4,f5⟩:=hf it (by simp)
  have e:i=x.cps.size:=Nat.le_antisymm st.1 hg
  subst e
  exact(W X.A (I.ok.hd hc)).done s _ _ st.2 λh' tk eb=>⟨rfl,I.turned (λb o hb e=>eb b o (by simpa using hb) e) f0 f1 f3 f4 f5⟩
 self:=λA i s Q E st h=>S A i s Q E st.2 h
theorem aFU{X:Cx}{tg l:Expr}{tl:TE}(hl:PE X l tl):PI X tg l (λσ H R=>tl σ H λx H1=>(∃a,x=.ref a/\(((∃xs,SqL X.K H1 a xs)/\R (Itl X.K a) H1)\/((∃xs,SqT X.K H1 a xs)/\R (Itt X.K a) H1)))\/∃z,x=.str z/\R (Its z) H1):=by
 intro pins s σ H R I h
 refine thn (hl pins s σ H _ I h) λv s1 ⟨x,H1,I1,r1,q1⟩=>?_
 rcases q1 with⟨a,e,q⟩|⟨z,e,q⟩
 . subst e
   cases r1
   rcases q with⟨⟨xs,hq⟩,q⟩|⟨⟨xs,hq⟩,q⟩
   . obtain⟨its,rv,p,hz⟩:=I1.list hq
     refine wpAny_pyIter_list p.isList ?_
     refine⟨s1.heap.objs.size,[s1.heap.objs.size],_,_,H1,rfl,I1.kept (t':=s1.toks) λb o e=>Heap.get?_push_of_some _ e,yZ a _,⟨_,Heap.get?_push_size _ rfl,rfl,rfl⟩,λb hb=>?_,q⟩
     have e:b=s1.heap.objs.size:=by simpa using hb
     subst e
     exact I1.fpOk (Nat.le_refl _) (I1.hok.fresh (Nat.le_refl _))
   . obtain⟨its,rv,p,hz⟩:=I1.tuple hq
     refine wpAny_pyIter_tuple (show s1.heap.IsTuple a its.toArray from p) ?_
     refine⟨s1.heap.objs.size,[s1.heap.objs.size],_,_,H1,rfl,I1.kept (t':=s1.toks) λb o e=>Heap.get?_push_of_some _ e,vA a _,⟨_,Heap.get?_push_size _ rfl,rfl,rfl⟩,λb hb=>?_,q⟩
     have e:b=s1.heap.objs.size:=by simpa using hb
     subst e
     exact I1.fpOk (Nat.le_refl _) (I1.hok.fresh (Nat.le_refl _))
 . subst e
   obtain⟨t,rfl⟩:=r1
   cases ha:z.cps.all (·<128) with
   | false=>
    refine wpAny_pyIter_wide ha ⟨s1.heap.objs.size,[s1.heap.objs.size],_,_,H1,rfl,I1.kept (t':=s1.toks) λb o e=>Heap.get?_push_of_some _ e,tL (ty:= "str_iterator") (x:=z) (t:=t) (by decide) (λA' hA=>Walks.strWide hA _ z t) (λA i s Q E st h=>wpAny_pyIter_striter_wide st h),⟨Nat.zero_le _,_,Heap.get?_push_size _ rfl,rfl,rfl⟩,λb hb=>?_,q⟩
    have e:b=s1.heap.objs.size:=by simpa using hb
    subst e
    exact I1.fpOk (Nat.le_refl _) (I1.hok.fresh (Nat.le_refl _))
   | true=>
    refine wpAny_pyIter_ascii ha ⟨s1.heap.objs.size,[s1.heap.objs.size],_,_,H1,rfl,I1.kept (t':=s1.toks) λb o e=>Heap.get?_push_of_some _ e,tL (ty:= "str_ascii_iterator") (x:=z) (t:=t) (by decide) (λA' hA=>Walks.strAscii hA _ z t) (λA i s Q E st h=>wpAny_pyIter_striter_ascii st h),⟨Nat.zero_le _,_,Heap.get?_push_size _ rfl,rfl,rfl⟩,λb hb=>?_,q⟩
    have e:b=s1.heap.objs.size:=by simpa using hb
    subst e
    exact I1.fpOk (Nat.le_refl _) (I1.hok.fresh (Nat.le_refl _))
section
variable {prog:Program} {w:World} {A:Around} {E:Value->Shared->Prop} {s:Shared}
theorem aBD{k:Bool}{e it l:Addr}{i:Nat}{xs:Array Value}{x old:Value}{Q:Value->Shared->Prop}(he:IsEnum s.heap e it i old)(hit:cY k s.heap it l i)(hl:eC k s.heap l xs)(hx:xs[i]? = some x)(hne:e≠it)
 (hQ:∀h',IsEnumOut h' e it ((i:Int)+1) x s.heap.objs.size->cY k h' it l (i+1)->h'.get? s.heap.objs.size=some { cls:=.type "tuple",data:=.seq #[.int i s.toks,x] }->h'.objs.size=s.heap.objs.size+1 ->
  (∀b o,b≠e->b≠it->s.heap.get? b=some o->h'.get? b=some o)->Q (.ref s.heap.objs.size) { s with heap:=h',toks:=s.toks+1 }) :
 wpAny (model prog w) A (Builtin.«enumerate.__next__» ⟨[.ref e],[]⟩) (λfin s'=>∃v,fin=.done (.ret v)/\Q v s') E s:=by
 obtain⟨hp,g,d,tk,os⟩:=s
 refine wpAny_bind (m:=field (.ref e) 2) (wpAny_field he rfl (x:=.ref it) rfl (wpAny_bind (fV hit hl hx λh1 i1 s1=>?_)))
 have s1:Heap.SameBut it hp h1:=s1
 have e1:IsEnum h1 e it i old:=(s1.2 e hne).trans he
 refine wpAny_bind (m:=field (.ref e) 3) (wpAny_field e1 rfl (x:=rawInt i) rfl (wpAny_bind (m:=field (.ref e) 4) (wpAny_field e1 rfl (x:=.none) rfl (wpAny_bind (m:=mkInt i) (wpAny_mkInt ?_)))))
 refine wpAny_bind (m:=setField (.ref e) 3 (rawInt ((i:Int)+1))) (s:=⟨h1,g,d,tk+1,os⟩) (wpAny_setField_rec e1 (by simp) λh2 e2 s2=>?_)
 have s2:Heap.SameBut e h1 h2:=s2
 have e2:IsEnum h2 e it ((i:Int)+1) old:=e2
 refine wpAny_bind (m:=setField (.ref e) 4 .none) (s:=⟨h2,g,d,tk+1,os⟩) (wpAny_setField_rec e2 (by simp) λh3 e3 s3=>?_)
 have s3:Heap.SameBut e h2 h3:=s3
 have e3:IsEnum h3 e it ((i:Int)+1) old:=e3
 refine wpAny_bind (m:=newTuple [.int i tk,x]) (s:=⟨h3,g,d,tk+1,os⟩) (wpAny_newTuple ?_)
 have e4:IsEnum (h3.push { cls:=.type "tuple",data:=.seq #[.int i tk,x] }) e it ((i:Int)+1) old:=Heap.get?_push_of_some _ e3
 generalize q4:h3.push { cls:=.type "tuple",data:=.seq #[.int i tk,x] }=h4 at e4
 have z3:h3.objs.size=hp.objs.size:=by rw[s3.1,s2.1,s1.1]
 have lt:e<hp.objs.size:=Heap.lt_size he
 have t4:h4.get? hp.objs.size=some { cls:=.type "tuple",data:=.seq #[.int i tk,x] }:=by rw[<-q4,<-z3];exact Heap.get?_push_size _ rfl
 have z4:h4.objs.size=hp.objs.size+1:=by rw[<-q4,Heap.size_push,z3]
 have k4:∀b o,b≠e->b≠it->hp.get? b=some o->h4.get? b=some o:=λb o n1 n2 hb=>by
  rw[<-q4];exact Heap.get?_push_of_some _ (s3.extBut b o n1 (s2.extBut b o n1 (s1.extBut b o n2 hb)))
 have i4:cY k h4 it l (i+1):=i1.at λo ho=>by rw[<-q4];exact Heap.get?_push_of_some _ (s3.extBut _ _ hne.symm (s2.extBut _ _ hne.symm ho))
 rw[z3]
 refine wpAny_bind (m:=Builtin.SmallTypes.ownedTupleIsFree (.ref e)) (s:=⟨h4,g,d,tk+1,os⟩) ?_
 unfold Builtin.SmallTypes.ownedTupleIsFree
 refine wpAny_bind (wpAny_field e4 rfl (x:=.none) rfl (wpAny_pure ?_))
 simp only[if_true]
 refine wpAny_bind (wpAny_rule (wpAny_bind (wpAny_field e4 rfl (x:=old) rfl (wpAny_bind (wpAny_setField_rec e4 (by simp) λh5 e5 s5=>?_)))))
 have s5:Heap.SameBut e h4 h5:=s5
 have e5:IsEnum h5 e it ((i:Int)+1) x:=e5
 refine wpAny_bind (m:=Builtin.SmallTypes.ownedTupleHandOut (.ref e) (.ref hp.objs.size)) (s:=⟨h5,g,d,tk+1,os⟩) ?_
 unfold Builtin.SmallTypes.ownedTupleHandOut
 refine wpAny_bind (wpAny_setField_rec e5 (by simp) λh6 e6 s6=>?_)
 have s6:Heap.SameBut e h5 h6:=s6
 have e6:IsEnumOut h6 e it ((i:Int)+1) x hp.objs.size:=e6
 refine wpAny_setField_rec e6 (by simp) λh7 e7 s7=>?_
 have s7:Heap.SameBut e h6 h7:=s7
 have e7:IsEnumOut h7 e it ((i:Int)+1) x hp.objs.size:=e7
 have up:∀b o,b≠e->h4.get? b=some o->h7.get? b=some o:=λb o n hb=>s7.extBut _ _ n (s6.extBut _ _ n (s5.extBut _ _ n hb))
 exact wpAny_bind (wpAny_letGo (wpAny_pure ⟨_,rfl,hQ h7 e7 (i4.at λo ho=>up _ _ hne.symm ho) (up _ _ (Nat.ne_of_gt lt) t4) (by rw[s7.1,s6.1,s5.1,z4]) λb o n1 n2 hb=>up b o n1 (k4 b o n1 n2 hb)⟩))
theorem tM{k:Bool}{e it l:Addr}{i:Nat}{xs:Array Value}{x old:Value}{Q:Option Value->Shared->Prop}(he:IsEnum s.heap e it i old)(hit:cY k s.heap it l i)(hl:eC k s.heap l xs)(hx:xs[i]? = some x)(hne:e≠it)
 (hQ:∀h',IsEnumOut h' e it ((i:Int)+1) x s.heap.objs.size->cY k h' it l (i+1)->h'.get? s.heap.objs.size=some { cls:=.type "tuple",data:=.seq #[.int i s.toks,x] }->h'.objs.size=s.heap.objs.size+1 ->
  (∀b o,b≠e->b≠it->s.heap.get? b=some o->h'.get? b=some o)->Q (some (.ref s.heap.objs.size)) { s with heap:=h',toks:=s.toks+1 }):wpAny (model prog w) A (pyNext (.ref e)) Q E s:=by
 have T:s.TypeIs (.ref e) "enumerate" := ⟨_,he,rfl⟩
 unfold pyNext
 exact wpAny_bind (wpAny_attempt (wpAny_callSpecial?_slot (name:=Str.ofString "__next__") T F.slot_enumerate_next (wpAny_call_entry F.slot_enumerate_next T F.entry_enumerate_next (aBD he hit hl hx hne λh' a b c d k=>wpAny_pure (hQ h' a b c d k)) (F.args_enumerate_next_1 _))))
theorem vW{k:Bool}{e it l:Addr}{i:Nat}{xs:Array Value}{old:Value}{Q:Option Value->Shared->Prop}(hh:A.handled=none)(he:IsEnum s.heap e it i old)(hit:cY k s.heap it l i)(hl:eC k s.heap l xs)(hx:xs[i]? = none)
 (hQ:∀h',Heap.ExtBut it s.heap h'->Q none { s with heap:=h' }):wpAny (model prog w) A (pyNext (.ref e)) Q E s:=by
 have T:s.TypeIs (.ref e) "enumerate" := ⟨_,he,rfl⟩
 unfold pyNext
 refine wpAny_bind (wpAny_attempt (wpAny_callSpecial?_slot (name:=Str.ofString "__next__") T F.slot_enumerate_next (wpAny_call_entry F.slot_enumerate_next T F.entry_enumerate_next ?_ (F.args_enumerate_next_1 _))))
 refine wpAny_bind (m:=field (.ref e) 2) (wpAny_field he rfl (x:=.ref it) rfl (wpAny_bind (jN hh hit hl hx λh' x g ⟨o,ho,hc⟩=>?_)))
 exact wpAny_bind (wpAny_isInstance (T:= "StopIteration") (b:=true) ⟨o,ho,hc⟩ isSubtype_stop (wpAny_pure (hQ _ g)))
end
def aBE(it:Addr):Obj:={ cls:=.type "enumerate",data:=.fields #[.none,.bool false,.ref it,rawInt 0,.none,.none] }
theorem aAa(k:Bool)(l:Addr)(xs:Array Value)(ol:Obj):Meets (Builtin.«enumerate.__new__» ⟨[.type "enumerate",.ref l],[]⟩) (λ_ R s=>s.heap.get? l=some ol/\eC k s.heap l xs /\
 R (.ok (.ret (.ref (s.heap.push (gY k l)).objs.size))) { s with heap:=(s.heap.push (gY k l)).push (aBE s.heap.objs.size) }):=
 .of_wp λprog w A R s h=>by
  obtain⟨hp,g,d,tk,os⟩:=s;obtain⟨ho,hl,h⟩:=h
  have hsub:=sub_enumerate
  have hL:eC k (Shared.heap ⟨hp,g,d,tk,os⟩) l xs:=hl
  wp_walk using PySem.AutoSeq1.wpAny_loadPart' ho
  refine wpAny_stack_any λst=>wpAny_pure ?_
  split
  . rename_i c _ _ _ _ _
    cases(c==Value.type "enumerate") <;> (wp_walk using PySem.AutoSeq1.wpAny_loadPart' ho,iO hL;exact⟨_,rfl,h⟩)
  . wp_walk using PySem.AutoSeq1.wpAny_loadPart' ho,iO hL
    exact⟨_,rfl,h⟩
theorem aBF{prog:Program}{w:World}{A:Around}{E:Value->Shared->Prop}{s:Shared}{k:Bool}{l:Addr}{xs:Array Value}{Q:Value->Shared->Prop}(hl:eC k s.heap l xs)
 (h:∀h',IsEnum h' (s.heap.objs.size+1) s.heap.objs.size 0 .none->cY k h' s.heap.objs.size l 0->(∀b o,s.heap.get? b=some o->h'.get? b=some o)->Q (.ref (s.heap.objs.size+1)) { s with heap:=h' }) :
 wpAny (model prog w) A (call (.type "enumerate") [.ref l]) Q E s:=by
 obtain⟨ol,ho⟩:∃ol,s.heap.get? l=some ol:=by
  cases k with
  | true=>obtain⟨o,e,_⟩:=hl;exact⟨o,e⟩
  | false=>obtain⟨o,e,_⟩:=hl;exact⟨o,e⟩
 refine callType_new F.called_enumerate (by decide) (F.typeCall_enumerate_1 _) (F.newCall_enumerate_1 _) (λobj=>F.args_object_init_2 obj _) F.entry_enumerate_new (aAa k l xs ol) ⟨ho,hl,?_⟩
 have z:(s.heap.push (gY k l)).objs.size=s.heap.objs.size+1:=Heap.size_push ..
 have nf:(gY k l).isFreed=false:=by cases k <;> rfl
 have g2:((s.heap.push (gY k l)).push (aBE s.heap.objs.size)).get? (s.heap.push (gY k l)).objs.size=some (aBE s.heap.objs.size):=Heap.get?_push_size _ rfl
 show _/\_
 rw[z] at g2 ⊢
 exact⟨⟨_,g2,rfl⟩,h _ g2 (nI (Heap.get?_push_of_some _ (Heap.get?_push_size _ nf))) λb o x=>Heap.get?_push_of_some _ (Heap.get?_push_of_some _ x)⟩
def Ite(K:PySem.W.Frag)(k:Bool)(a:Addr):It:=
 ⟨λi H=>∃xs x,Sq k K H a xs/\xs[i]? = some x,
  λi H v H'=>∃p x,v=.ref p/\H p=none/\K.lookup p=none/\H'=upd H p (.tup [.int i,x])/\∀xs,Sq k K H a xs->xs[i]? = some x,
  λi H=>∃xs,Sq k K H a xs/\xs.length<=i⟩
theorem aDF{P:Program}{w:World}{K:PySem.W.Frag}{k:Bool}{elts:List Expr}{tk:Nat}{tp:Pos}{e it a:Addr}(ne:e≠it) :
 sJ P w K (.Tuple elts tk tp) (Ite K k a) [e,it] e (λi h=>(∃old,IsEnum h e it i old)/\cY k h it a i) where
 mem:=by simp
 obj:=λi h st c hc=>by
  obtain⟨⟨old,he⟩,h1⟩:=st
  have hc':c=e\/c=it:=by simpa using hc
  rcases hc' with rfl|rfl
  . exact⟨_,he,λv z=>by cases(show Data.fields _=Data.cell v from z)⟩
  . exact h1.obj
 keep:=λi h h' st kp=>by
  obtain⟨⟨old,he⟩,h1⟩:=st
  exact⟨⟨old,kp e (by simp) _ he⟩,h1.at λo q=>kp it (by simp) o q⟩
 item:=by
  intro X hP hw hK hc i pins s σ H E I hf st hg
  subst hP hw hK
  obtain⟨⟨old,he⟩,h1⟩:=st
  obtain⟨xs,x,ha,hx⟩:=hg
  obtain⟨as,ra,pa,_⟩:=I.sq ha
  obtain⟨ux,hux,rx⟩:=ra.get hx
  refine tM he h1 pa (x:=ux) (by simpa using hux) ne λh' a1 a2 a3 a4 hk=>?_
  refine⟨_,rfl,wpAny_letOwnedTupleGo_enum (s:={ s with heap:=h',toks:=s.toks+1 }) a1 λh'' e' hs'=>?_⟩
  have lt:s.heap.objs.size≠e:=Nat.ne_of_gt (Heap.lt_size he)
  have hk2:∀c o,c∉[e,it]->s.heap.get? c=some o->h''.get? c=some o:=λc o hc q=>by
   have hc':c≠e/\c≠it:=by simpa using hc
   exact hs'.extBut _ _ hc'.1 (hk c o hc'.1 hc'.2 q)
  have t1:cY k h'' it a (i+1):=a2.at λo q=>hs'.extBut _ _ ne.symm q
  have tT:h''.get? s.heap.objs.size=some { cls:=.type "tuple",data:=.seq #[.int i s.toks,ux] }:=hs'.extBut _ _ lt a3
  have hn:H s.heap.objs.size=none:=I.fresh
  have I1:Inv X pins σ (upd H s.heap.objs.size (.tup [.int i,x])) { s with heap:=h'',toks:=s.toks+1 }:=by
   refine I.turnsNew (t':=s.toks+1) hf hk2 (λc hc=>?_) (Nat.le_refl _) ⟨by show 2<=sizeLine;rw[sizeLine_eq];decide,[.int i s.toks,ux],.cons ⟨_,rfl⟩ (.cons rx .nil),_,tT,rfl,_,rfl⟩
   have hc':c=e\/c=it:=by simpa using hc
   rcases hc' with rfl|rfl
   . exact⟨_,e'⟩
   . obtain⟨o,q,_⟩:=t1.obj;exact⟨o,q⟩
  refine⟨.ref s.heap.objs.size,_,I1,rfl,⟨_,x,rfl,hn,I.newK,rfl,λxs' ha'=>?_⟩,⟨⟨_,e'⟩,t1⟩,λc hc=>?_⟩
  . rw[I.sq_inj ha' ha]
    exact hx
  . rw[aN (Nat.ne_of_lt ?_)]
    . exact(hf c hc).1
    . have hc':c=e\/c=it:=by simpa using hc
      rcases hc' with rfl|rfl
      . exact Heap.lt_size he
      . obtain⟨o,q,_⟩:=h1.obj;exact Heap.lt_size q
 done:=by
  intro X hP hw hK hc i pins s σ H E I hf st hg
  subst hP hw hK
  obtain⟨⟨old,he⟩,h1⟩:=st
  obtain⟨xs,ha,hend⟩:=hg
  obtain⟨as,ra,pa,_⟩:=I.sq ha
  have la:=ra.length
  refine vW (I.ok.hd hc) he h1 pa (by simp;omega) λh' hk=>⟨rfl,I.turns (t':=s.toks) hf λc o hc q=>hk c o ?_ q⟩
  have hc':c≠e/\c≠it:=by simpa using hc
  exact hc'.2
 self:=λ_ _ _ _ _ st h=>let ⟨_,q⟩:=st.1;wpAny_pyIter_enum q h
def iEn(K:PySem.W.Frag)(ta:TA):TI:=λσ H R=>ta σ H λvs H1=>∃(k:Bool) (a:Addr) (xs:List V),vs=[.ref a]/\Sq k K H1 a xs/\R (Ite K k a) H1
theorem aAb:bootBuiltins "enumerate" = some (.type "enumerate"):=by kernel_rfl
theorem aDG{X:Cx}{a:Expr}{ta:TA}{p pos:Pos}{elts:List Expr}{tk:Nat}{tp:Pos}(hg:Gl X "enumerate")(hm:X.mg "enumerate" = none)(ha:PA X [a] ta)(hs:starEach [a] X.env=[(false,eval a X.env)]) :
 PI X (.Tuple elts tk tp) (.Call (.Name "enumerate" p) [a] [] pos) (iEn X.K ta):=by
 intro pins s σ H R I h
 refine Call_ (hU I hg hm aAb (PyProof.Rows.callWith_type1 (thn (ha pos pins s σ H _ I h) λus s1 ⟨vs,H1,I1,r1,q1⟩=>?_) (by rw[hs];rfl) rfl))
 obtain⟨k,a1,xs,e,q1,q⟩:=q1
 subst e
 cases r1 with
 | cons r rr=>
  cases rr
  cases r
  obtain⟨as,ra,pa,_⟩:=I1.sq q1
  refine aBF pa λh' he h1 hk=>wpAny_pyIter_enum (s:={ s1 with heap:=h' }) he ?_
  refine⟨s1.heap.objs.size+1,_,_,_,H1,rfl,I1.kept (t':=s1.toks) hk,aDF (Nat.succ_ne_self _),⟨⟨_,he⟩,h1⟩,λc hc=>?_,q⟩
  have hc':c=s1.heap.objs.size+1\/c=s1.heap.objs.size:=by simpa using hc
  have hle:s1.heap.objs.size<=c:=by rcases hc' with rfl|rfl <;> omega
  exact I1.fpOk hle (I1.hok.fresh hle)
abbrev aFV(h:Heap)(z TI TO:Addr)(f0:Value)(f1:Bool):Prop:=
 h.get? z=some { cls:=.type "zip",dict:=none,data:=.fields #[f0,.bool f1,.bool false,.ref TI,.ref TO],slots:=#[] }
section
variable {prog:Program} {w:World} {A:Around} {E:Value->Shared->Prop} {s:Shared}
end
structure aLs (ka kb:Bool) (z TI TO i1 i2 l1 l2 S:Nat) (xs ys:Array Value) (i:Nat) (h:Heap) (acc:Array Value) (c:Nat):Prop where
 zip:(i=0/\IsZip h z TI TO .none/\∃u v,IsPair h TO u v)\/∃(t:Nat) (f:Bool) (ot:Obj),aFV h z TI TO (rawInt t) f/\h.get? t=some ot/\t≠z/\t≠i1/\t≠i2/\t≠S
 TI:IsPair h TI (.ref i1) (.ref i2)
 i1:cY ka h i1 l1 i
 i2:cY kb h i2 l2 i
 l1:eC ka h l1 xs
 l2:eC kb h l2 ys
 lst:h.get? S=some { cls:=.type "list",dict:=none,data:=.seq acc c,slots:=#[] }
 size:h.objs.size=S+1+i
 acc:acc=((List.range i).map λj=>Value.ref (S+1+j)).toArray
 pair:∀j,j<i->∃x y,xs[j]? = some x/\ys[j]? = some y/\IsPair h (S+1+j) x y
section
variable {prog:Program} {w:World} {A:Around} {s:Shared} {R:Result->Shared->Prop}
variable {ka kb:Bool} {z TI TO i1 i2 l1 l2 S:Nat} {xs ys:Array Value}
end
section
variable {prog:Program} {w:World} {A:Around} {E:Value->Shared->Prop} {s:Shared} {R:Result->Shared->Prop}
variable {ka kb:Bool} {z TI TO i1 i2 l1 l2:Nat} {xs ys:Array Value}
structure vX (ka kb:Bool) (z TI TO i1 i2 l1 l2:Nat) (xs ys:Array Value) (h:Heap):Prop where
 zip:IsZip h z TI TO .none
 TI:IsPair h TI (.ref i1) (.ref i2)
 TO:∃u v,IsPair h TO u v
 i1:cY ka h i1 l1 0
 i2:cY kb h i2 l2 0
 l1:eC ka h l1 xs
 l2:eC kb h l2 ys
theorem vX.at{h h':Heap}(Z:vX ka kb z TI TO i1 i2 l1 l2 xs ys h)(k:∀b o,b=z\/b=TI\/b=TO\/b=i1\/b=i2\/b=l1\/b=l2->h.get? b=some o->h'.get? b=some o):vX ka kb z TI TO i1 i2 l1 l2 xs ys h' where
 zip:=k _ _ (by simp) Z.zip
 TI:=k _ _ (by simp) Z.TI
 TO:=let ⟨u,v,q⟩:=Z.TO;⟨u,v,k _ _ (by simp) q⟩
 i1:=Z.i1.at λo e=>k _ _ (by simp) e
 i2:=Z.i2.at λo e=>k _ _ (by simp) e
 l1:=Z.l1.at λo e=>k _ _ (by simp) e
 l2:=Z.l2.at λo e=>k _ _ (by simp) e
end
section
variable {X:Cx} {pins:List (Addr×Obj)} {σ:St} {H H':Hp} {s:Shared} {h':Heap}
structure Lz (H H':Hp) (l:Nat) (xs ys:List V):Prop where
 same:∀b u,H b=some u->H' b=some u
 free:H l=none
 lst:H' l=some (.lst ((List.range (min xs.length ys.length)).map λj=>.ref (l+1+j)))
 pair:∀(j:Nat) (x y:V),xs[j]? = some x->ys[j]? = some y->H' (l+1+j)=some (.tup [x,y])
end
end L2
end
noncomputable section
namespace Hp
open PySem PySem.Spec PyProof.Rows L2
theorem Kp.refl(R:Addr->Prop)(H:Hp):Kp R H H:=λ_ _ h _=>h
theorem Kp.same{R:Addr->Prop}{H H':Hp}(s:bG H H'):Kp R H H':=λa o h _=>s a o h
section
variable {K:Fg} {RT Y old R:Addr->Prop} {σ:Sg} {σV:L2.St} {H H':Hp}
theorem Kp.seqL(k:Kp R H H'){a:Addr}{xs:List V}(n:¬ R a)(h:SqL K H a xs):SqL K H' a xs:=by
 rcases h with(h|⟨o,h⟩)|h
 . exact .inl (.inl (k _ _ h n))
 . exact .inl (.inr ⟨o,k _ _ h n⟩)
 . exact .inr h
theorem Kp.seqT(k:Kp R H H')(hR:∀a,R a->RtO H a){a:Addr}{xs:List V}(h:SqT K H a xs):SqT K H' a xs:=by
 have no:∀{o:HO},H a=some o->(∀ys,o≠.lst ys)->(∀φ,o≠.ext φ)->¬ R a:=λ{o} e n1 n2 z=>by
  rcases hR a z with⟨ys,e'⟩|⟨ys,e'⟩
  . rw[e] at e';cases e';exact n1 _ rfl
  . rw[e] at e';cases e';exact n2 _ rfl
 rcases h with(h|⟨o,h⟩)|h
 . exact .inl (.inl (k _ _ h (no h (λ_ z=>by cases z) λ_ z=>by cases z)))
 . exact .inl (.inr ⟨o,k _ _ h (no h (λ_ z=>by cases z) λ_ z=>by cases z)⟩)
 . exact .inr h
theorem Reps.kp{ex:Addr->Prop}{ds:List D}{xs:List V}(r:Reps K H ex ds xs)(k:Kp R H H')(hR:∀a,R a->RtO H a)(hx:∀a,R a->ex a):Reps K H' ex ds xs:=
 r.keep λa o e hl hn=>k a o e λz=>by
  rcases hR a z with⟨ys,e'⟩|⟨ys,e'⟩
  . rw[e] at e'
    cases e'
    exact hl ys rfl (hx a z)
  . rw[e] at e'
    cases e'
    exact hn _ rfl
theorem Rep.kp{ex:Addr->Prop}{d:D}{x:V}(r:Rep K H ex d x)(k:Kp R H H')(hR:∀a,R a->RtO H a)(hx:∀a,R a->ex a):Rep K H' ex d x:=
 r.keep λa o e hl hn=>k a o e λz=>by
  rcases hR a z with⟨ys,e'⟩|⟨ys,e'⟩
  . rw[e] at e'
    cases e'
    exact hl ys rfl (hx a z)
  . rw[e] at e'
    cases e'
    exact hn _ rfl
def rtF(RT:Addr->Prop)(σ:Sg)(σV:L2.St)(al:List Nat)(a:Addr):Prop:=RT a/\¬ alR σ σV al a
theorem eS:∀(al:List Nat) (σ:Sg) (i:Nat),(freeze σ al)[i]? = (σ[i]?).map λs=>if i∈al then s.freeze else s
 | [],σ,i=>by cases q:σ[i]? <;> simp[freeze,q]
 | j::al,σ,i=>by
  rw[freeze,eS al]
  cases qj:σ[j]? with
  | none=>
   simp only
   cases q:σ[i]? with
   | none=>rfl
   | some s=>
    have hne:i≠j:=λe=>by subst e;rw[q] at qj;cases qj
    simp[hne]
  | some sj=>
   simp only
   by_cases hij:i=j
   . subst hij
     have hl:i<σ.length:=(List.getElem?_eq_some_iff.mp qj).1
     rw[List.getElem?_set_self hl,qj]
     simp only[Option.map_some,List.mem_cons,true_or,if_true]
     split
     . cases sj <;> rfl
     . rfl
   . rw[List.getElem?_set_ne (Ne.symm hij)]
     simp[hij]
theorem nJ:∀(al:List Nat) (σ:Sg),(freeze σ al).length=σ.length
 | [],σ=>rfl
 | j::al,σ=>by
  rw[freeze,nJ al]
  split
  . rw[List.length_set]
  . rfl
theorem freeze_sh{al:List Nat}{i:Nat}{pa:Bool}{d:D}(h:(freeze σ al)[i]? = some (.sh pa d)):σ[i]? = some (.sh pa d)\/∃ds,i∈al/\σ[i]? = some (.own pa ds)/\d=.lst ds:=by
 rw[eS] at h
 cases q:σ[i]? with
 | none=>rw[q] at h;cases h
 | some s=>
  rw[q] at h
  have h:(if i∈al then s.freeze else s)=.sh pa d:=Option.some.inj h
  split at h
  . rename_i hi
    cases s with
    | dead=>cases h
    | sh pa' d'=>cases h;exact .inl rfl
    | own pa' ds'=>cases h;exact .inr ⟨ds',hi,rfl,rfl⟩
    | dct _=>cases h
    | par _ _=>cases h
  . exact .inl (by rw[h])
theorem eU{al:List Nat}{i:Nat}{pa:Bool}{ds:List D}(h:(freeze σ al)[i]? = some (.own pa ds)):σ[i]? = some (.own pa ds)/\i∉al:=by
 rw[eS] at h
 cases q:σ[i]? with
 | none=>rw[q] at h;cases h
 | some s=>
  rw[q] at h
  have h:(if i∈al then s.freeze else s)=.own pa ds:=Option.some.inj h
  split at h
  . cases s <;> cases h
  . rename_i hi
    exact⟨by rw[h],hi⟩
theorem vY{al:List Nat}{i:Nat}{ds:List (NK×D)}(h:(freeze σ al)[i]? = some (.dct ds)):σ[i]? = some (.dct ds):=by
 rw[eS] at h
 cases q:σ[i]? with
 | none=>rw[q] at h;cases h
 | some s=>
  rw[q] at h
  have h:(if i∈al then s.freeze else s)=.dct ds:=Option.some.inj h
  split at h
  . cases s with
    | dct d=>exact congrArg some h
    | _=>cases h
  . rw[h]
theorem vZ{al:List Nat}{i:Nat}{ds es:List D}(h:(freeze σ al)[i]? = some (.par ds es)):σ[i]? = some (.par ds es):=by
 rw[eS] at h
 cases q:σ[i]? with
 | none=>rw[q] at h;cases h
 | some s=>
  rw[q] at h
  have h:(if i∈al then s.freeze else s)=.par ds es:=Option.some.inj h
  split at h
  . cases s with
    | par d e=>exact congrArg some h
    | _=>cases h
  . rw[h]
theorem Sx.frz(S:Sx K RT Y old σ σV H)(al:List Nat):Sx K (rtF RT σ σV al) Y old (freeze σ al) σV H where
 sh:=λi pa d h=>by
  rcases freeze_sh h with h|⟨ds,hi,ho,e⟩
  . obtain⟨v,h1,h2⟩:=S.sh i pa d h
    exact⟨v,h1,h2.weak λa z=>z.elim (λz=>.inl z.1) .inr⟩
  . subst e
    obtain⟨a,xs,h1,h2,h3,h4,h5⟩:=S.own i pa ds ho
    refine⟨.ref a,h1,a,xs,rfl,SqL.of h2,?_,h5.weak λa z=>z.elim (λz=>.inl z.1) .inr⟩
    rintro (z|z|⟨_,z⟩)
    . exact z.2 ⟨i,hi,⟨pa,ds,ho⟩,h1⟩
    . exact h4 (S.yo a z)
    . exact h4 z
 own:=λi pa ds h=>by
  obtain⟨h,hi⟩:=eU h
  obtain⟨a,xs,h1,h2,h3,h4,h5⟩:=S.own i pa ds h
  refine⟨a,xs,h1,h2,⟨h3,?_⟩,h4,h5.weak λa z=>z.elim (λz=>.inl z.1) .inr⟩
  rintro ⟨j,hj,⟨pa',ds',q⟩,q'⟩
  have:=S.inj i j pa pa' ds ds' a h q h1 q'
  subst this
  exact hi hj
 trk:=λa z=>S.trk a (z.elim (λz=>.inl z.1) .inr)
 yo:=S.yo
 tk:=S.tk
 rt:=λa z=>S.rt a z.1
 inj:=λi j pa pa' ds ds' a h1 h2 h3 h4=>S.inj i j pa pa' ds ds' a (eU h1).1 (eU h2).1 h3 h4
 len:=by rw[nJ];exact S.len
 dx:=S.dx.imp id (λ_ _ e=>⟨vY e,rfl⟩) (λ_ _ _ _ _ _ e=>e) (λa xs e z o=>⟨e,z,λ⟨j,_,⟨pa,ds,q⟩,q'⟩=>by
  obtain⟨b,ys,h1,h2,h3,h4,h5⟩:=S.own j pa ds q
  rw[q'] at h1
  cases h1
  rw[e] at h2
  cases h2⟩) (λ_ _ r=>r) (λ_ _ _ e=>⟨vZ e,rfl⟩) (λ_ _ _ _ _ _ _ _ e=>e) λp xs e z=>⟨e,⟨z.1,λ⟨j,_,⟨pa,ds,q⟩,q'⟩=>z.2.2 j pa ds q q'⟩,z.2.1,λk pa ds q=>z.2.2 k pa ds (eU q).1⟩
theorem Tk.new{p:Addr}{o:HO}(t:Tk K H)(h:K.lookup p=none):Tk K (upd H p o):=λb hb=>by
 by_cases e:b=p
 . rw[e];exact h
 . rw[aN e] at hb;exact t b hb
def Nw(K:Fg)(H:Hp)(a:Addr):Prop:=H a=none/\K.lookup a=none
theorem aDH{a:Addr}{xs:List V}(q:SqL K H a xs):¬ Nw K H a:=by
 rintro ⟨n,k⟩
 rcases q with(q|⟨o,q⟩)|⟨o,its,m,q,_⟩
 . rw[n] at q;cases q
 . rw[n] at q;cases q
 . rw[k] at q;cases q
theorem Reps.outN{ex:Addr->Prop}{d:List D}{v:List V}(h:Reps K H ex d v):Reps K H (λb=>ex b\/Nw K H b) d v:=
 Reps.imp (λ_ _ q=>q) (λb xs nb q=>⟨λz=>z.elim nb (aDH q),q⟩) (λ_ _ q=>q) d v h
theorem RvN.sub{ex:Addr->Prop}{v:Vl}{d:D}{x:V}(h:Rep K H' (λa=>exV RT Y old σ σV v.pa v.al a\/ex a) d x):Rep K H' (λa=>exV RT Y old σ σV (v.sub d).pa (v.sub d).al a\/ex a) (v.sub d).d x:=by
 unfold Vl.sub
 by_cases hn:noL d=true
 . rw[if_pos hn]
   exact Rep.free d x hn h
 . rw[if_neg hn]
   exact h
structure wB (K:Fg) (RT Y old:Addr->Prop) (σ:Sg) (σV:L2.St) (H1:Hp) (J:L2.It) (xs:List Vl) (al:List Nat):Prop where
 sub:∀v∈xs,∀j∈v.al,j∈al
 nofr:∀v∈xs,v.fr=false
 ok:∀(R:Addr->Prop),(∀b,R b->rtF RT σ σV al b)->∀(i:Nat) (H:Hp),Kp R H1 H->(i<xs.length->J.go i H)/\(xs.length<=i->J.stop i H)/\∀x H',J.yld i H x H'->∀v,xs[i]? = some v->bG H H'/\(Tk K H->Tk K H')/\Rep K H' (λa=>exV RT Y old σ σV v.pa v.al a\/Nw K H1 a) v.d x
theorem rC{v:Vl}{d:D}:∀j∈(v.sub d).al,j∈v.al:=by
 unfold Vl.sub Vl.cl
 split
 . intro j hj;cases hj
 . intro j hj;exact hj
theorem nK{v:Vl}{d:D}:(v.sub d).fr=false:=by
 unfold Vl.sub Vl.cl
 split <;> rfl
theorem iP{x:Vl}{ds:List D}{i:Nat}{v:Vl}(h:(items x ds)[i]? = some v):∃d,ds[i]? = some d/\v=x.sub d:=by
 unfold items at h
 rw[List.getElem?_map] at h
 cases q:ds[i]? with
 | none=>rw[q] at h;cases h
 | some d=>rw[q] at h;exact⟨d,rfl,(Option.some.inj h).symm⟩
theorem iC{al:List Nat}{pa:Bool}{b:Addr}(h:rtF RT σ σV al b):exV RT Y old σ σV pa al b:=.inl h
theorem lU:∀(as bs:List D),(hX as bs).length=min as.length bs.length
 | [],_=>by simp[hX]
 | _::_,[]=>by simp[hX]
 | _::as,_::bs=>by
  rw[hX,lC,lU as bs,lC,lC]
  omega
theorem tN:∀{as bs:List D} {i:Nat} {a b:D},as[i]? = some a->bs[i]? = some b->(hX as bs)[i]? = some (.tup [a,b])
 | [],_,_,_,_,h,_=>by simp at h
 | _::_,[],_,_,_,_,h=>by simp at h
 | _::_,_::_,0,_,_,h,h'=>by
  simp at h h'
  subst h h'
  rfl
 | _::as,_::bs,i+1,a,b,h,h'=>by
  have:=tN (as:=as) (bs:=bs) (i:=i) (a:=a) (b:=b) (by simpa using h) (by simpa using h')
  simpa[hX] using this
theorem aDI(S:Sx K RT Y old σ σV H){x:Vl}{ds:List D}{a:Addr}{xs:List V}(q:SqL K H a xs)(n:¬ exV RT Y old σ σV x.pa x.al a)(r:Reps K H (exV RT Y old σ σV x.pa x.al) ds xs) :
 wB K RT Y old σ σV H (Itl K a) (items x ds) x.al where
 sub:=λv hv j hj=>by
  obtain⟨d,_,e⟩:=List.mem_map.mp hv
  subst e
  exact rC j hj
 nofr:=λv hv=>by
  obtain⟨d,_,e⟩:=List.mem_map.mp hv
  subst e
  exact nK
 ok:=λR hR i H1 k=>by
  have q1:SqL K H1 a xs:=k.seqL (λz=>n (iC (hR a z))) q
  have r1:Reps K H1 (λa=>exV RT Y old σ σV x.pa x.al a\/Nw K H a) ds xs:=r.outN.kp k (λb z=>S.rt b (hR b z).1) λb z=>.inl (iC (hR b z))
  have hl:(items x ds).length=xs.length:=by unfold items;rw[lM,r.length]
  refine⟨λhi=>⟨xs,xs[i]'(by omega),q1,List.getElem?_eq_getElem (by omega)⟩,λhi=>⟨xs,q1,by omega⟩,λy H' hy v hv=>?_⟩
  obtain⟨e,hy⟩:=hy
  subst e
  obtain⟨d,hd,e⟩:=iP hv
  subst e
  obtain⟨y',hy',ry⟩:=r1.get hd
  rw[hy xs q1] at hy'
  cases hy'
  exact⟨bG.refl _,id,RvN.sub ry⟩
theorem aFW(S:Sx K RT Y old σ σV H){x:Vl}{ds:List D}{a:Addr}{xs:List V}(q:SqT K H a xs)(r:Reps K H (exV RT Y old σ σV x.pa x.al) ds xs) :
 wB K RT Y old σ σV H (Itt K a) (items x ds) x.al where
 sub:=λv hv j hj=>by
  obtain⟨d,_,e⟩:=List.mem_map.mp hv
  subst e
  exact rC j hj
 nofr:=λv hv=>by
  obtain⟨d,_,e⟩:=List.mem_map.mp hv
  subst e
  exact nK
 ok:=λR hR i H1 k=>by
  have q1:SqT K H1 a xs:=k.seqT (λb z=>S.rt b (hR b z).1) q
  have r1:Reps K H1 (λa=>exV RT Y old σ σV x.pa x.al a\/Nw K H a) ds xs:=r.outN.kp k (λb z=>S.rt b (hR b z).1) λb z=>.inl (iC (hR b z))
  have hl:(items x ds).length=xs.length:=by unfold items;rw[lM,r.length]
  refine⟨λhi=>⟨xs,xs[i]'(by omega),q1,List.getElem?_eq_getElem (by omega)⟩,λhi=>⟨xs,q1,by omega⟩,λy H' hy v hv=>?_⟩
  obtain⟨e,hy⟩:=hy
  subst e
  obtain⟨d,hd,e⟩:=iP hv
  subst e
  obtain⟨y',hy',ry⟩:=r1.get hd
  rw[hy xs q1] at hy'
  cases hy'
  exact⟨bG.refl _,id,RvN.sub ry⟩
theorem aBG{lo:Int}{m:Nat}{xs:List Vl}(hx:xs=((List.range m).map λ(k:Nat)=>Vl.cl (.int (lo+(k:Int))))):wB K RT Y old σ σV H (Itr lo m) xs [] where
 sub:=λv hv j hj=>by
  subst hx
  obtain⟨d,_,e⟩:=List.mem_map.mp hv
  subst e
  exact hj
 nofr:=λv hv=>by
  subst hx
  obtain⟨d,_,e⟩:=List.mem_map.mp hv
  subst e
  rfl
 ok:=λR hR i H1 k=>by
  have hl:xs.length=m:=by rw[hx,lM,List.length_range]
  refine⟨λhi=>(show i<m by omega),λhi=>(show m<=i by omega),λy H' hy v hv=>?_⟩
  obtain⟨e,hy⟩:=hy
  subst e hy
  subst hx
  rw[List.getElem?_map] at hv
  have hi:i<m:=by
   have:=(List.getElem?_eq_some_iff.mp (show((List.range m).map λ(k:Nat)=>Vl.cl (.int (lo+(k:Int))))[i]? = some v by rw[List.getElem?_map];exact hv)).1
   simpa using this
  rw[List.getElem?_range hi] at hv
  cases hv
  exact⟨bG.refl _,id,rfl⟩
theorem aFX{z:Str}{xs:List Vl}(hx:xs=(z.cps.toList.map λn=>Vl.cl (.str ⟨#[n]⟩))):wB K RT Y old σ σV H (Its z) xs [] where
 sub:=λv hv j hj=>by
  subst hx
  obtain⟨d,_,e⟩:=List.mem_map.mp hv
  subst e
  exact hj
 nofr:=λv hv=>by
  subst hx
  obtain⟨d,_,e⟩:=List.mem_map.mp hv
  subst e
  rfl
 ok:=λR hR i H1 k=>by
  have hl:xs.length=z.cps.size:=by rw[hx,lM,Array.length_toList]
  refine⟨λhi=>(show i<z.cps.size by omega),λhi=>(show z.cps.size<=i by omega),λy H' hy v hv=>?_⟩
  obtain⟨e,c,hc,hy⟩:=hy
  subst e hy
  subst hx
  rw[List.getElem?_map,Array.getElem?_toList,hc] at hv
  cases hv
  exact⟨bG.refl _,id,rfl⟩
theorem aFY(S:Sx K RT Y old σ σV H){ka kb:Bool}{as bs:List D}{a b:Addr}{xs ys:List V}{pa:Bool}{al:List Nat}(qa:Sq ka K H a xs)(qb:Sq kb K H b ys)(na:ka=true->¬ exV RT Y old σ σV pa al a)(nb:kb=true->¬ exV RT Y old σ σV pa al b)
 (ra:Reps K H (exV RT Y old σ σV pa al) as xs) (rb:Reps K H (exV RT Y old σ σV pa al) bs ys):wB K RT Y old σ σV H (Itz K ka kb a b) (items ⟨.non,false,pa,al⟩ (hX as bs)) al where
 sub:=λv hv j hj=>by
  obtain⟨d,_,e⟩:=List.mem_map.mp hv
  subst e
  exact rC j hj
 nofr:=λv hv=>by
  obtain⟨d,_,e⟩:=List.mem_map.mp hv
  subst e
  exact nK
 ok:=λR hR i H1 k=>by
  have keep:∀{kk:Bool} {c:Addr} {zs:List V},(kk=true->¬ exV RT Y old σ σV pa al c)->Sq kk K H c zs->Sq kk K H1 c zs:=by
   intro kk c zs nn q
   cases kk with
   | true=>exact k.seqL (λz=>nn rfl (iC (hR c z))) q
   | false=>exact k.seqT (λb z=>S.rt b (hR b z).1) q
  have qa1:=keep na qa
  have qb1:=keep nb qb
  have ra1:Reps K H1 (λa=>exV RT Y old σ σV pa al a\/Nw K H a) as xs:=ra.outN.kp k (λb z=>S.rt b (hR b z).1) λb z=>.inl (iC (hR b z))
  have rb1:Reps K H1 (λa=>exV RT Y old σ σV pa al a\/Nw K H a) bs ys:=rb.outN.kp k (λb z=>S.rt b (hR b z).1) λb z=>.inl (iC (hR b z))
  have hl:(items ⟨.non,false,pa,al⟩ (hX as bs)).length=min xs.length ys.length:=by unfold items;rw[lM,lU,ra.length,rb.length]
  have ge:∀(h1:i<xs.length) (h2:i<ys.length),True:=λ_ _=>trivial
  refine⟨λhi=>?_,λhi=>⟨xs,ys,qa1,qb1,by omega⟩,λy H' hy v hv=>?_⟩
  . have h1:i<xs.length:=by omega
    have h2:i<ys.length:=by omega
    exact⟨xs,ys,xs[i],ys[i],qa1,qb1,List.getElem?_eq_getElem h1,List.getElem?_eq_getElem h2⟩
  . obtain⟨p,x,y',rfl,hp,hk,rfl,hh⟩:=hy
    obtain⟨hx,hy⟩:=hh xs ys qa1 qb1
    obtain⟨d,hd,e⟩:=iP hv
    subst e
    obtain⟨d1,hd1,rd1⟩:=ra1.get' hx
    obtain⟨d2,hd2,rd2⟩:=rb1.get' hy
    rw[tN hd1 hd2] at hd
    cases hd
    have sm:bG H1 (upd H1 p (.tup [x,y'])):=bG.new hp
    refine⟨sm,λtk=>tk.new hk,RvN.sub (v:=⟨.non,false,pa,al⟩) ?_⟩
    exact⟨p,[x,y'],rfl,SqT.of bU,.cons (rd1.grow sm) (.cons (rd2.grow sm) .nil)⟩
theorem kC:∀(as:List D) (j:Int),(eN j as).length=as.length
 | [],_=>rfl
 | _::as,j=>by rw[eN,lC,kC as,lC]
theorem pQ:∀{as:List D} {i:Nat} {j:Int} {a:D},as[i]? = some a->(eN j as)[i]? = some (.tup [.int (j+(i:Int)),a])
 | [],_,_,_,h=>by simp at h
 | _::_,0,j,_,h=>by
  simp at h
  subst h
  simp[eN]
 | _::as,i+1,j,a,h=>by
  have:=pQ (as:=as) (i:=i) (j:=j+1) (a:=a) (by simpa using h)
  rw[eN,gS,this]
  have e:j+1+(i:Int)=j+((i+1:Nat):Int):=by omega
  rw[e]
theorem aDJ(S:Sx K RT Y old σ σV H){k:Bool}{as:List D}{a:Addr}{xs:List V}{x:Vl}(qa:Sq k K H a xs)(na:k=true->¬ exV RT Y old σ σV x.pa x.al a)(ra:Reps K H (exV RT Y old σ σV x.pa x.al) as xs) :
 wB K RT Y old σ σV H (Ite K k a) (items x (eN 0 as)) x.al where
 sub:=λv hv j hj=>by
  obtain⟨d,_,e⟩:=List.mem_map.mp hv
  subst e
  exact rC j hj
 nofr:=λv hv=>by
  obtain⟨d,_,e⟩:=List.mem_map.mp hv
  subst e
  exact nK
 ok:=λR hR i H1 kp=>by
  have qa1:Sq k K H1 a xs:=by
   cases k with
   | true=>exact kp.seqL (λz=>na rfl (iC (hR a z))) qa
   | false=>exact kp.seqT (λb z=>S.rt b (hR b z).1) qa
  have ra1:Reps K H1 (λa=>exV RT Y old σ σV x.pa x.al a\/Nw K H a) as xs:=ra.outN.kp kp (λb z=>S.rt b (hR b z).1) λb z=>.inl (iC (hR b z))
  have hl:(items x (eN 0 as)).length=xs.length:=by unfold items;rw[lM,kC,ra.length]
  refine⟨λhi=>⟨xs,xs[i]'(by omega),qa1,List.getElem?_eq_getElem (by omega)⟩,λhi=>⟨xs,qa1,by omega⟩,λy H' hy v hv=>?_⟩
  obtain⟨p,z,rfl,hp,hk,rfl,hh⟩:=hy
  obtain⟨d,hd,e⟩:=iP hv
  subst e
  obtain⟨d1,hd1,rd1⟩:=ra1.get' (hh xs qa1)
  rw[pQ hd1,Int.zero_add] at hd
  cases hd
  have sm:bG H1 (upd H1 p (.tup [.int i,z])):=bG.new hp
  refine⟨sm,λtk=>tk.new hk,RvN.sub (v:=x) ?_⟩
  exact⟨p,[.int i,z],rfl,SqT.of bU,.cons rfl (.cons (rd1.grow sm) .nil)⟩
end
section
variable {X:Cx} {P:Pg} {Γ:Ct} {n:Nat} {RT Y old:Addr->Prop} {σ:Sg} {tg:Expr}
def wI(X:Cx)(P:Pg)(n:Nat)(RT Y old:Addr->Prop)(σ:Sg)(it:Hp.It):TI:=λσV H R=>Sx X.K RT Y old σ σV H/\RE (walk P (call P n) σ it) λxs=>∀J H1,Tk X.K H1->bG H H1->wB X.K RT Y old σ σV H1 J xs.1 xs.2->R J H1
theorem nL{iter:Expr}{t t':TI}(h:PI X tg iter t)(f:∀σV H R,Tk X.K H->t' σV H R->t σV H λJ H'=>Tk X.K H'->R J H'):PI X tg iter t':=λpins s σV H R I hw=>
 thn (h pins s σV H _ I (f σV H R I.tk hw)) λv s1 h1=>thn h1 λitv s2 ⟨it,fp,tn,J,H',e,I',T,st,fo,q⟩=>⟨it,fp,tn,J,H',e,I',T,st,fo,q I'.tk⟩
theorem aIl{c:E}{e:Expr}(ha:PE X e (WE X P n RT Y old σ c)):PI X tg e (wI X P n RT Y old σ (.seq c)):=by
 refine nL (aFU ha) λσV H RR t ⟨S,h⟩=>?_
 have h:=RE.bind' (show RE (ev P (call P n) σ c >>= λx=>(match x.d with
  | .lst ds=>R.ok (items x ds,x.al)
  | .tup ds=>R.ok (items x ds,x.al)
  | .str a=>R.iff (decide (a.length<=lim)) (R.ok (a.cps.toList.map λn=>Vl.cl (.str ⟨#[n]⟩),[]))
  | _=>.bad)) _ from h)
 refine wE.one S h λx u H1 hx t1 S1 r1=>?_
 have rv:=r1.rv S
 split at hx
 . rename_i ds d1
   obtain⟨a,xs,e,q,nn,r⟩:=rv.lst d1
   exact .inl ⟨a,e,.inl ⟨⟨xs,q⟩,λt'=>hx _ _ t' r1.1 (aDI S1 q nn r)⟩⟩
 . rename_i ds d1
   obtain⟨a,xs,e,q,r⟩:=rv.tup d1
   exact .inl ⟨a,e,.inr ⟨⟨xs,q⟩,λt'=>hx _ _ t' r1.1 (aFW S1 q r)⟩⟩
 . rename_i z d1
   obtain⟨c,hx⟩:=hx.iff
   exact .inr ⟨z,rv.str d1,λt'=>hx _ _ t' r1.1 (aFX rfl)⟩
 . exact hx.elim
theorem nM(i j:Int):(fI i j).map Vl.cl=(List.range (j-i).toNat).map λ(k:Nat)=>Vl.cl (.int (i+(k:Int))):=by
 unfold fI
 rw[List.map_map]
 rfl
theorem lE{k:Int}(h:aY k=true):-(2 ^ 62)<=k/\k<2 ^ 62:=by
 unfold aY at h
 simp only[bA,decide_eq_true_eq] at h
 exact h
theorem aFZ(M:Mc X P Γ n){b:E}{e:Expr}{f:Str}{p pos:Pos}(hf:f=("range" : Str))(hg:eR Γ f=true)(ha:PE X e (WE X P n RT Y old σ b))(hp:bS e=true):PI X tg (.Call (.Name f p) [e] [] pos) (wI X P n RT Y old σ (.rng (.c (.int 0)) b)):=by
 subst hf
 refine nL (zA (M.gl hg) (M.md.blt _ (by decide +kernel)) (jM ha tK hp) (aG hp)) λσV H RR t ⟨S,h⟩=>?_
 have h:RE (ev P (call P n) σ b) λy=>RE (match (D.int 0),y.d with|.int i,.int j=>R.iff (aY i&&aY j) (R.ok ((fI i j).map Vl.cl,[]))|_,_=>.bad) _:=
  RE.bind' (show RE (ev P (call P n) σ b >>= λy=>(match (D.int 0),y.d with|.int i,.int j=>R.iff (aY i&&aY j) (R.ok ((fI i j).map Vl.cl,[]))|_,_=>.bad)) _ from h)
 refine⟨S,?_⟩
 show RE (ev P (call P n) σ b >>= λx=>evs P (call P n) σ .nil >>= λxs=>R.ok (x::xs)) _
 rw[RE.bind]
 refine h.mono λy hy=>?_
 split at hy
 . rename_i i j e1 e2
   cases e1
   obtain⟨c,hy⟩:=hy.iff
   rw[bA] at c
   have c2:=lE c.2
   intro us H1 t1 s1 r1
   obtain⟨u,r',eu,ru,hr⟩:=r1
   rw[show r'=[] from hr] at eu
   subst eu
   refine⟨j,by rw[ru.int e2],c2.1,c2.2,λt'=>hy _ _ t' s1 (aBG ?_)⟩
   rw[nM]
   simp
 . exact hy.elim
theorem aGa(M:Mc X P Γ n){a b:E}{ea eb:Expr}{f:Str}{p pos:Pos}(hf:f=("range" : Str))(hg:eR Γ f=true)(ha:PE X ea (WE X P n RT Y old σ a))(hb:PE X eb (WE X P n RT Y old σ b))(hpa:bS ea=true)(hpb:bS eb=true) :
 PI X tg (.Call (.Name f p) [ea,eb] [] pos) (wI X P n RT Y old σ (.rng a b)):=by
 subst hf
 refine nL (zB (M.gl hg) (M.md.blt _ (by decide +kernel)) (jM ha (jM hb tK hpb) hpa) (by rw[aG hpa,aG hpb];rfl) (aG hpb)) λσV H RR t ⟨S,h⟩=>?_
 have h:=RE.bind' (show RE (ev P (call P n) σ a >>= λx=>ev P (call P n) σ b >>= λy=>(match x.d,y.d with|.int i,.int j=>R.iff (aY i&&aY j) (R.ok ((fI i j).map Vl.cl,[]))|_,_=>.bad)) _ from h)
 refine⟨S,?_⟩
 show RE (ev P (call P n) σ a >>= λx=>evs P (call P n) σ (.cons b .nil) >>= λxs=>R.ok (x::xs)) _
 rw[RE.bind]
 refine h.mono λx hx=>?_
 rw[RE.bind]
 show RE (ev P (call P n) σ b >>= λx=>evs P (call P n) σ .nil >>= λxs=>R.ok (x::xs)) _
 rw[RE.bind]
 refine(RE.bind' hx).mono λy hy=>?_
 split at hy
 . rename_i i j e1 e2
   obtain⟨c,hy⟩:=hy.iff
   rw[bA] at c
   have c1:=lE c.1
   have c2:=lE c.2
   intro us H1 t1 s1 r1
   obtain⟨u,r',eu,ru,u2,r2,eu2,ru2,hr⟩:=r1
   rw[show r2=[] from hr] at eu2
   subst eu2
   subst eu
   refine⟨i,j,by rw[ru.int e1,ru2.int e2],⟨c1.1,c1.2,c2.1,c2.2⟩,λt'=>hy _ _ t' s1 (aBG ?_)⟩
   rw[nM]
 . exact hy.elim
theorem wC{σV:L2.St}{H:Hp}{x:Vl}{u:V}{ds:List D}(hx:Rv X.K RT Y old σ σV H x u)(h:fS x.d=some ds):∃(k:Bool) (a:Addr) (xs:List V),u=.ref a/\Sq k X.K H a xs/\(k=true->¬ exV RT Y old σ σV x.pa x.al a)/\Reps X.K H (exV RT Y old σ σV x.pa x.al) ds xs:=by
 unfold fS at h
 split at h
 . rename_i ds' d1
   cases h
   obtain⟨a,xs,e,q,nn,r⟩:=hx.lst d1
   exact⟨true,a,xs,e,q,λ_=>nn,r⟩
 . rename_i ds' d1
   cases h
   obtain⟨a,xs,e,q,r⟩:=hx.tup d1
   exact⟨false,a,xs,e,q,(λz=>absurd z bN),r⟩
 . cases h
theorem aIm(M:Mc X P Γ n){a b:E}{ea eb:Expr}{f:Str}{p pos:Pos}{elts:List Expr}{tk:Nat}{tp:Pos}(hf:f=("zip" : Str))(hg:eR Γ f=true)(ha:PE X ea (WE X P n RT Y old σ a))(hb:PE X eb (WE X P n RT Y old σ b))(hpa:bS ea=true)(hpb:bS eb=true) :
 PI X (.Tuple elts tk tp) (.Call (.Name f p) [ea,eb] [] pos) (wI X P n RT Y old σ (.zip a b)):=by
 subst hf
 refine nL (aFT (M.gl hg) (M.md.blt _ (by decide +kernel)) (jM ha (jM hb tK hpb) hpa) (by rw[aG hpa,aG hpb];rfl) (aG hpb)) λσV H RR t ⟨S,h⟩=>?_
 have h:=RE.bind' (show RE (ev P (call P n) σ a >>= λx=>ev P (call P n) σ b >>= λy=>(match fS x.d,fS y.d with
  | some as,some bs=>R.ok (items ⟨.non,false,x.pa||y.pa,x.al++y.al⟩ (hX as bs),x.al++y.al)
  | _,_=>.bad)) _ from h)
 refine⟨S,?_⟩
 show RE (ev P (call P n) σ a >>= λx=>evs P (call P n) σ (.cons b .nil) >>= λxs=>R.ok (x::xs)) _
 rw[RE.bind]
 refine h.mono λx hx=>?_
 rw[RE.bind]
 show RE (ev P (call P n) σ b >>= λx=>evs P (call P n) σ .nil >>= λxs=>R.ok (x::xs)) _
 rw[RE.bind]
 refine(RE.bind' hx).mono λy hy=>?_
 split at hy
 . rename_i as bs e1 e2
   intro us H1 t1 s1 r1
   obtain⟨u,r',eu,ru,u2,r2,eu2,ru2,hr⟩:=r1
   rw[show r2=[] from hr] at eu2
   subst eu2
   subst eu
   obtain⟨ka,a1,xs,rfl,qa,na,ra⟩:=wC ru e1
   obtain⟨kb,b1,ys,rfl,qb,nb,rb⟩:=wC ru2 e2
   have S1:=S.grow s1 t1
   have w1:∀c,exV RT Y old σ σV (x.pa||y.pa) (x.al++y.al) c->exV RT Y old σ σV x.pa x.al c:=λc z=>z.mono (λhp=>by rw[hp];rfl) λj hj=>List.mem_append_left _ hj
   have w2:∀c,exV RT Y old σ σV (x.pa||y.pa) (x.al++y.al) c->exV RT Y old σ σV y.pa y.al c:=λc z=>z.mono (λhp=>by rw[hp,Bool.or_true]) λj hj=>List.mem_append_right _ hj
   exact⟨ka,kb,a1,b1,xs,ys,rfl,qa,qb,λt'=>hy _ _ t' s1 (aFY S1 qa qb (λhk z=>na hk (w1 _ z)) (λhk z=>nb hk (w2 _ z)) (ra.weak w1) (rb.weak w2))⟩
 . exact hy.elim
theorem aGb(M:Mc X P Γ n){a:E}{ea:Expr}{f:Str}{p pos:Pos}{elts:List Expr}{tk:Nat}{tp:Pos}(hf:f=("enumerate" : Str))(hg:eR Γ f=true)(ha:PE X ea (WE X P n RT Y old σ a))(hpa:bS ea=true) :
 PI X (.Tuple elts tk tp) (.Call (.Name f p) [ea] [] pos) (wI X P n RT Y old σ (.enum a)):=by
 subst hf
 refine nL (aDG (M.gl hg) (M.md.blt _ (by decide +kernel)) (jM ha tK hpa) (aG hpa)) λσV H RR t ⟨S,h⟩=>?_
 have h:=RE.bind' (show RE (ev P (call P n) σ a >>= λx=>(match fS x.d with|some as=>R.ok (items x (eN 0 as),x.al)|none=>.bad)) _ from h)
 refine⟨S,?_⟩
 show RE (ev P (call P n) σ a >>= λx=>evs P (call P n) σ .nil >>= λxs=>R.ok (x::xs)) _
 rw[RE.bind]
 refine h.mono λx hx=>?_
 split at hx
 . rename_i as e1
   intro us H1 t1 s1 r1
   obtain⟨u,r',eu,ru,hr⟩:=r1
   rw[show r'=[] from hr] at eu
   subst eu
   obtain⟨k,a1,xs,rfl,qa,na,ra⟩:=wC ru e1
   exact⟨k,a1,xs,rfl,qa,λt'=>hx _ _ t' s1 (aDJ (S.grow s1 t1) qa na ra)⟩
 . exact hx.elim
end
section
variable {X:Cx} {P:Pg} {n:Nat} {Γ:Ct} {RT Y old:Addr->Prop} {σ:Sg}
end
def gs:List Nat->TGs
 | []=>aHp
 | i::is=>aEr (pF i) (gs is)
def gT(K:Fg):T->TG
 | .n i=>pF i
 | .t is=>aHq K is.length (gs is)
section
variable {K:Fg} {RT Y old:Addr->Prop} {σ:Sg} {σV:L2.St} {H H':Hp}
theorem set_some{α:Type}{l:List α}{i j:Nat}{x y:α}(e:(l.set i x)[j]? = some y):(i=j/\x=y/\i<l.length)\/(i≠j/\l[j]? = some y):=by
 by_cases hij:i=j
 . subst hij
   have hl:i<(l.set i x).length:=(List.getElem?_eq_some_iff.mp e).1
   rw[List.length_set] at hl
   rw[List.getElem?_set_self hl] at e
   cases e
   exact .inl ⟨rfl,rfl,hl⟩
 . rw[List.getElem?_set_ne hij] at e
   exact .inr ⟨hij,e⟩
theorem Sx.setSh(S:Sx K RT Y old σ σV H){i:Nat}{pa:Bool}{d:D}{u:V}(h:Rep K H (λa=>RT a\/exB Y old pa a) d u):Sx K RT Y old (σ.set i (.sh pa d)) (σV.set i (some u)) H where
 sh:=λj pa' d' e=>by
  rcases set_some e with⟨rfl,e,hl⟩|⟨hij,e⟩
  . cases e
    exact⟨u,List.getElem?_set_self (by rw[<-S.len];exact hl),h⟩
  . obtain⟨v,h1,h2⟩:=S.sh j pa' d' e
    exact⟨v,by rw[List.getElem?_set_ne hij];exact h1,h2⟩
 own:=λj pa' ds e=>by
  rcases set_some e with⟨rfl,e,hl⟩|⟨hij,e⟩
  . cases e
  . obtain⟨a,xs,h1,h2⟩:=S.own j pa' ds e
    exact⟨a,xs,by rw[List.getElem?_set_ne hij];exact h1,h2⟩
 trk:=S.trk
 yo:=S.yo
 tk:=S.tk
 rt:=S.rt
 inj:=λj j' pa' pa'' ds ds' a e1 e2 e3 e4=>by
  rcases set_some e1 with⟨_,e,_⟩|⟨n1,e1⟩
  . cases e
  rcases set_some e2 with⟨_,e,_⟩|⟨n2,e2⟩
  . cases e
  rw[List.getElem?_set_ne n1] at e3
  rw[List.getElem?_set_ne n2] at e4
  exact S.inj j j' pa' pa'' ds ds' a e1 e2 e3 e4
 len:=by rw[List.length_set,List.length_set];exact S.len
 dx:=S.dx.imp id (λj ds e=>by
  rcases set_some e with⟨_,z,_⟩|⟨hij,e⟩
  . cases z
  . exact⟨e,List.getElem?_set_ne hij⟩) (λ_ _ _ _ _ _ e=>e) (λ_ _ e z _=>⟨e,z⟩) (λ_ _ r=>r) (λj ds es e=>by
  rcases set_some e with⟨_,z,_⟩|⟨hij,e⟩
  . cases z
  . exact⟨e,List.getElem?_set_ne hij⟩) (λ_ _ _ _ _ _ _ _ e=>e) λp xs e z=>⟨e,z.1,z.2.1,λk pa' ds q=>by
  rcases set_some q with⟨_,w,_⟩|⟨hij,q⟩
  . cases w
  . rw[List.getElem?_set_ne hij];exact z.2.2 k pa' ds q⟩
theorem Rep.out{ex:Addr->Prop}{d:D}{v:V}{a:Addr}(h:Rep K H ex d v)(n:H a=none)(k:K.lookup a=none):Rep K H (λb=>b=a\/ex b) d v:=
 Rep.imp (λ_ _ q=>q) (λb xs nb q=>⟨λz=>z.elim (λz=>by
  subst z
  rcases q with(q|⟨o,q⟩)|⟨o,its,m,q,_⟩
  . rw[n] at q;cases q
  . rw[n] at q;cases q
  . rw[k] at q;cases q) nb,q⟩) (λ_ _ q=>q) d v h
theorem Reps.out{ex:Addr->Prop}{d:List D}{v:List V}{a:Addr}(h:Reps K H ex d v)(n:H a=none)(k:K.lookup a=none):Reps K H (λb=>b=a\/ex b) d v:=
 Reps.imp (λ_ _ q=>q) (λb xs nb q=>⟨λz=>z.elim (λz=>by
  subst z
  rcases q with(q|⟨o,q⟩)|⟨o,its,m,q,_⟩
  . rw[n] at q;cases q
  . rw[n] at q;cases q
  . rw[k] at q;cases q) nb,q⟩) (λ_ _ q=>q) d v h
theorem Sx.storeOwn(S:Sx K RT Y old σ σV H){i:Nat}{a:Addr}{xs:List V}{ds:List D}{pa:Bool}(s:bG H H')(t:Tk K H')(hn:H a=none)(ha:H' a=some (.lst xs))(r:Reps K H' (λb=>(RT b\/b=a)\/exB Y old pa b) ds xs) :
 Sx K (λb=>RT b\/b=a) Y old (σ.set i (.own pa ds)) (σV.set i (some (.ref a))) H' where
 sh:=λj pa' d' e=>by
  rcases set_some e with⟨rfl,e,hl⟩|⟨hij,e⟩
  . cases e
  . obtain⟨v,h1,h2⟩:=S.sh j pa' d' e
    refine⟨v,by rw[List.getElem?_set_ne hij];exact h1,((h2.out hn (t a (by rw[ha];simp))).grow s).weak λb z=>?_⟩
    rcases z with(z|z)|z
    . exact .inr (.inl z)
    . exact .inl z
    . exact .inr (.inr z)
 own:=λj pa' ds' e=>by
  rcases set_some e with⟨rfl,e,hl⟩|⟨hij,e⟩
  . cases e
    exact⟨a,xs,List.getElem?_set_self (by rw[<-S.len];exact hl),ha,.inr rfl,λz=>S.trk a (.inr (.inr z)) hn,r⟩
  . obtain⟨a',xs',h1,h2,h3,h4,h5⟩:=S.own j pa' ds' e
    refine⟨a',xs',by rw[List.getElem?_set_ne hij];exact h1,s _ _ h2,.inl h3,h4,((h5.out hn (t a (by rw[ha];simp))).grow s).weak λb z=>?_⟩
    rcases z with(z|z)|z
    . exact .inr (.inl z)
    . exact .inl z
    . exact .inr (.inr z)
 trk:=λb z q=>by
  rcases z with(z|z)|z
  . exact S.trk b (.inl z) (s.free q)
  . rw[z,ha] at q;cases q
  . exact S.trk b (.inr z) (s.free q)
 yo:=S.yo
 tk:=t
 rt:=λb z=>by
  rcases z with z|z
  . exact(S.rt b z).grow s
  . rw[z];exact .inl ⟨xs,ha⟩
 inj:=λj j' pa' pa'' ds1 ds2 c e1 e2 e3 e4=>by
  have fr:∀{j:Nat} {pa:Bool} {ds:List D},σ[j]? = some (.own pa ds)->σV[j]? = some (some (.ref a))->False:=λ{j pa ds} e q=>by
   obtain⟨a',xs',h1,h2,_⟩:=S.own j pa ds e
   rw[q] at h1
   cases h1
   rw[hn] at h2;cases h2
  rcases set_some e1 with⟨rfl,e,hl⟩|⟨n1,e1⟩
  . rcases set_some e2 with⟨rfl,_,_⟩|⟨n2,e2⟩
    . rfl
    . rw[List.getElem?_set_self (by rw[<-S.len];exact hl)] at e3
      cases e3
      rw[List.getElem?_set_ne n2] at e4
      exact(fr e2 e4).elim
  . rw[List.getElem?_set_ne n1] at e3
    rcases set_some e2 with⟨rfl,e,hl⟩|⟨n2,e2⟩
    . rw[List.getElem?_set_self (by rw[<-S.len];exact hl)] at e4
      cases e4
      exact(fr e1 e3).elim
    . rw[List.getElem?_set_ne n2] at e4
      exact S.inj j j' pa' pa'' ds1 ds2 c e1 e2 e3 e4
 len:=by rw[List.length_set,List.length_set];exact S.len
 dx:=S.dx.imp id (λj ds e=>by
  rcases set_some e with⟨_,z,_⟩|⟨hij,e⟩
  . cases z
  . exact⟨e,List.getElem?_set_ne hij⟩) (λ_ _ _ _ _ _ e=>e) (λb ys e z _=>⟨s _ _ e,.inl z⟩) (λ_ _ r=>bG.seqT s r) (λj ds es e=>by
  rcases set_some e with⟨_,z,_⟩|⟨hij,e⟩
  . cases z
  . exact⟨e,List.getElem?_set_ne hij⟩) (λ_ _ _ _ _ _ _ _ e=>e) λp ys e z=>⟨s _ _ e,.inl z.1,z.2.1,λk pa' ds q w=>by
  rcases set_some q with⟨rfl,_,hl⟩|⟨hij,q⟩
  . rw[List.getElem?_set_self (by rw[<-S.len];exact hl)] at w
    cases w
    rw[hn] at e;cases e
  . rw[List.getElem?_set_ne hij] at w;exact z.2.2 k pa' ds q w⟩
theorem iQ{v:Vl}(h:v.fr=false):v.slot=.sh v.pa v.d:=by
 unfold Vl.slot
 rw[h]
theorem aDK{v:Vl}{ds:List D}(h:v.fr=true)(hd:v.d=.lst ds):v.slot=.own v.pa ds:=by
 unfold Vl.slot
 rw[h,hd]
theorem Sx.store(S:Sx K RT Y old σ σV H){v:Vl}{u:V}(ro:Ro K RT Y old σ σV H H' v u)(t:Tk K H')(i:Nat) :
 ∃RT',Sx K RT' Y old ((freeze σ v.al).set i v.slot) (σV.set i (some u)) H'/\∀b,RT' b->RT b\/H b=none:=by
 by_cases hf:v.fr=true
 . obtain⟨s,h⟩:=ro
   rw[if_pos hf] at h
   obtain⟨a,xs,ds,e1,e2,e3,e4,r⟩:=h
   subst e1
   rw[aDK hf e2]
   refine⟨_,(S.frz v.al).storeOwn s t e3 e4 (r.weak λb z=>?_),λb z=>z.elim (λz=>.inl z.1) λz=>.inr (by rw[z];exact e3)⟩
   rcases z with(z|z)|z
   . exact .inr (.inl z)
   . exact .inl z
   . exact .inr (.inr z)
 . rw[iQ (by simpa using hf)]
   exact⟨_,((S.grow ro.1 t).frz v.al).setSh (ro.rv S),λb z=>.inl z.1⟩
theorem aEF:∀{is:List Nat} {us:List V} {σV:L2.St} {H:Hp} {Q:L2.St->Hp->Prop},is.length=us.length->Q ((is.zip us).foldl (λs p=>s.set p.1 (some p.2)) σV) H->gs is us σV H Q
 | [],[],_,_,_,_,h=>⟨rfl,h⟩
 | [],_::_,_,_,_,e,_=>by simp at e
 | _::_,[],_,_,_,e,_=>by simp at e
 | i::is,u::us,σV,H,Q,e,h=>⟨u,us,rfl,aEF (is:=is) (us:=us) (by simpa using e) h⟩
theorem tP{v:Vl}{d:D}:(v.sub d).slot=.sh (!noL d&&v.pa) d:=by
 rw[iQ nK]
 unfold Vl.sub Vl.cl
 split
 . rename_i h;rw[h];rfl
 . rename_i h
   have:noL d=false:=by simpa using h
   rw[this];rfl
theorem Sx.setAll{v:Vl}:∀{is:List Nat} {ds:List D} {us:List V} {σ:Sg} {σV:L2.St},Sx K RT Y old σ σV H->Reps K H (λa=>RT a\/exB Y old v.pa a) ds us ->
 Sx K RT Y old ((is.zip ds).foldl (λσ p=>σ.set p.1 (v.sub p.2).slot) σ) ((is.zip us).foldl (λs p=>s.set p.1 (some p.2)) σV) H
 | [],_,_,_,_,S,_=>S
 | _::_,[],us,_,_,S,r=>by rw[show us=[] from r];exact S
 | i::is,d::ds,us,σ,σV,S,r=>by
  obtain⟨x,r',e,h1,h2⟩:=r
  subst e
  refine Sx.setAll (v:=v) (is:=is) (ds:=ds) (us:=r') ?_ h2
  show Sx K RT Y old (σ.set i (v.sub d).slot) (σV.set i (some x)) H
  rw[tP]
  refine S.setSh ?_
  cases hn:noL d with
  | true=>exact Rep.free d x hn h1
  | false=>exact h1
theorem lF{α:Type}{β:Type}(f:β->α):∀{is:List Nat} {bs:List β} {l:List α} {j:Nat},j∉is->((is.zip bs).foldl (λs p=>s.set p.1 (f p.2)) l)[j]? = l[j]?
 | [],_,_,_,_=>rfl
 | _::_,[],_,_,_=>rfl
 | i::is,b::bs,l,j,h=>by
  have h':i≠j/\j∉is:=by
   refine⟨λe=>h (by simp[e]),λz=>h (List.mem_cons_of_mem _ z)⟩
  rw[List.zip_cons_cons,List.foldl_cons,lF f (is:=is) (bs:=bs) h'.2,List.getElem?_set_ne h'.1]
theorem tQ{α:Type}{β:Type}(f:β->α):∀{is:List Nat} {bs:List β} {l:List α},((is.zip bs).foldl (λs p=>s.set p.1 (f p.2)) l).length=l.length
 | [],_,_=>rfl
 | _::_,[],_=>rfl
 | i::is,b::bs,l=>by rw[List.zip_cons_cons,List.foldl_cons,tQ f (is:=is) (bs:=bs),List.length_set]
theorem fold_mem{α:Type}{β:Type}(f:β->α):∀{is:List Nat} {bs:List β} {l:List α} {j:Nat} {x:α},((is.zip bs).foldl (λs p=>s.set p.1 (f p.2)) l)[j]? = some x->l[j]? = some x\/∃b,x=f b
 | [],_,_,_,_,h=>.inl h
 | _::_,[],_,_,_,h=>.inl h
 | i::is,b::bs,l,j,x,h=>by
  rw[List.zip_cons_cons,List.foldl_cons] at h
  rcases fold_mem f (is:=is) (bs:=bs) h with q|q
  . rcases set_some q with⟨_,e,_⟩|⟨_,e⟩
    . exact .inr ⟨b,e.symm⟩
    . exact .inl e
  . exact .inr q
theorem nN{v:Vl}{is:List Nat}{σ2:Sg}(e:cF σ v (.t is)=.ok σ2):∃ds,v.d=.tup ds/\ds.length=is.length/\σ2=(is.zip ds).foldl (λσ p=>σ.set p.1 (v.sub p.2).slot) σ:=by
 unfold cF at e
 simp only at e
 split at e
 . rename_i ds hd
   split at e
   . rename_i hl
     cases e
     exact⟨ds,hd,hl,rfl⟩
   . cases e
 . cases e
theorem nO{v:Vl}{i:Nat}{σ2:Sg}(e:cF σ v (.n i)=.ok σ2):σ2=σ.set i v.slot:=by
 cases(show R.ok (σ.set i v.slot)=R.ok σ2 from e)
 rfl
theorem aBH{v:Vl}{t:T}{σ2:Sg}{j:Nat}(e:cF σ v t=.ok σ2)(h:j∉tIx t):σ2[j]? = σ[j]? := by
 cases t with
 | n i=>
  rw[nO e]
  exact List.getElem?_set_ne λz=>h (by simp[tIx,z])
 | t is=>
  obtain⟨ds,_,_,e⟩:=nN e
  rw[e]
  exact lF (λd=>(v.sub d).slot) h
theorem aBI{v:Vl}{t:T}{σ2:Sg}(e:cF σ v t=.ok σ2):σ2.length=σ.length:=by
 cases t with
 | n i=>rw[nO e,List.length_set]
 | t is=>
  obtain⟨ds,_,_,e⟩:=nN e
  rw[e]
  exact tQ (λd=>(v.sub d).slot)
theorem aBJ{v:Vl}{t:T}{σ2:Sg}{j:Nat}{pa:Bool}{ds:List D}(hf:v.fr=false)(e:cF σ v t=.ok σ2)(h:σ2[j]? = some (.own pa ds)):σ[j]? = some (.own pa ds):=by
 cases t with
 | n i=>
  rw[nO e,iQ hf] at h
  rcases set_some h with⟨_,e,_⟩|⟨_,e⟩
  . cases e
  . exact e
 | t is=>
  obtain⟨ds',_,_,e⟩:=nN e
  rw[e] at h
  rcases fold_mem (λd=>(v.sub d).slot) h with q|⟨b,q⟩
  . exact q
  . rw[tP] at q;cases q
theorem aBK(S:Sx K RT Y old σ σV H){t:T}{v:Vl}{u:V}{Q:L2.St->Hp->Prop}{σ2:Sg}(hfr:v.fr=false)(h:Rep K H (λa=>RT a\/exB Y old v.pa a) v.d u)(e:cF σ v t=.ok σ2)
 (q:∀σ2V,Sx K RT Y old σ2 σ2V H->(∀j,j∉tIx t->σ2V[j]? = σV[j]?)->Q σ2V H):gT K t u σV H Q:=by
 cases t with
 | n i=>
  rw[nO e,iQ hfr] at q
  exact q _ (S.setSh h) λj hj=>List.getElem?_set_ne λz=>hj (by simp[tIx,z])
 | t is=>
  obtain⟨ds,hd,hl,e⟩:=nN e
  rw[hd] at h
  obtain⟨a,xs,rfl,hq,r⟩:=h
  have l2:=r.length
  refine⟨a,xs,rfl,hq,by omega,aEF (by omega) (q _ ?_ λj hj=>?_)⟩
  . rw[e];exact S.setAll r
  . exact lF (λd=>some d) hj
end
section
variable {X:Cx} {P:Pg} {Γ:Ct} {n:Nat} {RT Y old:Addr->Prop} {σ:Sg} {tg:Expr} {pos:Pos}
theorem tR(M:Mc X P Γ n):∀{is:List Nat} {es:List Expr},is.length=es.length->((is.zip es).all λp=>match p.2 with|.Name x _=>cG Γ p.1 x|_=>false)=true ->
 PGs X es (gs is)/\(assignEach es X.env).length=is.length/\(assignEach es X.env).findIdx? (·.1)=none
 | [],[],_,_=>⟨aCY,rfl,rfl⟩
 | [],_::_,e,_=>by simp at e
 | _::_,[],e,_=>by simp at e
 | i::is,e::es,hl,h=>by
  rw[List.zip_cons_cons,List.all_cons,bA] at h
  obtain⟨h1,h2,h3⟩:=tR M (is:=is) (es:=es) (by simpa using hl) h.2
  cases e with
  | Name x p=>
   have hs:cG Γ i x=true:=h.1
   unfold cG at hs
   simp only[bA,beq_iff_eq] at hs
   have e1:assignEach (.Name x p::es) X.env=(false,assign (.Name x p) X.env)::assignEach es X.env:=rfl
   refine⟨aAC (xA M.nd (by rw[M.N];exact hs.1.1) (M.loc hs.1.2) (M.st x hs.1.2)) h1 (by rw[e1];rfl),?_,?_⟩
   . rw[e1,lC,lC,h2]
   . rw[e1,List.findIdx?_cons]
     simp[h3]
  | _=>cases h.1
theorem aDL(M:Mc X P Γ n){t:T}(h:oY Γ t tg=true):PG X tg (gT X.K t):=by
 cases t with
 | n i=>
  cases tg with
  | Name x p=>
   have hs:cG Γ i x=true:=h
   unfold cG at hs
   simp only[bA,beq_iff_eq] at hs
   exact xA M.nd (by rw[M.N];exact hs.1.1) (M.loc hs.1.2) (M.st x hs.1.2)
  | _=>cases h
 | t is=>
  cases tg with
  | Tuple es k p=>
   have h:(is.length==es.length&&(is.zip es).all λp=>match p.2 with|.Name x _=>cG Γ p.1 x|_=>false)=true:=h
   rw[bA,beq_iff_eq] at h
   obtain⟨h1,h2,h3⟩:=tR M h.1 h.2
   exact aFd M.calm h1 h2 h3
  | _=>cases h
def ch0(k:Nat)(caps:List Nat)(σ:Sg):Sg:=List.replicate k .dead++caps.map λi=>(σ[i]?).getD .dead
theorem ch0_get{k:Nat}{caps:List Nat}{σ:Sg}{j:Nat}{s:Sl}(h:(ch0 k caps σ)[j]? = some s):s=.dead\/∃j' i,j=k+j'/\caps[j']? = some i/\σ[i]? = some s:=by
 unfold ch0 at h
 by_cases hj:j<k
 . rw[List.getElem?_append_left (by simpa using hj),List.getElem?_replicate,if_pos hj] at h
   cases h
   exact .inl rfl
 . rw[List.getElem?_append_right (by simpa using hj),List.length_replicate,List.getElem?_map] at h
   cases e:caps[j-k]? with
   | none=>rw[e] at h;cases h
   | some i=>
    rw[e] at h
    have h':(σ[i]?).getD .dead=s:=Option.some.inj h
    cases q:σ[i]? with
    | none=>rw[q] at h';exact .inl h'.symm
    | some z=>rw[q] at h';exact .inr ⟨j-k,i,by omega,e,by rw[q];exact congrArg some h'⟩
theorem aBL{k:Nat}{caps:List Nat}{σ:Sg}{j:Nat}{s:Sl}(hj:j<k)(h:(ch0 k caps σ)[j]? = some s):s=.dead:=by
 unfold ch0 at h
 rw[List.getElem?_append_left (by simpa using hj),List.getElem?_replicate,if_pos hj] at h
 cases h
 rfl
theorem mH{k:Nat}{caps:List Nat}{σV:L2.St}{j i:Nat}{v:V}(e:caps[j]? = some i)(h:σV[i]? = some (some v)):(jK k caps σV)[k+j]? = some (some v):=by
 unfold jK
 rw[List.getElem?_append_right (by simp),List.length_replicate,List.getElem?_map,Nat.add_sub_cancel_left,e]
 show some ((σV[i]?).getD none)=_
 rw[h];rfl
theorem mI{k:Nat}{caps:List Nat}{σV:L2.St}{j i:Nat}{v:V}(e:caps[j]? = some i)(h:(jK k caps σV)[k+j]? = some (some v)):σV[i]? = some (some v):=by
 unfold jK at h
 rw[List.getElem?_append_right (by simp),List.length_replicate,List.getElem?_map,Nat.add_sub_cancel_left,e] at h
 have h':(σV[i]?).getD none=some v:=Option.some.inj h
 cases q:σV[i]? with
 | none=>rw[q] at h';cases h'
 | some z=>rw[q] at h';exact congrArg some h'
theorem iR{α:Type}:∀{l:List α},l.Nodup->∀{i j:Nat} {x:α},l[i]? = some x->l[j]? = some x->i=j
 | [],_,_,_,_,h,_=>by simp at h
 | a::l,hn,0,0,_,_,_=>rfl
 | a::l,hn,0,j+1,x,h1,h2=>by
  have e:a=x:=by simpa using h1
  have:x∈l:=mG (by simpa using h2)
  subst e
  exact absurd this (List.nodup_cons.mp hn).1
 | a::l,hn,i+1,0,x,h1,h2=>by
  have e:a=x:=by simpa using h2
  have:x∈l:=mG (by simpa using h1)
  subst e
  exact absurd this (List.nodup_cons.mp hn).1
 | a::l,hn,i+1,j+1,x,h1,h2=>congrArg (·+1) (iR (List.nodup_cons.mp hn).2 (i:=i) (j:=j) (x:=x) (by simpa using h1) (by simpa using h2))
theorem Sx.child{K:Fg}{σV:L2.St}{H:Hp}(S:Sx K RT Y old σ σV H){k:Nat}{caps:List Nat}(nd:caps.Nodup):Sx K RT Y old (ch0 k caps σ) (jK k caps σV) H where
 sh:=λj pa d e=>by
  rcases ch0_get e with z|⟨j',i,rfl,hc,hs⟩
  . cases z
  . obtain⟨v,h1,h2⟩:=S.sh i pa d hs
    exact⟨v,mH hc h1,h2⟩
 own:=λj pa ds e=>by
  rcases ch0_get e with z|⟨j',i,rfl,hc,hs⟩
  . cases z
  . obtain⟨a,xs,h1,h2⟩:=S.own i pa ds hs
    exact⟨a,xs,mH hc h1,h2⟩
 trk:=S.trk
 yo:=S.yo
 tk:=S.tk
 rt:=S.rt
 inj:=λj1 j2 pa pa' ds ds' a e1 e2 e3 e4=>by
  rcases ch0_get e1 with z|⟨j1',i1,rfl,hc1,hs1⟩
  . cases z
  rcases ch0_get e2 with z|⟨j2',i2,rfl,hc2,hs2⟩
  . cases z
  have:=S.inj i1 i2 pa pa' ds ds' a hs1 hs2 (mI hc1 e3) (mI hc2 e4)
  subst this
  rw[iR nd hc1 hc2]
 len:=by
  unfold ch0 jK
  rw[lA,lA,lM,lM,List.length_replicate,List.length_replicate]
 dx:=S.dx.imp (λj=>(caps[j-k]?).getD 0) (λj ds e=>by
  rcases ch0_get e with z|⟨j',i,rfl,hc,hs⟩
  . cases z
  . rw[Nat.add_sub_cancel_left,hc]
    refine⟨hs,?_⟩
    obtain⟨a,xs,h1,_⟩:=S.dx.at' i ds hs
    rw[mH hc h1]
    exact h1.symm) (λj1 j2 ds ds' e1 e2 q=>by
  rcases ch0_get e1 with z|⟨j1',i1,rfl,hc1,_⟩
  . cases z
  rcases ch0_get e2 with z|⟨j2',i2,rfl,hc2,_⟩
  . cases z
  rw[Nat.add_sub_cancel_left,Nat.add_sub_cancel_left,hc1,hc2] at q
  have q:i1=i2:=q
  subst q
  rw[iR nd hc1 hc2]) (λ_ _ e z _=>⟨e,z⟩) (λ_ _ r=>r) (λj ds es e=>by
  rcases ch0_get e with z|⟨j',i,rfl,hc,hs⟩
  . cases z
  . rw[Nat.add_sub_cancel_left,hc]
    refine⟨hs,?_⟩
    obtain⟨a,_,_,_,_,h1,_⟩:=S.dx.at2 i ds es hs
    rw[mH hc h1]
    exact h1.symm) (λj1 j2 ds es ds' es' e1 e2 q=>by
  rcases ch0_get e1 with z|⟨j1',i1,rfl,hc1,_⟩
  . cases z
  rcases ch0_get e2 with z|⟨j2',i2,rfl,hc2,_⟩
  . cases z
  rw[Nat.add_sub_cancel_left,Nat.add_sub_cancel_left,hc1,hc2] at q
  have q:i1=i2:=q
  subst q
  rw[iR nd hc1 hc2]) λp xs e z=>⟨e,z.1,z.2.1,λj pa ds q w=>by
  rcases ch0_get q with v|⟨j',i,rfl,hc,hs⟩
  . cases v
  . exact z.2.2 i pa ds hs (mI hc w)⟩
theorem Sx.forget{K:Fg}{σ':Sg}{σV:L2.St}{H:Hp}(S:Sx K RT Y old σ σV H)(hl:σ'.length=σ.length)(h:∀(j:Nat) (s:Sl),σ'[j]? = some s->s=.dead\/σ[j]? = some s):Sx K RT Y old σ' σV H where
 sh:=λj pa d e=>by
  rcases h j _ e with z|z
  . cases z
  . exact S.sh j pa d z
 own:=λj pa d e=>by
  rcases h j _ e with z|z
  . cases z
  . exact S.own j pa d z
 trk:=S.trk
 yo:=S.yo
 tk:=S.tk
 rt:=S.rt
 inj:=λj1 j2 pa pa' ds ds' a e1 e2 e3 e4=>by
  rcases h j1 _ e1 with z|z1
  . cases z
  rcases h j2 _ e2 with z|z2
  . cases z
  exact S.inj j1 j2 pa pa' ds ds' a z1 z2 e3 e4
 len:=by rw[hl];exact S.len
 dx:=S.dx.imp id (λj ds e=>(h j _ e).elim (λz=>by cases z) λz=>⟨z,rfl⟩) (λ_ _ _ _ _ _ e=>e) (λ_ _ e z _=>⟨e,z⟩) (λ_ _ r=>r) (λj ds es e=>(h j _ e).elim (λz=>by cases z) λz=>⟨z,rfl⟩) (λ_ _ _ _ _ _ _ _ e=>e) λp xs e z=>⟨e,z.1,z.2.1,λk pa ds q=>(h k _ q).elim (λw=>by cases w) λw=>z.2.2 k pa ds w⟩
def wTs(X:Cx)(P:Pg)(n:Nat)(RT Y old:Addr->Prop)(σ:Sg)(cs:Es):TT:=λσV H Q=>Sx X.K RT Y old σ σV H/\RE (tsts P (call P n) σ cs) λk=>∀H',Tk X.K H'->bG H H'->Q k H'
theorem aGc:PTs X [] (wTs X P n RT Y old σ .nil):=λpins s σV H Q I ⟨S,h⟩=>aDy pins s σV H Q I ((show ∀H',Tk X.K H'->bG H H'->Q true H' from h) H I.tk (bG.refl H))
theorem aGd{c:E}{e:Expr}(h:PT X e (WT X P n RT Y old σ c)):PTs X [e] (wTs X P n RT Y old σ (.cons c .nil)):=λpins s σV H Q I ⟨S,hh⟩=>aDz h pins s σV H Q I ⟨S,by
 have hh:=RE.bind' (show RE (tst P (call P n) σ c >>= λx=>if x=true then tsts P (call P n) σ .nil else R.ok false) _ from hh)
 refine hh.mono λk hk=>?_
 cases k with
 | true=>exact hk
 | false=>exact hk⟩
theorem Rvs.append{K:Fg}{σV:L2.St}{H:Hp}:∀{vs ws:List Vl} {us zs:List V},Rvs K RT Y old σ σV H vs us->Rvs K RT Y old σ σV H ws zs->Rvs K RT Y old σ σV H (vs++ws) (us++zs)
 | [],_,_,_,h,q=>by rw[show _=[] from h];exact q
 | v::vs,_,_,_,h,q=>by
  obtain⟨u,r,e,h1,h2⟩:=h
  subst e
  exact⟨u,_,rfl,h1,Rvs.append h2 q⟩
def lv(k:Nat)(caps al:List Nat)(v:Vl):Vl:=⟨v.d,false,v.pa,al++v.al.filterMap λj=>caps[j-k]?⟩
theorem tS{f:Vl->R (Option Vl)}{x:Vl}{xs rs:List Vl}(h:eG f (x::xs)=.ok rs):∃y ys,f x=.ok y/\eG f xs=.ok ys/\rs=(match y with|some y=>y::ys|none=>ys):=by
 have h:(f x >>= λy=>eG f xs >>= λys=>(match y with|some y=>R.ok (y::ys)|none=>R.ok ys))=R.ok rs:=h
 cases q1:f x with
 | ok y=>
  rw[q1] at h
  have h:(eG f xs >>= λys=>(match y with|some y=>R.ok (y::ys)|none=>R.ok ys))=R.ok rs:=h
  cases q2:eG f xs with
  | ok ys=>
   rw[q2] at h
   refine⟨y,ys,rfl,rfl,?_⟩
   cases y with
   | none=>cases(show R.ok ys=R.ok rs from h);rfl
   | some y=>cases(show R.ok (y::ys)=R.ok rs from h);rfl
  | exc z=>rw[q2] at h;cases h
  | bad=>rw[q2] at h;cases h
 | exc z=>rw[q1] at h;cases h
 | bad=>rw[q1] at h;cases h
theorem R.bind_ok{α β:Type}{x:R α}{f:α->R β}{b:β}(h:(x >>= f)=.ok b):∃a,x=.ok a/\f a=.ok b:=by
 cases x with
 | ok a=>exact⟨a,rfl,h⟩
 | exc z=>cases h
 | bad=>cases h
theorem aBM{k:Nat}{caps:List Nat}{t:T}{it:Hp.It}{cond:Es}{elt:E}(hnd:caps.Nodup)(hk:∀i∈tIx t,i<k){σV:L2.St}{H:Hp}{Q:VK}(hw:WE X P n RT Y old σ (.comp k caps t it cond elt) σV H Q) :
 aBr k caps (wI X P n RT Y old σ it) (gT X.K t) (λσV H Q=>∃RT Y old σ1,wTs X P n RT Y old σ1 cond σV H Q) (λσV H Q=>∃RT Y old σ1,WE X P n RT Y old σ1 elt σV H Q) σV H λv H'=>Tk X.K H'->Q v H':=by
 obtain⟨S,h⟩:=hw
 let f:List Nat->Vl->R (Option Vl):=λal x=>cF (ch0 k caps (freeze σ al)) x t >>= λσ1=>tsts P (call P n) σ1 cond >>= λb=>if b=true then (ev P (call P n) σ1 elt >>= λy=>R.ok (some y)) else R.ok none
 have h:=RE.bind' (show RE (walk P (call P n) σ it >>= λxs=>eG (f xs.2) xs.1 >>= λvs=>R.iff (decide (vs.length<=lim)) (R.ok (jW k caps xs.2 vs))) (Wn X RT Y old σ σV H Q) from h)
 refine⟨S,h.mono λxs hx J H1 t1 s1 ok=>?_⟩
 obtain⟨vs,evs,hv⟩:=(RE.bind' hx).eq
 obtain⟨hl,hq⟩:=hv.iff
 have hl:=of_decide_eq_true hl
 have hq:Wn X RT Y old σ σV H Q (jW k caps xs.2 vs):=hq
 have S1:=S.grow s1 t1
 have Sf:=S1.frz xs.2
 refine⟨λi m ys σ1V Hc=>m=xs.1.length-i/\i<=xs.1.length/\bG H1 Hc/\Tk X.K Hc/\Sx X.K (rtF RT σ σV xs.2) Y old (ch0 k caps (freeze σ xs.2)) σ1V Hc/\(∀j,k<=j->σ1V[j]? = (jK k caps σV)[j]?) /\
  ∃ws rs,vs=ws++rs/\eG (f xs.2) (xs.1.drop i)=.ok rs/\Rvs X.K RT Y old σ σV Hc (ws.map (lv k caps xs.2)) ys,⟨_,rfl,Nat.zero_le _,bG.refl _,t1,Sf.child hnd,λ_ _=>rfl,[],vs,rfl,evs,rfl⟩,?_⟩
 rintro i m ys σ1V Hc ⟨hm,hi,sc,tc,Sc,hcap,ws,rs,evs',ego,rvs⟩
 have okc:=ok.ok (λ_=>False) (λ_ z=>z.elim) i Hc (Kp.same sc)
 have hly:=rvs.length
 rw[lM] at hly
 have hws:ws.length<=vs.length:=by rw[evs',lA];omega
 by_cases hlt:i<xs.1.length
 . refine .inr ⟨okc.1 hlt,by rw[<-hly,sizeLine_eq];have:lim=1000000:=rfl;omega,λx H' hy=>?_⟩
   have hxi:xs.1[i]? = some xs.1[i]:=List.getElem?_eq_getElem hlt
   obtain⟨sm,tkf,rv⟩:=okc.2.2 x H' hy xs.1[i] hxi
   have rv:Rep X.K H' (exV RT Y old σ σV xs.1[i].pa xs.1[i].al) xs.1[i].d x:=Rep.weak rv λa z=>.inl z
   rw[List.drop_eq_getElem_cons hlt] at ego
   obtain⟨yo,ys',ef,ego',ers⟩:=tS ego
   obtain⟨σ1,eσ,ef⟩:=R.bind_ok ef
   obtain⟨b,eb,ef⟩:=R.bind_ok ef
   have hmem:xs.1[i]∈xs.1:=List.getElem_mem hlt
   have hnf:=ok.nofr _ hmem
   have rep:Rep X.K H' (λa=>rtF RT σ σV xs.2 a\/exB Y old xs.1[i].pa a) xs.1[i].d x:=Rep.weak rv λa z=>by
    rcases z with z|z
    . exact .inl ⟨z.1,λq=>z.2 (q.mono (ok.sub _ hmem))⟩
    . exact .inr z
   refine aBK (Sc.grow sm (tkf tc)) hnf rep eσ λσ2V S2 hkeep=>⟨_,_,_,σ1,S2,?_⟩
   rw[eb]
   intro H3 t3 s3
   have capk:∀j,k<=j->σ2V[j]? = (jK k caps σV)[j]? := λj hj=>by
    rw[hkeep j λz=>absurd (hk j z) (Nat.not_lt.mpr hj),hcap j hj]
   have back:∀{H5:Hp},Sx X.K (rtF RT σ σV xs.2) Y old σ1 σ2V H5->Sx X.K (rtF RT σ σV xs.2) Y old (ch0 k caps (freeze σ xs.2)) σ2V H5:=λ{H5} S5=>S5.forget (aBI eσ).symm λj s hs=>by
    by_cases hj:j∈tIx t
    . exact .inl (aBL (hk j hj) hs)
    . exact .inr (by rw[aBH eσ hj];exact hs)
   cases b with
   | false=>
    rw[if_neg bN] at ef ⊢
    cases(show R.ok none=R.ok yo from ef)
    have ers:rs=ys':=ers
    subst ers
    exact⟨_,by omega,rfl,hlt,sc.trans (sm.trans s3),t3,back (S2.grow s3 t3),capk,ws,rs,evs',ego',rvs.grow (sm.trans s3)⟩
   | true=>
    rw[if_pos rfl] at ef ⊢
    obtain⟨y,ey,ef⟩:=R.bind_ok ef
    cases(show R.ok (some y)=R.ok yo from ef)
    have ers:rs=y::ys':=ers
    subst ers
    refine⟨_,_,_,σ1,S2.grow s3 t3,?_⟩
    rw[ey]
    intro u H4 t4 ro4
    have s4:=ro4.1
    have rv4:Rep X.K H4 (exV (rtF RT σ σV xs.2) Y old σ1 σ2V y.pa y.al) y.d u:=ro4.rv (S2.grow s3 t3)
    refine⟨_,by omega,rfl,hlt,sc.trans (sm.trans (s3.trans s4)),t4,back ((S2.grow s3 t3).grow s4 t4),capk,ws++[y],ys',by rw[evs'];simp,ego',?_⟩
    rw[List.map_append]
    refine(rvs.grow (sm.trans (s3.trans s4))).append ⟨u,[],rfl,?_,rfl⟩
    show Rep X.K H4 (exV RT Y old σ σV y.pa (xs.2++y.al.filterMap λj=>caps[j-k]?)) y.d u
    refine rv4.weak λc z=>?_
    rcases z with⟨z1,z2⟩|z
    . refine .inl ⟨⟨z1,λq=>z2 (q.mono λj hj=>List.mem_append_left _ hj)⟩,λq=>z2 ?_⟩
      obtain⟨j,hj,⟨pa,ds,ho⟩,hV⟩:=q
      have ho:=aBJ hnf eσ ho
      rcases ch0_get ho with z|⟨j',i',rfl,hc,hs⟩
      . cases z
      . rw[capk _ (Nat.le_add_right _ _)] at hV
        refine⟨i',List.mem_append_right _ (List.mem_filterMap.mpr ⟨k+j',hj,by rw[Nat.add_sub_cancel_left];exact hc⟩),⟨pa,ds,(eU hs).1⟩,mI hc hV⟩
    . exact .inr z
 . have hie:i=xs.1.length:=by omega
   subst hie
   rw[List.drop_length] at ego
   cases(show R.ok []=R.ok rs from ego)
   rw[List.append_nil] at evs'
   subst evs'
   refine .inl ⟨okc.2.1 (Nat.le_refl _),by rw[<-hly];exact fA hl,λp hp t'=>hq _ _ t' ?_⟩
   have Sc':=S.grow (s1.trans sc) tc
   have emap:(vs.map (lv k caps xs.2)).map (·.d)=vs.map (·.d):=by rw[List.map_map];rfl
   have rr:Reps X.K Hc (exV RT Y old σ σV (gD vs) (xs.2++(dO vs).filterMap λj=>caps[j-k]?)) (vs.map (·.d)) ys:=by
    rw[<-emap]
    refine rvs.reps λv hv=>?_
    obtain⟨w,hw,e⟩:=List.mem_map.mp hv
    subst e
    refine⟨λz=>tE hw z,λj hj=>?_⟩
    rcases List.mem_append.mp hj with z|z
    . exact List.mem_append_left _ z
    . obtain⟨j',hj',e⟩:=List.mem_filterMap.mp z
      exact List.mem_append_right _ (List.mem_filterMap.mpr ⟨j',lR hw j' hj',e⟩)
   unfold jW
   split
   . rename_i hn
     exact(Ro.fresh hp t' rfl rfl Sc' (Reps.free _ _ hn rr)).from (s1.trans sc)
   . exact(Ro.fresh hp t' rfl rfl Sc' rr).from (s1.trans sc)
theorem aGe(M:Mc X P Γ n){k:Nat}{caps:List Nat}{t:T}{it:Hp.It}{cond:Es}{elt:E}{e iter:Expr}{ifs:List Expr}{scope:Scope}{N':List Str}(CS:dW X scope k caps N')(hnd:caps.Nodup)(hk:∀i∈tIx t,i<k)
 (hi:PI X tg iter (wI X P n RT Y old σ it))
 (hch:∀C s₀ H₀ ex,PG (eF X scope N' C s₀ H₀ ex) tg (gT X.K t)/\(∀RT Y old σ1,PTs (eF X scope N' C s₀ H₀ ex) ifs (wTs X P n RT Y old σ1 cond))/\∀RT Y old σ1,PE (eF X scope N' C s₀ H₀ ex) e (WE X P n RT Y old σ1 elt))
 (hs:∀x,foldedSetIterable iter X.env x=pure x):PE X (.ListComp e [⟨tg,iter,ifs,0⟩] scope pos) (WE X P n RT Y old σ (.comp k caps t it cond elt)):=by
 refine(xN (g:=gT X.K t) (tt:=λσV H Q=>∃RT Y old σ1,wTs X P n RT Y old σ1 cond σV H Q) (te:=λσV H Q=>∃RT Y old σ1,WE X P n RT Y old σ1 elt σV H Q) CS M.calm hi (λC s₀ H₀ ex=>?_) hs).imp λσV H Q t0 hw=>aBM hnd hk hw
 . obtain⟨h1,h2,h3⟩:=hch C s₀ H₀ ex
   exact⟨h1,λpins s σV H Q I ⟨RT,Y,old,σ1,hw⟩=>h2 RT Y old σ1 pins s σV H Q I hw,λpins s σV H Q I ⟨RT,Y,old,σ1,hw⟩=>h3 RT Y old σ1 pins s σV H Q I hw⟩
end
end Hp
end
noncomputable section
set_option maxHeartbeats 8000000
namespace Hp
open PySem PySem.Spec PyProof.Rows L2
section
variable {P:Pg} {n:Nat}
theorem tU{X:Cx}{Γ:Ct}(M:Mc X P Γ n)(scope:Scope):(relabel scope X.env).names=mZ Γ.sc scope.names:=by
 unfold relabel mZ
 simp only
 refine List.map_congr_left λp hp=>?_
 obtain⟨m,k⟩:=p
 have e1:(X.env.scope.kind==ScopeKind.function)=true:=by rw[M.fk];rfl
 have e2:X.env.kindOf m=Γ.sc.lookup m:=by unfold Env.kindOf;rw[M.sc]
 simp only[e1,e2,Bool.and_true]
abbrev chN(Γ:Ct)(tg:Expr)(caps:List Nat):List Str:=fX tg++caps.filterMap λi=>Γ.N[i]?
abbrev wD(Γ:Ct)(tg:Expr)(caps:List Nat)(scope:Scope):Ct:={ Γ with N:=chN Γ tg caps,sc:=mZ Γ.sc scope.names,fn:=false }
structure aBN (Γ:Ct) (tg:Expr) (caps:List Nat) (scope:Scope) (k:Nat) (t:T):Prop where
 len:(fX tg).length=k
 lt:∀i∈caps,i<Γ.N.length
 ndc:caps.Nodup
 kind:scope.kind=.function
 nd:(chN Γ tg caps).Nodup
 cap:∀x∈caps.filterMap (λi=>Γ.N[i]?),scope.names.lookup x=some .free/\Γ.sc.lookup x=some .cell
 all:∀p∈scope.names,p.2≠.cell/\(p.2=.local->scope.names.lookup p.1=some .local)/\(p.2=.free->Γ.sc.lookup p.1=some .cell)
 tk:∀i∈tIx t,i<k
theorem rD{N:List Str}:∀{caps:List Nat},(∀i∈caps,i<N.length)->∀{j i:Nat},caps[j]? = some i->(caps.filterMap λi=>N[i]?)[j]? = N[i]?/\(caps.filterMap λi=>N[i]?).length=caps.length
 | [],_,_,_,h=>by simp at h
 | c::cs,hl,j,i,h=>by
  have hc:N[c]? = some N[c]! := by
   have:=hl c List.mem_cons_self
   simp[this]
  rw[List.filterMap_cons_some hc]
  have hl':∀i∈cs,i<N.length:=λi hi=>hl i (List.mem_cons_of_mem _ hi)
  have len:(cs.filterMap λi=>N[i]?).length=cs.length:=by
   cases cs with
   | nil=>rfl
   | cons c' cs'=>exact(rD hl' (j:=0) (i:=c') rfl).2
  refine⟨?_,by rw[lC,lC,len]⟩
  cases j with
  | zero=>
   have e:c=i:=by simpa using h
   subst e
   rw[gZ,hc]
  | succ j=>
   rw[gS]
   exact(rD hl' (j:=j) (i:=i) (by simpa using h)).1
theorem aGf{N:List Str}{caps:List Nat}(h:∀i∈caps,i<N.length):(caps.filterMap λi=>N[i]?).length=caps.length:=by
 cases caps with
 | nil=>rfl
 | cons c cs=>exact(rD h (j:=0) (i:=c) rfl).2
theorem aBN.scope{X:Cx}{Γ:Ct}{tg:Expr}{caps:List Nat}{scope:Scope}{k:Nat}{t:T}(O:aBN Γ tg caps scope k t)(M:Mc X P Γ n):dW X scope k caps (chN Γ tg caps) where
 kind:=O.kind
 nocell:=λy hy=>(O.all y hy).1
 loc:=λy hy e=>(O.all y hy).2.1 e
 free:=λm hm=>.inl (by
  have:=(O.all _ hm).2.2 rfl
  show X.env.scope.names.lookup m=_
  rw[M.sc];exact this)
 len:=by rw[lA,O.len,aGf O.lt]
 cap:=λj i e=>by
  have hi:=O.lt i (mG e)
  have hx:Γ.N[i]? = some Γ.N[i]:=List.getElem?_eq_getElem hi
  have hg:=(rD O.lt e).1
  rw[hx] at hg
  obtain⟨h1,h2⟩:=O.cap _ (mG hg)
  refine⟨Γ.N[i],?_,by rw[M.N];exact hx,h1,?_⟩
  . show(fX tg++_)[k+j]? = _
    rw[List.getElem?_append_right (by rw[O.len];omega),O.len,Nat.add_sub_cancel_left]
    exact hg
  . show X.env.scope.names.lookup _=_
    rw[M.sc];exact h2
 ndp:=M.nd
theorem aBN.mc{X:Cx}{Γ:Ct}{tg:Expr}{caps:List Nat}{scope:Scope}{k:Nat}{t:T}(O:aBN Γ tg caps scope k t)(M:Mc X P Γ n)(C:Addr)(s₀:Shared)(H₀:Hp)(ex:List Addr) :
 Mc (eF X scope (chN Γ tg caps) C s₀ H₀ ex) P (wD Γ tg caps scope) n where
 md:=⟨M.md.fn,M.md.blt,M.md.cns,M.md.tab⟩
 N:=rfl
 nd:=O.nd
 sc:=tU M scope
 calm:=M.calm
 room:=M.room
 xe:=rfl
 st:=λx h=>.inr (by
  show(relabel scope X.env).names.lookup x=_
  rw[tU M scope]
  unfold tB at h
  have h:(match (mZ Γ.sc scope.names).lookup x with|some .local=>true|some .cell=>false|_=>false)=true:=h
  split at h
  . rename_i e;exact e
  . cases h
  . cases h)
 fk:=O.kind
theorem tV{Γ:Ct}{tt:Bool}{a b:E}{e:Expr}:chkI Γ tt (.rng a b) e=oS (oZ e) λp=>(p.1==("range" : Str))&&eR Γ p.1&&(match p.2 with
 | [x]=>vQ a&&bL Γ b x
 | [x,y]=>bL Γ a x&&bL Γ b y
 | _=>false):=rfl
theorem tW{Γ:Ct}{tt:Bool}{a b:E}{e:Expr}:chkI Γ tt (.zip a b) e=oS (oZ e) λp=>(match p.2 with
 | [x,y]=>tt&&(p.1==("zip" : Str))&&eR Γ p.1&&bL Γ a x&&bL Γ b y
 | _=>false):=rfl
theorem pR{Γ:Ct}{tt:Bool}{a:E}{e:Expr}:chkI Γ tt (.enum a) e=oS (oZ e) λp=>(match p.2 with
 | [x]=>tt&&(p.1==("enumerate" : Str))&&eR Γ p.1&&bL Γ a x
 | _=>false):=rfl
theorem jO{Γ:Ct}{tt:Bool}{it:Hp.It}{e:Expr}(h:chkI Γ tt it e=true):bS e=true:=by
 cases it with
 | seq c=>exact bD (c:=c) (by exact h)
 | rng a b=>rw[tV] at h;obtain⟨_,⟨_,_,rfl⟩,_⟩:=aJ h;rfl
 | zip a b=>rw[tW] at h;obtain⟨_,⟨_,_,rfl⟩,_⟩:=aJ h;rfl
 | enum a=>rw[pR] at h;obtain⟨_,⟨_,_,rfl⟩,_⟩:=aJ h;rfl
 | rev a=>cases h
theorem aDM{X:Cx}{e:Expr}{c:E}{RT Y old:Addr->Prop}{σ:Sg}(h:tst P (call P n) σ c=.bad):PT X e (WT X P n RT Y old σ c):=λpins s σV H Q I ⟨S,hh⟩=>by
 rw[h] at hh
 exact hh.elim
theorem fM{a b c:Bool}(h:(a&&b&&c)=true):a=true/\b=true/\c=true:=by
 cases a <;> cases b <;> cases c <;> first|exact⟨rfl,rfl,rfl⟩|cases h
theorem eH{a b:Bool}(h:(a&&b)=true):a=true/\b=true:=by
 cases a <;> cases b <;> first|exact⟨rfl,rfl⟩|cases h
theorem aDN{a b c d:Bool}(h:(a&&b&&c&&d)=true):a=true/\b=true/\c=true/\d=true:=by
 obtain⟨h1,h2,h3⟩:=fM h
 obtain⟨h1,h4⟩:=eH h1
 exact⟨h1,h4,h2,h3⟩
theorem wF{a b c d e:Bool}(h:(a&&b&&c&&d&&e)=true):a=true/\b=true/\c=true/\d=true/\e=true:=by
 obtain⟨h1,h2,h3,h4⟩:=aDN h
 obtain⟨h1,h5⟩:=eH h1
 exact⟨h1,h5,h2,h3,h4⟩
theorem xP{Γ:Ct}{k:Nat}{caps:List Nat}{t:T}{it:Hp.It}{cond:Es}{elt:E}{e:Expr}(h:bL Γ (.comp k caps t it cond elt) e=true) :
 ∃el tg iter ifs scope pos,e=.ListComp el [⟨tg,iter,ifs,0⟩] scope pos/\aBN Γ tg caps scope k t/\ifs.length<=1/\oY (wD Γ tg caps scope) t tg=true/\chkI Γ (nA tg) it iter=true/\chkEs (wD Γ tg caps scope) cond ifs=true/\bL (wD Γ tg caps scope) elt el=true:=by
 obtain⟨⟨el,gens,scope⟩,h1,g⟩:=aJ h
 clear h
 obtain⟨pos,rfl⟩:=h1
 have h:=g
 clear g
 rcases gens with _|⟨⟨tg,iter,ifs,as⟩,_|⟨_,_⟩⟩
 . cases h
 . have h:(as==0&&(fX tg).length==k&&(caps.all λi=>decide (i<Γ.N.length))&&decide caps.Nodup&&scope.kind==.function&&decide (fX tg++caps.filterMap λi=>Γ.N[i]?).Nodup &&
    ((caps.filterMap λi=>Γ.N[i]?).all λx=>scope.names.lookup x==some .free&&Γ.sc.lookup x==some .cell) &&
    (scope.names.all λp=>p.2 != .cell&&(p.2 != .local||scope.names.lookup p.1==some .local)&&(p.2 != .free||Γ.sc.lookup p.1==some .cell)) &&
    ((tIx t).all λi=>decide (i<k))&&decide (ifs.length<=1) &&
    oY (wD Γ tg caps scope) t tg&&chkI Γ (nA tg) it iter&&chkEs (wD Γ tg caps scope) cond ifs&&bL (wD Γ tg caps scope) elt el)=true:=by
    exact h
   simp only[bA,beq_iff_eq,List.all_eq_true,decide_eq_true_eq,Bool.or_eq_true,bne_iff_ne,ne_eq] at h
   obtain⟨⟨⟨⟨⟨⟨⟨⟨⟨⟨⟨⟨⟨h0,h1⟩,h2⟩,h3⟩,h4⟩,h5⟩,h6⟩,h7⟩,h8⟩,h9⟩,h10⟩,h11⟩,h12⟩,h13⟩:=h
   subst h0
   refine⟨el,tg,iter,ifs,scope,pos,rfl,⟨h1,h2,h3,h4,h5,h6,λp hp=>?_,h8⟩,h9,h10,h11,h12,h13⟩
   obtain⟨⟨q1,q2⟩,q3⟩:=h7 p hp
   exact⟨q1,λe=>q2.resolve_left λz=>z e,λe=>q3.resolve_left λz=>z e⟩
 . cases h
abbrev PEc(P:Pg)(n:Nat)(c:E):Prop:=∀{X:Cx} {Γ:Ct},Mc X P Γ n->∀{e:Expr},bL Γ c e=true->∀(RT Y old:Addr->Prop) (σ:Sg),PE X e (WE X P n RT Y old σ c)
abbrev PTc(P:Pg)(n:Nat)(c:E):Prop:=∀{X:Cx} {Γ:Ct},Mc X P Γ n->∀{e:Expr},bL Γ c e=true->∀(RT Y old:Addr->Prop) (σ:Sg),PT X e (WT X P n RT Y old σ c)
abbrev PWc(P:Pg)(n:Nat)(c:E):Prop:=∀{X:Cx} {Γ:Ct},Mc X P Γ n->∀{o:BoolOp} {xs:List Expr} {pos:Pos},bL Γ c (.BoolOp o xs pos)=true->∀(RT Y old:Addr->Prop) (σ:Sg),PW X (.BoolOp o xs pos) (WT X P n RT Y old σ c)
structure Q3 (P:Pg) (n:Nat) (c:E):Prop where
 e:PEc P n c
 t:PTc P n c
 w:PWc P n c
structure QA (P:Pg) (n:Nat) (cs:Es):Prop where
 a:∀{X:Cx} {Γ:Ct},Mc X P Γ n->∀{es:List Expr},chkEs Γ cs es=true->∀(RT Y old:Addr->Prop) (σ:Sg),PA X es (WA X P n RT Y old σ cs)
 o:∀{X:Cx} {Γ:Ct},Mc X P Γ n->∀{e:Option Expr},chkO Γ cs e=true->∀(RT Y old:Addr->Prop) (σ:Sg),PO X e (wO X P n RT Y old σ cs)
 ts:∀{X:Cx} {Γ:Ct},Mc X P Γ n->∀{es:List Expr},es.length<=1->chkEs Γ cs es=true->∀(RT Y old:Addr->Prop) (σ:Sg),PTs X es (wTs X P n RT Y old σ cs)
abbrev QI(P:Pg)(n:Nat)(it:Hp.It):Prop:=∀{X:Cx} {Γ:Ct},Mc X P Γ n->∀{tg e:Expr},chkI Γ (nA tg) it e=true->∀(RT Y old:Addr->Prop) (σ:Sg),PI X tg e (wI X P n RT Y old σ it)
theorem Q3.of{c:E}(h:PEc P n c)(hd:∀σ,tst P (call P n) σ c=.bad)(hw:∀{Γ:Ct} {o:BoolOp} {xs:List Expr} {pos:Pos},bL Γ c (.BoolOp o xs pos)=false):Q3 P n c:=
 ⟨h,λ{X Γ} M {e} z RT Y old σ=>aDM (hd σ),λ{X Γ} M {o xs pos} z RT Y old σ=>absurd (hw.symm.trans z) bN⟩
theorem n_c{d:D}:Q3 P n (.c d):=by
 have h0:∀{Γ:Ct} {e:Expr},bL Γ (.c d) e=true->(∃c k p,e=.Constant c k p/\eqC d c=true)\/∃x p,e=.Name x p/\eR Γ x=true/\dC x=true/\∃d',Γ.cns.lookup x=some d'/\eqK d d'=true:=λ{Γ e} h=>by
  rcases(Bool.or_eq_true _ _).mp (show(oS (asC e) (eqC d)||oS (asN e) λx=>eR Γ x&&dC x&&oB (Γ.cns.lookup x) (eqK d))=true from h) with h|h
  . obtain⟨c,h1,g⟩:=aJ h
    clear h
    obtain⟨k,p,rfl⟩:=h1
    have h:=g
    clear g
    exact .inl ⟨c,k,p,rfl,h⟩
  . obtain⟨x,h1,g⟩:=aJ h
    clear h
    obtain⟨p,rfl⟩:=h1
    have h:=g
    clear g
    obtain⟨h1,h2,h3⟩:=fM h
    obtain⟨d',q1,q2⟩:=aBt h3
    exact .inr ⟨x,p,rfl,h1,h2,d',q1,q2⟩
 have k:PEc P n (.c d):=λ{X Γ} M {e} h RT Y old σ=>by
  rcases h0 h with⟨c,j,p,rfl,g⟩|⟨x,p,rfl,h1,h2,d',q,h3⟩
  . exact s_c g
  . have e:=aFL h3
    subst e
    obtain⟨u,v,m,r,hr⟩:=M.md.cns x d q
    refine(aCT (M.gl h1) m r (bP h2)).imp λσV H Q t ⟨S,hh⟩ t'=>?_
    exact(show Wn _ RT Y old σ σV H Q (Vl.cl d) from hh) v H t' (Ro.val (bG.refl H) (hr H))
 refine⟨k,λ{X Γ} M {e} h RT Y old σ=>?_,λ{X Γ} M {o xs pos} h RT Y old σ=>absurd h bN⟩
 refine lT (k M h RT Y old σ) ?_ λp hp=>hp
 rcases h0 h with⟨c,j,p,rfl,h⟩|⟨x,p,rfl,_⟩ <;> (intro _;rfl)
theorem n_v{i:Nat}:Q3 P n (.v i):=by
 have k:PEc P n (.v i):=λ{X Γ} M {e} h RT Y old σ=>by
  obtain⟨x,h1,g⟩:=aJ h
  clear h
  obtain⟨p,rfl⟩:=h1
  have h:=g
  clear g
  have h:cB _ i x=true:=h
  unfold cB at h
  obtain⟨h1,h2,h3⟩:=fM h
  exact s_v (by rw[M.N];exact eq_of_beq h1) (M.vis h2) (bP h3) (fH h3)
 refine⟨k,λ{X Γ} M {e} h RT Y old σ=>?_,λ{X Γ} M {o xs pos} h RT Y old σ=>absurd h bN⟩
 refine lT (k M h RT Y old σ) ?_ λp hp=>RE.bind' (show RE (aL σ i >>= λx=>eV x) p from hp)
 obtain⟨x,⟨p,rfl⟩,_⟩:=aJ h
 intro _;rfl
theorem aKI{o:Operator}{a b:E}(ha:Q3 P n a)(hb:Q3 P n b):Q3 P n (.op o a b):=Q3.of (λ{X Γ} M {e} h RT Y old σ=>by
 obtain⟨⟨l,o',r⟩,h1,g⟩:=aJ h
 clear h
 obtain⟨p,rfl⟩:=h1
 have h:=g
 clear g
 obtain⟨h1,h2,h3⟩:=fM h
 have e:o=o':=eq_of_beq h1
 subst e
 exact aKE (ha.e M h2 RT Y old σ) (hb.e M h3 RT Y old σ)) (λ_=>rfl) rfl
theorem aKJ{a:E}(ha:Q3 P n a):Q3 P n (.nt a):=by
 have h0:∀{Γ:Ct} {e:Expr},bL Γ (.nt a) e=true->∃x p,e=.UnaryOp .Not x p/\bL Γ a x=true:=λ{Γ e} h=>by
  obtain⟨⟨o,x⟩,h1,g⟩:=aJ h
  clear h
  obtain⟨p,rfl⟩:=h1
  have h:=g
  clear g
  obtain⟨h1,h2⟩:=eH h
  have e:o=.Not:=eq_of_beq h1
  subst e
  exact⟨x,p,rfl,h2⟩
 refine⟨λ{X Γ} M {e} h RT Y old σ=>?_,λ{X Γ} M {e} h RT Y old σ=>?_,λ{X Γ} M {o xs pos} h RT Y old σ=>absurd h bN⟩
 . obtain⟨x,p,rfl,g⟩:=h0 h
   exact aHY (ha.e M g RT Y old σ)
 . obtain⟨x,p,rfl,g⟩:=h0 h
   exact aKG (ha.t M g RT Y old σ)
theorem xQ{Γ:Ct}{a b:E}{w:BoolOp}{xs:List Expr}{p:Pos}(h:(match xs with
 | [x,y]=>bL Γ a x&&bL Γ b y
 | x::y::z::r=>bL Γ a x&&bL Γ b (.BoolOp w (y::z::r) p)
 | _=>false)=true):∃x y r,xs=x::y::r/\bL Γ a x=true/\((r=[]/\bL Γ b y=true)\/bL Γ b (.BoolOp w (y::r) p)=true):=by
 rcases xs with _|⟨x,_|⟨y,_|⟨z,r⟩⟩⟩
 . cases h
 . cases h
 . obtain⟨h1,h2⟩:=eH h
   exact⟨x,y,[],rfl,h1,.inl ⟨rfl,h2⟩⟩
 . obtain⟨h1,h2⟩:=eH h
   exact⟨x,y,z::r,rfl,h1,.inr h2⟩
theorem aKK{a b:E}(ha:Q3 P n a)(hb:Q3 P n b):Q3 P n (.an a b):=by
 have kw:PWc P n (.an a b):=λ{X Γ} M {o xs pos} h RT Y old σ=>by
  obtain⟨h1,h2⟩:=eH h
  have e:o=.And:=eq_of_beq h1
  subst e
  obtain⟨x,y,r,rfl,g1,g2⟩:=xQ h2
  rcases g2 with⟨rfl,g2⟩|g2
  . exact aIh (ha.t M g1 RT Y old σ) (aCU (hb.t M g2 RT Y old σ))
  . exact aIh (ha.t M g1 RT Y old σ) (hb.w M g2 RT Y old σ)
 refine⟨λ{X Γ} M {e} h RT Y old σ=>?_,λ{X Γ} M {e} h RT Y old σ=>?_,kw⟩
 . obtain⟨⟨o,xs,pos⟩,h1,g⟩:=aJ h
   clear h
   obtain rfl:=h1
   have h:=g
   clear g
   obtain⟨h1,h2⟩:=eH h
   have e:o=.And:=eq_of_beq h1
   subst e
   obtain⟨x,y,r,e,g1,g2⟩:=xQ h2
   have e:xs=x::y::r:=e
   subst e
   rcases g2 with⟨rfl,g2⟩|g2
   . exact aHZ (ha.e M g1 RT Y old σ) (aAw (hb.e M g2 RT Y old σ))
   . exact aHZ (ha.e M g1 RT Y old σ) (hb.e M g2 RT Y old σ)
 . obtain⟨⟨o,xs,pos⟩,rfl,_⟩:=aJ h
   exact(kw M h RT Y old σ).pt
theorem aIn{a b:E}(ha:Q3 P n a)(hb:Q3 P n b):Q3 P n (.orr a b):=by
 have kw:PWc P n (.orr a b):=λ{X Γ} M {o xs pos} h RT Y old σ=>by
  obtain⟨h1,h2⟩:=eH h
  have e:o=.Or:=eq_of_beq h1
  subst e
  obtain⟨x,y,r,rfl,g1,g2⟩:=xQ h2
  rcases g2 with⟨rfl,g2⟩|g2
  . exact aEE (ha.t M g1 RT Y old σ) (aEV (hb.t M g2 RT Y old σ))
  . exact aEE (ha.t M g1 RT Y old σ) (hb.w M g2 RT Y old σ)
 refine⟨λ{X Γ} M {e} h RT Y old σ=>?_,λ{X Γ} M {e} h RT Y old σ=>?_,kw⟩
 . obtain⟨⟨o,xs,pos⟩,h1,g⟩:=aJ h
   clear h
   obtain rfl:=h1
   have h:=g
   clear g
   obtain⟨h1,h2⟩:=eH h
   have e:o=.Or:=eq_of_beq h1
   subst e
   obtain⟨x,y,r,e,g1,g2⟩:=xQ h2
   have e:xs=x::y::r:=e
   subst e
   rcases g2 with⟨rfl,g2⟩|g2
   . exact aED (ha.e M g1 RT Y old σ) (aAw (hb.e M g2 RT Y old σ))
   . exact aED (ha.e M g1 RT Y old σ) (hb.e M g2 RT Y old σ)
 . obtain⟨⟨o,xs,pos⟩,rfl,_⟩:=aJ h
   exact(kw M h RT Y old σ).pt
theorem aIo{t a b:E}(ht:Q3 P n t)(ha:Q3 P n a)(hb:Q3 P n b):Q3 P n (.ife t a b):=Q3.of (λ{X Γ} M {e} h RT Y old σ=>by
 obtain⟨⟨t',a',b'⟩,h1,g⟩:=aJ h
 clear h
 obtain⟨p,rfl⟩:=h1
 have h:=g
 clear g
 obtain⟨h1,h2,h3⟩:=fM h
 exact aIa (ht.t M h1 RT Y old σ) (ha.e M h2 RT Y old σ) (hb.e M h3 RT Y old σ)) (λ_=>rfl) rfl
theorem aIp{o:CmpOp}{a b:E}(ha:Q3 P n a)(hb:Q3 P n b):Q3 P n (.cmp o a b):=by
 have h0:∀{Γ:Ct} {e:Expr},bL Γ (.cmp o a b) e=true->∃l r p,e=.Compare l [o] [r] p/\bL Γ a l=true/\bL Γ b r=true:=λ{Γ e} h=>by
  obtain⟨⟨l,os,rs⟩,h1,g⟩:=aJ h
  clear h
  obtain⟨p,rfl⟩:=h1
  have h:=g
  clear g
  rcases os with _|⟨o',_|⟨_,_⟩⟩
  . cases h
  . rcases rs with _|⟨r,_|⟨_,_⟩⟩
    . cases h
    . obtain⟨h1,h2,h3⟩:=fM h
      have e:o=o':=eq_of_beq h1
      subst e
      exact⟨l,r,p,rfl,h2,h3⟩
    . cases h
  . cases h
 refine⟨λ{X Γ} M {e} h RT Y old σ=>?_,λ{X Γ} M {e} h RT Y old σ=>?_,λ{X Γ} M {o xs pos} h RT Y old σ=>absurd h bN⟩
 . obtain⟨l,r,p,rfl,h2,h3⟩:=h0 h
   exact aIb M (ha.e M h2 RT Y old σ) (hb.e M h3 RT Y old σ) (bD h3)
 . obtain⟨l,r,p,rfl,h2,h3⟩:=h0 h
   exact aIc M (ha.e M h2 RT Y old σ) (hb.e M h3 RT Y old σ) (bD h3)
theorem aGg{a:E}{j:Nat}(ha:Q3 P n a):Q3 P n (.dnin a j):=by
 have h0:∀{Γ:Ct} {e:Expr},bL Γ (.dnin a j) e=true->∃l x p q,e=.Compare l [.NotIn] [.Name x q] p/\bL Γ a l=true/\cB Γ j x=true:=λ{Γ e} h=>by
  obtain⟨⟨l,os,rs⟩,h1,g⟩:=aJ h
  clear h
  obtain⟨p,rfl⟩:=h1
  have h:=g
  clear g
  rcases os with _|⟨o',_|⟨_,_⟩⟩
  . cases h
  . rcases rs with _|⟨r,_|⟨_,_⟩⟩
    . cases h
    . obtain⟨h1,h2,h3⟩:=fM h
      have e:CmpOp.NotIn=o':=eq_of_beq h1
      subst e
      obtain⟨x,⟨q,e2⟩,h4⟩:=aJ h3
      have e2:r=.Name x q:=e2
      subst e2
      exact⟨l,x,p,q,rfl,h2,h4⟩
    . cases h
  . cases h
 refine⟨λ{X Γ} M {e} h RT Y old σ=>?_,λ{X Γ} M {e} h RT Y old σ=>?_,λ{X Γ} M {o xs pos} h RT Y old σ=>absurd h bN⟩
 . obtain⟨l,x,p,q,rfl,h2,h3⟩:=h0 h
   exact aFM M h3 (ha.e M h2 RT Y old σ)
 . obtain⟨l,x,p,q,rfl,h2,h3⟩:=h0 h
   exact aFN M h3 (ha.e M h2 RT Y old σ)
theorem aGh{o1 o2:CmpOp}{a b c:E}(ha:Q3 P n a)(hb:Q3 P n b)(hc:Q3 P n c):Q3 P n (.cmp2 o1 o2 a b c):=by
 have h0:∀{Γ:Ct} {e:Expr},bL Γ (.cmp2 o1 o2 a b c) e=true->∃l m r p,e=.Compare l [o1,o2] [m,r] p/\bL Γ a l=true/\bL Γ b m=true/\bL Γ c r=true:=λ{Γ e} h=>by
  obtain⟨⟨l,os,rs⟩,h1,g⟩:=aJ h
  clear h
  obtain⟨p,rfl⟩:=h1
  have h:=g
  clear g
  rcases os with _|⟨o1',_|⟨o2',_|⟨_,_⟩⟩⟩
  . cases h
  . cases h
  . rcases rs with _|⟨m,_|⟨r,_|⟨_,_⟩⟩⟩
    . cases h
    . cases h
    . obtain⟨h1,h2,h3,h4,h5⟩:=wF h
      have e:o1=o1':=eq_of_beq h1
      subst e
      have e:o2=o2':=eq_of_beq h2
      subst e
      exact⟨l,m,r,p,rfl,h3,h4,h5⟩
    . cases h
  . cases h
 refine⟨λ{X Γ} M {e} h RT Y old σ=>?_,λ{X Γ} M {e} h RT Y old σ=>?_,λ{X Γ} M {o xs pos} h RT Y old σ=>absurd h bN⟩
 . obtain⟨l,m,r,p,rfl,h3,h4,h5⟩:=h0 h
   exact aFP M (ha.e M h3 RT Y old σ) (hb.e M h4 RT Y old σ) (hc.e M h5 RT Y old σ) (bD h5)
 . obtain⟨l,m,r,p,rfl,h3,h4,h5⟩:=h0 h
   exact aFQ M (ha.e M h3 RT Y old σ) (hb.e M h4 RT Y old σ) (hc.e M h5 RT Y old σ) (bD h5)
theorem aIq{a b:E}(ha:Q3 P n a)(hb:Q3 P n b):Q3 P n (.idx a b):=by
 have k:PEc P n (.idx a b):=λ{X Γ} M {e} h RT Y old σ=>by
  obtain⟨⟨x,i⟩,h1,g⟩:=aJ h
  clear h
  obtain⟨p,rfl⟩:=h1
  have h:=g
  clear g
  obtain⟨h1,h2⟩:=eH h
  exact aId (ha.e M h1 RT Y old σ) (hb.e M h2 RT Y old σ) (bD h2)
 refine⟨k,λ{X Γ} M {e} h RT Y old σ=>?_,λ{X Γ} M {o xs pos} h RT Y old σ=>absurd h bN⟩
 refine lT (k M h RT Y old σ) ?_ λp hp=>?_
 . obtain⟨⟨x,i⟩,⟨p,rfl⟩,_⟩:=aJ h
   intro _;rfl
 . have hp:=RE.bind' (show RE (ev P (call P n) σ a >>= λx=>ev P (call P n) σ b >>= λy=>bV x y >>= λz=>eV z) p from hp)
   show RE (ev P (call P n) σ a >>= λx=>ev P (call P n) σ b >>= λy=>bV x y) _
   rw[RE.bind]
   refine hp.mono λx hx=>?_
   rw[RE.bind]
   exact(RE.bind' hx).mono λy hy=>RE.bind' hy
theorem aIr{a:E}{lo hi:Es}(ha:Q3 P n a)(hl:QA P n lo)(hh:QA P n hi):Q3 P n (.sli a lo hi):=Q3.of (λ{X Γ} M {e} h RT Y old σ=>by
 obtain⟨⟨x,i⟩,h1,g⟩:=aJ h
 clear h
 obtain⟨p,rfl⟩:=h1
 have h:=g
 clear g
 obtain⟨⟨l,u⟩,h1,g⟩:=aJ h
 clear h
 obtain⟨p2,e2⟩:=h1
 have h:=g
 clear g
 have e2:i=.Slice l u none p2:=e2
 subst e2
 obtain⟨h1,h2,h3⟩:=fM h
 exact aIk (ha.e M h1 RT Y old σ) (hl.o M h2 RT Y old σ) (hh.o M h3 RT Y old σ)) (λ_=>rfl) rfl
theorem aIs{es:Es}(ha:QA P n es):Q3 P n (.tup es):=Q3.of (λ{X Γ} M {e} h RT Y old σ=>by
 obtain⟨xs,h1,g⟩:=aJ h
 clear h
 obtain⟨k,p,rfl⟩:=h1
 have h:=g
 clear g
 obtain⟨h1,h2⟩:=eH h
 exact aIe (ha.a M h2 RT Y old σ) h2 (of_decide_eq_true h1)) (λ_=>rfl) rfl
theorem aIt{es:Es}(ha:QA P n es):Q3 P n (.lst es):=Q3.of (λ{X Γ} M {e} h RT Y old σ=>by
 obtain⟨xs,h1,g⟩:=aJ h
 clear h
 obtain⟨p,rfl⟩:=h1
 have h:=g
 clear g
 obtain⟨h1,h2⟩:=eH h
 exact aIf (ha.a M h2 RT Y old σ) h2 (of_decide_eq_true h1)) (λ_=>rfl) rfl
theorem aGi{f:Nat}{es:Es}(ha:QA P n es):Q3 P n (.call f es):=by
 have k:PEc P n (.call f es):=λ{X Γ} M {e} h RT Y old σ=>by
  obtain⟨⟨x,xs⟩,h1,g⟩:=aJ h
  clear h
  obtain⟨p1,p2,rfl⟩:=h1
  have h:=g
  clear g
  obtain⟨h1,h2,h3,h4⟩:=aDN h
  exact aFO M (eq_of_beq h1) h2 h3 (ha.a M h4 RT Y old σ) (eX h4) h4
 refine⟨k,λ{X Γ} M {e} h RT Y old σ=>?_,λ{X Γ} M {o xs pos} h RT Y old σ=>absurd h bN⟩
 refine lT (k M h RT Y old σ) ?_ λp hp=>?_
 . obtain⟨⟨x,xs⟩,⟨p1,p2,rfl⟩,_⟩:=aJ h
   intro _;rfl
 . have hp:=RE.bind' (show RE (evs P (call P n) σ es >>= λvs=>call P n f (vs.map (·.d)) >>= λr=>eV (hG vs r)) p from hp)
   show RE (evs P (call P n) σ es >>= λvs=>call P n f (vs.map (·.d)) >>= λr=>R.ok (hG vs r)) _
   rw[RE.bind]
   refine hp.mono λx hx=>?_
   rw[RE.bind]
   exact(RE.bind' hx).mono λy hy=>hy
theorem aDO{f i:Nat}{es:Es}(ha:QA P n es):Q3 P n (.callP f i es):=by
 have k:PEc P n (.callP f i es):=λ{X Γ} M {e} h RT Y old σ=>by
  obtain⟨⟨x,xs⟩,h1,g⟩:=aJ h
  clear h
  obtain⟨p1,p2,rfl⟩:=h1
  have h:=g
  clear g
  obtain⟨h1,h2,h3,h4⟩:=aDN h
  cases xs with
  | nil=>cases h4
  | cons y ys=>
   obtain⟨h4,h5⟩:=eH h4
   obtain⟨z,⟨q,e2⟩,h6⟩:=aJ h4
   have e2:y=.Name z q:=e2
   subst e2
   exact aDD M (eq_of_beq h1) h2 h3 h6 (ha.a M h5 RT Y old σ) (eX h5)
 refine⟨k,λ{X Γ} M {e} h RT Y old σ=>?_,λ{X Γ} M {o xs pos} h RT Y old σ=>absurd h bN⟩
 refine lT (k M h RT Y old σ) ?_ λp hp=>?_
 . obtain⟨⟨x,xs⟩,⟨p1,p2,rfl⟩,_⟩:=aJ h
   intro _;rfl
 . have hp:=RE.bind' (show RE (evs P (call P n) σ es >>= λvs=>zM σ i >>= λd=>call P n f (d::vs.map (·.d)) >>= λr=>jI r >>= λx=>eV x) p from hp)
   show RE (evs P (call P n) σ es >>= λvs=>zM σ i >>= λd=>call P n f (d::vs.map (·.d)) >>= λr=>jI r) _
   rw[RE.bind]
   refine hp.mono λx hx=>?_
   rw[RE.bind]
   refine(RE.bind' hx).mono λd hd=>?_
   rw[RE.bind]
   exact(RE.bind' hd).mono λy hy=>RE.bind' hy
theorem aKL{b:Bi}{es:Es}(ha:QA P n es):Q3 P n (.bi b es):=by
 have k:PEc P n (.bi b es):=λ{X Γ} M {e} h RT Y old σ=>by
  obtain⟨⟨x,xs⟩,h1,g⟩:=aJ h
  clear h
  obtain⟨p1,p2,rfl⟩:=h1
  have h:=g
  clear g
  obtain⟨h,h6⟩:=eH h
  obtain⟨h1,h2,h3,h4,h5⟩:=wF h
  cases xs with
  | nil=>cases h5
  | cons y ys=>exact aKF M h1 (eq_of_beq h2) h3 h4 (ha.a M h6 RT Y old σ) (eX h6)
 refine⟨k,λ{X Γ} M {e} h RT Y old σ=>?_,λ{X Γ} M {o xs pos} h RT Y old σ=>absurd h bN⟩
 refine lT (k M h RT Y old σ) ?_ λp hp=>?_
 . obtain⟨⟨x,xs⟩,⟨p1,p2,rfl⟩,_⟩:=aJ h
   intro _;rfl
 . have hp:=RE.bind' (show RE (evs P (call P n) σ es >>= λvs=>biD b vs >>= λx=>eV x) p from hp)
   show RE (evs P (call P n) σ es >>= λvs=>biD b vs) _
   rw[RE.bind]
   exact hp.mono λx hx=>RE.bind' hx
theorem aIu{m:Mt}{o:E}{es:Es}(ho:Q3 P n o)(ha:QA P n es):Q3 P n (.mth m o es):=by
 have k:PEc P n (.mth m o es):=λ{X Γ} M {e} h RT Y old σ=>by
  obtain⟨⟨eo,a,xs,l⟩,h1,g⟩:=aJ h
  clear h
  obtain⟨ap,cp,rfl,hl⟩:=h1
  have h:=g
  clear g
  obtain⟨h,h7⟩:=eH h
  obtain⟨h,h6⟩:=eH h
  obtain⟨h1,h2,h3,h4,h5⟩:=wF h
  have ea:aBh m=a:=eq_of_beq h2
  subst ea
  rw[show l=true from h4] at hl
  rcases xs with _|⟨x,_|⟨_,_⟩⟩
  . cases h5
  . have hp:bS x=true:=by have:=eX h7;simpa using this
    cases m with
    | join=>exact aFS (ho.e M h6 RT Y old σ) (ha.a M h7 RT Y old σ) h3 hl hp
    | _=>cases h1
  . have:=of_decide_eq_true h5;simp at this
 refine⟨k,λ{X Γ} M {e} h RT Y old σ=>?_,λ{X Γ} M {o xs pos} h RT Y old σ=>absurd h bN⟩
 refine lT (k M h RT Y old σ) ?_ λp hp=>?_
 . obtain⟨⟨eo,a,xs,l⟩,⟨ap,cp,rfl,_⟩,_⟩:=aJ h
   intro _;rfl
 . have hp:=RE.bind' (show RE (ev P (call P n) σ o >>= λx=>evs P (call P n) σ es >>= λys=>mtD m x ys >>= λz=>eV z) p from hp)
   show RE (ev P (call P n) σ o >>= λx=>evs P (call P n) σ es >>= λys=>mtD m x ys) _
   rw[RE.bind]
   refine hp.mono λx hx=>?_
   rw[RE.bind]
   exact(RE.bind' hx).mono λy hy=>RE.bind' hy
theorem aIv{a:E}{cs:List Cl}(ha:Q3 P n a):Q3 P n (.isi a cs):=by
 have k:PEc P n (.isi a cs):=λ{X Γ} M {e} h RT Y old σ=>by
  obtain⟨⟨f,xs⟩,h1,g⟩:=aJ h
  clear h
  obtain⟨p1,p2,rfl⟩:=h1
  have h:=g
  clear g
  rcases cs with _|⟨c,_|⟨_,_⟩⟩
  . cases h
  . rcases xs with _|⟨x,_|⟨y,_|⟨_,_⟩⟩⟩
    . cases h
    . cases h
    . obtain⟨h1,h2,h3,h4,h5⟩:=wF h
      unfold aEA at h5
      split at h5
      . rename_i z p3
        obtain⟨q1,q2,q3⟩:=fM h5
        have hc:∃cv,tH c=some cv:=by cases c <;> first|exact⟨_,rfl⟩|cases h3
        obtain⟨cv,hc⟩:=hc
        exact aIg M (eq_of_beq h1) h2 hc (eq_of_beq q1) q2 q3 (ha.e M h4 RT Y old σ) (bD h4)
      . cases h5
    . cases h
  . cases h
 refine⟨k,λ{X Γ} M {e} h RT Y old σ=>?_,λ{X Γ} M {o xs pos} h RT Y old σ=>absurd h bN⟩
 refine lT (k M h RT Y old σ) ?_ λp hp=>?_
 . obtain⟨⟨x,xs⟩,⟨p1,p2,rfl⟩,_⟩:=aJ h
   intro _;rfl
 . have hp:=RE.bind' (show RE (ev P (call P n) σ a >>= λx=>(match isI cs P x.d with|some k=>R.ok k|none=>.bad)) p from hp)
   show RE (ev P (call P n) σ a >>= λx=>(match isI cs P x.d with|some k=>R.ok (Vl.cl (.bl k))|none=>.bad)) _
   rw[RE.bind]
   refine hp.mono λx hx=>?_
   cases q:isI cs P x.d with
   | none=>rw[q] at hx;exact hx.elim
   | some k=>rw[q] at hx;exact hx
theorem aGj{k:Nat}{caps:List Nat}{t:T}{it:Hp.It}{cond:Es}{elt:E}(hi:QI P n it)(hc:QA P n cond)(he:Q3 P n elt):Q3 P n (.comp k caps t it cond elt):=Q3.of (λ{X Γ} M {e} h RT Y old σ=>by
 obtain⟨el,tg,iter,ifs,scope,pos,rfl,O,h1,h2,h3,h4,h5⟩:=xP h
 refine aGe M (O.scope M) O.ndc O.tk (hi M h3 RT Y old σ) (λC s₀ H₀ ex=>?_) (lB (jO h3))
 have M':=O.mc M C s₀ H₀ ex
 exact⟨aDL M' h2,λRT Y old σ1=>hc.ts M' h1 h4 RT Y old σ1,λRT Y old σ1=>he.e M' h5 RT Y old σ1⟩) (λ_=>rfl) rfl
theorem iD{c:E}(h:∀{Γ:Ct} {e:Expr},bL Γ c e=false):Q3 P n c:=
 ⟨λ{X Γ} M {e} z=>absurd (h.symm.trans z) bN,λ{X Γ} M {e} z=>absurd (h.symm.trans z) bN,λ{X Γ} M {o xs pos} z=>absurd (h.symm.trans z) bN⟩
theorem aIw:QA P n .nil:=by
 refine⟨λ{X Γ} M {es} h RT Y old σ=>?_,λ{X Γ} M {e} h RT Y old σ=>?_,λ{X Γ} M {es} hl h RT Y old σ=>?_⟩
 . cases es with
   | nil=>exact tK
   | cons _ _=>exact nf h
 . cases e with
   | none=>exact aIi
   | some _=>exact nf h
 . cases es with
   | nil=>exact aGc
   | cons _ _=>exact nf h
theorem aGk{c:E}{cs:Es}(hc:Q3 P n c)(hs:QA P n cs):QA P n (.cons c cs):=by
 refine⟨λ{X Γ} M {es} h RT Y old σ=>?_,λ{X Γ} M {e} h RT Y old σ=>?_,λ{X Γ} M {es} hl h RT Y old σ=>?_⟩
 . cases es with
   | nil=>exact nf h
   | cons e es=>
    obtain⟨h1,h2⟩:=eH h
    exact jM (hc.e M h1 RT Y old σ) (hs.a M h2 RT Y old σ) (bD h1)
 . cases cs with
   | nil=>cases e with
    | none=>exact nf h
    | some e=>exact aIj (hc.e M (by exact h) RT Y old σ)
   | cons _ _=>cases e <;> exact nf h
 . cases es with
   | nil=>exact nf h
   | cons e es=>
    obtain⟨h1,h2⟩:=eH h
    cases es with
    | nil=>cases cs with
     | nil=>exact aGd (hc.t M h1 RT Y old σ)
     | cons _ _=>exact absurd h2 bN
    | cons _ _=>simp at hl
theorem aIx{c:E}(hc:Q3 P n c):QI P n (.seq c):=λ{X Γ} M {tg e} h RT Y old σ=>aIl (hc.e M (by exact h) RT Y old σ)
theorem aIy{a b:E}(ha:Q3 P n a)(hb:Q3 P n b):QI P n (.rng a b):=λ{X Γ} M {tg e} h RT Y old σ=>by
 rw[tV] at h
 obtain⟨⟨f,xs⟩,h1,g⟩:=aJ h
 clear h
 obtain⟨p1,p2,rfl⟩:=h1
 have h:=g
 clear g
 obtain⟨h1,h2,h3⟩:=fM h
 rcases xs with _|⟨x,_|⟨y,_|⟨_,_⟩⟩⟩
 . cases h3
 . obtain⟨h3,h4⟩:=eH h3
   have ez:a=.c (.int 0):=by
    unfold vQ at h3
    split at h3
    . rw[eq_of_beq h3]
    . cases h3
   rw[ez]
   exact aFZ M (eq_of_beq h1) h2 (hb.e M h4 RT Y old σ) (bD h4)
 . obtain⟨h3,h4⟩:=eH h3
   exact aGa M (eq_of_beq h1) h2 (ha.e M h3 RT Y old σ) (hb.e M h4 RT Y old σ) (bD h3) (bD h4)
 . cases h3
theorem aIz{a b:E}(ha:Q3 P n a)(hb:Q3 P n b):QI P n (.zip a b):=λ{X Γ} M {tg e} h RT Y old σ=>by
 rw[tW] at h
 obtain⟨⟨f,xs⟩,h1,g⟩:=aJ h
 clear h
 obtain⟨p1,p2,rfl⟩:=h1
 have h:=g
 clear g
 rcases xs with _|⟨x,_|⟨y,_|⟨_,_⟩⟩⟩
 . cases h
 . cases h
 . obtain⟨h0,h1,h2,h3,h4⟩:=wF h
   unfold nA at h0
   split at h0
   . exact aIm M (eq_of_beq h1) h2 (ha.e M h3 RT Y old σ) (hb.e M h4 RT Y old σ) (bD h3) (bD h4)
   . cases h0
 . cases h
theorem aGl{a:E}(ha:Q3 P n a):QI P n (.enum a):=λ{X Γ} M {tg e} h RT Y old σ=>by
 rw[pR] at h
 obtain⟨⟨f,xs⟩,h1,g⟩:=aJ h
 clear h
 obtain⟨p1,p2,rfl⟩:=h1
 have h:=g
 clear g
 rcases xs with _|⟨x,_|⟨_,_⟩⟩
 . cases h
 . obtain⟨h0,h1,h2,h3⟩:=aDN h
   unfold nA at h0
   split at h0
   . exact aGb M (eq_of_beq h1) h2 (ha.e M h3 RT Y old σ) (bD h3)
   . cases h0
 . cases h
theorem aIA{it:Hp.It}(z:∀Γ tt e,chkI Γ tt it e=false):QI P n it:=by
 intro X Γ M tg e h RT Y old σ
 rw[z] at h
 cases h
mutual
theorem qE:(c:E)->Q3 P n c
 | .c _=>n_c
 | .v _=>n_v
 | .op _ a b=>aKI (qE a) (qE b)
 | .neg _=>iD rfl
 | .nt a=>aKJ (qE a)
 | .an a b=>aKK (qE a) (qE b)
 | .orr a b=>aIn (qE a) (qE b)
 | .ife t a b=>aIo (qE t) (qE a) (qE b)
 | .cmp _ a b=>aIp (qE a) (qE b)
 | .dnin a _=>aGg (qE a)
 | .dget _ _=>iD rfl
 | .dlen _=>iD rfl
 | .cmp2 _ _ a b c=>aGh (qE a) (qE b) (qE c)
 | .idx a b=>aIq (qE a) (qE b)
 | .sli a lo hi=>aIr (qE a) (qA lo) (qA hi)
 | .tup es=>aIs (qA es)
 | .lst es=>aIt (qA es)
 | .dic _ _=>iD rfl
 | .call _ es=>aGi (qA es)
 | .callP _ _ es=>aDO (qA es)
 | .bi _ es=>aKL (qA es)
 | .mth _ o es=>aIu (qE o) (qA es)
 | .isi a _=>aIv (qE a)
 | .attr _ _=>iD rfl
 | .comp _ _ _ it cond elt=>aGj (qI it) (qA cond) (qE elt)
 | .numset _=>iD rfl
 | .tget _ _=>iD rfl
 | .lzip _ _=>iD rfl
theorem qA:(cs:Es)->QA P n cs
 | .nil=>aIw
 | .cons c cs=>aGk (qE c) (qA cs)
theorem qI:(it:Hp.It)->QI P n it
 | .seq c=>aIx (qE c)
 | .rng a b=>aIy (qE a) (qE b)
 | .zip a b=>aIz (qE a) (qE b)
 | .enum a=>aGl (qE a)
 | .rev _=>aIA λ_ _ _=>rfl
end
theorem sE(c:E):PEc P n c:=(qE c).e
theorem sT(c:E):PTc P n c:=(qE c).t
theorem sTs(cs:Es):∀{X:Cx} {Γ:Ct},Mc X P Γ n->∀{es:List Expr},es.length<=1->chkEs Γ cs es=true->∀(RT Y old:Addr->Prop) (σ:Sg),PTs X es (wTs X P n RT Y old σ cs):=(qA cs).ts
theorem sI(it:Hp.It):QI P n it:=qI it
end
end Hp
end
noncomputable section
set_option maxHeartbeats 4000000
namespace Hp
open PySem PySem.Spec PyProof.Rows L2
def dL(K:Fg)(RT Y old:Addr->Prop)(H:Hp)(σ':Sg)(Q:L2.St->Hp->Prop):Prop:=
 ∀(RT':Addr->Prop) (σV':L2.St) (H':Hp),Kp RT H H'->(∀b,RT' b->RT b\/H b=none)->Sx K RT' Y old σ' σV' H'->Q σV' H'
def Rtv(K:Fg)(Y old:Addr->Prop)(H':Hp)(v:Vl)(u:V):Prop:=
 if v.fr=true then ∃a xs ds,u=.ref a/\v.d=.lst ds/\¬ old a/\H' a=some (.lst xs)/\Reps K H' (λb=>b=a\/exB Y old v.pa b) ds xs
 else Rep K H' (exB Y old v.pa) v.d u
def nP(K:Fg)(RT Y old:Addr->Prop)(H:Hp)(v:Vl)(Q:VK):Prop:=∀(u:V) (H':Hp),Kp RT H H'->Tk K H'->Rtv K Y old H' v u->Q u H'
def OE(K:Fg)(RT Y old:Addr->Prop)(H:Hp)(o:O)(D:Ends):Prop:=match o with
 | .next σ'=>dL K RT Y old H σ' D.nx
 | .brk σ'=>dL K RT Y old H σ' D.bk
 | .cnt σ'=>dL K RT Y old H σ' D.ct
 | .ret v=>nP K RT Y old H v D.rt
 | .exc _ _=>False
 | .bad=>False
def wS(X:Cx)(RT Y old:Addr->Prop)(σ:Sg)(o:O):TS:=λD σV H=>Sx X.K RT Y old σ σV H/\OE X.K RT Y old H o D
section
variable {K:Fg} {RT RT' RT'' Y old:Addr->Prop} {σ:Sg} {σV:L2.St} {H H1 H2:Hp} {o:O} {D D':Ends}
theorem Kp.chain(a:Kp RT H H1)(s:∀b,RT' b->RT b\/H b=none)(b:Kp RT' H1 H2):Kp RT H H2:=λc o e n=>b c o (a c o e n) λz=>(s c z).elim n λq=>by rw[q] at e;cases e
theorem gG(a:Kp RT H H1)(s1:∀b,RT' b->RT b\/H b=none)(s2:∀b,RT'' b->RT' b\/H1 b=none):∀b,RT'' b->RT b\/H b=none:=λb z=>by
 rcases s2 b z with q|q
 . exact s1 b q
 . by_cases hr:RT b
   . exact .inl hr
   . refine .inr ?_
     cases e:H b with
     | none=>rfl
     | some o=>rw[a b o e hr] at q;cases q
theorem dL.mono{σ':Sg}{Q:L2.St->Hp->Prop}(a:Kp RT H H1)(s:∀b,RT' b->RT b\/H b=none)(h:dL K RT Y old H σ' Q):dL K RT' Y old H1 σ' Q:=λRT2 σV2 H2 k n S=>h RT2 σV2 H2 (a.chain s k) (gG a s n) S
theorem OE.mono(a:Kp RT H H1)(s:∀b,RT' b->RT b\/H b=none)(h:OE K RT Y old H o D):OE K RT' Y old H1 o D:=by
 cases o with
 | next σ'=>exact dL.mono a s h
 | brk σ'=>exact dL.mono a s h
 | cnt σ'=>exact dL.mono a s h
 | ret v=>exact λu H2 k t r=>(show nP K RT Y old H v D.rt from h) u H2 (a.chain s k) t r
 | exc x σ'=>exact h
 | bad=>exact h
theorem bQ:∀b,RT b->RT b\/H b=none:=λ_ z=>.inl z
def tkE(K:Fg)(D:Ends):Ends:=⟨λσ H=>Tk K H->D.nx σ H,λv H=>Tk K H->D.rt v H,λσ H=>Tk K H->D.bk σ H,λσ H=>Tk K H->D.ct σ H⟩
theorem OE.from{α:Type}{x:R α}{f:α->O}(h:OE K RT Y old H (O.from σ x f) D):RE x λa=>OE K RT Y old H (f a) D:=by
 cases x with
 | ok a=>exact h
 | exc e=>exact h
 | bad=>exact h
end
section
variable {X:Cx} {st:Stmt} {t t':TS}
theorem aEG{pins:List (Addr×Obj)}{D:Ends}{f:Flow}{s':Shared}(h:SP X pins (tkE X.K D) f s'):SP X pins D f s':=by
 cases f with
 | next=>obtain⟨σ',H',I,q⟩:=h;exact⟨σ',H',I,q I.tk⟩
 | brk=>obtain⟨σ',H',I,q⟩:=h;exact⟨σ',H',I,q I.tk⟩
 | cont=>obtain⟨σ',H',I,q⟩:=h;exact⟨σ',H',I,q I.tk⟩
 | ret u=>obtain⟨v,σ',H',I,r,q⟩:=h;exact⟨v,σ',H',I,r,q I.tk⟩
theorem cN(h:PS X st t)(f:∀D σV H,Tk X.K H->t' D σV H->t (tkE X.K D) σV H):PS X st t':=λpins s σV H D I hw=>thn (h pins s σV H _ I (f D σV H I.tk hw)) λfl s' q=>aEG q
theorem rE{sts:List Stmt}(h:PSs X sts t)(f:∀D σV H,Tk X.K H->t' D σV H->t (tkE X.K D) σV H):PSs X sts t':=λpins s σV H D I hw=>thn (h pins s σV H _ I (f D σV H I.tk hw)) λfl s' q=>aEG q
theorem rF{Y old:Addr->Prop}{sts:List Stmt}{f:Sg->O}(h:∀RT σ,PSs X sts (wS X RT Y old σ (f σ))):PSs X sts (λD σV H=>∃RT σ,wS X RT Y old σ (f σ) D σV H):=λpins s σV H D I ⟨RT,σ,hw⟩=>h RT σ pins s σV H D I hw
end
section
variable {X:Cx} {P:Pg} {Γ:Ct} {n:Nat} {RT Y old:Addr->Prop} {σ:Sg} {pos:Pos}
theorem dL.tkE{σ':Sg}{Q:L2.St->Hp->Prop}{H:Hp}(h:dL X.K RT Y old H σ' Q):dL X.K RT Y old H σ' λσ H=>Tk X.K H->Q σ H:=λRT' σV' H' k n S _=>h RT' σV' H' k n S
theorem OE.tkE{o:O}{D:Ends}{H:Hp}(h:OE X.K RT Y old H o D):OE X.K RT Y old H o (tkE X.K D):=by
 cases o with
 | next σ'=>exact dL.tkE h
 | brk σ'=>exact dL.tkE h
 | cnt σ'=>exact dL.tkE h
 | ret v=>exact λu H2 k t r _=>(show nP X.K RT Y old H v D.rt from h) u H2 k t r
 | exc x σ'=>exact h
 | bad=>exact h
theorem aIB:PSs X [] (wS X RT Y old σ (exs P (call P n) σ .nil)):=rE aCV λD σV H t ⟨S,h⟩ _=>(show dL X.K RT Y old H σ D.nx from h) RT σV H (Kp.refl RT H) bQ S
theorem aGm{s:S}{ss:Ss}{x:Stmt}{xs:List Stmt}(h1:∀RT σ,PS X x (wS X RT Y old σ (ex P (call P n) σ s)))(h2:∀RT σ,PSs X xs (wS X RT Y old σ (exs P (call P n) σ ss))) :
 PSs X (x::xs) (wS X RT Y old σ (exs P (call P n) σ (.cons s ss))):=by
 refine rE (aAy (h1 RT σ) (rF h2)) λD σV H t ⟨S,h⟩=>?_
 have h:OE X.K RT Y old H ((ex P (call P n) σ s).on λσ'=>exs P (call P n) σ' ss) D:=h
 refine⟨S,?_⟩
 cases q:ex P (call P n) σ s with
 | next σ'=>
  rw[q] at h
  exact λRT' σV' H' k nn S'=>⟨RT',σ',S',(OE.mono k nn (show OE X.K RT Y old H (exs P (call P n) σ' ss) D from h)).tkE⟩
 | brk σ'=>rw[q] at h;exact OE.tkE (D:=D) (o:=.brk σ') h
 | cnt σ'=>rw[q] at h;exact OE.tkE (D:=D) (o:=.cnt σ') h
 | ret v=>rw[q] at h;exact OE.tkE (D:=D) (o:=.ret v) h
 | exc e σ'=>rw[q] at h;exact h
 | bad=>rw[q] at h;exact h
theorem aGn:PS X (.Pass pos) (wS X RT Y old σ (ex P (call P n) σ .pass)):=cN aCW λD σV H t ⟨S,h⟩ _=>(show dL X.K RT Y old H σ D.nx from h) RT σV H (Kp.refl RT H) bQ S
theorem aIC:PS X (.Break pos) (wS X RT Y old σ (ex P (call P n) σ .brk)):=cN aAz λD σV H t ⟨S,h⟩ _=>(show dL X.K RT Y old H σ D.bk from h) RT σV H (Kp.refl RT H) bQ S
theorem aID:PS X (.Continue pos) (wS X RT Y old σ (ex P (call P n) σ .cnt)):=cN sH λD σV H t ⟨S,h⟩ _=>(show dL X.K RT Y old H σ D.ct from h) RT σV H (Kp.refl RT H) bQ S
theorem aIE{st:Stmt}{c:Nat}{k:Bool}{es:Es}:PS X st (wS X RT Y old σ (ex P (call P n) σ (.rse c k es))):=cN aAB λD σV H t ⟨S,h⟩=>by
 have h:OE X.K RT Y old H (O.from σ (evs P (call P n) σ es) λvs=>.exc (.err c (if k then vs.map (·.d) else [])) σ) D:=h
 obtain⟨vs,_,q⟩:=(OE.from h).eq
 exact q
theorem xR{pa:Bool}{al:List Nat}{σV:L2.St}{b:Addr}(h:exB Y old pa b):exV RT Y old σ σV pa al b:=.inr h
theorem Ro.rtv{H H':Hp}{σV:L2.St}{v:Vl}{u:V}(S:Sx X.K RT Y old σ σV H)(ro:Ro X.K RT Y old σ σV H H' v u):Rtv X.K Y old H' v u:=by
 unfold Rtv
 by_cases hf:v.fr=true
 . rw[if_pos hf]
   obtain⟨s,h⟩:=ro
   rw[if_pos hf] at h
   obtain⟨a,xs,ds,e1,e2,e3,e4,r⟩:=h
   exact⟨a,xs,ds,e1,e2,λz=>S.trk a (.inr (.inr z)) e3,e4,r.weak λb z=>z.elim .inl λz=>.inr (xR z)⟩
 . rw[if_neg hf]
   exact Rep.weak (ro.rv S) λb z=>xR z
theorem aIF{c:E}{e:Expr}(he:PE X e (WE X P n RT Y old σ c)):PS X (.Return (some e) pos) (wS X RT Y old σ (ex P (call P n) σ (.ret c))):=by
 refine cN (aAA he) λD σV H t ⟨S,h⟩=>?_
 have h:=OE.from (show OE X.K RT Y old H (O.from σ (ev P (call P n) σ c) .ret) D from h)
 exact wE.one S h λx u H1 hx t1 S1 r1 _=>(show nP X.K RT Y old H x D.rt from hx) u H1 (Kp.same r1.1) t1 (r1.rtv S)
theorem aGo:PS X (.Return none pos) (wS X RT Y old σ (ex P (call P n) σ .retN)):=cN aCX λD σV H t ⟨S,h⟩ _=>(show nP X.K RT Y old H (.cl .non) D.rt from h) .non H (Kp.refl RT H) t rfl
theorem aGp{i:Nat}{x:Str}{p:Pos}(M:Mc X P Γ n)(hx:cB Γ i x=true):PS X (.Return (some (.Name x p)) pos) (wS X RT Y old σ (ex P (call P n) σ (.retv i))):=by
 have hpe:PE X (.Name x p) (aCS i):=by
  unfold cB at hx
  obtain⟨h1,h2,h3⟩:=fM hx
  exact kP (by rw[M.N];exact eq_of_beq h1) (M.vis h2) (bP h3) (fH h3)
 refine cN (aAA hpe) λD σV H t ⟨S,h⟩=>?_
 have h:OE X.K RT Y old H (match σ[i]? with|some (.own pa ds)=>.ret ⟨.lst ds,true,pa,[]⟩|_=>O.from σ (aL σ i) .ret) D:=h
 unfold aL at h
 cases e:σ[i]? with
 | none=>rw[e] at h;exact h.elim
 | some sl=>
  rw[e] at h
  cases sl with
  | dead=>exact h.elim
  | dct _=>exact h.elim
  | par _ _=>exact h.elim
  | own pa ds=>
   obtain⟨a,xs,h1,h2,h3,h4,h5⟩:=S.own i pa ds e
   refine⟨.ref a,h1,λ_=>(show nP X.K RT Y old H ⟨.lst ds,true,pa,[]⟩ D.rt from h) _ H (Kp.refl RT H) t ?_⟩
   unfold Rtv
   rw[if_pos rfl]
   exact⟨a,xs,ds,rfl,rfl,h4,h2,h5.weak λb z=>z.elim (λz=>.inl (by rw[z];exact h3)) .inr⟩
  | sh pa d=>
   obtain⟨v,h1,h2⟩:=S.sh i pa d e
   refine⟨v,h1,λ_=>(show nP X.K RT Y old H ⟨d,false,pa&&!noL d,[]⟩ D.rt from h) v H (Kp.refl RT H) t ?_⟩
   unfold Rtv
   rw[if_neg bN]
   show Rep X.K H (exB Y old (pa&&!noL d)) d v
   cases hn:noL d with
   | true=>exact Rep.free d v hn h2
   | false=>
    refine h2.weak λb z=>.inr ?_
    rw[Bool.not_false,Bool.and_true] at z
    exact z
theorem aKM{c:E}{e:Expr}(he:PE X e (WE X P n RT Y old σ c))(hs:nB e=false):PS X (.Expr e pos) (wS X RT Y old σ (ex P (call P n) σ (.ex c))):=by
 refine cN (jT he (by cases e <;> first|rfl|cases hs)) λD σV H t ⟨S,h⟩=>?_
 have h:=OE.from (show OE X.K RT Y old H (O.from σ (ev P (call P n) σ c) λ_=>.next σ) D from h)
 exact wE.one S h λx u H1 hx t1 S1 r1 _=>(show dL X.K RT Y old H σ D.nx from hx) RT σV H1 (Kp.same r1.1) bQ S1
theorem aKN{c:E}{a b:Ss}{e:Expr}{xa xb:List Stmt}(hc:PT X e (WT X P n RT Y old σ c))(ha:∀RT σ,PSs X xa (wS X RT Y old σ (exs P (call P n) σ a)))(hb:∀RT σ,PSs X xb (wS X RT Y old σ (exs P (call P n) σ b))) :
 PS X (.If e xa xb pos) (wS X RT Y old σ (ex P (call P n) σ (.iff c a b))):=by
 refine cN (aHo hc (ha RT σ) (hb RT σ)) λD σV H t ⟨S,h⟩=>?_
 have h:=OE.from (show OE X.K RT Y old H (O.from σ (tst P (call P n) σ c) λk=>if k=true then exs P (call P n) σ a else exs P (call P n) σ b) D from h)
 refine⟨S,h.mono λk hk H1 t1 s1=>?_⟩
 cases k with
 | true=>rw[if_pos rfl] at hk ⊢;exact⟨S.grow s1 t1,(OE.mono (Kp.same s1) bQ hk).tkE⟩
 | false=>rw[if_neg bN] at hk ⊢;exact⟨S.grow s1 t1,(OE.mono (Kp.same s1) bQ hk).tkE⟩
theorem rG{σV:L2.St}{H H1:Hp}{v:Vl}{u:V}{t:T}{D:Ends}(S:Sx X.K RT Y old σ σV H)(t1:Tk X.K H1)(r1:Ro X.K RT Y old σ σV H H1 v u)(h:OE X.K RT Y old H (O.from σ (cF (freeze σ v.al) v t) .next) D):gT X.K t u σV H1 D.nx:=by
 obtain⟨σ2,e,hp⟩:=(OE.from h).eq
 have hp:dL X.K RT Y old H σ2 D.nx:=hp
 clear h
 cases t with
 | n i=>
  obtain⟨RT',S',hsub⟩:=S.store r1 t1 i
  rw[nO e] at hp
  exact hp RT' _ H1 (Kp.same r1.1) hsub S'
 | t is=>
  obtain⟨ds,hd,hl,e'⟩:=nN e
  have Sf:=(S.grow r1.1 t1).frz v.al
  have hr:Rep X.K H1 (λa=>rtF RT σ σV v.al a\/exB Y old v.pa a) v.d u:=r1.rv S
  have hf:v.fr=false\/v.fr=true:=by cases v.fr <;> simp
  rcases hf with hf|hf
  . exact aBK Sf hf hr e λσ2V S2 _=>hp _ _ _ (Kp.same r1.1) (λb z=>.inl z.1) S2
  . have:=r1.2
    rw[if_pos hf] at this
    obtain⟨a,xs,ds',_,e2,_⟩:=this
    rw[hd] at e2;cases e2
theorem aGq{c:E}{e:Expr}{i:Nat}{x:Str}{p:Pos}(M:Mc X P Γ n)(hx:cG Γ i x=true)(he:PE X e (WE X P n RT Y old σ c))(hs:nB e=false):PS X (.Assign [.Name x p] e pos) (wS X RT Y old σ (ex P (call P n) σ (.set (.n i) c))):=by
 unfold cG at hx
 obtain⟨h1,h2,h3⟩:=fM hx
 refine cN (mM (i:=i) M.nd (by rw[M.N];exact eq_of_beq h1) (M.loc h2) he (by cases e <;> first|rfl|cases hs) (M.st x h2)) λD σV H t ⟨S,h⟩=>?_
 have h:=OE.from (show OE X.K RT Y old H (O.from σ (ev P (call P n) σ c) λv=>O.from σ (cF (freeze σ v.al) v (.n i)) .next) D from h)
 exact wE.one S h λv u H1 hv t1 S1 r1=>rG (t:=.n i) S t1 r1 (OE.tkE hv)
theorem aGr{c:E}{e:Expr}{is:List Nat}{es:List Expr}{k:Nat}{p:Pos}(M:Mc X P Γ n)(hx:oY Γ (.t is) (.Tuple es k p)=true)(he:PE X e (WE X P n RT Y old σ c))(hs:vR e=false):PS X (.Assign [.Tuple es k p] e pos) (wS X RT Y old σ (ex P (call P n) σ (.set (.t is) c))):=by
 refine cN (uZ he (aDL M hx) (by cases e <;> rfl) (by cases e <;> first|rfl|cases hs)) λD σV H t ⟨S,h⟩=>?_
 have h:=OE.from (show OE X.K RT Y old H (O.from σ (ev P (call P n) σ c) λv=>O.from σ (cF (freeze σ v.al) v (.t is)) .next) D from h)
 exact wE.one S h λv u H1 hv t1 S1 r1=>rG (t:=.t is) S t1 r1 (OE.tkE hv)
theorem aAc{i:Nat}{x:Str}{p cpos:Pos}(M:Mc X P Γ n)(hx:cG Γ i x=true){k:Nat}{caps:List Nat}{t:T}{it:Hp.It}{cond:Es}{elt:E}{e tg iter:Expr}{ifs:List Expr}{scope:Scope}{N':List Str}(CS:dW X scope k caps N')(hnd:caps.Nodup)(hk:∀i∈tIx t,i<k)
 (hi:PI X tg iter (wI X P n RT Y old σ it))
 (hch:∀C s₀ H₀ ex,PG (eF X scope N' C s₀ H₀ ex) tg (gT X.K t)/\(∀RT Y old σ1,PTs (eF X scope N' C s₀ H₀ ex) ifs (wTs X P n RT Y old σ1 cond))/\∀RT Y old σ1,PE (eF X scope N' C s₀ H₀ ex) e (WE X P n RT Y old σ1 elt))
 (hs:∀x,foldedSetIterable iter X.env x=pure x):PS X (.Assign [.Name x p] (.ListComp e [⟨tg,iter,ifs,0⟩] scope cpos) pos) (wS X RT Y old σ (ex P (call P n) σ (.set (.n i) (.comp k caps t it cond elt)))):=by
 unfold cG at hx
 obtain⟨h1,h2,h3⟩:=fM hx
 refine cN (vU (g:=gT X.K t) (tt:=λσV H Q=>∃RT Y old σ1,wTs X P n RT Y old σ1 cond σV H Q) (te:=λσV H Q=>∃RT Y old σ1,WE X P n RT Y old σ1 elt σV H Q) CS M.calm hi (λC s₀ H₀ ex=>?_) hs M.nd (by rw[M.N];exact eq_of_beq h1) (M.loc h2) (M.st x h2)) λD σV H t0 ⟨S,h⟩=>?_
 . obtain⟨h1,h2,h3⟩:=hch C s₀ H₀ ex
   exact⟨h1,λpins s σV H Q I ⟨RT,Y,old,σ1,hw⟩=>h2 RT Y old σ1 pins s σV H Q I hw,λpins s σV H Q I ⟨RT,Y,old,σ1,hw⟩=>h3 RT Y old σ1 pins s σV H Q I hw⟩
 . have h:=OE.from (show OE X.K RT Y old H (O.from σ (ev P (call P n) σ (.comp k caps t it cond elt)) λv=>O.from σ (cF (freeze σ v.al) v (.n i)) .next) D from h)
   exact aBM (Q:=λv H'=>pF i v σV H' D.nx) hnd hk ⟨S,h.mono λv hv u H1 t1 r1=>rG (t:=.n i) S t1 r1 hv⟩
theorem Sx.mut{K:Fg}{σV:L2.St}{H:Hp}(S:Sx K RT Y old σ σV H){i:Nat}{pa pa':Bool}{ds ds':List D}{a:Addr}{xs':List V}(e:σ[i]? = some (.own pa ds))(ha:σV[i]? = some (some (.ref a)))(r:Reps K H (λb=>RT b\/exB Y old pa' b) ds' xs') :
 Sx K RT Y old (σ.set i (.own pa' ds')) σV (upd H a (.lst xs')):=by
 obtain⟨a',xs,h1,h2,h3,h4,h5⟩:=S.own i pa ds e
 rw[ha] at h1
 cases h1
 have ks:∀{ex:Addr->Prop},∀b o,H b=some o->(∀ys,o=.lst ys->¬ (RT b\/ex b))->(∀φ,o≠.ext φ)->upd H a (.lst xs') b=some o:=λ{ex} b o q hl _=>by
  rw[aN λz=>by subst z;rw[h2] at q;cases q;exact hl xs rfl (.inl h3)]
  exact q
 exact {
  sh:=λj pb d q=>by
   rcases set_some q with⟨_,z,_⟩|⟨_,q⟩
   . cases z
   . obtain⟨v,g1,g2⟩:=S.sh j pb d q
     exact⟨v,g1,g2.keep ks⟩
  own:=λj pb dd q=>by
   rcases set_some q with⟨rfl,z,_⟩|⟨hne,q⟩
   . cases z
     exact⟨a,xs',ha,bU,h3,h4,r.keep ks⟩
   . obtain⟨b,ys,g1,g2,g3,g4,g5⟩:=S.own j pb dd q
     have hb:b≠a:=λz=>by
      subst z
      exact hne (S.inj i j pa pb ds dd b e q ha g1)
     exact⟨b,ys,g1,by rw[aN hb];exact g2,g3,g4,g5.keep ks⟩
  trk:=λb z q=>by
   by_cases hb:b=a
   . rw[hb,bU] at q;cases q
   . rw[aN hb] at q;exact S.trk b z q
  yo:=S.yo
  tk:=λb z=>by
   by_cases hb:b=a
   . rw[hb];exact S.tk a (by rw[h2];simp)
   . rw[aN hb] at z;exact S.tk b z
  rt:=λb z=>by
   by_cases hb:b=a
   . rw[hb];exact .inl ⟨xs',bU⟩
   . unfold RtO;rw[aN hb];exact S.rt b z
  inj:=λj j' pb pb' dd dd' b q1 q2=>by
   have get:∀{j:Nat} {pb:Bool} {dd:List D},(σ.set i (.own pa' ds'))[j]? = some (.own pb dd)->∃p2 d2,σ[j]? = some (.own p2 d2):=λ{j pb dd} q=>by
    rcases set_some q with⟨rfl,_,_⟩|⟨_,q⟩
    . exact⟨pa,ds,e⟩
    . exact⟨pb,dd,q⟩
   obtain⟨_,_,z1⟩:=get q1
   obtain⟨_,_,z2⟩:=get q2
   exact S.inj j j' _ _ _ _ b z1 z2
  len:=by rw[List.length_set];exact S.len
  dx:=S.dx.imp id (λj dd q=>by
   rcases set_some q with⟨_,z,_⟩|⟨_,q⟩
   . cases z
   . exact⟨q,rfl⟩) (λ_ _ _ _ _ _ e=>e) (λb ys q z _=>⟨by rw[aN λw=>by rw[w,h2] at q;cases q];exact q,z⟩) (λb ks z=>Kp.seqT (R:=λb=>b=a) (λb o q n=>by rw[aN n];exact q) (λb z=>.inl ⟨xs,by rw[z];exact h2⟩) z) (λj dd ee q=>by
   rcases set_some q with⟨_,z,_⟩|⟨_,q⟩
   . cases z
   . exact⟨q,rfl⟩) (λ_ _ _ _ _ _ _ _ e=>e) λp ys q z=>⟨by rw[aN λw=>z.2.2 i pa ds e (by rw[w];exact ha)];exact q,z.1,z.2.1,λk pb dd w=>by
   rcases set_some w with⟨rfl,_,_⟩|⟨_,w⟩
   . exact z.2.2 i pa ds e
   . exact z.2.2 k pb dd w⟩ }
theorem Kp.upd{H H1:Hp}{a:Addr}{xs:List V}(s:bG H H1)(h:RT a):Kp RT H (upd H1 a (.lst xs)):=λb o e nn=>by
 rw[aN λz=>nn (by rw[z];exact h)]
 exact s b o e
theorem aBO{i:Nat}{pa:Bool}{ds:List D}(h:eO σ i=some (pa,ds)):σ[i]? = some (.own pa ds):=by
 unfold eO at h
 split at h
 . rename_i q;cases h;exact q
 . cases h
theorem wG{i:Nat}{v:Vl}{f:List D->Option (List D)}{H:Hp}{D:Ends}(h:OE X.K RT Y old H (put σ i v f) D):∃pa ds ds',σ[i]? = some (.own pa ds)/\i∉v.al/\f ds=some ds'/\ds'.length<=lim/\dL X.K RT Y old H ((freeze σ v.al).set i (.own (pa||v.pa) ds')) D.nx:=by
 unfold put at h
 split at h
 . rename_i pa ds q
   have q:=eU (aBO q)
   split at h
   . rename_i ds' q2
     split at h
     . rename_i hl
       exact⟨pa,ds,ds',q.1,q.2,q2,hl,h⟩
     . exact h.elim
   . exact h.elim
 . exact h.elim
theorem rH{pa pb:Bool}{b:Addr}(h:exB Y old (pa||pb) b):exB Y old pa b:=h.imp_right λz=>⟨by cases pa <;> simp_all,z.2⟩
theorem xS{pa pb:Bool}{b:Addr}(h:exB Y old (pa||pb) b):exB Y old pb b:=h.imp_right λz=>⟨by cases pb <;> simp_all,z.2⟩
theorem xT{i:Nat}{m:Str}{c:Expr}{xs:List Expr}(h:pA Γ i m c=some xs):∃x p ap cp,c=.Call (.Attribute (.Name x p) m ap) xs [] cp/\cB Γ i x=true/\(ap.endLine==cp.line)=true:=by
 unfold pA at h
 split at h
 . rename_i x p a ap xs' cp
   split at h
   . rename_i q
     obtain⟨q1,q2,q3⟩:=fM q
     cases h
     have e:a=m:=eq_of_beq q1
     subst e
     exact⟨x,p,ap,cp,rfl,q2,q3⟩
   . cases h
 . cases h
theorem gP{i:Nat}{x:Str}{p:Pos}(M:Mc X P Γ n)(hx:cB Γ i x=true):PE X (.Name x p) (aCS i):=by
 unfold cB at hx
 obtain⟨h1,h2,h3⟩:=fM hx
 exact kP (by rw[M.N];exact eq_of_beq h1) (M.vis h2) (bP h3) (fH h3)
theorem rJ:lim<sizeLine:=by rw[sizeLine_eq];decide
theorem nQ{i:Nat}{al:List Nat}{pa:Bool}{ds:List D}{σV:L2.St}{H H1:Hp}{b:Addr}{xs:List V}(S:Sx X.K RT Y old σ σV H)(s1:bG H H1)(q1:σ[i]? = some (.own pa ds))(h1:σV[i]? = some (some (.ref b)))(h2:H b=some (.lst xs)) :
 Reps X.K H1 (λc=>rtF RT σ σV al c\/exB Y old pa c) ds xs:=by
 obtain⟨b',xs',g1,g2,g3,g4,g5⟩:=S.own i pa ds q1
 rw[h1] at g1
 cases g1
 rw[h2] at g2
 cases g2
 exact(g5.grow s1).weak λc z=>z.elim (λz=>.inl z.1) .inr
theorem nR{i:Nat}{v:Vl}{pa:Bool}{ds ds':List D}{σV:L2.St}{H H1:Hp}{b:Addr}{xs':List V}{Q:L2.St->Hp->Prop}(S:Sx X.K RT Y old σ σV H)(s1:bG H H1)(t1:Tk X.K H1)(q1:σ[i]? = some (.own pa ds))(q2:i∉v.al)(h1:σV[i]? = some (some (.ref b)))
 (r:Reps X.K H1 (λc=>rtF RT σ σV v.al c\/exB Y old (pa||v.pa) c) ds' xs') (hpost:dL X.K RT Y old H ((freeze σ v.al).set i (.own (pa||v.pa) ds')) Q):Q σV (upd H1 b (.lst xs')):=by
 obtain⟨b',xs,g1,g2,g3,g4,g5⟩:=S.own i pa ds q1
 rw[h1] at g1
 cases g1
 have e':(freeze σ v.al)[i]? = some (.own pa ds):=by
  rw[eS,q1]
  simp[q2]
 exact hpost _ σV _ (Kp.upd s1 g3) (λc z=>.inl z.1) (((S.grow s1 t1).frz v.al).mut e' h1 r)
theorem aBP{σV:L2.St}{H1:Hp}{v:Vl}{u:V}{pa:Bool}(h:Rv X.K RT Y old σ σV H1 v u):Rep X.K H1 (λc=>rtF RT σ σV v.al c\/exB Y old (pa||v.pa) c) v.d u:=Rep.weak h λc z=>z.imp id xS
theorem aIG{i:Nat}{c:E}{e a:Expr}(M:Mc X P Γ n)(hc:pA Γ i "append" e=some [a])(ha:PE X a (WE X P n RT Y old σ c))(hp:bS a=true):PS X (.Expr e pos) (wS X RT Y old σ (ex P (call P n) σ (.app i c))):=by
 obtain⟨x,p,ap,cp,rfl,hx,hl⟩:=xT hc
 refine cN (jT (xH PySem.F.plainAttrs_list PySem.F.slot_list_append PySem.F.type_list_append pK (gP M hx) (gL ha mS (aG hp)) rfl (by rw[aG hp];rfl) hl (aG hp) rfl)) λD σV H t ⟨S,h⟩=>?_
 have h:=OE.from (show OE X.K RT Y old H (O.from σ (ev P (call P n) σ c) λv=>put σ i v λds=>some (ds++[v.d])) D from h)
 obtain⟨v,ee,h⟩:=h.eq
 obtain⟨pa,ds,ds',q1,q2,q3,q4,hpost⟩:=wG h
 cases q3
 obtain⟨b,xs,h1,h2,h3,h4,h5⟩:=S.own i pa ds q1
 refine⟨.ref b,h1,.inl ⟨rfl,xs,SqL.of h2⟩,S,?_⟩
 rw[ee]
 intro u H1 t1 r1
 have hlen:=h5.length
 refine⟨b,xs,u,rfl,rfl,r1.1 _ _ h2,?_,λ_=>?_⟩
 . rw[lA,List.length_singleton] at q4
   have:=rJ
   omega
 . exact nR S r1.1 t1 q1 q2 h1 (((nQ S r1.1 q1 h1 h2).weak λc z=>z.imp id rH).append (.cons (aBP (r1.rv S)) .nil)) hpost
theorem aIH{i:Nat}{c:E}{e a:Expr}(M:Mc X P Γ n)(hc:pA Γ i "extend" e=some [a])(ha:PE X a (WE X P n RT Y old σ c))(hp:bS a=true):PS X (.Expr e pos) (wS X RT Y old σ (ex P (call P n) σ (.ext i c))):=by
 obtain⟨x,p,ap,cp,rfl,hx,hl⟩:=xT hc
 refine cN (jT (xH PySem.F.plainAttrs_list PySem.F.slot_list_extend PySem.F.type_list_extend zG (gP M hx) (gL ha mS (aG hp)) rfl (by rw[aG hp];rfl) hl (aG hp) rfl)) λD σV H t ⟨S,h⟩=>?_
 have h:=OE.from (show OE X.K RT Y old H (O.from σ (ev P (call P n) σ c) λv=>(match pN v with|some (v',ds')=>put σ i v' λds=>some (ds++ds')|none=>.bad)) D from h)
 obtain⟨v,ee,h⟩:=h.eq
 unfold pN at h
 cases hf:v.fr with
 | false=>rw[hf] at h;exact h.elim
 | true=>
  rw[hf] at h
  cases hd:v.d with
  | lst es=>
   rw[hd] at h
   obtain⟨pa,ds,ds',q1,q2,q3,q4,hpost⟩:=wG h
   cases q3
   obtain⟨b,xs,h1,h2,h3,h4,h5⟩:=S.own i pa ds q1
   refine⟨.ref b,h1,.inl ⟨rfl,xs,SqL.of h2⟩,S,?_⟩
   rw[ee]
   intro u H1 t1 r1
   have hr:=r1.2
   rw[if_pos hf] at hr
   obtain⟨a',ys,es',e1,e2,e3,e4,r⟩:=hr
   rw[hd] at e2
   cases e2
   subst e1
   have hlen:=h5.length
   have hlen2:=r.length
   refine⟨b,a',xs,ys,rfl,rfl,r1.1 _ _ h2,e4,?_,λ_=>?_⟩
   . rw[lA] at q4
     have:=rJ
     omega
   . refine nR S r1.1 t1 q1 q2 h1 (((nQ S r1.1 q1 h1 h2).weak λc z=>z.imp id rH).append ?_) hpost
     have rr:=fT (r.weak λb z=>.inr z)
     exact rr.weak λc z=>z.imp id xS
  | _=>rw[hd] at h;exact h.elim
theorem aDP{i:Nat}{ck c:E}{x:Str}{p p2:Pos}{ix v:Expr}(M:Mc X P Γ n)(hx:cB Γ i x=true)(hk:PE X ix (WE X P n RT Y old σ ck))(he:PE X v (WE X P n RT Y old σ c))(hpl:bS ix=true):PS X (.Assign [.Subscript (.Name x p) ix p2] v pos) (wS X RT Y old σ (ex P (call P n) σ (.setIx i ck c))):=by
 refine cN (uZ he (aAD (gP M hx) hk aAR (by intro _;cases ix <;> first|rfl|cases hpl)) (by cases v <;> rfl) (by cases v <;> rfl)) λD σV H t ⟨S,h⟩=>?_
 have h:=OE.from (show OE X.K RT Y old H (O.from σ (ev P (call P n) σ c) λv=>O.from σ (ev P (call P n) σ ck) λkv=>(match kv.d with
  | .int k=>put σ i v λds=>(match ixN ds.length k with|some j=>some (ds.set j v.d)|none=>none)
  | _=>.bad)) D from h)
 refine wE.one S h λv u H1 hv t1 S1 r1=>?_
 obtain⟨kv,ek,hv⟩:=(OE.from hv).eq
 cases hd:kv.d with
 | int k=>
  rw[hd] at hv
  obtain⟨pa,ds,ds',q1,q2,q3,q4,hpost⟩:=wG hv
  obtain⟨b,xs,h1,h2,h3,h4,h5⟩:=S.own i pa ds q1
  cases hj:ixN ds.length k with
  | none=>rw[hj] at q3;cases q3
  | some j=>
   rw[hj] at q3
   cases q3
   refine⟨.ref b,h1,S1,?_⟩
   rw[ek]
   intro uk H2 t2 r2
   have hlen:=h5.length
   refine⟨b,xs,k,j,rfl,(r2.rv S1).int hd,r2.1 _ _ (r1.1 _ _ h2),by rw[<-hlen,<-qZ];exact hj,λ_=>?_⟩
   have s2:=r1.1.trans r2.1
   refine nR S s2 t2 q1 q2 h1 (((nQ S s2 q1 h1 h2).weak λc z=>z.imp id rH).set j (aBP ((r1.rv S).grow r2.1))) hpost
 | _=>rw[hd] at hv;exact hv.elim
theorem Sx.move{K:Fg}{σV:L2.St}{H:Hp}(S:Sx K RT Y old σ σV H){i j:Nat}{pa:Bool}{ds:List D}{a:Addr}(e:σ[j]? = some (.own pa ds))(hij:i≠j)(ha:σV[j]? = some (some (.ref a))):Sx K RT Y old ((σ.set j .dead).set i (.own pa ds)) (σV.set i (some (.ref a))) H where
 sh:=λk pb d q=>by
  rcases set_some q with⟨_,z,_⟩|⟨n1,q⟩
  . cases z
  rcases set_some q with⟨_,z,_⟩|⟨n2,q⟩
  . cases z
  obtain⟨v,g1,g2⟩:=S.sh k pb d q
  exact⟨v,by rw[List.getElem?_set_ne n1];exact g1,g2⟩
 own:=λk pb dd q=>by
  rcases set_some q with⟨rfl,z,hl⟩|⟨n1,q⟩
  . cases z
    obtain⟨b,xs,g1,g2,g3⟩:=S.own j pa ds e
    rw[ha] at g1
    cases g1
    rw[List.length_set] at hl
    exact⟨a,xs,List.getElem?_set_self (by rw[<-S.len];exact hl),g2,g3⟩
  rcases set_some q with⟨_,z,_⟩|⟨n2,q⟩
  . cases z
  obtain⟨b,xs,g1,g2⟩:=S.own k pb dd q
  exact⟨b,xs,by rw[List.getElem?_set_ne n1];exact g1,g2⟩
 trk:=S.trk
 yo:=S.yo
 tk:=S.tk
 rt:=S.rt
 inj:=λk k' pb pb' dd dd' b q1 q2 v1 v2=>by
  have get:∀{k:Nat} {pb:Bool} {dd:List D},((σ.set j .dead).set i (.own pa ds))[k]? = some (.own pb dd)->(σV.set i (some (.ref a)))[k]? = some (some (.ref b))->(k=i/\b=a)\/(k≠i/\k≠j/\σ[k]? = some (.own pb dd)/\σV[k]? = some (some (.ref b))):=λ{k pb dd} q v=>by
   rcases set_some q with⟨rfl,z,hl⟩|⟨n1,q⟩
   . rw[List.length_set] at hl
     rw[List.getElem?_set_self (by rw[<-S.len];exact hl)] at v
     cases v
     exact .inl ⟨rfl,rfl⟩
   rcases set_some q with⟨_,z,_⟩|⟨n2,q⟩
   . cases z
   rw[List.getElem?_set_ne n1] at v
   exact .inr ⟨Ne.symm n1,Ne.symm n2,q,v⟩
  rcases get q1 v1 with⟨e1,b1⟩|⟨n1,m1,o1,w1⟩
  . rcases get q2 v2 with⟨e2,_⟩|⟨n2,m2,o2,w2⟩
    . rw[e1,e2]
    . subst b1
      exact absurd (S.inj k' j _ _ _ _ b o2 e w2 ha) m2
  . rcases get q2 v2 with⟨e2,b2⟩|⟨n2,m2,o2,w2⟩
    . subst b2
      exact absurd (S.inj k j _ _ _ _ b o1 e w1 ha) m1
    . exact S.inj k k' _ _ _ _ b o1 o2 w1 w2
 len:=by rw[List.length_set,List.length_set,List.length_set];exact S.len
 dx:=S.dx.imp id (λk dd q=>by
  rcases set_some q with⟨_,z,_⟩|⟨n1,q⟩
  . cases z
  rcases set_some q with⟨_,z,_⟩|⟨n2,q⟩
  . cases z
  exact⟨q,List.getElem?_set_ne n1⟩) (λ_ _ _ _ _ _ e=>e) (λ_ _ e z _=>⟨e,z⟩) (λ_ _ r=>r) (λk dd ee q=>by
  rcases set_some q with⟨_,z,_⟩|⟨n1,q⟩
  . cases z
  rcases set_some q with⟨_,z,_⟩|⟨n2,q⟩
  . cases z
  exact⟨q,List.getElem?_set_ne n1⟩) (λ_ _ _ _ _ _ _ _ e=>e) λp xs q z=>⟨q,z.1,z.2.1,λk pb dd q w=>by
  rcases set_some q with⟨rfl,_,hl⟩|⟨n1,q⟩
  . rw[List.length_set] at hl
    rw[List.getElem?_set_self (by rw[<-S.len];exact hl)] at w
    cases w
    exact z.2.2 j pa ds e ha
  rcases set_some q with⟨_,v,_⟩|⟨n2,q⟩
  . cases v
  rw[List.getElem?_set_ne n1] at w
  exact z.2.2 k pb dd q w⟩
theorem aII{i j:Nat}{x y:Str}{p p2:Pos}(M:Mc X P Γ n)(hx:cG Γ i x=true)(hy:cB Γ j y=true):PS X (.Assign [.Name x p] (.Name y p2) pos) (wS X RT Y old σ (ex P (call P n) σ (.mov i j))):=by
 unfold cG at hx
 obtain⟨h1,h2,h3⟩:=fM hx
 refine cN (mM (i:=i) M.nd (by rw[M.N];exact eq_of_beq h1) (M.loc h2) (gP M hy) rfl (M.st x h2)) λD σV H t ⟨S,h⟩=>?_
 have h:OE X.K RT Y old H (match σ[j]? with
  | some (.own pa ds)=>if i=j then .bad else .next ((σ.set j .dead).set i (.own pa ds))
  | some (.sh pa d)=>.next (σ.set i (.sh (pa&&!noL d) d))
  | _=>.bad) D:=h
 cases e:σ[j]? with
 | none=>rw[e] at h;exact h.elim
 | some sl=>
  rw[e] at h
  cases sl with
  | dead=>exact h.elim
  | dct _=>exact h.elim
  | par _ _=>exact h.elim
  | own pa ds=>
   by_cases hij:i=j
   . have h:OE X.K RT Y old H (if i=j then .bad else .next ((σ.set j .dead).set i (.own pa ds))) D:=h
     rw[if_pos hij] at h;exact h.elim
   . have h:OE X.K RT Y old H (if i=j then .bad else .next ((σ.set j .dead).set i (.own pa ds))) D:=h
     rw[if_neg hij] at h
     obtain⟨a,xs,g1,g2⟩:=S.own j pa ds e
     exact⟨.ref a,g1,λ_=>(show dL X.K RT Y old H _ D.nx from h) RT _ H (Kp.refl RT H) bQ (S.move e hij g1)⟩
  | sh pa d=>
   obtain⟨v,g1,g2⟩:=S.sh j pa d e
   refine⟨v,g1,λ_=>(show dL X.K RT Y old H (σ.set i (.sh (pa&&!noL d) d)) D.nx from h) RT _ H (Kp.refl RT H) bQ (S.setSh ?_)⟩
   cases hn:noL d with
   | true=>exact Rep.free d v hn g2
   | false=>rw[Bool.not_false,Bool.and_true];exact g2
theorem aIJ{t:T}{it:Hp.It}{b:Ss}{tg iter:Expr}{body:List Stmt}(M:Mc X P Γ n)(hx:oY Γ t tg=true)(hi:PI X tg iter (wI X P n RT Y old σ it))(hb:∀RT σ,PSs X body (wS X RT Y old σ (exs P (call P n) σ b)))(hs:∀x,foldedSetIterable iter X.env x=pure x) :
 PS X (.For tg iter body [] pos) (wS X RT Y old σ (ex P (call P n) σ (.for t it b))):=by
 have hp:PassesOwn (model X.prog X.w) X.A X.env X.xe:=by rw[M.xe];exact PassesOwn.never
 refine cN (aFg hp M.calm hi (aDL M hx) (rF hb) hs) λD0 σV H t0 ⟨S,h⟩=>?_
 have h:=OE.tkE h
 revert h
 generalize tkE X.K D0=D
 intro h
 let f:Sg->Vl->O:=λσ x=>O.from σ (cF σ x t) λσ'=>exs P (call P n) σ' b
 have h:=OE.from (show OE X.K RT Y old H (O.from σ (walk P (call P n) σ it) λxs=>dJ f xs.1 (freeze σ xs.2)) D from h)
 refine⟨S,h.mono λxs hx J H1 t1 s1 ok=>?_⟩
 have S1:=S.grow s1 t1
 have Sf:=S1.frz xs.2
 refine⟨λi m σ1V Hc=>m=xs.1.length-i/\i<=xs.1.length/\∃RT1 σ1,Kp (rtF RT σ σV xs.2) H1 Hc/\(∀b,RT1 b->rtF RT σ σV xs.2 b\/H1 b=none)/\Sx X.K RT1 Y old σ1 σ1V Hc/\OE X.K RT1 Y old Hc (dJ f (xs.1.drop i) σ1) D,
  ⟨_,rfl,Nat.zero_le _,rtF RT σ σV xs.2,freeze σ xs.2,Kp.refl _ _,bQ,Sf,OE.mono (Kp.same s1) (λb z=>.inl z.1) hx⟩,?_⟩
 rintro i m σ1V Hc ⟨hm,hi,RT1,σ1,kp,hsub,Sc,ho⟩
 have okc:=ok.ok (rtF RT σ σV xs.2) (λ_ z=>z) i Hc kp
 by_cases hlt:i<xs.1.length
 . refine .inr ⟨okc.1 hlt,λσ' H'=>xs.1.length-(i+1)=xs.1.length-(i+1)/\i+1<=xs.1.length/\∃RT1 σ1,Kp (rtF RT σ σV xs.2) H1 H'/\(∀b,RT1 b->rtF RT σ σV xs.2 b\/H1 b=none)/\Sx X.K RT1 Y old σ1 σ' H'/\OE X.K RT1 Y old H' (dJ f (xs.1.drop (i+1)) σ1) D,
    λσ' H' hN=>⟨_,by omega,hN⟩,λx H' hy=>?_⟩
   have hxi:xs.1[i]? = some xs.1[i]:=List.getElem?_eq_getElem hlt
   obtain⟨sm,tkf,rv⟩:=okc.2.2 x H' hy xs.1[i] hxi
   have hmem:xs.1[i]∈xs.1:=List.getElem_mem hlt
   rw[List.drop_eq_getElem_cons hlt] at ho
   have Sc':=Sc.grow sm (tkf Sc.tk)
   have rep:Rep X.K H' (λa=>RT1 a\/exB Y old xs.1[i].pa a) xs.1[i].d x:=rv.weak λa z=>by
    rcases z with z|z
    . rcases hsub a z with q|q
      . exact .inl (.inl ⟨q.1,λw=>q.2 (w.mono (ok.sub _ hmem))⟩)
      . exact .inr ⟨q,Sc.tk a (Sc.trk a (.inl z))⟩
    . exact .inl (.inr z)
   have ho:OE X.K RT1 Y old Hc (match f σ1 xs.1[i] with
    | .next σ'=>dJ f (xs.1.drop (i+1)) σ'
    | .cnt σ'=>dJ f (xs.1.drop (i+1)) σ'
    | .brk σ'=>.next σ'
    | o=>o) D:=ho
   cases hset:cF σ1 xs.1[i] t with
   | exc e=>rw[show f σ1 xs.1[i]=.exc e σ1 by show O.from σ1 (cF σ1 xs.1[i] t) _=_;rw[hset];rfl] at ho;exact ho.elim
   | bad=>rw[show f σ1 xs.1[i]=.bad by show O.from σ1 (cF σ1 xs.1[i] t) _=_;rw[hset];rfl] at ho;exact ho.elim
   | ok σ2=>
    rw[show f σ1 xs.1[i]=exs P (call P n) σ2 b by show O.from σ1 (cF σ1 xs.1[i] t) _=_;rw[hset];rfl] at ho
    refine aBK Sc' (ok.nofr _ hmem) rep hset λσ2V S2 _=>⟨RT1,σ2,S2,?_⟩
    have kS:Kp RT1 Hc H':=Kp.same sm
    have again:∀{σ':Sg} {RT':Addr->Prop} {σV':L2.St} {H'':Hp},Kp RT1 H' H''->(∀b,RT' b->RT1 b\/H' b=none)->Sx X.K RT' Y old σ' σV' H''->OE X.K RT1 Y old Hc (dJ f (xs.1.drop (i+1)) σ') D ->
     (xs.1.length-(i+1)=xs.1.length-(i+1)/\i+1<=xs.1.length/\∃RT1 σ1,Kp (rtF RT σ σV xs.2) H1 H''/\(∀b,RT1 b->rtF RT σ σV xs.2 b\/H1 b=none)/\Sx X.K RT1 Y old σ1 σV' H''/\OE X.K RT1 Y old H'' (dJ f (xs.1.drop (i+1)) σ1) D):=λ{σ' RT' σV' H''} k2 s2 S3 h3=>by
     have k3:Kp RT1 Hc H'':=kS.chain bQ k2
     have s3:∀b,RT' b->RT1 b\/Hc b=none:=gG kS bQ s2
     exact⟨rfl,hlt,RT',σ',kp.chain hsub k3,gG kp hsub s3,S3,OE.mono k3 s3 h3⟩
    cases q:exs P (call P n) σ2 b with
    | next σ'=>rw[q] at ho;exact λRT' σV' H'' k2 s2 S3=>again k2 s2 S3 ho
    | cnt σ'=>rw[q] at ho;exact λRT' σV' H'' k2 s2 S3=>again k2 s2 S3 ho
    | brk σ'=>rw[q] at ho;exact dL.mono kS bQ (show dL X.K RT1 Y old Hc σ' D.nx from ho)
    | ret v=>rw[q] at ho;exact OE.mono (o:=.ret v) kS bQ ho
    | exc e σ'=>rw[q] at ho;exact ho.elim
    | bad=>rw[q] at ho;exact ho.elim
 . have hie:i=xs.1.length:=by omega
   subst hie
   rw[List.drop_length] at ho
   exact .inl ⟨okc.2.1 (Nat.le_refl _),(show dL X.K RT1 Y old Hc σ1 D.nx from ho) RT1 σ1V Hc (Kp.refl _ _) bQ Sc⟩
theorem aIK{c:E}{b:Ss}{e:Expr}{body:List Stmt}(M:Mc X P Γ n)(hc:∀RT σ,PT X e (WT X P n RT Y old σ c))(hb:∀RT σ,PSs X body (wS X RT Y old σ (exs P (call P n) σ b))):PS X (.While e body [] pos) (wS X RT Y old σ (ex P (call P n) σ (.whl c b))):=by
 have hp:PassesOwn (model X.prog X.w) X.A X.env X.xe:=by rw[M.xe];exact PassesOwn.never
 refine cN (aAE hp (tc:=λσV H Q=>∃RT σ,WT X P n RT Y old σ c σV H Q) (λpins s σV H Q I ⟨RT,σ,hw⟩=>hc RT σ pins s σV H Q I hw) (rF hb)) λD0 σV H t0 ⟨S,h⟩=>?_
 have h:=OE.tkE h
 revert h
 generalize tkE X.K D0=D
 intro h
 have h:OE X.K RT Y old H (fJ (λσ=>tst P (call P n) σ c) (λσ=>exs P (call P n) σ b) mY σ) D:=h
 refine⟨λm σ1V Hc=>∃RT1 σ1,Sx X.K RT1 Y old σ1 σ1V Hc/\OE X.K RT1 Y old Hc (fJ (λσ=>tst P (call P n) σ c) (λσ=>exs P (call P n) σ b) m σ1) D,⟨mY,RT,σ,S,h⟩,?_⟩
 rintro m σ1V Hc ⟨RT1,σ1,Sc,ho⟩
 cases m with
 | zero=>exact ho.elim
 | succ m=>
  have ho:=OE.from (show OE X.K RT1 Y old Hc (O.from σ1 (tst P (call P n) σ1 c) λk=>if k=true then (match exs P (call P n) σ1 b with
   | .next σ'=>fJ (λσ=>tst P (call P n) σ c) (λσ=>exs P (call P n) σ b) m σ'
   | .cnt σ'=>fJ (λσ=>tst P (call P n) σ c) (λσ=>exs P (call P n) σ b) m σ'
   | .brk σ'=>.next σ'
   | o=>o) else .next σ1) D from ho)
  refine⟨RT1,σ1,Sc,ho.mono λk hk H1 t1 s1=>?_⟩
  have S1:=Sc.grow s1 t1
  have kS:Kp RT1 Hc H1:=Kp.same s1
  cases k with
  | false=>
   rw[if_neg bN] at hk
   exact aFx ((show dL X.K RT1 Y old Hc σ1 D.nx from hk) RT1 σ1V H1 kS bQ S1)
  | true=>
   rw[if_pos rfl] at hk
   refine aHI ⟨λσV' H'=>∃RT1 σ1,Sx X.K RT1 Y old σ1 σV' H'/\OE X.K RT1 Y old H' (fJ (λσ=>tst P (call P n) σ c) (λσ=>exs P (call P n) σ b) m σ1) D,λσ' H' hN=>⟨m,Nat.lt_succ_self m,hN⟩,RT1,σ1,S1,?_⟩
   cases q:exs P (call P n) σ1 b with
   | next σ'=>rw[q] at hk;exact λRT' σV' H'' k2 s2 S3=>⟨RT',σ',S3,OE.mono (kS.chain bQ k2) (gG kS bQ s2) hk⟩
   | cnt σ'=>rw[q] at hk;exact λRT' σV' H'' k2 s2 S3=>⟨RT',σ',S3,OE.mono (kS.chain bQ k2) (gG kS bQ s2) hk⟩
   | brk σ'=>rw[q] at hk;exact dL.mono kS bQ (show dL X.K RT1 Y old Hc σ' D.nx from hk)
   | ret v=>rw[q] at hk;exact OE.mono (o:=.ret v) kS bQ hk
   | exc e σ'=>rw[q] at hk;exact hk.elim
   | bad=>rw[q] at hk;exact hk.elim
end
section
variable {X:Cx} {P:Pg} {Γ:Ct} {n:Nat} {RT Y old:Addr->Prop} {σ:Sg} {pos:Pos}
end
section
variable {X:Cx} {P:Pg} {Γ:Ct} {n:Nat} {RT Y old:Addr->Prop} {σ:Sg} {pos:Pos} {l:Nat} {K:Fg} {H:Hp} {σV:L2.St}
theorem Sx.putDct(S:Sx K RT Y old σ σV H){p:Addr}(hn:H p=none){xs0:List NE}{ks0:List (NK×D)}(t:Tk K (upd H p (dX p xs0)))(hk0:xs0.map pj=ks0.map kV)(hx0:∀x∈xs0,dN K H x.1 x.2.1)(i:Nat):Sx K (λb=>RT b\/b=p) Y old (σ.set i (.dct ks0)) (σV.set i (some (.ref p))) (upd H p (dX p xs0)):=by
 have s:bG H (upd H p (dX p xs0)):=bG.new hn
 have ha:upd H p (dX p xs0) p=some (dX p xs0):=bU
 have hk:=t p (by rw[ha];simp)
 have w:∀{pa:Bool} b,(RT b\/b=p)\/exB Y old pa b->b=p\/RT b\/exB Y old pa b:=λ{pa} b z=>by
  rcases z with(z|z)|z
  . exact .inr (.inl z)
  . exact .inl z
  . exact .inr (.inr z)
 exact {
  sh:=λj pa d e=>by
   rcases set_some e with⟨_,z,_⟩|⟨hij,e⟩
   . cases z
   . obtain⟨v,h1,h2⟩:=S.sh j pa d e
     exact⟨v,by rw[List.getElem?_set_ne hij];exact h1,((h2.out hn hk).grow s).weak w⟩
  own:=λj pa ds e=>by
   rcases set_some e with⟨_,z,_⟩|⟨hij,e⟩
   . cases z
   . obtain⟨b,ys,h1,h2,h3,h4,h5⟩:=S.own j pa ds e
     exact⟨b,ys,by rw[List.getElem?_set_ne hij];exact h1,s _ _ h2,.inl h3,h4,((h5.out hn hk).grow s).weak w⟩
  trk:=λb z q=>by
   rcases z with(z|z)|z
   . exact S.trk b (.inl z) (s.free q)
   . rw[z,ha] at q;cases q
   . exact S.trk b (.inr z) (s.free q)
  yo:=S.yo
  tk:=t
  rt:=λb z=>by
   rcases z with z|z
   . exact(S.rt b z).grow s
   . rw[z];exact .inr ⟨xs0,ha⟩
  inj:=λj j' pa' pa'' ds ds' a e1 e2 e3 e4=>by
   rcases set_some e1 with⟨_,e,_⟩|⟨n1,e1⟩
   . cases e
   rcases set_some e2 with⟨_,e,_⟩|⟨n2,e2⟩
   . cases e
   rw[List.getElem?_set_ne n1] at e3
   rw[List.getElem?_set_ne n2] at e4
   exact S.inj j j' pa' pa'' ds ds' a e1 e2 e3 e4
  len:=by rw[List.length_set,List.length_set];exact S.len
  dx:={
   at':=λj ds e=>by
    rcases set_some e with⟨rfl,z,hl⟩|⟨hij,e⟩
    . cases z
      exact⟨p,xs0,List.getElem?_set_self (by rw[<-S.len];exact hl),ha,.inr rfl,λz=>S.trk p (.inr (.inr z)) hn,hk0,λx hx=>dN.imp (λ_ _ r=>bG.seqT s r) (hx0 x hx)⟩
    . obtain⟨a,xs,h1,h2,h3,h4,h5,h6⟩:=S.dx.at' j ds e
      exact⟨a,xs,by rw[List.getElem?_set_ne hij];exact h1,s _ _ h2,.inl h3,h4,h5,λx hx=>dN.imp (λ_ _ r=>bG.seqT s r) (h6 x hx)⟩
   inj:=λj j' ds ds' a e1 e2 e3 e4=>by
    have fr:∀{j:Nat} {ds:List (NK×D)},σ[j]? = some (.dct ds)->σV[j]? = some (some (.ref p))->False:=λ{j ds} e q=>by
     obtain⟨a',xs',h1,h2,_⟩:=S.dx.at' j ds e
     rw[q] at h1
     cases h1
     rw[hn] at h2;cases h2
    rcases set_some e1 with⟨rfl,e,hl⟩|⟨n1,e1⟩
    . rcases set_some e2 with⟨rfl,_,_⟩|⟨n2,e2⟩
      . rfl
      . rw[List.getElem?_set_self (by rw[<-S.len];exact hl)] at e3
        cases e3
        rw[List.getElem?_set_ne n2] at e4
        exact(fr e2 e4).elim
    . rw[List.getElem?_set_ne n1] at e3
      rcases set_some e2 with⟨rfl,e,hl⟩|⟨n2,e2⟩
      . rw[List.getElem?_set_self (by rw[<-S.len];exact hl)] at e4
        cases e4
        exact(fr e1 e3).elim
      . rw[List.getElem?_set_ne n2] at e4
        exact S.dx.inj j j' ds ds' a e1 e2 e3 e4
   at2:=λj ds es e=>by
    rcases set_some e with⟨_,z,_⟩|⟨hij,e⟩
    . cases z
    . obtain⟨a,b,c,xs,ys,h1,⟨ha',hb,hc⟩,⟨qa,qb,qc⟩,hn',hl,r1,r2⟩:=S.dx.at2 j ds es e
      have pt:∀{q:Addr},Pt RT old σ σV q->Pt (λb=>RT b\/b=p) old (σ.set i (.dct ks0)) (σV.set i (some (.ref p))) q:=λ{q} z=>⟨.inl z.1,z.2.1,λk pa dd w=>by
       rcases set_some w with⟨_,v,_⟩|⟨hik,w⟩
       . cases v
       . rw[List.getElem?_set_ne hik];exact z.2.2 k pa dd w⟩
      exact⟨a,b,c,xs,ys,by rw[List.getElem?_set_ne hij];exact h1,⟨s _ _ ha',s _ _ hb,s _ _ hc⟩,⟨pt qa,pt qb,pt qc⟩,hn',hl,r1.grow s,r2.grow s⟩
   one:=λj j' ds es ds' es' e1 e2=>by
    rcases set_some e1 with⟨_,z,_⟩|⟨_,e1⟩
    . cases z
    rcases set_some e2 with⟨_,z,_⟩|⟨_,e2⟩
    . cases z
    exact S.dx.one j j' ds es ds' es' e1 e2 } }
theorem aGs{i:Nat}{x:Str}{p p2:Pos}(M:Mc X P Γ n)(hx:cG Γ i x=true):PS X (.Assign [.Name x p] (.Dict [] [] p2) pos) (wS X RT Y old σ (ex P (call P n) σ (.dnew i))):=by
 unfold cG at hx
 obtain⟨h1,h2,h3⟩:=fM hx
 refine cN (mM (i:=i) M.nd (by rw[M.N];exact eq_of_beq h1) (M.loc h2) aAZ rfl (M.st x h2)) λD σV H t ⟨S,h⟩=>?_
 exact λq hq t'=>(show dL X.K RT Y old H (σ.set i (.dct [])) D.nx from h) (λb=>RT b\/b=q) _ _ (Kp.same (bG.new hq)) (λb z=>z.imp id λz=>by rw[z];exact hq) (S.putDct hq t' rfl (λx hx=>by cases hx) i)
theorem Sx.mutD(S:Sx K RT Y old σ σV H){i:Nat}{kvs kvs':List (NK×D)}{a:Addr}{xs xs':List NE}(e:σ[i]? = some (.dct kvs))(ha:σV[i]? = some (some (.ref a)))(hax:H a=some (dX a xs))(haR:RT a)(hao:¬ old a)(r1:xs'.map pj=kvs'.map kV)(r:∀x∈xs',dN K H x.1 x.2.1) :
 Sx K RT Y old (σ.set i (.dct kvs')) σV (upd H a (dX a xs')):=by
 have kp:Kp (λb=>b=a) H (upd H a (dX a xs')):=λb o q n=>by rw[aN n];exact q
 have hR:∀b,b=a->RtO H b:=λb z=>.inr ⟨xs,by rw[z];exact hax⟩
 have hl:∀{b:Addr} {ys:List V},H b=some (.lst ys)->b≠a:=λ{b ys} q z=>by rw[z,hax] at q;cases q
 exact {
  sh:=λj pb d q=>by
   rcases set_some q with⟨_,z,_⟩|⟨_,q⟩
   . cases z
   . obtain⟨v,g1,g2⟩:=S.sh j pb d q
     exact⟨v,g1,g2.kp kp hR λb z=>.inl (by rw[z];exact haR)⟩
  own:=λj pb dd q=>by
   rcases set_some q with⟨_,z,_⟩|⟨_,q⟩
   . cases z
   . obtain⟨b,ys,g1,g2,g3,g4,g5⟩:=S.own j pb dd q
     exact⟨b,ys,g1,kp b _ g2 (hl g2),g3,g4,g5.kp kp hR λb z=>.inl (by rw[z];exact haR)⟩
  trk:=λb z q=>by
   by_cases hb:b=a
   . rw[hb,bU] at q;cases q
   . rw[aN hb] at q;exact S.trk b z q
  yo:=S.yo
  tk:=λb z=>by
   by_cases hb:b=a
   . rw[hb];exact S.tk a (by rw[hax];simp)
   . rw[aN hb] at z;exact S.tk b z
  rt:=λb z=>by
   by_cases hb:b=a
   . rw[hb];exact .inr ⟨xs',bU⟩
   . unfold RtO;rw[aN hb];exact S.rt b z
  inj:=λj j' pa' pa'' ds ds' b e1 e2 e3 e4=>by
   rcases set_some e1 with⟨_,e,_⟩|⟨n1,e1⟩
   . cases e
   rcases set_some e2 with⟨_,e,_⟩|⟨n2,e2⟩
   . cases e
   exact S.inj j j' pa' pa'' ds ds' b e1 e2 e3 e4
  len:=by rw[List.length_set];exact S.len
  dx:={
   at':=λj ds q=>by
    rcases set_some q with⟨rfl,z,_⟩|⟨hij,q⟩
    . cases z
      exact⟨a,xs',ha,bU,haR,hao,r1,λx hx=>dN.imp (λ_ _ z=>kp.seqT hR z) (r x hx)⟩
    . obtain⟨b,ys,h1,h2,h3,h4,h5,h6⟩:=S.dx.at' j ds q
      have hb:b≠a:=λz=>by
       subst z
       exact hij (S.dx.inj i j kvs ds b e q ha h1)
      exact⟨b,ys,h1,kp b _ h2 hb,h3,h4,h5,λx hx=>dN.imp (λ_ _ z=>kp.seqT hR z) (h6 x hx)⟩
   inj:=λj j' dd dd' b q1 q2=>by
    have get:∀{j:Nat} {dd:List (NK×D)},(σ.set i (.dct kvs'))[j]? = some (.dct dd)->∃d2,σ[j]? = some (.dct d2):=λ{j dd} q=>by
     rcases set_some q with⟨rfl,_,_⟩|⟨_,q⟩
     . exact⟨kvs,e⟩
     . exact⟨dd,q⟩
    obtain⟨_,z1⟩:=get q1
    obtain⟨_,z2⟩:=get q2
    exact S.dx.inj j j' _ _ b z1 z2
   at2:=λj ds es q=>by
    rcases set_some q with⟨_,z,_⟩|⟨hij,q⟩
    . cases z
    . obtain⟨a',b,c,zs,ys,h1,⟨ha',hb,hc⟩,⟨qa,qb,qc⟩,hn',hn2,r1,r2⟩:=S.dx.at2 j ds es q
      have pt:∀{q:Addr},Pt RT old σ σV q->Pt RT old (σ.set i (.dct kvs')) σV q:=λ{q} z=>⟨z.1,z.2.1,λk pa dd w=>by
       rcases set_some w with⟨_,v,_⟩|⟨_,w⟩
       . cases v
       . exact z.2.2 k pa dd w⟩
      exact⟨a',b,c,zs,ys,h1,⟨kp _ _ ha' (hl ha'),kp _ _ hb (hl hb),kp _ _ hc (hl hc)⟩,⟨pt qa,pt qb,pt qc⟩,hn',hn2,Reps.noT (λ_ _ z=>kp.seqT hR z) ds zs hn2.1 r1,Reps.noT (λ_ _ z=>kp.seqT hR z) es ys hn2.2 r2⟩
   one:=λj j' ds es ds' es' e1 e2=>by
    rcases set_some e1 with⟨_,z,_⟩|⟨_,e1⟩
    . cases z
    rcases set_some e2 with⟨_,z,_⟩|⟨_,e2⟩
    . cases z
    exact S.dx.one j j' ds es ds' es' e1 e2 } }
theorem aGt(ks:List (NK×D))(k:NK×D):aDo (ks.map kV) (kV k)=(gE ks k).map kV:=by
 have e:(ks.map kV).map (·.1)=ks.map (·.1):=by rw[List.map_map];rfl
 unfold aDo gE
 rw[e]
 show(if k.1∈_ then _ else _)=_
 split
 . rw[List.map_map,List.map_map]
   refine List.map_congr_left λx _=>?_
   show(if x.1=k.1 then _ else _)=kV (if x.1=k.1 then _ else _)
   split <;> rfl
 . rw[List.map_append];rfl
theorem putN_mem{xs:List NE}{k:NK}{b:Addr}{v:V}{x:NE}(h:x∈mB xs k b v):(∃y∈xs,y.1=x.1/\y.2.1=x.2.1)\/x=(k,b,v):=by
 unfold mB at h
 split at h
 . obtain⟨y,hy,e⟩:=List.mem_map.mp h
   refine .inl ⟨y,hy,?_⟩
   rw[<-e]
   split <;> exact⟨rfl,rfl⟩
 . rcases List.mem_append.mp h with z|z
   . exact .inl ⟨x,z,rfl,rfl⟩
   . exact .inr (List.mem_singleton.mp z)
theorem aGu{i:Nat}{c:E}{x:Str}{p p2:Pos}{ix v:Expr}(M:Mc X P Γ n)(hx:cB Γ i x=true)(hk:PE X ix (WE X P n RT Y old σ c))(he:PE X v (WE X P n RT Y old σ (.c (.bl true))))(hpl:bS ix=true) :
 PS X (.Assign [.Subscript (.Name x p) ix p2] v pos) (wS X RT Y old σ (ex P (call P n) σ (.dput i c))):=by
 refine cN (uZ he (aAD (gP M hx) hk (aFz (by have:=M.units;omega)) (by intro _;cases ix <;> first|rfl|cases hpl)) (by cases v <;> rfl) (by cases v <;> rfl)) λD σV H t ⟨S,h⟩=>?_
 have h:=OE.from (show OE X.K RT Y old H (O.from σ (ev P (call P n) σ c) λv=>(match σ[i]?,kZ v.d with
  | some (.dct ks),some k=>if ks.length<lim then .next (σ.set i (.dct (gE ks (k,.bl true)))) else .bad
  | _,_=>.bad)) D from h)
 obtain⟨kv,ek,h⟩:=h.eq
 refine wE.one (p:=λx=>x=.cl (.bl true)) S rfl λw u H1 hw t1 S1 r1=>?_
 subst hw
 have hu:u=.bl true:=(r1.rv S)
 subst hu
 split at h
 . rename_i ks k e1 e2
   split at h
   . rename_i hl
     obtain⟨ad,xs,g1,g2,g3,g4,g5,g6⟩:=S.dx.at' i ks e1
     refine⟨.ref ad,g1,S1,?_⟩
     rw[ek]
     intro uk H2 t2 r2
     have s2:=r1.1.trans r2.1
     have S2:=S.grow s2 t2
     obtain⟨b,rfl,hb⟩:=aBv e2 (r2.rv S1)
     have g6':∀x∈xs,dN X.K H2 x.1 x.2.1:=λx hx=>dN.imp (λ_ _ r=>bG.seqT s2 r) (g6 x hx)
     have hlen:xs.length=ks.length:=by have:=congrArg List.length g5;rwa [lM,lM] at this
     refine⟨ad,b,xs,k,rfl,rfl,s2 _ _ g2,g6',hb,by have:=rJ;omega,λt3=>?_⟩
     refine(show dL X.K RT Y old H (σ.set i (.dct (gE ks (k,.bl true)))) D.nx from h) RT _ _ (λb' o q nn=>by rw[aN λz=>nn (by rw[z];exact g3)];exact s2 _ _ q) bQ ?_
     refine S2.mutD e1 g1 (s2 _ _ g2) g3 g4 (by rw[aBa,g5];exact aGt ks (k,.bl true)) λx hx=>?_
     rcases putN_mem hx with z|z
     . obtain⟨y,hy,e1,e2⟩:=z
       rw[<-e1,<-e2];exact g6' y hy
     . rw[z];exact hb
   . exact h.elim
 . exact h.elim
end
section
variable {X:Cx} {P:Pg} {Γ:Ct} {n:Nat} {RT Y old:Addr->Prop} {σ:Sg} {pos:Pos} {l:Nat} {K:Fg} {H H':Hp} {σV:L2.St}
theorem nS(h:mX σ=true){j:Nat}{ds es:List D}(e:σ[j]? = some (.par ds es)):False:=by
 have:=List.all_eq_true.mp h _ (mG e)
 cases this
theorem aBQ{v:Vl}{ds:List D}(h:frD v=some ds):v.fr=true/\v.d=.lst ds/\noLs ds=true:=by
 unfold frD at h
 split at h
 . rename_i ds' e1 e2
   split at h
   . rename_i hn
     cases h
     exact⟨e1,e2,hn⟩
   . cases h
 . cases h
theorem Sx.putTwo(S:Sx K RT Y old σ σV H)(s:bG H H')(t:Tk K H'){a b c:Addr}{xs ys:List V}{ds es:List D}(na:H a=none)(nb:H b=none)(nc:H c=none)(hab:a≠b)(hac:a≠c)(hbc:b≠c)
 (ha:H' a=some (.lst [.ref b,.ref c])) (hb:H' b=some (.lst xs)) (hc:H' c=some (.lst ys)) (n1:noLs ds=true) (n2:noLs es=true) (r1:Reps K H' (λ_=>False) ds xs) (r2:Reps K H' (λ_=>False) es ys) (np:mX σ=true) (i:Nat) :
 Sx K (λq=>RT q\/(q=a\/q=b\/q=c)) Y old (σ.set i (.par ds es)) (σV.set i (some (.ref a))) H':=by
 have ka:=t a (by rw[ha];simp)
 have kb:=t b (by rw[hb];simp)
 have kc:=t c (by rw[hc];simp)
 have w:∀{pa:Bool} q,(RT q\/(q=a\/q=b\/q=c))\/exB Y old pa q->q=c\/q=b\/q=a\/RT q\/exB Y old pa q:=λ{pa} q z=>by
  rcases z with(z|z|z|z)|z
  . exact .inr (.inr (.inr (.inl z)))
  . exact .inr (.inr (.inl z))
  . exact .inr (.inl z)
  . exact .inl z
  . exact .inr (.inr (.inr (.inr z)))
 have new:∀q,q=a\/q=b\/q=c->H q=none/\(∃zs,H' q=some (.lst zs)):=λq z=>by
  rcases z with z|z|z <;> subst z
  . exact⟨na,_,ha⟩
  . exact⟨nb,_,hb⟩
  . exact⟨nc,_,hc⟩
 have pt:∀q,q=a\/q=b\/q=c->Pt (λq=>RT q\/(q=a\/q=b\/q=c)) old (σ.set i (.par ds es)) (σV.set i (some (.ref a))) q:=λq z=>⟨.inr z,λo=>S.trk q (.inr (.inr o)) (new q z).1,λk pa dd e v=>by
  rcases set_some e with⟨_,f,_⟩|⟨hik,e⟩
  . cases f
  . rw[List.getElem?_set_ne hik] at v
    obtain⟨b',_,h1,h2,_⟩:=S.own k pa dd e
    rw[v] at h1
    cases h1
    rw[(new q z).1] at h2;cases h2⟩
 exact {
  sh:=λj pa d e=>by
   rcases set_some e with⟨_,z,_⟩|⟨hij,e⟩
   . cases z
   . obtain⟨v,h1,h2⟩:=S.sh j pa d e
     exact⟨v,by rw[List.getElem?_set_ne hij];exact h1,((((h2.out na ka).out nb kb).out nc kc).grow s).weak w⟩
  own:=λj pa dd e=>by
   rcases set_some e with⟨_,z,_⟩|⟨hij,e⟩
   . cases z
   . obtain⟨b',zs,h1,h2,h3,h4,h5⟩:=S.own j pa dd e
     exact⟨b',zs,by rw[List.getElem?_set_ne hij];exact h1,s _ _ h2,.inl h3,h4,((((h5.out na ka).out nb kb).out nc kc).grow s).weak w⟩
  trk:=λq z f=>by
   rcases z with(z|z)|z
   . exact S.trk q (.inl z) (s.free f)
   . obtain⟨_,zs,e⟩:=new q z
     rw[f] at e;cases e
   . exact S.trk q (.inr z) (s.free f)
  yo:=S.yo
  tk:=t
  rt:=λq z=>by
   rcases z with z|z
   . exact(S.rt q z).grow s
   . exact .inl (new q z).2
  inj:=λj j' pa' pa'' dd dd' q e1 e2 e3 e4=>by
   rcases set_some e1 with⟨_,e,_⟩|⟨n1,e1⟩
   . cases e
   rcases set_some e2 with⟨_,e,_⟩|⟨n2,e2⟩
   . cases e
   rw[List.getElem?_set_ne n1] at e3
   rw[List.getElem?_set_ne n2] at e4
   exact S.inj j j' pa' pa'' dd dd' q e1 e2 e3 e4
  len:=by rw[List.length_set,List.length_set];exact S.len
  dx:={
   at':=λj dd e=>by
    rcases set_some e with⟨_,z,_⟩|⟨hij,e⟩
    . cases z
    . obtain⟨q,zs,h1,h2,h3,h4,h5,h6⟩:=S.dx.at' j dd e
      exact⟨q,zs,by rw[List.getElem?_set_ne hij];exact h1,s _ _ h2,.inl h3,h4,h5,λx hx=>dN.imp (λ_ _ r=>bG.seqT s r) (h6 x hx)⟩
   inj:=λj j' dd dd' q e1 e2 e3 e4=>by
    rcases set_some e1 with⟨_,e,_⟩|⟨n1,e1⟩
    . cases e
    rcases set_some e2 with⟨_,e,_⟩|⟨n2,e2⟩
    . cases e
    rw[List.getElem?_set_ne n1] at e3
    rw[List.getElem?_set_ne n2] at e4
    exact S.dx.inj j j' dd dd' q e1 e2 e3 e4
   at2:=λj dd ee e=>by
    rcases set_some e with⟨rfl,z,hl⟩|⟨hij,e⟩
    . cases z
      exact⟨a,b,c,xs,ys,List.getElem?_set_self (by rw[<-S.len];exact hl),⟨ha,hb,hc⟩,⟨pt a (.inl rfl),pt b (.inr (.inl rfl)),pt c (.inr (.inr rfl))⟩,⟨hab,hac,hbc⟩,⟨n1,n2⟩,r1,r2⟩
    . exact(nS np e).elim
   one:=λj j' dd ee dd' ee' e1 e2=>by
    rcases set_some e1 with⟨h1,_,_⟩|⟨_,e1⟩
    . rcases set_some e2 with⟨h2,_,_⟩|⟨_,e2⟩
      . exact h1.symm.trans h2
      . exact(nS np e2).elim
    . exact(nS np e1).elim } }
theorem aIL{i:Nat}{a b:E}{x:Str}{p p2:Pos}{ea eb:Expr}(M:Mc X P Γ n)(hx:cG Γ i x=true)(ha:PE X ea (WE X P n RT Y old σ a))(hb:PE X eb (WE X P n RT Y old σ b))(hpa:bS ea=true)(hpb:bS eb=true) :
 PS X (.Assign [.Name x p] (.List [ea,eb] p2) pos) (wS X RT Y old σ (ex P (call P n) σ (.two i a b))):=by
 unfold cG at hx
 obtain⟨h1,h2,h3⟩:=fM hx
 refine cN (mM (i:=i) M.nd (by rw[M.N];exact eq_of_beq h1) (M.loc h2) (aAK (gL ha (gL hb mS (aG hpb)) (aG hpa))) rfl (M.st x h2)) λD σV H t ⟨S,h⟩=>?_
 have h:=OE.from (show OE X.K RT Y old H (O.from σ (ev P (call P n) σ a) λx=>O.from σ (ev P (call P n) σ b) λy=>(match frD x,frD y,mX σ with
  | some ds,some es,true=>.next (σ.set i (.par ds es))
  | _,_,_=>.bad)) D from h)
 refine wE.one S h λv1 u1 H1 hv1 t1 S1 r1=>wE.one S1 (OE.from hv1) λv2 u2 H2 hv2 t2 S2 r2=>?_
 split at hv2
 . rename_i ds es e1 e2 e3
   obtain⟨f1,d1,n1⟩:=aBQ e1
   obtain⟨f2,d2,n2⟩:=aBQ e2
   have q1:=r1.2
   rw[if_pos f1] at q1
   have q2:=r2.2
   rw[if_pos f2] at q2
   obtain⟨b',xs,ds',rfl,z1,nb,hb',rb⟩:=q1
   obtain⟨c',ys,es',rfl,z2,nc,hc',rc⟩:=q2
   rw[d1] at z1
   rw[d2] at z2
   cases z1
   cases z2
   refine⟨by rw[sizeLine_eq];show 2<=_;decide,λq hq t'=>?_⟩
   have s2:=r2.1
   have s3:bG H2 (upd H2 q (.lst [.ref b',.ref c'])):=bG.new hq
   have qb:q≠b':=λz=>by rw[z,s2 _ _ hb'] at hq;cases hq
   have qc:q≠c':=λz=>by rw[z,hc'] at hq;cases hq
   have bc:b'≠c':=λz=>by rw[<-z,hb'] at nc;cases nc
   have s:=r1.1.trans (s2.trans s3)
   refine(show dL X.K RT Y old H (σ.set i (.par ds es)) D.nx from hv2) (λz=>RT z\/(z=q\/z=b'\/z=c')) _ _ (Kp.same s) (λz w=>w.imp id λw=>?_) (S.putTwo s t' (r1.1.free (s2.free hq)) nb (r1.1.free nc) qb qc bc bU (s3 _ _ (s2 _ _ hb')) (s3 _ _ hc') n1 n2 (((Reps.free _ _ n1 rb).grow s2).grow s3) ((Reps.free _ _ n2 rc).grow s3) e3 i)
   rcases w with w|w|w <;> subst w
   . exact r1.1.free (s2.free hq)
   . exact nb
   . exact r1.1.free nc
 . exact hv2.elim
theorem Sx.mutP(S:Sx K RT Y old σ σV H){i:Nat}{ds es ds' es':List D}{p:Addr}{xs0 xs':List V}(e:σ[i]? = some (.par ds es))(hp:H p=some (.lst xs0))(pp:Pt RT old σ σV p)
 (new:∃a b c xs ys,σV[i]? = some (some (.ref a))/\(upd H p (.lst xs') a=some (.lst [.ref b,.ref c])/\upd H p (.lst xs') b=some (.lst xs)/\upd H p (.lst xs') c=some (.lst ys))/\(Pt RT old σ σV a/\Pt RT old σ σV b/\Pt RT old σ σV c)/\(a≠b/\a≠c/\b≠c)/\(noLs ds'=true/\noLs es'=true)/\Reps K H (λ_=>False) ds' xs/\Reps K H (λ_=>False) es' ys) :
 Sx K RT Y old (σ.set i (.par ds' es')) σV (upd H p (.lst xs')):=by
 have kp:Kp (λb=>b=p) H (upd H p (.lst xs')):=λb o q n=>by rw[aN n];exact q
 have hR:∀b,b=p->RtO H b:=λb z=>.inl ⟨xs0,by rw[z];exact hp⟩
 have pt:∀{q:Addr},Pt RT old σ σV q->Pt RT old (σ.set i (.par ds' es')) σV q:=λ{q} z=>⟨z.1,z.2.1,λk pa dd w=>by
  rcases set_some w with⟨_,v,_⟩|⟨_,w⟩
  . cases v
  . exact z.2.2 k pa dd w⟩
 have hd:∀{b:Addr} {ys:List NE},H b=some (dX b ys)->b≠p:=λ{b ys} q z=>by rw[z,hp] at q;cases q
 have par:∀{j:Nat} {dd ee:List D},(σ.set i (.par ds' es'))[j]? = some (.par dd ee)->j=i:=λ{j dd ee} q=>by
  rcases set_some q with⟨z,_,_⟩|⟨_,q⟩
  . exact z.symm
  . exact S.dx.one j i _ _ _ _ q e
 exact {
  sh:=λj pb d q=>by
   rcases set_some q with⟨_,z,_⟩|⟨_,q⟩
   . cases z
   . obtain⟨v,g1,g2⟩:=S.sh j pb d q
     exact⟨v,g1,g2.kp kp hR λb z=>.inl (by rw[z];exact pp.1)⟩
  own:=λj pb dd q=>by
   rcases set_some q with⟨_,z,_⟩|⟨_,q⟩
   . cases z
   . obtain⟨b,ys,g1,g2,g3,g4,g5⟩:=S.own j pb dd q
     exact⟨b,ys,g1,kp b _ g2 (λz=>pp.2.2 j pb dd q (by rw[<-z];exact g1)),g3,g4,g5.kp kp hR λb z=>.inl (by rw[z];exact pp.1)⟩
  trk:=λb z q=>by
   by_cases hb:b=p
   . rw[hb,bU] at q;cases q
   . rw[aN hb] at q;exact S.trk b z q
  yo:=S.yo
  tk:=λb z=>by
   by_cases hb:b=p
   . rw[hb];exact S.tk p (by rw[hp];simp)
   . rw[aN hb] at z;exact S.tk b z
  rt:=λb z=>by
   by_cases hb:b=p
   . rw[hb];exact .inl ⟨xs',bU⟩
   . unfold RtO;rw[aN hb];exact S.rt b z
  inj:=λj j' pa' pa'' dd dd' b e1 e2 e3 e4=>by
   rcases set_some e1 with⟨_,e,_⟩|⟨n1,e1⟩
   . cases e
   rcases set_some e2 with⟨_,e,_⟩|⟨n2,e2⟩
   . cases e
   exact S.inj j j' pa' pa'' dd dd' b e1 e2 e3 e4
  len:=by rw[List.length_set];exact S.len
  dx:={
   at':=λj dd q=>by
    rcases set_some q with⟨_,z,_⟩|⟨_,q⟩
    . cases z
    . obtain⟨b,ys,h1,h2,h3,h4,h5,h6⟩:=S.dx.at' j dd q
      exact⟨b,ys,h1,kp b _ h2 (hd h2),h3,h4,h5,λx hx=>dN.imp (λ_ _ z=>kp.seqT hR z) (h6 x hx)⟩
   inj:=λj j' dd dd' b e1 e2=>by
    rcases set_some e1 with⟨_,e,_⟩|⟨n1,e1⟩
    . cases e
    rcases set_some e2 with⟨_,e,_⟩|⟨n2,e2⟩
    . cases e
    exact S.dx.inj j j' dd dd' b e1 e2
   at2:=λj dd ee q=>by
    have hj:=par q
    subst hj
    rcases set_some q with⟨_,z,_⟩|⟨hij,_⟩
    . cases z
      obtain⟨a,b,c,xs,ys,h1,h2,⟨qa,qb,qc⟩,h3,h4,r1,r2⟩:=new
      exact⟨a,b,c,xs,ys,h1,h2,⟨pt qa,pt qb,pt qc⟩,h3,h4,Reps.noT (λ_ _ z=>kp.seqT hR z) _ _ h4.1 r1,Reps.noT (λ_ _ z=>kp.seqT hR z) _ _ h4.2 r2⟩
    . exact absurd rfl hij
   one:=λj j' dd ee dd' ee' e1 e2=>(par e1).trans (par e2).symm } }
theorem lG:∀{ds:List D} {d:D},noLs ds=true->noL d=true->noLs (ds++[d])=true
 | [],d,_,h=>by simp[noLs,h]
 | e::ds,d,h,h2=>by
  simp only[noLs,bA,List.cons_append] at h ⊢
  exact⟨h.1,lG h.2 h2⟩
theorem aBR(b c:V)(z:Bool):atI [b,c] (b2i z)=some (if z then c else b):=by cases z <;> rfl
theorem aGv{i:Nat}{z:Bool}{c:E}{x:Str}{p p1 ap cp:Pos}{ix a:Expr}(M:Mc X P Γ n)(hx:cB Γ i x=true)(hk:PE X ix (WE X P n RT Y old σ (.c (.int (b2i z)))))(hpk:bS ix=true)(ha:PE X a (WE X P n RT Y old σ c))(hp:bS a=true)(hl:(ap.endLine==cp.line)=true) :
 PS X (.Expr (.Call (.Attribute (.Subscript (.Name x p) ix p1) "append" ap) [a] [] cp) pos) (wS X RT Y old σ (ex P (call P n) σ (.appP i z c))):=by
 refine cN (jT (xH PySem.F.plainAttrs_list PySem.F.slot_list_append PySem.F.type_list_append pK (aAQ qM (gP M hx) hk (jL hpk)) (gL ha mS (aG hp)) rfl (by rw[aG hp];rfl) hl (aG hp) rfl)) λD σV H t ⟨S,h⟩=>?_
 have h:=OE.from (show OE X.K RT Y old H (O.from σ (ev P (call P n) σ c) λv=>(match σ[i]?,noL v.d with
  | some (.par ds es),true=>if ds.length<lim/\es.length<lim then .next (σ.set i (aDq z (·++[v.d]) ds es)) else .bad
  | _,_=>.bad)) D from h)
 obtain⟨v,ee,h⟩:=h.eq
 split at h
 . rename_i ds es e1 e2
   split at h
   . rename_i hlim
     obtain⟨qa,qb,qc,xs,ys,g1,⟨ha',hb,hc⟩,⟨pa,pb,pc⟩,⟨nab,nac,nbc⟩,⟨n1,n2⟩,r1,r2⟩:=S.dx.at2 i ds es e1
     refine⟨.ref qa,g1,?_⟩
     refine wE.one (p:=λx=>x=.cl (.int (b2i z))) S rfl λw u H1 hw t1 S1 rr=>?_
     subst hw
     have hu:u=.int (b2i z):=(rr.rv S)
     subst hu
     refine⟨qa,[.ref qb,.ref qc],b2i z,_,rfl,rfl,SqL.of (rr.1 _ _ ha'),aBR _ _ z,?_⟩
     have l1:=r1.length
     have l2:=r2.length
     have hsl:=rJ
     cases z with
     | false=>
      refine⟨.inl ⟨rfl,xs,SqL.of (rr.1 _ _ hb)⟩,S1,?_⟩
      rw[ee]
      intro u H2 t2 rv
      have s2:=rr.1.trans rv.1
      have S2:=S1.grow rv.1 t2
      refine⟨qb,xs,u,rfl,rfl,s2 _ _ hb,by omega,λ_=>?_⟩
      refine(show dL X.K RT Y old H (σ.set i (.par (ds++[v.d]) es)) D.nx from h) RT _ _ (λb' o q nn=>by rw[aN λw=>nn (by rw[w];exact pb.1)];exact s2 _ _ q) bQ ?_
      exact S2.mutP e1 (s2 _ _ hb) pb ⟨qa,qb,qc,xs++[u],ys,g1,⟨by rw[aN nab];exact s2 _ _ ha',bU,by rw[aN (Ne.symm nbc)];exact s2 _ _ hc⟩,⟨pa,pb,pc⟩,⟨nab,nac,nbc⟩,⟨lG n1 e2,n2⟩,(r1.grow s2).append ⟨u,[],rfl,Rep.free _ _ e2 (rv.rv S1),rfl⟩,r2.grow s2⟩
     | true=>
      refine⟨.inl ⟨rfl,ys,SqL.of (rr.1 _ _ hc)⟩,S1,?_⟩
      rw[ee]
      intro u H2 t2 rv
      have s2:=rr.1.trans rv.1
      have S2:=S1.grow rv.1 t2
      refine⟨qc,ys,u,rfl,rfl,s2 _ _ hc,by omega,λ_=>?_⟩
      refine(show dL X.K RT Y old H (σ.set i (.par ds (es++[v.d]))) D.nx from h) RT _ _ (λb' o q nn=>by rw[aN λw=>nn (by rw[w];exact pc.1)];exact s2 _ _ q) bQ ?_
      exact S2.mutP e1 (s2 _ _ hc) pc ⟨qa,qb,qc,xs,ys++[u],g1,⟨by rw[aN nac];exact s2 _ _ ha',by rw[aN nbc];exact s2 _ _ hb,bU⟩,⟨pa,pb,pc⟩,⟨nab,nac,nbc⟩,⟨n1,lG n2 e2⟩,r1.grow s2,(r2.grow s2).append ⟨u,[],rfl,Rep.free _ _ e2 (rv.rv S1),rfl⟩⟩
   . exact h.elim
 . exact h.elim
theorem aGw{i:Nat}{z:Bool}{x:Str}{p p1 ap cp:Pos}{ix:Expr}(M:Mc X P Γ n)(hx:cB Γ i x=true)(hk:PE X ix (WE X P n RT Y old σ (.c (.int (b2i z)))))(hpk:bS ix=true)(hl:(ap.endLine==cp.line)=true) :
 PS X (.Expr (.Call (.Attribute (.Subscript (.Name x p) ix p1) "clear" ap) [] [] cp) pos) (wS X RT Y old σ (ex P (call P n) σ (.clrP i z))):=by
 refine cN (jT (aFu PySem.F.plainAttrs_list PySem.F.slot_list_clear PySem.F.type_list_clear aAU (aAQ qM (gP M hx) hk (jL hpk)) rfl hl)) λD σV H t ⟨S,h⟩=>?_
 have h:OE X.K RT Y old H (match σ[i]? with
  | some (.par ds es)=>.next (σ.set i (aDq z (λ_=>[]) ds es))
  | _=>.bad) D:=h
 split at h
 . rename_i ds es e1
   obtain⟨qa,qb,qc,xs,ys,g1,⟨ha',hb,hc⟩,⟨pa,pb,pc⟩,⟨nab,nac,nbc⟩,⟨n1,n2⟩,r1,r2⟩:=S.dx.at2 i ds es e1
   refine⟨.ref qa,g1,?_⟩
   refine wE.one (p:=λx=>x=.cl (.int (b2i z))) S rfl λw u H1 hw t1 S1 rr=>?_
   subst hw
   have hu:u=.int (b2i z):=(rr.rv S)
   subst hu
   have s2:=rr.1
   refine⟨qa,[.ref qb,.ref qc],b2i z,_,rfl,rfl,SqL.of (s2 _ _ ha'),aBR _ _ z,?_⟩
   cases z with
   | false=>
    refine⟨.inl ⟨rfl,xs,SqL.of (s2 _ _ hb)⟩,qb,xs,rfl,rfl,s2 _ _ hb,λ_=>?_⟩
    refine(show dL X.K RT Y old H (σ.set i (.par [] es)) D.nx from h) RT _ _ (λb' o q nn=>by rw[aN λw=>nn (by rw[w];exact pb.1)];exact s2 _ _ q) bQ ?_
    exact S1.mutP e1 (s2 _ _ hb) pb ⟨qa,qb,qc,[],ys,g1,⟨by rw[aN nab];exact s2 _ _ ha',bU,by rw[aN (Ne.symm nbc)];exact s2 _ _ hc⟩,⟨pa,pb,pc⟩,⟨nab,nac,nbc⟩,⟨rfl,n2⟩,rfl,r2.grow s2⟩
   | true=>
    refine⟨.inl ⟨rfl,ys,SqL.of (s2 _ _ hc)⟩,qc,ys,rfl,rfl,s2 _ _ hc,λ_=>?_⟩
    refine(show dL X.K RT Y old H (σ.set i (.par ds [])) D.nx from h) RT _ _ (λb' o q nn=>by rw[aN λw=>nn (by rw[w];exact pc.1)];exact s2 _ _ q) bQ ?_
    exact S1.mutP e1 (s2 _ _ hc) pc ⟨qa,qb,qc,xs,[],g1,⟨by rw[aN nac];exact s2 _ _ ha',by rw[aN nbc];exact s2 _ _ hb,bU⟩,⟨pa,pb,pc⟩,⟨nab,nac,nbc⟩,⟨n1,rfl⟩,r1.grow s2,rfl⟩
 . exact h.elim
end
section
variable {P:Pg} {n:Nat} {Y old:Addr->Prop}
theorem aBS{Γ:Ct}{is:List Nat}{tg:Expr}(h:oY Γ (.t is) tg=true):∃es k p,tg=.Tuple es k p:=by
 cases tg with
 | Tuple es k p=>exact⟨es,k,p,rfl⟩
 | _=>cases h
theorem aAd{Γ:Ct}{i:Nat}{tg:Expr}(h:oY Γ (.n i) tg=true):∃x p,tg=.Name x p/\cG Γ i x=true:=by
 cases tg with
 | Name x p=>exact⟨x,p,rfl,h⟩
 | _=>cases h
theorem aAe{Γ:Ct}{c:E}{e:Expr}(h:bL Γ c e=true)(hc:nB e=true):∃k caps t it cond elt,c=.comp k caps t it cond elt:=by
 cases c with
 | comp k caps t it cond elt=>exact⟨k,caps,t,it,cond,elt,rfl⟩
 | c d=>
  rcases(Bool.or_eq_true _ _).mp (show(oS (asC e) (eqC d)||oS (asN e) λx=>eR Γ x&&dC x&&oB (Γ.cns.lookup x) (eqK d))=true from h) with h|h
  . obtain⟨_,⟨_,_,rfl⟩,_⟩:=aJ h;cases hc
  . obtain⟨_,⟨_,rfl⟩,_⟩:=aJ h;cases hc
 | v i=>obtain⟨_,⟨_,rfl⟩,_⟩:=aJ h;cases hc
 | op o a b=>obtain⟨_,⟨_,rfl⟩,_⟩:=aJ h;cases hc
 | neg _=>cases h
 | nt a=>obtain⟨_,⟨_,rfl⟩,_⟩:=aJ h;cases hc
 | an a b=>obtain⟨_,rfl,_⟩:=aJ h;cases hc
 | orr a b=>obtain⟨_,rfl,_⟩:=aJ h;cases hc
 | ife t a b=>obtain⟨_,⟨_,rfl⟩,_⟩:=aJ h;cases hc
 | cmp o a b=>obtain⟨_,⟨_,rfl⟩,_⟩:=aJ h;cases hc
 | dnin a j=>obtain⟨_,⟨_,rfl⟩,_⟩:=aJ h;cases hc
 | dget _ _=>cases h
 | dlen _=>cases h
 | cmp2 o1 o2 a b c=>obtain⟨_,⟨_,rfl⟩,_⟩:=aJ h;cases hc
 | idx a b=>obtain⟨_,⟨_,rfl⟩,_⟩:=aJ h;cases hc
 | sli a lo hi=>obtain⟨_,⟨_,rfl⟩,_⟩:=aJ h;cases hc
 | tup es=>obtain⟨_,⟨_,_,rfl⟩,_⟩:=aJ h;cases hc
 | lst es=>obtain⟨_,⟨_,rfl⟩,_⟩:=aJ h;cases hc
 | call f es=>obtain⟨_,⟨_,_,rfl⟩,_⟩:=aJ h;cases hc
 | callP f i es=>obtain⟨_,⟨_,_,rfl⟩,_⟩:=aJ h;cases hc
 | bi b es=>obtain⟨_,⟨_,_,rfl⟩,_⟩:=aJ h;cases hc
 | mth m o es=>obtain⟨_,⟨_,_,rfl,_⟩,_⟩:=aJ h;cases hc
 | isi a cs=>obtain⟨_,⟨_,_,rfl⟩,_⟩:=aJ h;cases hc
 | numset _=>cases h
 | tget _ _=>cases h
 | lzip _ _=>cases h
 | dic ks vs=>cases h
 | attr _ _=>cases h
theorem m1{Γ:Ct}{i:Nat}{m:Str}{c:Expr}{f:Expr->Bool}(h:(match pA Γ i m c with|some [a]=>f a|_=>false)=true):∃a,pA Γ i m c=some [a]/\f a=true:=by
 split at h
 . rename_i a q;exact⟨a,q,h⟩
 . cases h
theorem m0{Γ:Ct}{i:Nat}{m:Str}{c:Expr}(h:(match pA Γ i m c with|some []=>true|_=>false)=true):pA Γ i m c=some []:=by
 split at h
 . rename_i q;exact q
 . cases h
abbrev QS(P:Pg)(n:Nat)(Y old:Addr->Prop)(c:S):Prop:=∀{X:Cx} {Γ:Ct},Mc X P Γ n->∀{st:Stmt},fK Γ c st=true->∀(RT:Addr->Prop) (σ:Sg),PS X st (wS X RT Y old σ (ex P (call P n) σ c))
abbrev QSs(P:Pg)(n:Nat)(Y old:Addr->Prop)(c:Ss):Prop:=∀{X:Cx} {Γ:Ct},Mc X P Γ n->∀{st:List Stmt},chkSs Γ c st=true->∀(RT:Addr->Prop) (σ:Sg),PSs X st (wS X RT Y old σ (exs P (call P n) σ c))
theorem aIM{t:T}{e:E}:QS P n Y old (.set t e):=λ{X Γ} M {st} h RT σ=>by
 unfold fK at h
 obtain⟨⟨tg,v⟩,⟨p,rfl⟩,g⟩:=aJ h
 clear h
 obtain⟨h1,h2,h3⟩:=fM g
 clear g
 cases t with
 | n i=>
  obtain⟨x,p,e1,hx⟩:=aAd h1
  have e1:tg=.Name x p:=e1
  subst e1
  cases hc:nB v with
  | false=>exact aGq M hx (sE e M h2 RT Y old σ) hc
  | true=>
   obtain⟨k,caps,t,it,cond,elt,rfl⟩:=aAe h2 hc
   obtain⟨el,tg,iter,ifs,scope,cpos,e2,O,g1,g2,g3,g4,g5⟩:=xP h2
   have e2:v=.ListComp el [⟨tg,iter,ifs,0⟩] scope cpos:=e2
   subst e2
   refine aAc M hx (O.scope M) O.ndc O.tk (sI it M g3 RT Y old σ) (λC s₀ H₀ ex=>?_) (lB (jO g3))
   have M':=O.mc M C s₀ H₀ ex
   exact⟨aDL M' g2,λRT Y old σ1=>sTs cond M' g1 g4 RT Y old σ1,λRT Y old σ1=>sE elt M' g5 RT Y old σ1⟩
 | t is=>
  obtain⟨es,k,p,e1⟩:=aBS h1
  have e1:tg=.Tuple es k p:=e1
  subst e1
  refine aGr M h1 (sE e M h2 RT Y old σ) ?_
  have:(false||!vR v)=true:=h3
  simpa using this
theorem aIN{i j:Nat}:QS P n Y old (.mov i j):=λ{X Γ} M {st} h RT σ=>by
 unfold fK at h
 obtain⟨⟨tg,v⟩,⟨p,rfl⟩,g⟩:=aJ h
 clear h
 obtain⟨x,⟨p1,e1⟩,g⟩:=aJ g
 obtain⟨y,⟨p2,e2⟩,g⟩:=aJ g
 have e1:tg=.Name x p1:=e1
 have e2:v=.Name y p2:=e2
 subst e1 e2
 obtain⟨h1,h2⟩:=eH g
 exact aII M h1 h2
theorem aGx{i:Nat}:QS P n Y old (.dnew i):=λ{X Γ} M {st} h RT σ=>by
 unfold fK at h
 obtain⟨⟨tg,v⟩,⟨p,rfl⟩,g⟩:=aJ h
 clear h
 obtain⟨x,⟨p1,e1⟩,g⟩:=aJ g
 have e1:tg=.Name x p1:=e1
 subst e1
 obtain⟨h1,h2⟩:=eH g
 obtain⟨_,⟨p2,e2⟩,_⟩:=aJ h2
 have e2:v=.Dict [] [] p2:=e2
 subst e2
 exact aGs M h1
theorem aGy{i:Nat}{e:E}:QS P n Y old (.dput i e):=λ{X Γ} M {st} h RT σ=>by
 unfold fK at h
 obtain⟨⟨tg,v⟩,⟨p,rfl⟩,g⟩:=aJ h
 clear h
 obtain⟨⟨o,ix⟩,⟨p1,e1⟩,g⟩:=aJ g
 obtain⟨x,⟨p2,e2⟩,g⟩:=aJ g
 have e1:tg=.Subscript o ix p1:=e1
 have e2:o=.Name x p2:=e2
 subst e1 e2
 obtain⟨h1,h2,h3⟩:=fM g
 exact aGu M h1 (sE e M h2 RT Y old σ) (sE (.c (.bl true)) M h3 RT Y old σ) (bD h2)
theorem aIO{i:Nat}{a b:E}:QS P n Y old (.two i a b):=λ{X Γ} M {st} h RT σ=>by
 unfold fK at h
 obtain⟨⟨tg,v⟩,⟨p,rfl⟩,g⟩:=aJ h
 clear h
 obtain⟨x,⟨p1,e1⟩,g⟩:=aJ g
 obtain⟨ys,⟨p2,e2⟩,g⟩:=aJ g
 have e1:tg=.Name x p1:=e1
 have e2:v=.List ys p2:=e2
 subst e1 e2
 obtain⟨h1,h2⟩:=eH g
 rcases ys with _|⟨y,_|⟨z,_|⟨_,_⟩⟩⟩
 . cases h2
 . cases h2
 . obtain⟨h2,h3⟩:=eH h2
   exact aIL M h1 (sE a M h2 RT Y old σ) (sE b M h3 RT Y old σ) (bD h2) (bD h3)
 . cases h2
theorem aGz{i:Nat}{z:Bool}{e:E}:QS P n Y old (.appP i z e):=λ{X Γ} M {st} h RT σ=>by
 unfold fK at h
 obtain⟨c,⟨p,rfl⟩,g⟩:=aJ h
 clear h
 obtain⟨⟨o,m,as,l⟩,⟨ap,cp,e1,el⟩,g⟩:=aJ g
 obtain⟨⟨y,ix⟩,⟨p1,e2⟩,g⟩:=aJ g
 obtain⟨x,⟨p2,e3⟩,g⟩:=aJ g
 have e2:o=.Subscript y ix p1:=e2
 have e3:y=.Name x p2:=e3
 have e1:c=.Call (.Attribute o m ap) as [] cp:=e1
 have el:(ap.endLine==cp.line)=l:=el
 subst e3
 subst e2
 subst e1
 obtain⟨h1,h2,h3,h4,h5⟩:=wF g
 have h3:m=("append" : Str):=eq_of_beq h3
 subst h3
 rcases as with _|⟨a,_|⟨_,_⟩⟩
 . cases h5
 . exact aGv M h1 (sE (.c (.int (b2i z))) M h2 RT Y old σ) (bD h2) (sE e M h5 RT Y old σ) (bD h5) h4
 . cases h5
theorem aGA{i:Nat}{z:Bool}:QS P n Y old (.clrP i z):=λ{X Γ} M {st} h RT σ=>by
 unfold fK at h
 obtain⟨c,⟨p,rfl⟩,g⟩:=aJ h
 clear h
 obtain⟨⟨o,m,as,l⟩,⟨ap,cp,e1,el⟩,g⟩:=aJ g
 obtain⟨⟨y,ix⟩,⟨p1,e2⟩,g⟩:=aJ g
 obtain⟨x,⟨p2,e3⟩,g⟩:=aJ g
 have e2:o=.Subscript y ix p1:=e2
 have e3:y=.Name x p2:=e3
 have e1:c=.Call (.Attribute o m ap) as [] cp:=e1
 have el:(ap.endLine==cp.line)=l:=el
 subst e3
 subst e2
 subst e1
 obtain⟨h1,h2,h3,h4,h5⟩:=wF g
 have h3:m=("clear" : Str):=eq_of_beq h3
 subst h3
 rcases as with _|⟨a,as⟩
 . exact aGw M h1 (sE (.c (.int (b2i z))) M h2 RT Y old σ) (bD h2) h4
 . cases h5
theorem aDQ{i:Nat}{k e:E}:QS P n Y old (.setIx i k e):=λ{X Γ} M {st} h RT σ=>by
 unfold fK at h
 obtain⟨⟨tg,v⟩,⟨p,rfl⟩,g⟩:=aJ h
 clear h
 obtain⟨⟨o,ix⟩,⟨p1,e1⟩,g⟩:=aJ g
 obtain⟨x,⟨p2,e2⟩,g⟩:=aJ g
 have e1:tg=.Subscript o ix p1:=e1
 have e2:o=.Name x p2:=e2
 subst e1 e2
 obtain⟨h1,h2,h3⟩:=fM g
 exact aDP M h1 (sE k M h2 RT Y old σ) (sE e M h3 RT Y old σ) (bD h2)
theorem aIP{i:Nat}{e:E}:QS P n Y old (.app i e):=λ{X Γ} M {st} h RT σ=>by
 unfold fK at h
 obtain⟨c,⟨p,rfl⟩,g⟩:=aJ h
 obtain⟨a,h1,h2⟩:=m1 (f:=λa=>bL Γ e a) g
 exact aIG M h1 (sE e M h2 RT Y old σ) (bD h2)
theorem aIQ{i:Nat}{e:E}:QS P n Y old (.ext i e):=λ{X Γ} M {st} h RT σ=>by
 unfold fK at h
 obtain⟨c,⟨p,rfl⟩,g⟩:=aJ h
 obtain⟨a,h1,h2⟩:=m1 (f:=λa=>bL Γ e a) g
 exact aIH M h1 (sE e M h2 RT Y old σ) (bD h2)
theorem aIR{e:E}:QS P n Y old (.ret e):=λ{X Γ} M {st} h RT σ=>by
 unfold fK at h
 obtain⟨r,⟨p,rfl⟩,g⟩:=aJ h
 clear h
 obtain⟨v,e1,g⟩:=aBt g
 subst e1
 exact aIF (sE e M g RT Y old σ)
theorem aGB{i:Nat}:QS P n Y old (.retv i):=λ{X Γ} M {st} h RT σ=>by
 unfold fK at h
 obtain⟨r,⟨p,rfl⟩,g⟩:=aJ h
 clear h
 obtain⟨v,e1,g⟩:=aBt g
 subst e1
 obtain⟨x,⟨p1,e2⟩,g⟩:=aJ g
 have e2:v=.Name x p1:=e2
 subst e2
 exact aGp M g
theorem aGC:QS P n Y old .retN:=λ{X Γ} M {st} h RT σ=>by
 unfold fK at h
 obtain⟨r,⟨p,rfl⟩,g⟩:=aJ h
 cases r with
 | none=>exact aGo
 | some _=>cases g
theorem aIS{c:E}{a b:Ss}(ha:QSs P n Y old a)(hb:QSs P n Y old b):QS P n Y old (.iff c a b):=λ{X Γ} M {st} h RT σ=>by
 unfold fK at h
 obtain⟨⟨t,x,y⟩,⟨p,rfl⟩,g⟩:=aJ h
 obtain⟨h1,h2,h3⟩:=fM g
 exact aKN (sT c M h1 RT Y old σ) (ha M h2) (hb M h3)
theorem aIT{t:T}{it:Hp.It}{b:Ss}(hb:QSs P n Y old b):QS P n Y old (.for t it b):=λ{X Γ} M {st} h RT σ=>by
 unfold fK at h
 obtain⟨⟨tg,iter,body⟩,⟨p,rfl⟩,g⟩:=aJ h
 obtain⟨h1,h2,h3⟩:=fM g
 exact aIJ M h1 (sI it M h2 RT Y old σ) (hb M h3) (lB (jO h2))
theorem aIU{c:E}{b:Ss}(hb:QSs P n Y old b):QS P n Y old (.whl c b):=λ{X Γ} M {st} h RT σ=>by
 unfold fK at h
 obtain⟨⟨t,body⟩,⟨p,rfl⟩,g⟩:=aJ h
 obtain⟨h1,h2⟩:=eH g
 exact aIK M (λRT σ=>sT c M h1 RT Y old σ) (hb M h2)
theorem aIV:QS P n Y old .brk:=λ{X Γ} M {st} h RT σ=>by
 unfold fK at h
 obtain⟨_,⟨p,rfl⟩,_⟩:=aJ h
 exact aIC
theorem aIW:QS P n Y old .cnt:=λ{X Γ} M {st} h RT σ=>by
 unfold fK at h
 obtain⟨_,⟨p,rfl⟩,_⟩:=aJ h
 exact aID
theorem aGD:QS P n Y old .pass:=λ{X Γ} M {st} h RT σ=>by
 unfold fK at h
 obtain⟨_,⟨p,rfl⟩,_⟩:=aJ h
 exact aGn
theorem aKO{e:E}:QS P n Y old (.ex e):=λ{X Γ} M {st} h RT σ=>by
 unfold fK at h
 obtain⟨v,⟨p,rfl⟩,g⟩:=aJ h
 obtain⟨h1,h2⟩:=eH g
 exact aKM (sE e M h1 RT Y old σ) (by simpa using h2)
theorem aIX{c:Nat}{k:Bool}{es:Es}:QS P n Y old (.rse c k es):=by
 intro X Γ M st h RT σ
 exact aIE
theorem nT{c:S}(z:∀Γ st,fK Γ c st=false):QS P n Y old c:=by
 intro X Γ M st h RT σ
 rw[z] at h
 cases h
theorem aIY:QSs P n Y old .nil:=λ{X Γ} M {st} h RT σ=>by
 cases st with
 | nil=>exact aIB
 | cons _ _=>exact nf h
theorem aGE{c:S}{cs:Ss}(hc:QS P n Y old c)(hs:QSs P n Y old cs):QSs P n Y old (.cons c cs):=λ{X Γ} M {st} h RT σ=>by
 cases st with
 | nil=>exact nf h
 | cons x xs=>
  obtain⟨h1,h2⟩:=eH h
  exact aGm (hc M h1) (hs M h2)
mutual
theorem sS:(c:S)->QS P n Y old c
 | .set _ _=>aIM
 | .mov _ _=>aIN
 | .setIx _ _ _=>aDQ
 | .dnew _=>aGx
 | .dput _ _=>aGy
 | .dfrom _ _=>nT λ_ _=>rfl
 | .two _ _ _=>aIO
 | .appP _ _ _=>aGz
 | .clrP _ _=>aGA
 | .app _ _=>aIP
 | .ext _ _=>aIQ
 | .pop _ _ _=>nT λ_ _=>rfl
 | .clr _=>nT λ_ _=>rfl
 | .ins _ _ _=>nT λ_ _=>rfl
 | .rev _=>nT λ_ _=>rfl
 | .appCall _ _ _=>nT λ_ _=>rfl
 | .ret _=>aIR
 | .retv _=>aGB
 | .retN=>aGC
 | .iff _ a b=>aIS (sSs a) (sSs b)
 | .for _ _ b=>aIT (sSs b)
 | .whl _ b=>aIU (sSs b)
 | .brk=>aIV
 | .cnt=>aIW
 | .pass=>aGD
 | .ex _=>aKO
 | .rse _ _ _=>aIX
 | .try _ _=>nT λ_ _=>rfl
theorem sSs:(c:Ss)->QSs P n Y old c
 | .nil=>aIY
 | .cons c cs=>aGE (sS c) (sSs cs)
end
end
structure Tx where
 x:Str
 qual:Str
 st:Stmt
 N:List Str
def pS(Γ:Ct)(F:Fn)(t:Tx):Bool:=
 t.N.length==F.ns&&decide (F.np<=F.ns)&&decide t.N.Nodup&&(cJ t.st).kind==.function&&!(cJ t.st).isCoroutine&&!(cJ t.st).isGenerator &&
 ((t.N.take F.np).all λx=>(cJ t.st).names.lookup x==some .local||(cJ t.st).names.lookup x==some .cell)&&((cJ t.st).names.all λp=>p.2 != .free) &&
 chkSs { Γ with N:=t.N,sc:=(cJ t.st).names,fn:=true } F.body (iM t.st)
def iE(Γ:Ct):List Fn->List Tx->Bool
 | [],[]=>true
 | F::Fs,t::ts=>pS Γ F t&&iE Γ Fs ts
 | _,_=>false
theorem gQ{Γ:Ct}:∀{Fs:List Fn} {ts:List Tx},iE Γ Fs ts=true->∀{f:Nat} {t:Tx},ts[f]? = some t->∃F,Fs[f]? = some F/\pS Γ F t=true
 | [],[],_,_,_,e=>by simp at e
 | [],_::_,h,_,_,_=>by cases h
 | _::_,[],h,_,_,_=>by cases h
 | F::Fs,t::ts,h,0,t',e=>by
  obtain⟨h1,h2⟩:=eH (show(pS Γ F t&&iE Γ Fs ts)=true from h)
  have e':t=t':=by simpa using e
  subst e'
  exact⟨F,rfl,h1⟩
 | F::Fs,t::ts,h,f+1,t',e=>by
  obtain⟨h1,h2⟩:=eH (show(pS Γ F t&&iE Γ Fs ts)=true from h)
  obtain⟨F',q1,q2⟩:=gQ h2 (f:=f) (t:=t') (by simpa using e)
  exact⟨F',by simpa using q1,q2⟩
section
variable {prog:Program} {w:World} {K:Fg} {mg:Str->Option Value} {base:Heap} {P:Pg} {Γ:Ct} {txs:List Tx}
structure Top (prog:Program) (w:World) (K:Fg) (mg:Str->Option Value) (P:Pg) (Γ:Ct) (txs:List Tx):Prop where
 fn:∀(f:Nat) (t:Tx),txs[f]? = some t->∃fa fd,mg t.x=some (.ref fa)/\Fun K t.x t.qual t.st fa fd/\∀F,P.fns[f]? = some F->jC K fd (t.N.take F.np) []
 fns:∀(f:Nat) (x:Str),Γ.fns[f]? = some x->∃t,txs[f]? = some t/\t.x=x
 blt:∀x∈bltNames,mg x=none
 cns:∀(x:Str) (d:D),Γ.cns.lookup x=some d->∃u v,mg x=some u/\cI v u/\∀H ex,Rep K H ex d v
 tab:∀(i:Nat) (x:Str),Γ.tbs[i]? = some x->∃a t,mg x=some (.ref a)/\P.tabs[i]? = some t/\aBm prog w K a t
 chk:iE Γ P.fns txs=true
theorem xU{k f:Nat}{F:Fn}(hF:P.fns[f]? = some F){vs:List V}{H:Hp}{Q:VK}{E:XK}(h:spF K P (k+1) f vs H Q E):vs.length=F.np:=by
 obtain⟨ds,Y,_,r,hr⟩:=h
 obtain⟨x,e,_⟩:=hr.eq
 have e:vO P (call P k) f ds=.ok x:=e
 unfold vO at e
 rw[hF] at e
 have e:(if ds.length=F.np then _ else R.bad)=R.ok x:=e
 split at e
 . rename_i hl;rw[<-r.length];exact hl
 . cases e
theorem aBT{ds:List D}{vs:List V}{H:Hp}{Y:Addr->Prop}{m:Nat}(hY:∀a,Y a->H a≠none)(t:Tk K H)(r:Reps K H Y ds vs):Sx K (λ_=>False) Y (λb=>H b≠none) ((ds.map λd=>Sl.sh true d)++List.replicate m Sl.dead) (vs.map some++List.replicate m none) H:=by
 have len:=r.length
 have get:∀{i:Nat} {s:Sl},((ds.map λd=>Sl.sh true d)++List.replicate m Sl.dead)[i]? = some s->s=.dead\/∃d,s=.sh true d/\ds[i]? = some d:=λ{i s} e=>by
  by_cases hi:i<ds.length
  . rw[List.getElem?_append_left (by simpa using hi),List.getElem?_map,List.getElem?_eq_getElem hi] at e
    cases e
    exact .inr ⟨ds[i],rfl,List.getElem?_eq_getElem hi⟩
  . rw[List.getElem?_append_right (by simpa using hi),List.getElem?_replicate] at e
    split at e
    . cases e;exact .inl rfl
    . cases e
 exact {
  sh:=λi pa d e=>by
   rcases get e with z|⟨d',z,q⟩
   . cases z
   . cases z
     obtain⟨v,hv,rv⟩:=r.get q
     have hi:i<vs.length:=(List.getElem?_eq_some_iff.mp hv).1
     refine⟨v,?_,rv.weak λa z=>?_⟩
     . rw[List.getElem?_append_left (by simpa using hi),List.getElem?_map,hv];rfl
     . rcases z with z|z|⟨z,_⟩
       . exact z.elim
       . exact z
       . cases z
  own:=λi pa ds' e=>by
   rcases get e with z|⟨d',z,q⟩
   . cases z
   . cases z
  trk:=λa z=>by
   rcases z with z|z|z
   . exact z.elim
   . exact hY a z
   . exact z
  yo:=hY
  tk:=t
  rt:=λ_ z=>z.elim
  inj:=λi j pa pa' ds1 ds2 a e=>by
   rcases get e with z|⟨d',z,q⟩
   . cases z
   . cases z
  len:=by rw[lA,lA,lM,lM,List.length_replicate,List.length_replicate,len]
  dx:={
   at':=λi ds' e=>by
    rcases get e with z|⟨d',z,q⟩
    . cases z
    . cases z
   inj:=λi j ds1 ds2 a e=>by
    rcases get e with z|⟨d',z,q⟩
    . cases z
    . cases z
   at2:=λi ds es e=>by
    rcases get e with z|⟨d',z,q⟩
    . cases z
    . cases z
   one:=λi j ds es ds' es' e=>by
    rcases get e with z|⟨d',z,q⟩
    . cases z
    . cases z } }
theorem xV{k f:Nat}{t:Tx}{F:Fn}{fa:Addr}{fd:FuncData}(hmd:∀(f:Nat) (x:Str),Γ.fns[f]? = some x->∃fa fd ps,mg x=some (.ref fa)/\PySem.W.keepIn K (.ref fa)=true/\jC K fd ps []/\lX prog w K mg base CX0 k fa fd ps (spF K P k f))
 (hblt:∀x∈bltNames,mg x=none) (hcns:∀(x:Str) (d:D),Γ.cns.lookup x=some d->∃u v,mg x=some u/\cI v u/\∀H ex,Rep K H ex d v) (htab:∀(i:Nat) (x:Str),Γ.tbs[i]? = some x->∃a t,mg x=some (.ref a)/\P.tabs[i]? = some t/\aBm prog w K a t) (h2:Fun K t.x t.qual t.st fa fd) (hF:P.fns[f]? = some F) (hc:pS Γ F t=true) :
 lX prog w K mg base CX0 (k+1) fa fd (t.N.take F.np) (spF K P (k+1) f):=by
 unfold pS at hc
 simp only[bA,beq_iff_eq,decide_eq_true_eq,Bool.not_eq_true',List.all_eq_true,Bool.or_eq_true,bne_iff_ne,ne_eq] at hc
 obtain⟨⟨⟨⟨⟨⟨⟨⟨c1,c2⟩,c3⟩,c4⟩,c5⟩,c6⟩,c7⟩,c8⟩,c9⟩:=hc
 have lt:(t.N.take F.np).length=F.np:=by rw[List.length_take];omega
 have sc:mF t.N (t.N.take F.np) (cJ t.st):=⟨c4,c5,c6,c3,by rw[lt],c7,c8⟩
 refine h2.ok sc (λvs H Q E h=>by rw[lt];exact xU hF h) λcdv A outer s H vs Q E hr h=>?_
 have hlen:=xU hF h
 obtain⟨ds,Y,hY,r,hq⟩:=h
 have M:Mc (vF CX0 prog w K mg base t.N t.qual (cJ t.st) fa cdv A outer s H E).nox P { Γ with N:=t.N,sc:=(cJ t.st).names,fn:=true } k:={
  md:=⟨hmd,hblt,hcns,htab⟩
  N:=rfl
  nd:=c3
  sc:=rfl
  calm:=rfl
  room:=hr
  xe:=rfl
  st:=λ_ _=>.inl rfl
  fk:=c4 }
 obtain⟨res,er,hq⟩:=hq.eq
 have er:vO P (call P k) f ds=.ok res:=er
 unfold vO at er
 rw[hF] at er
 have er:(if ds.length=F.np then (match exs P (call P k) ((ds.map λd=>Sl.sh true d)++List.replicate (F.ns-F.np) Sl.dead) F.body with
  | .ret v=>R.ok (v.d,v.fr,v.pa)
  | .next _=>R.ok (.non,false,false)
  | .exc x _=>R.exc x
  | _=>R.bad) else R.bad)=R.ok res:=er
 have hdl:ds.length=F.np:=by rw[r.length];exact hlen
 rw[if_pos hdl] at er
 refine⟨_,rE (t':=λD σV H'=>Tk K H'->wS _ (λ_=>False) Y (λb=>H b≠none) ((ds.map λd=>Sl.sh true d)++List.replicate (F.ns-F.np) Sl.dead) (exs P (call P k) ((ds.map λd=>Sl.sh true d)++List.replicate (F.ns-F.np) Sl.dead) F.body) D σV H') (sSs (Y:=Y) (old:=λb=>H b≠none) F.body M c9 (λ_=>False) ((ds.map λd=>Sl.sh true d)++List.replicate (F.ns-F.np) Sl.dead)) (λD σV H' tk hw=>⟨(hw tk).1,OE.tkE (hw tk).2⟩),λtk=>⟨?_,?_⟩⟩
 . have e:L2.start t.N vs=vs.map some++List.replicate (F.ns-F.np) none:=by unfold L2.start;rw[hlen,c1]
   rw[e]
   exact aBT hY tk r
 . have same:∀{H':Hp},Kp (λ_=>False) H H'->bG H H':=λk b o e=>k b o e id
   show OE K (λ_=>False) Y (λb=>H b≠none) H (exs P (call P k) ((ds.map λd=>Sl.sh true d)++List.replicate (F.ns-F.np) Sl.dead) F.body) _
   cases q:exs P (call P k) ((ds.map λd=>Sl.sh true d)++List.replicate (F.ns-F.np) Sl.dead) F.body with
   | next σ'=>
    rw[q] at er
    cases(show R.ok (D.non,false,false)=R.ok res from er)
    exact λRT' σV' H' kp sub S'=>hq .non H' S'.tk (same kp) (show(if false=true then _ else _) from aFx rfl)
   | ret v=>
    rw[q] at er
    cases(show R.ok (v.d,v.fr,v.pa)=R.ok res from er)
    refine λu H' kp tk' rt=>hq u H' tk' (same kp) ?_
    unfold Rr
    unfold Rtv at rt
    cases hfr:v.fr with
    | true=>
     rw[hfr,if_pos rfl] at rt
     obtain⟨a,xs,ds',e1,e2,e3,e4,rr⟩:=rt
     exact aHI ⟨a,xs,ds',e1,e2,Classical.not_not.mp e3,e4,rr⟩
    | false=>
     rw[hfr,if_neg bN] at rt
     exact aFx rt
   | brk σ'=>rw[q] at er;cases er
   | cnt σ'=>rw[q] at er;cases er
   | exc e σ'=>rw[q] at er;cases er
   | bad=>rw[q] at er;cases er
theorem aBU(T:Top prog w K mg P Γ txs):∀(k f:Nat) (x:Str),Γ.fns[f]? = some x->∃fa fd ps,mg x=some (.ref fa)/\PySem.W.keepIn K (.ref fa)=true/\jC K fd ps []/\lX prog w K mg base CX0 k fa fd ps (spF K P k f)
 | 0,f,x,hf=>by
  obtain⟨t,ht,rfl⟩:=T.fns f x hf
  obtain⟨fa,fd,h1,h2,h3⟩:=T.fn f t ht
  obtain⟨F,hF,_⟩:=gQ T.chk ht
  have no:∀vs H Q E,¬ spF K P 0 f vs H Q E:=λvs H Q E h=>by
   obtain⟨ds,Y,_,r,hr⟩:=h
   exact hr
  exact⟨fa,fd,_,h1,h2.kp,h3 F hF,λvs H Q E h=>absurd h (no vs H Q E),λA outer s H args us vs Q E _ _ _ _ h=>absurd h (no vs H Q E)⟩
 | k+1,f,x,hf=>by
  obtain⟨t,ht,rfl⟩:=T.fns f x hf
  obtain⟨fa,fd,h1,h2,h3⟩:=T.fn f t ht
  obtain⟨F,hF,hc⟩:=gQ T.chk ht
  exact⟨fa,fd,_,h1,h2.kp,h3 F hF,xV (λf x hf=>aBU T k f x hf) T.blt T.cns T.tab h2 hF hc⟩
theorem aGF(T:Top prog w K mg P Γ txs){f:Nat}{t:Tx}{F:Fn}{fa:Addr}{fd:FuncData}(ht:txs[f]? = some t)(hF:P.fns[f]? = some F)(h2:Fun K t.x t.qual t.st fa fd)(k:Nat):lX prog w K mg base CX0 (k+1) fa fd (t.N.take F.np) (spF K P (k+1) f):=by
 obtain⟨F',hF',hc⟩:=gQ T.chk ht
 rw[hF] at hF'
 cases hF'
 exact xV (aBU T k) T.blt T.cns T.tab h2 hF hc
theorem aGG{k f:Nat}{K:Fg}{H:Hp}{a:Addr}{ns:List Int}(hO:aDl H)(hS:SqL K H a (ns.map V.int))(h:∃fr pa,call P k f [.lst (ns.map D.int)]=.ok (.bl true,fr,pa)) :
 spF K P k f [.ref a] H (λv _=>v=.bl true) λ_ _ _=>False:=by
 obtain⟨fr,pa,e⟩:=h
 have ri:∀(ns:List Int),Reps K H (λ_=>False) (ns.map D.int) (ns.map V.int):=by
  intro ns
  induction ns with
  | nil=>exact .nil
  | cons i ns ih=>exact .cons rfl ih
 refine⟨[.lst (ns.map D.int)],λ_=>False,λ_ z=>z.elim,.cons ⟨a,_,rfl,hS,id,ri ns⟩ .nil,?_⟩
 rw[e]
 intro u H' _ _ rr
 unfold Rr at rr
 cases fr with
 | true=>
  rw[if_pos rfl] at rr
  obtain⟨_,_,_,_,e2,_⟩:=rr
  cases e2
 | false=>
  rw[if_neg bN] at rr
  exact rr
end
end Hp
end
noncomputable section
namespace Hh
open PySem PySem.W PySem.Calls PyProof.Rows
def go(st:SharedT->Thread->Option (SharedT×Thread))(ok:Thread->Bool)(n:Nat):SharedT->Thread->Option SharedT:=
 @Nat.rec (λ_=>SharedT->Thread->Option SharedT) (λ_ _=>none) (λ_ ih s t=>match through t with
  | true=>some s
  | false=>match ok t with
   | false=>none
   | true=>match st s t with
    | some (s',t')=>ih s' t'
    | none=>none) n
theorem mO{tb:String->Option Builtin}{p:Program}{w:World}{n₀:Nat}{ann:Option Value}:∀(n:Nat) (s s':SharedT) (t:Thread),go (stepT (denote tb) p w) (stepOk n₀ ann) n s t=some s'->topRun tb p w n₀ ann n s.abs t=some s'.abs
 | 0,_,_,_,h=>by cases h
 | n+1,s,s',t,h=>by
  have h:(match through t with
   | true=>some s
   | false=>match stepOk n₀ ann t with
    | false=>none
    | true=>match stepT (denote tb) p w s t with
     | some (s',t')=>go (stepT (denote tb) p w) (stepOk n₀ ann) n s' t'
     | none=>none)=some s':=h
  unfold topRun
  cases ht:through t with
  | true=>rw[ht] at h;cases h;rfl
  | false=>
   rw[ht] at h
   cases hk:stepOk n₀ ann t with
   | false=>rw[hk] at h;cases h
   | true=>
    rw[hk] at h
    cases hs:stepT (denote tb) p w s t with
    | none=>rw[hs] at h;cases h
    | some r=>obtain⟨s₂,t₂⟩:=r;rw[hs] at h;rw[stepT_spec hs];exact mO n _ _ _ h
def bt(l:List Obj)(n:Nat):Nat->Nat->BT:=
 @Nat.rec (λ_=>Nat->Nat->BT) (λ_ _=>.nil) (λ_ ih a b=>match l[b]? with
  | some o=>.node o (ih (2*a) (a+b)) (ih (2*a) (2*a+b))
  | none=>.nil) n
end Hh
namespace Hh
open PySem PySem.W PySem.Calls PyProof.Rows
def aBV{α:Type}(p q:Program)(loose:List Str)(Xt:Shared->Bool)(Yf:Shared->α)(h0:Heap)(s:Shared):=
 ((staticsOk (importedModules p.main.body) h0 s.heap&&namesBound p s.heap&&gensDone s&&laidKept h0 s.heap),openSeen q loose (importedModules p.main.body) Xt true s,Yf s)
theorem aDR{p q:Program}{loose:List Str}{Xt:Shared->Bool}{α:Type}{Yf:Shared->α}{Ya:World->α}{N m₀:Nat}{ann:Option Value}{T₀:Params->BT}{l₀:Life}(e:opening p=plainProg p.main.scope.names)(hN:Nat.ble 600 N=true)(f:∀s,fenceModules? p s=some s)
 (hb:∀P,absHeap (T₀ P) m₀ l₀=boot_heap P) (hz:∀P:Params,((boot_heap P).isNs mainGlobals,(boot_heap P).objs.size,(boot_heap P).nsMap mainGlobals "__annotations__")=(true,m₀,ann))
 (h:∀(w:World) (os:OsState),(go (stepT (denote treeTable) p w) (stepOk m₀ ann) N ⟨T₀ w.params,m₀,l₀,Array.mk [],boot_drawn,boot_toks,os⟩ (topStub p)).map (λs=>aBV p q loose Xt Yf (boot_heap w.params) s.abs)=some (true,openGood q loose,Ya w)):LeftO p q loose Xt Yf Ya N:=λw=>by
 obtain⟨⟨hh,gs,d,k,os⟩,e1,e2⟩:=Option.map_eq_some_iff.mp (boot_open e hN f w)
 simp only[Prod.mk.injEq] at e2
 obtain⟨rfl,rfl,rfl,rfl⟩:=e2
 obtain⟨s,g1,g2⟩:=Option.map_eq_some_iff.mp (h w os)
 have r:=mO N _ _ _ g1
 have r:topRun treeTable p w m₀ ann N ⟨boot_heap w.params,Array.mk [],boot_drawn,boot_toks,os⟩ (topStub p)=some s.abs:=by
  rw[<-hb];exact r
 have z:=hz w.params
 simp only[Prod.mk.injEq] at z
 obtain⟨z1,z2,z3⟩:=z
 unfold aBV at g2
 simp only[Prod.mk.injEq] at g2
 obtain⟨l1,l2,l3⟩:=g2
 have t:topFrom treeTable p w N ⟨boot_heap w.params,Array.mk [],boot_drawn,boot_toks,os⟩=some s.abs:=by
  unfold topFrom
  dsimp only
  rw[z1,z2,z3,r]
  show(match staticsOk (importedModules p.main.body) (boot_heap w.params) s.abs.heap&&namesBound p s.abs.heap&&gensDone s.abs&&laidKept (boot_heap w.params) s.abs.heap with|true=>_|false=>_)=_
  rw[l1]
 unfold openEnds
 rw[e1]
 show(topFrom treeTable p w N _).map _=_
 rw[t]
 exact congrArg some (Prod.ext l2 l3)
def T0(P:Params):BT:=bt (boot_heap P).objs.toList 5 1 0
theorem aGH:∀P,absHeap (T0 P) 11 {}=boot_heap P:=λP=>by kernel_rfl
theorem aDS:∀P:Params,((boot_heap P).isNs mainGlobals,(boot_heap P).objs.size,(boot_heap P).nsMap mainGlobals "__annotations__")=(true,11,some (.ref 6)):=λP=>by kernel_rfl
abbrev aIZ:=@PySem.W.Fast.tw10156331382660048174
abbrev qOk:=@PySem.W.Fast.tw6613529449190102663
abbrev aKP:=@PySem.W.Fast.tw11892475500146522536
abbrev aKQ:=@PySem.W.Fast.tw14364793385576792824
abbrev aJa:=@PySem.W.Fast.tw4187177175401517315
abbrev aJb:=@PySem.W.Fast.tw5923862056798008813
def aKR{α:Type}(p q:Program)(loose:List Str)(Yf:Shared->α)(N:Nat)(w:World)(os:OsState):=
 (go (aIZ (aKP aKQ) p w) (qOk 11 (some (.ref 6))) N ⟨T0 w.params,11,{},Array.mk [],boot_drawn,boot_toks,os⟩ (topStub p)).map λs=>
  ((staticsOk (aJb p.main.body) (boot_heap w.params) s.abs.heap&&namesBound p s.abs.heap&&gensDone s.abs&&laidKept (boot_heap w.params) s.abs.heap),aJa q loose (aJb p.main.body) (λ_=>true) true s.abs,Yf s.abs)
theorem aGI{p q:Program}{loose:List Str}{α:Type}{Yf:Shared->α}{Ya:World->α}{N:Nat}(e:opening p=plainProg p.main.scope.names)(hN:Nat.ble 600 N=true)(f:∀s,fenceModules? p s=some s)
 (h:∀w os,aKR p q loose Yf N w os=some (true,openGood q loose,Ya w)):LeftO p q loose (λ_=>true) Yf Ya N:=by
 refine aDR e hN f aGH aDS λw os=>?_
 unfold aBV
 rw[PySem.W.Fast.te10156331382660048174,PySem.W.Fast.te6613529449190102663,PySem.W.Fast.te11892475500146522536,PySem.W.Fast.te14364793385576792824,PySem.W.Fast.te4187177175401517315,PySem.W.Fast.te5923862056798008813]
 exact h w os
end Hh
end
noncomputable section
namespace Hh
open PySem PySem.W PySem.Calls PyProof.Rows L2 Hp
def nU(h:Heap):PySem.W.Frag:=(List.range h.objs.size).filterMap λa=>(h.get? a).map λo=>(a,o)
theorem nV{α:Type}(f:Nat->Option α)(a:Nat):∀n,((List.range n).filterMap λi=>(f i).map λo=>(i,o)).lookup a=if a<n then f a else none
 | 0=>rfl
 | n+1=>by
  rw[List.range_succ,List.filterMap_append,List.lookup_append,nV f a n]
  by_cases h:a<n
  . rw[if_pos h,if_pos (Nat.lt_succ_of_lt h)]
    cases q:f a with
    | some o=>rfl
    | none=>
     have hne:(a==n)=false:=beq_eq_false_iff_ne.mpr (Nat.ne_of_lt h)
     cases q2:f n with
     | none=>simp[q2]
     | some o=>simp[q2,List.lookup,hne]
  . rw[if_neg h]
    by_cases e:a=n
    . subst e
      rw[if_pos (Nat.lt_succ_self _)]
      cases q:f a with
      | none=>simp[q]
      | some o=>simp[q,List.lookup]
    . rw[if_neg (by omega)]
      have hne:(a==n)=false:=beq_eq_false_iff_ne.mpr e
      cases q2:f n with
      | none=>simp[q2]
      | some o=>simp[q2,List.lookup,hne]
theorem eY(h:Heap)(a:Addr):(nU h).lookup a=h.get? a:=by
 unfold nU
 rw[nV]
 by_cases q:a<h.objs.size
 . rw[if_pos q]
 . rw[if_neg q]
   cases e:h.get? a with
   | none=>rfl
   | some o=>exact absurd (Heap.lt_size e) q
theorem xW{h h':Heap}(k:∀b o,h.get? b=some o->h'.get? b=some o):(nU h).In h':=λa o e=>k a o (by rw[<-eY];exact e)
def nW(h:Heap)(x:Str):Option (Option Value):=match h.get? mainGlobals with
 | some ⟨_,_,.dict es _,_⟩=>(match es.toList.find? (λe=>match e.key with|.str y _=>Fast.sEq y x|_=>false) with
  | some e=>some (some e.val)
  | none=>if es.toList.any (·.refKey) then none else some none)
 | _=>none
theorem aBW(v:Value)(x:Str):v.isStr x=(match v with|.str y _=>Fast.sEq y x|_=>false):=by
 cases v with
 | str y t=>
  show(y==x)=Fast.sEq y x
  rw[Bool.eq_iff_iff,beq_iff_eq,Fast.sEq_iff]
 | _=>rfl
theorem iS(h:Heap)(x:Str):nsIn (nU h) mainGlobals x=nW h x:=by
 unfold nsIn nW
 rw[eY]
 simp only[aBW]
 rfl
def nX(h:Heap)(cd:Value):Option Str:=match cd with
 | .ref c=>(match h.get? c with
  | some ⟨_,_,.fields vs,_⟩=>(match vs.toList with|_::.str n _::_=>some n|_=>none)
  | _=>none)
 | _=>none
theorem aAf{h:Heap}{cd:Value}{q:Str}(e:nX h cd=some q):codeIn (nU h) cd q=true:=by
 unfold nX at e
 unfold codeIn
 split at e
 . rename_i c
   simp only[eY]
   split at e
   . rename_i vs _ ho
     rw[ho]
     split at e
     . rename_i a n t r hv
       cases e
       simp only[hv,beq_self_eq_true]
     . cases e
   . cases e
 . cases e
abbrev Pin:=Str×Str×Arguments×FuncBody×Scope×Addr×List (Str×Addr)×Value×Addr×Option Str
def wH(h:Heap)(x:Str):Option Pin:=match nW h x with
 | some (some (.ref a))=>(match h.get? a with
  | some ⟨_,_,.func fd,_⟩=>some (fd.name,fd.qualname,fd.params,fd.body,fd.scope,fd.globals,fd.closure,fd.defaults,fd.builtins,nX h fd.code)
  | _=>none)
 | _=>none
def dP(s:Stmt):Str:=match s with
 | .FunctionDef x _ _ _ _ _ _ _ _ _=>x
 | _=>⟨#[]⟩
def aBX(st:Stmt):Pin:=(dP st,dP st,iL st,.stmts (iM st),cJ st,mainGlobals,[],.none,builtinsNs,some (dP st))
theorem aDT{h:Heap}{st:Stmt}(e:wH h (dP st)=some (aBX st)):∃fa fd,nsIn (nU h) mainGlobals (dP st)=some (some (.ref fa))/\Fun (nU h) (dP st) (dP st) st fa fd:=by
 unfold wH at e
 split at e
 . rename_i a hn
   split at e
   . rename_i c d fd sl ho
     obtain⟨n,qn,ps,b,sc,g,cl,df,kd,doc,pm,an,cd,ct,bn⟩:=fd
     unfold aBX at e
     simp only[Option.some.injEq,Prod.mk.injEq] at e
     obtain⟨rfl,rfl,rfl,rfl,rfl,rfl,rfl,rfl,rfl,hc⟩:=e
     refine⟨a,_,by rw[iS];exact hn,⟨⟨c,d,kd,doc,pm,an,cd,ct,sl,rfl,by rw[eY];exact ho,aAf hc⟩,?_⟩⟩
     unfold keepIn
     simp only[eY,ho]
   . cases e
 . cases e
theorem tX{α:Type}{x:Str}{u:α}:∀{ps:List Str} {us:List α},ps.Nodup->ps.length=us.length->(x,u)∈ps.zip us->(ps.zip us).lookup x=some u
 | [],_,_,_,h=>by simp at h
 | p::ps,[],_,h,_=>by simp at h
 | p::ps,v::us,hn,hl,h=>by
  rw[List.zip_cons_cons] at h ⊢
  obtain⟨h1,h2⟩:=List.nodup_cons.mp hn
  rcases List.mem_cons.mp h with h|h
  . cases h;simp[List.lookup]
  . have hx:x∈ps:=(List.of_mem_zip h).1
    have:(x==p)=false:=beq_eq_false_iff_ne.mpr λz=>h1 (z▸hx)
    simp only[List.lookup,this]
    exact tX h2 (by simpa using hl) h
theorem aBY{α:Type}(L:List (Str×α)):∀{ps:List Str} {us:List α},ps.length=us.length->(∀p∈ps.zip us,L.lookup p.1=some p.2)->(ps.filterMap λn=>(L.lookup n).map (n,·))=ps.zip us
 | [],_,_,_=>by simp
 | p::ps,[],h,_=>by simp at h
 | p::ps,v::us,hl,h=>by
  rw[List.zip_cons_cons,List.filterMap_cons,h (p,v) (by simp),aBY L (ps:=ps) (us:=us) (by simpa using hl) λq hq=>h q (by rw[List.zip_cons_cons];exact List.mem_cons_of_mem _ hq)]
  rfl
theorem aBZ{α:Type}(L:List (Str×α)):∀{ps:List Str} {us:List α},ps.length=us.length->(∀p∈ps.zip us,L.lookup p.1=some p.2)->(ps.filter λn=>(L.lookup n).isNone)=[]
 | [],_,_,_=>by simp
 | p::ps,[],h,_=>by simp at h
 | p::ps,v::us,hl,h=>by
  rw[List.filter_cons,h (p,v) (by simp),aBZ L (ps:=ps) (us:=us) (by simpa using hl) λq hq=>h q (by rw[List.zip_cons_cons];exact List.mem_cons_of_mem _ hq)]
  rfl
def iT(a:Arguments)(ps:List Str):Bool:=match a with
 | ⟨[],as,none,[],[],none,[]⟩=>decide (as.map (·.arg)=ps)&&decide ps.Nodup
 | _=>false
theorem nY{x q:Str}{a:Arguments}{b:List Stmt}{sc:Scope}{kV doc pm:Value}{an:Option Addr}{cdv ct:Value}{ps:List Str}{us:List Value}(h:iT a ps=true)(hl:us.length=ps.length) :
 bindArgs (fnOf x q a b sc .none kV doc pm an cdv ct) ⟨us,[]⟩=pure (ps.zip us):=by
 unfold iT at h
 split at h
 . rename_i as
   obtain⟨h1,h2⟩:=Bool.and_eq_true_iff.mp h
   have h1:=of_decide_eq_true h1
   have h2:=of_decide_eq_true h2
   have z:∀p∈ps.zip us,(ps.zip us).lookup p.1=some p.2:=λp hp=>tX h2 hl.symm hp
   have e1:=aBZ (ps.zip us) hl.symm z
   have e2:=aBY (ps.zip us) hl.symm z
   unfold bindArgs
   have e3:∀s:Value,s=.none->(seqItems? s)=pure none:=λs e=>by subst e;rfl
   simp only[mN,List.nil_append,h1,e3,List.forIn_nil,pure_bind,hl,gt_iff_lt,Nat.lt_irrefl,decide_false,Bool.false_and,Option.getD_none,lN,Nat.zero_sub,List.drop_nil,Nat.sub_zero,List.take_length,e1,List.isEmpty_nil,Bool.not_true,List.drop_length,List.zip_nil_right,List.append_nil,e2,if_false,bF]
 . cases h
def tY(s:Stmt):Bool:=match s with
 | .FunctionDef _ _ _ _ _ _ _ _ _ _=>true
 | _=>false
def aCa:D->Value->Bool
 | .int i,.int j _=>decide (i=j)
 | .str a,.str b _=>Fast.sEq a b
 | .non,.none=>true
 | .bl a,.bool b=>a==b
 | _,_=>false
def wJ(h:Heap)(c:Str×D):Bool:=match nW h c.1 with
 | some (some u)=>aCa c.2 u
 | _=>false
def kE(p:Program)(cns:List (Str×D))(h:Heap):List (Option Pin)×List (Option (Option Value))×Bool:=
 ((p.main.body.filter tY).map (λst=>wH h (dP st)),bltNames.map (nW h),cns.all (wJ h))
def nZ(p:Program):List (Option Pin)×List (Option (Option Value))×Bool:=
 ((p.main.body.filter tY).map (λst=>some (aBX st)),bltNames.map (λ_=>some none),true)
def tZ(p:Program)(i:Nat):Stmt:=p.main.body.getD i (.Pass ⟨0,0,0,0⟩)
def mE(p:Program)(c:Nat×List Str):Tx:=⟨dP (tZ p c.1),dP (tZ p c.1),tZ p c.1,c.2⟩
theorem aGJ{p:Program}{i:Nat}(h:tY (tZ p i)=true):tZ p i∈p.main.body:=by
 unfold tZ at h ⊢
 rw[List.getD_eq_getElem?_getD] at h ⊢
 cases e:p.main.body[i]? with
 | none=>rw[e] at h;cases h
 | some s=>exact mG e
theorem aDU{h:Heap}{c:Str×D}(e:wJ h c=true):∃u v,nsIn (nU h) mainGlobals c.1=some (some u)/\cI v u/\∀H ex,Rep (nU h) H ex c.2 v:=by
 unfold wJ at e
 split at e
 . rename_i u hn
   obtain⟨x,d⟩:=c
   have e:aCa d u=true:=e
   unfold aCa at e
   split at e
   . cases of_decide_eq_true e;exact⟨_,.int _,(iS _ _).trans hn,⟨_,rfl⟩,λ_ _=>rfl⟩
   . cases Fast.sEq_iff.mp e;exact⟨_,.str _,(iS _ _).trans hn,⟨_,rfl⟩,λ_ _=>rfl⟩
   . exact⟨_,.non,(iS _ _).trans hn,rfl,λ_ _=>rfl⟩
   . cases eq_of_beq e;exact⟨_,.bl _,(iS _ _).trans hn,rfl,λ_ _=>rfl⟩
   . cases e
 . cases e
theorem aGK{prog p:Program}{w:World}{h0 h:Heap}{mg:Str->Option Value}{P:Pg}{Γ:Ct}{ix:List (Nat×List Str)}{cns:List (Str×D)}(S:kE p cns h0=nZ p)(k:∀b o,h0.get? b=some o->h.get? b=some o)(G:h.Ns mainGlobals mg)
 (hi:(ix.all λc=>tY (tZ p c.1))=true) (h1:Γ.fns=(ix.map (mE p)).map (·.x)) (h2:Γ.cns=cns) (h3:Γ.tbs=[]) (hb:((P.fns.zip (ix.map (mE p))).all λq=>iT (iL q.2.st) (q.2.N.take q.1.np))=true) (chk:iE Γ P.fns (ix.map (mE p))=true) :
 Top prog w (nU h0) mg P Γ (ix.map (mE p)):=by
 unfold kE nZ at S
 simp only[Prod.mk.injEq] at S
 obtain⟨s1,s2,s3⟩:=S
 have X:=xW k
 exact {
  fn:=λf t ht=>by
   rw[List.getElem?_map] at ht
   obtain⟨c,hc,rfl⟩:=Option.map_eq_some_iff.mp ht
   have hd:=List.all_eq_true.mp hi c (mG hc)
   obtain⟨fa,fd,g1,g2⟩:=aDT (List.map_inj_left.mp s1 _ (List.mem_filter.mpr ⟨aGJ hd,hd⟩))
   refine⟨fa,fd,mg_of X G g1,g2,λF hF=>g2.binds λkV doc pm an cdv ct us hl=>nY (List.all_eq_true.mp hb (F,mE p c) (mG (i:=f) ?_)) hl⟩
   rw[List.getElem?_zip_eq_some]
   exact⟨hF,by rw[List.getElem?_map,hc];rfl⟩
  fns:=λf x hx=>by
   rw[h1,List.getElem?_map] at hx
   obtain⟨t,ht,rfl⟩:=Option.map_eq_some_iff.mp hx
   exact⟨t,ht,rfl⟩
  blt:=λx hx=>mg_none_of X G ((iS h0 x).trans (List.map_inj_left.mp s2 x hx))
  cns:=λx d hx=>by
   rw[h2] at hx
   obtain⟨u,v,g1,g2⟩:=aDU (List.all_eq_true.mp s3 _ (PySem.mem_of_lookup hx))
   exact⟨u,v,mg_of X G g1,g2⟩
  tab:=λi x hx=>by rw[h3] at hx;simp at hx
  chk:=chk }
theorem aCb{l:PySem.W.OpenLaw}{n k:Nat}{q:Program}{loose:List Str}{XP:(Str->Option Value)->Heap->Prop}{YP:World->Heap->Prop}{d:DefRec}{sp:PySem.W.Frag->Sp}{x:Str}(hn:l.most=some n)(hn2:n<=sizeLine)(hdf:d.params.defaults=[])(hr:jH k callerA)
 (F:∀(w:World) (mg:Str->Option Value) (fa:Addr) (h:Heap),YP w h->h.Ns mainGlobals mg->mg d.name=some (.ref fa)->∃K:PySem.W.Frag,K.In h/\∃fd:FuncData,(∀(s:Shared) (u:Value),BindsTo s fd ⟨[u],[]⟩ [(x,u)])/\∀base:Heap,K.In base->base.Ns mainGlobals mg->lX l.prog w K mg base CX0 k fa fd [x] (sp K))
 (hsp:∀(K:PySem.W.Frag) (H:Hp) (a:Addr) (ns:List Int),ns.length<=n->aDl H->SqL K H a (ns.map V.int)->sp K [.ref a] H (λv _=>v=.bl true) λ_ _ _=>False):PySem.W.WalkO q loose XP YP l.row.toRowW d [] (λf vs=>PySem.call f vs):=by
 refine Att.attach_call hn hdf λw s₀ s₁ mg mb fa o pm cd doc a vs ns G Y ho hd hcd hmg hobj hints hlen hg=>?_
 obtain⟨K,KX,fd,hb,hF⟩:=F w mg fa _ Y G.T.g hmg
 exact aAV KX G.T.g G.T.b G.T.builtins G.T.nolimit hg hobj hints (Nat.le_trans hlen hn2) hr hF hb (λH hO hS=>hsp K H a ns hlen hO hS) λ_ _ _ z=>z
def lst(p:Program):Stmt:=p.main.body.getLastD (.Pass ⟨0,0,0,0⟩)
def xX(p:Program):Program:={ p with main:={ p.main with body:=[lst p] } }
def aCc(p:Program):List Str:=(p.main.scope.names.map (·.1)).filter λx=>!(Fast.sEq x (dP (lst p)))
def aGL(s:Stmt):Pos:=match s with
 | .FunctionDef _ _ _ _ _ _ _ _ _ p=>p
 | _=>⟨0,0,0,0⟩
def jP(p:Program):DefRec:=⟨dP (lst p),iL (lst p),iM (lst p),cJ (lst p),aGL (lst p)⟩
theorem aGM{l:PySem.W.OpenLaw}{P:Pg}{cns:List (Str×D)}{ix:List (Nat×List Str)}{k f N:Nat}{x:Str}{sl:List Str}(said:l.row.wellSaid=true)(left:LeftO l.prog (xX l.prog) (aCc l.prog) (λ_=>true) (λs=>kE l.prog cns s.heap) (λ_=>nZ l.prog) N)
 (hdef:defOf (xX l.prog) l.name=some (jP l.prog,[])) (hp:l.prog.theDef l.name=some ((jP l.prog).params,(jP l.prog).body,(jP l.prog).scope)) (hk:kwWritten? (jP l.prog).params.kwonlyargs (jP l.prog).params.kw_defaults=some []) (hwr:(!l.writes||([]:WRecords).isEmpty)=true)
 (ok:(chainsOk (xX l.prog)&&opensWell l.prog&&(frees l.row.toRowW&&l.row.within.isEmpty))=true) (hb:l.prog.bare) (hw:l.row.toRowW.promised) (hn:l.most=some 63) (hdf:(jP l.prog).params.defaults=[])
 (hi:(ix.all λc=>tY (tZ l.prog c.1))=true) (hbd:((P.fns.zip (ix.map (mE l.prog))).all λq=>iT (iL q.2.st) (q.2.N.take q.1.np))=true) (chk:iE ⟨[],[],(ix.map (mE l.prog)).map (·.x),cns,[],true,[]⟩ P.fns (ix.map (mE l.prog))=true)
 (hr:jH (k+1) callerA) (hx:(ix.map (mE l.prog))[f]? = some ⟨dP (lst l.prog),dP (lst l.prog),lst l.prog,x::sl⟩) (hnp:(P.fns[f]?).map (·.np)=some 1)
 (pure:∀ns:List Int,ns.length<=63->∃fr pa,Hp.call P (k+1) f [.lst (ns.map D.int)]=.ok (.bl true,fr,pa)):l.row.Holds:=by
 refine holds_open (XP:=λ_ _=>True) (YP:=λ_ h=>∃h0,kE l.prog cns h0=nZ l.prog/\∀b o,h0.get? b=some o->h.get? b=some o) left (λw s e=>⟨s.heap,e,λ_ _ z=>z⟩) (λw h h' ⟨h0,e,k⟩ k'=>⟨h0,e,λb o z=>k' b o (k b o z)⟩) (λ_ _=>trivial) (λ_ _ _ _ _=>trivial) hdef hp hk (λ_ _=>recFacts_nil rfl) hwr said ok hb hw ?_
 obtain⟨F,hF,hFn⟩:=Option.map_eq_some_iff.mp hnp
 refine aCb (sp:=λK=>spF K P (k+1) f) (x:=x) hn (by decide) hdf hr (λw mg fa h ⟨h0,e,kk⟩ G hmg=>?_) λK H a ns hl hO hS=>aGG hO hS (pure ns hl)
 have T:=aGK (prog:=l.prog) (w:=w) (P:=P) (Γ:=⟨[],[],(ix.map (mE l.prog)).map (·.x),cns,[],true,[]⟩) e kk G hi rfl rfl rfl hbd chk
 obtain⟨fa',fd,g1,g2,g3⟩:=T.fn f _ hx
 have e:=hmg.symm.trans g1
 cases e
 have b:=g3 F hF
 refine⟨nU h0,xW kk,fd,λs u=>?_,λbase _ _=>?_⟩
 . obtain⟨oc,od,kV,doc,pm,an,cdv,ct,osl,rfl,lk,hcd⟩:=g2.ex
   refine .of_eq ((nY (ps:=[x]) ?_ rfl).trans rfl)
   have:=List.all_eq_true.mp hbd (F,_) (mG (i:=f) (List.getElem?_zip_eq_some.mpr ⟨hF,hx⟩))
   rw[hFn] at this
   exact this
 . have:=aGF (base:=base) T hx hF g2 k
   rw[hFn] at this
   exact this
end Hh
end
noncomputable section
namespace Hp
open PySem (Str Operator CmpOp)
section
variable {P:Pg} {cl:Caller} {σ:Sg}
@[simp] theorem aA {α β:Type} (a:α) (f:α->R β):((R.ok a:R α) >>= f)=f a:=id rfl
@[simp] theorem gH {α:Type} (x:R α):R.iff true x=x:=id rfl
@[simp] theorem aLt {α:Type} (x:α):R.of (some x)=.ok x:=id rfl
@[simp] theorem aH {α:Type} (a:α) (f:α->O):O.from σ (.ok a) f=f a:=id rfl
@[simp] theorem fN (f:Sg->O):(O.next σ).on f=f σ:=id rfl
@[simp] theorem eD (v:Vl) (f:Sg->O):(O.ret v).on f=.ret v:=id rfl
@[simp] theorem bE (d:D):ev P cl σ (.c d)=.ok (.cl d):=id rfl
@[simp] theorem aO (i:Nat):ev P cl σ (.v i)=aL σ i:=id rfl
@[simp] theorem cD (o:Operator) (a b:E):ev P cl σ (.op o a b)=(ev P cl σ a >>= λx=>ev P cl σ b >>= λy=>opD o x y):=id rfl
@[simp] theorem aKS (a:E):ev P cl σ (.neg a)=(ev P cl σ a >>= λx=>match x.d with|.int i=>.ok (.cl (.int (-i)))|_=>.bad):=id rfl
@[simp] theorem aEH (a:E):ev P cl σ (.nt a)=(ev P cl σ a >>= λx=>eV x >>= λk=>.ok (.cl (.bl (!k)))):=id rfl
@[simp] theorem aEI (a b:E):ev P cl σ (.an a b)=(ev P cl σ a >>= λx=>match x.d with|.bl true=>ev P cl σ b|.bl false=>.ok (.cl (.bl false))|_=>.bad):=id rfl
@[simp] theorem aGN (a b:E):ev P cl σ (.orr a b)=(ev P cl σ a >>= λx=>match x.d with|.bl true=>.ok (.cl (.bl true))|.bl false=>ev P cl σ b|_=>.bad):=id rfl
@[simp] theorem wK (t a b:E):ev P cl σ (.ife t a b)=(tst P cl σ t >>= λx=>if x then ev P cl σ a else ev P cl σ b):=id rfl
@[simp] theorem jQ (o:CmpOp) (a b:E):ev P cl σ (.cmp o a b)=(ev P cl σ a >>= λx=>ev P cl σ b >>= λy=>match dM o x.d y.d with|some k=>.ok (.cl (.bl k))|none=>.bad):=id rfl
@[simp] theorem aJK (o o':CmpOp) (a b c:E):ev P cl σ (.cmp2 o o' a b c)=(ev P cl σ a >>= λx=>ev P cl σ b >>= λy=>match dM o x.d y.d with
 | some true=>ev P cl σ c >>= λz=>(match dM o' y.d z.d with|some k=>.ok (.cl (.bl k))|none=>.bad)
 | some false=>.ok (.cl (.bl false))
 | none=>.bad):=id rfl
@[simp] theorem bB (a b:E):ev P cl σ (.idx a b)=(ev P cl σ a >>= λx=>ev P cl σ b >>= λy=>bV x y):=id rfl
@[simp] theorem dD (es:Es):ev P cl σ (.tup es)=(evs P cl σ es >>= λvs=>.ok (jD vs)):=id rfl
@[simp] theorem gR (es:Es):ev P cl σ (.lst es)=(evs P cl σ es >>= λvs=>.ok (jV vs)):=id rfl
@[simp] theorem aM (f:Nat) (es:Es):ev P cl σ (.call f es)=(evs P cl σ es >>= λvs=>cl f (vs.map (·.d)) >>= λr=>.ok (hG vs r)):=id rfl
@[simp] theorem cO (b:Bi) (es:Es):ev P cl σ (.bi b es)=(evs P cl σ es >>= λvs=>biD b vs):=id rfl
@[simp] theorem aGO (m:Mt) (o:E) (es:Es):ev P cl σ (.mth m o es)=(ev P cl σ o >>= λx=>evs P cl σ es >>= λys=>mtD m x ys):=id rfl
@[simp] theorem aKT (a:E) (cs:List Cl):ev P cl σ (.isi a cs)=(ev P cl σ a >>= λx=>match isI cs P x.d with|some k=>.ok (.cl (.bl k))|none=>.bad):=id rfl
@[simp] theorem rK (a:E) (h:E):ev P cl σ (.sli a .nil (.cons h .nil))=(ev P cl σ a >>= λx=>ev P cl σ h >>= λh=>match h.d with|.int h=>.iff (aY h) (eW x none (some h))|_=>.bad):=by
 show(ev P cl σ a >>= λx=>evs P cl σ .nil >>= λl=>evs P cl σ (.cons h .nil) >>= λh=>_)=_
 cases ev P cl σ a with
 | ok x=>
  show(evs P cl σ (.cons h .nil) >>= λh=>_)=(ev P cl σ h >>= λh=>_)
  show((ev P cl σ h >>= λx=>evs P cl σ .nil >>= λxs=>R.ok (x::xs)) >>= λh=>_)=_
  cases ev P cl σ h <;> rfl
 | exc e=>rfl
 | bad=>rfl
theorem rL(k:Nat)(caps:List Nat)(t:T)(it:It)(cond:Es)(elt:E):ev P cl σ (.comp k caps t it cond elt)=(walk P cl σ it >>= λxs=>
 eG (λx=>cF (List.replicate k .dead++caps.map λi=>((freeze σ xs.2)[i]?).getD .dead) x t >>= λσ1=>tsts P cl σ1 cond >>= λk=>if k then (ev P cl σ1 elt >>= λy=>.ok (some y)) else .ok none) xs.1 >>= λvs=>
 .iff (decide (vs.length<=lim)) (.ok (jW k caps xs.2 vs))):=rfl
@[simp] theorem aHf (a:E):ev P cl σ (.numset a)=(ev P cl σ a >>= λx=>match x.d with
 | .lst ds=>(match qW ds with|some ks=>.iff (decide (ds.length<=1000)) (.ok (.cl (.int (aBc ks).length)))|none=>.bad)
 | _=>.bad):=id rfl
@[simp] theorem aC:evs P cl σ .nil=.ok []:=id rfl
@[simp] theorem aB (e:E) (es:Es):evs P cl σ (.cons e es)=(ev P cl σ e >>= λx=>evs P cl σ es >>= λxs=>.ok (x::xs)):=id rfl
@[simp] theorem dE (a:E):tst P cl σ (.nt a)=(tst P cl σ a >>= λx=>.ok (!x)):=id rfl
@[simp] theorem oA (a b:E):tst P cl σ (.an a b)=(tst P cl σ a >>= λx=>if x then tst P cl σ b else .ok false):=id rfl
@[simp] theorem rM (a b:E):tst P cl σ (.orr a b)=(tst P cl σ a >>= λx=>if x then .ok true else tst P cl σ b):=id rfl
@[simp] theorem aLp (d:D):tst P cl σ (.c d)=eV (.cl d):=id rfl
@[simp] theorem aLq (i:Nat):tst P cl σ (.v i)=(aL σ i >>= λx=>eV x):=id rfl
@[simp] theorem cA (o:CmpOp) (a b:E):tst P cl σ (.cmp o a b)=(ev P cl σ a >>= λx=>ev P cl σ b >>= λy=>match dM o x.d y.d with|some k=>.ok k|none=>.bad):=id rfl
@[simp] theorem uA (o o':CmpOp) (a b c:E):tst P cl σ (.cmp2 o o' a b c)=(ev P cl σ a >>= λx=>ev P cl σ b >>= λy=>match dM o x.d y.d with
 | some true=>ev P cl σ c >>= λz=>(match dM o' y.d z.d with|some k=>.ok k|none=>.bad)
 | some false=>.ok false
 | none=>.bad):=id rfl
@[simp] theorem fO (f:Nat) (es:Es):tst P cl σ (.call f es)=(evs P cl σ es >>= λvs=>cl f (vs.map (·.d)) >>= λr=>eV (hG vs r)):=id rfl
@[simp] theorem aJL (a:E) (cs:List Cl):tst P cl σ (.isi a cs)=(ev P cl σ a >>= λx=>match isI cs P x.d with|some k=>.ok k|none=>.bad):=id rfl
@[simp] theorem aJM (a b:E):tst P cl σ (.idx a b)=(ev P cl σ a >>= λx=>ev P cl σ b >>= λy=>bV x y >>= λz=>eV z):=id rfl
@[simp] theorem aCd:tsts P cl σ .nil=.ok true:=id rfl
@[simp] theorem aAg (e:E) (es:Es):tsts P cl σ (.cons e es)=(tst P cl σ e >>= λx=>if x then tsts P cl σ es else .ok false):=id rfl
@[simp] theorem uB (a b:E):walk P cl σ (.rng a b)=(ev P cl σ a >>= λx=>ev P cl σ b >>= λy=>match x.d,y.d with|.int i,.int j=>.iff (aY i&&aY j) (.ok ((fI i j).map .cl,[]))|_,_=>.bad):=id rfl
@[simp] theorem eZ (e:E):walk P cl σ (.seq e)=(ev P cl σ e >>= λx=>match x.d with
 | .lst ds=>.ok (items x ds,x.al)
 | .tup ds=>.ok (items x ds,x.al)
 | .str a=>.iff (decide (a.length<=lim)) (.ok (a.cps.toList.map λn=>.cl (.str ⟨#[n]⟩),[]))
 | _=>.bad):=id rfl
@[simp] theorem aCe (a b:E):walk P cl σ (.zip a b)=(ev P cl σ a >>= λx=>ev P cl σ b >>= λy=>match fS x.d,fS y.d with
 | some as,some bs=>.ok (items ⟨.non,false,x.pa||y.pa,x.al++y.al⟩ (hX as bs),x.al++y.al)
 | _,_=>.bad):=id rfl
@[simp] theorem bM (t:T) (e:E):ex P cl σ (.set t e)=O.from σ (ev P cl σ e) λv=>O.from σ (cF (freeze σ v.al) v t) .next:=id rfl
@[simp] theorem fC (i:Nat) (e:E):ex P cl σ (.app i e)=O.from σ (ev P cl σ e) λv=>put σ i v λds=>some (ds++[v.d]):=id rfl
@[simp] theorem aGP (i:Nat) (e:E):ex P cl σ (.ext i e)=O.from σ (ev P cl σ e) λv=>match pN v with|some (v',ds')=>put σ i v' λds=>some (ds++ds')|none=>.bad:=id rfl
@[simp] theorem aKU (i:Nat):ex P cl σ (.clr i)=put σ i (.cl .non) λ_=>some []:=id rfl
@[simp] theorem uC (i:Nat) (k e:E):ex P cl σ (.setIx i k e)=O.from σ (ev P cl σ e) λv=>O.from σ (ev P cl σ k) λkv=>match kv.d with
 | .int k=>put σ i v λds=>(match ixN ds.length k with|some j=>some (ds.set j v.d)|none=>none)
 | _=>.bad:=id rfl
@[simp] theorem cC (e:E):ex P cl σ (.ret e)=O.from σ (ev P cl σ e) .ret:=id rfl
@[simp] theorem bK (c:E) (a b:Ss):ex P cl σ (.iff c a b)=O.from σ (tst P cl σ c) λk=>if k then exs P cl σ a else exs P cl σ b:=id rfl
theorem rN(t:T)(it:It)(b:Ss):ex P cl σ (.for t it b)=O.from σ (walk P cl σ it) λxs=>dJ (λσ x=>O.from σ (cF σ x t) λσ'=>exs P cl σ' b) xs.1 (freeze σ xs.2):=rfl
@[simp] theorem aKV (i j:Nat):ex P cl σ (.mov i j)=(match σ[j]? with
 | some (.own pa ds)=>if i=j then .bad else .next ((σ.set j .dead).set i (.own pa ds))
 | some (.sh pa d)=>.next (σ.set i (.sh (pa&&!noL d) d))
 | _=>.bad):=id rfl
@[simp] theorem aJN (i:Nat):ex P cl σ (.retv i)=(match σ[i]? with|some (.own pa ds)=>.ret ⟨.lst ds,true,pa,[]⟩|_=>O.from σ (aL σ i) .ret):=id rfl
@[simp] theorem aJc (i:Nat) (k:E):ex P cl σ (.pop none i (some k))=O.from σ (ev P cl σ k >>= λv=>match v.d with|.int k=>.iff (aY k) (.ok (some k))|_=>.bad) λk=>O.from σ (aBe σ i k) λr=>.next r.2:=id rfl
@[simp] theorem bT:exs P cl σ .nil=.next σ:=id rfl
@[simp] theorem aI (s:S) (ss:Ss):exs P cl σ (.cons s ss)=(ex P cl σ s).on λσ'=>exs P cl σ' ss:=id rfl
end
theorem aU{P:Pg}{cl:Caller}{f:Nat}{F:Fn}{ds:List D}(hF:P.fns[f]? = some F)(hl:ds.length=F.np){v:Vl}
 (h:exs P cl ((ds.map λd=>Sl.sh true d)++List.replicate (F.ns-F.np) Sl.dead) F.body=.ret v):vO P cl f ds=.ok (v.d,v.fr,v.pa):=by
 unfold vO
 rw[hF]
 simp only[hl,if_true,h]
theorem uD{f:Sg->Vl->O}:∀(xs:List Vl) (I:Nat->Sg->Prop) (σ:Sg),I 0 σ->(∀(i:Nat) (h:i<xs.length) (σ:Sg),I i σ->∃σ',f σ xs[i]=.next σ'/\I (i+1) σ')->∃σ',dJ f xs σ=.next σ'/\I xs.length σ'
 | [],I,σ,h0,_=>⟨σ,rfl,h0⟩
 | x::xs,I,σ,h0,hs=>by
  obtain⟨σ1,e1,h1⟩:=hs 0 (by simp) σ h0
  obtain⟨σ2,e2,h2⟩:=uD xs (λi=>I (i+1)) σ1 h1 λi h σ hI=>by
   have:=hs (i+1) (by simpa using h) σ hI
   simpa using this
  refine⟨σ2,?_,by simpa using h2⟩
  have e1:f σ x=.next σ1:=by simpa using e1
  unfold dJ
  rw[e1]
  exact e2
theorem oC{f:Vl->R (Option Vl)}{g:Vl->Vl}:∀{xs:List Vl},(∀x∈xs,f x=.ok (some (g x)))->eG f xs=.ok (xs.map g)
 | [],_=>rfl
 | x::xs,h=>by
  have h1:=h x List.mem_cons_self
  have h2:=oC (f:=f) (g:=g) (xs:=xs) λy hy=>h y (List.mem_cons_of_mem _ hy)
  show(f x >>= λy=>eG f xs >>= λys=>(match y with|some y=>R.ok (y::ys)|none=>R.ok ys))=_
  rw[h1,h2]
  rfl
theorem aGQ(n:Nat):(fI 0 (n:Int)).map Vl.cl=(List.range n).map λ(k:Nat)=>Vl.cl (.int (k:Int)):=by
 unfold fI
 rw[List.map_map]
 simp
theorem aDV{P:Pg}{cl:Caller}{σ:Sg}{k:Nat}{caps:List Nat}{t:T}{it:It}{elt:E}{xs:List Vl}{al:List Nat}(g:Vl->Vl)(hw:walk P cl σ it=.ok (xs,al))(hl:xs.length<=lim)
 (hb:∀x∈xs,∃σ1,cF (List.replicate k .dead++caps.map λi=>((freeze σ al)[i]?).getD .dead) x t=.ok σ1/\ev P cl σ1 elt=.ok (g x)):ev P cl σ (.comp k caps t it .nil elt)=.ok (jW k caps al (xs.map g)):=by
 rw[rL,hw,aA,oC (g:=g) λx hx=>by
  obtain⟨σ1,e1,e2⟩:=hb x hx
  show(cF _ x t >>= λσ1=>_)=_
  rw[e1]
  show(ev P cl σ1 elt >>= λy=>R.ok (some y))=_
  rw[e2]
  rfl]
 have hl2:decide ((xs.map g).length<=lim)=true:=decide_eq_true (by rw[lM];exact hl)
 rw[aA,hl2,gH]
theorem fD{P:Pg}{cl:Caller}{σ:Sg}{t:T}{it:It}{b:Ss}{xs:List Vl}{al:List Nat}(I:Nat->Sg->Prop)(hw:walk P cl σ it=.ok (xs,al))(h0:I 0 (freeze σ al))
 (hs:∀(i:Nat) (h:i<xs.length) (σ:Sg),I i σ->∃σ1 σ',cF σ xs[i] t=.ok σ1/\exs P cl σ1 b=.next σ'/\I (i+1) σ'):∃σ',ex P cl σ (.for t it b)=.next σ'/\I xs.length σ':=by
 rw[rN,hw]
 refine uD xs I _ h0 λi h σ hI=>?_
 obtain⟨σ1,σ',e1,e2,h'⟩:=hs i h σ hI
 refine⟨σ',?_,h'⟩
 show O.from σ (cF σ xs[i] t) _=_
 rw[e1]
 exact e2
theorem aDW:aY 0=true:=by decide
theorem kF{n:Nat}(hn:n<=1000000):aY (n:Int)=true:=by
 unfold aY
 rw[bA,decide_eq_true_eq,decide_eq_true_eq]
 exact⟨Int.le_trans (b:=0) (by decide) (Int.natCast_nonneg n),Int.lt_of_le_of_lt (b:=1000000) (by omega) (by decide)⟩
theorem xY{n:Int}(h0:0<=n)(hn:n<=1000000):aY n=true:=by
 have:=kF (n:=n.toNat) (by omega)
 rwa [Int.toNat_of_nonneg h0] at this
theorem dF{P:Pg}{cl:Caller}{σ:Sg}{a:E}{v:Vl}{n:Nat}(h:ev P cl σ a=.ok v)(hd:v.d=.int n)(hn:n<=1000000):walk P cl σ (.rng (.c (.int 0)) a)=.ok ((List.range n).map λ(k:Nat)=>Vl.cl (.int (k:Int)),[]):=by
 rw[uB,h,bE,aA,aA,hd,<-aGQ]
 show R.iff (aY 0&&aY (n:Int)) _=_
 rw[aDW,kF hn]
 rfl
theorem pT{k:Nat}{caps al:List Nat}{vs:List Vl}(h:noLs (vs.map (·.d))=true):jW k caps al vs=⟨.lst (vs.map (·.d)),true,false,[]⟩:=by
 unfold jW
 rw[if_pos h]
end Hp
end
noncomputable section
namespace HpS
open Hp PySem
def box(b:Str×Int):D:=.tup [.str b.1,.int b.2]
def aX(bs:List (Str×Int)):List D:=bs.map box
def aD(is:List Int):D:=.tup (is.map D.int)
structure wL (bs:List (Str×Int)):Prop where
 few:bs.length<=5
 one:∀b∈bs,1<=b.2/\b.2<=7
 room:(bs.map λb=>b.2+1).foldl (·*·) 1<=24
def kG(bs:List (Str×Int)):Int:=(bs.map λb=>b.2+1).foldl (·*·) 1
theorem dS:∀is:List Int,noLs (is.map D.int)=true
 | []=>rfl
 | i::is=>by simp[noLs,noL,dS is]
@[simp] theorem aZ (is:List Int):noL (aD is)=true:=by simp[aD,noL,dS]
@[simp] theorem rO (b:Str×Int):noL (box b)=true:=by simp[box,noL,noLs]
theorem iF:∀ss:List (List Int),noLs (ss.map aD)=true
 | []=>rfl
 | s::ss=>by simp[noLs,iF ss]
theorem uE{v:Vl}(bs:List (Str×Int)):items v (aX bs)=bs.map λb=>Vl.cl (box b):=by
 simp[items,aX,Vl.sub,Function.comp_def]
theorem rP:∀(xs:List Int) (a:Int),1<=a->(∀x∈xs,1<=x)->a<=xs.foldl (·*·) a
 | [],a,_,_=>Int.le_refl _
 | x::xs,a,ha,h=>by
  have hx:=h x List.mem_cons_self
  have h1:a<=a*x:=by
   have:=Int.mul_le_mul_of_nonneg_left hx (show 0<=a by omega)
   omega
  exact Int.le_trans h1 (rP xs (a*x) (by omega) λy hy=>h y (List.mem_cons_of_mem _ hy))
theorem rQ(bs:List (Str×Int))(h:∀b∈bs,1<=b.2)(i:Nat):1<=kG (bs.take i)/\kG (bs.take i)<=kG bs:=by
 have pos:∀(l:List (Str×Int)),(∀b∈l,1<=b.2)->∀x∈l.map (λb=>b.2+1),1<=x:=λl hl x hx=>by
  obtain⟨b,hb,rfl⟩:=List.mem_map.mp hx
  have:=hl b hb
  omega
 have e:bs=bs.take i++bs.drop i:=(List.take_append_drop i bs).symm
 have h1:1<=kG (bs.take i):=rP _ 1 (by omega) (pos _ λb hb=>h b (List.mem_of_mem_take hb))
 refine⟨h1,?_⟩
 have:kG bs=((bs.drop i).map λb=>b.2+1).foldl (·*·) (kG (bs.take i)):=by
  unfold kG
  conv=>lhs;rw[e,List.map_append,List.foldl_append]
 rw[this]
 exact rP _ _ h1 (pos _ λb hb=>h b (List.mem_of_mem_drop hb))
theorem aAh{bs:List (Str×Int)}{i:Nat}(h:i<bs.length):kG (bs.take (i+1))=kG (bs.take i)*(bs[i].2+1):=by
 rw[List.take_succ_eq_append_getElem h]
 unfold kG
 rw[List.map_append,List.foldl_append]
 rfl
def rR:Fn:=⟨1,6,
 (.cons (.set (.n 1) (.lst (.cons (.tup .nil) .nil)))
 (.cons (.for (.t [2,3]) (.seq (.v 0))
  (.cons (.set (.n 4) (.lst .nil))
  (.cons (.for (.n 5) (.seq (.v 1))
   (.cons (.ext 4 (.comp 1 [5] (.n 0) (.rng (.c (.int 0)) (.op .Add (.v 3) (.c (.int 1)))) .nil (.op .Add (.v 1) (.tup (.cons (.v 0) .nil)))))
   .nil))
  (.cons (.mov 1 4)
  .nil))))
 (.cons (.retv 1)
 .nil)))⟩
def dZ(b:List Int)(top:Int):List (List Int):=(List.range (top+1).toNat).map λ(h:Nat)=>b++[(h:Int)]
def iG(found:List (List Int))(top:Int):List (List Int):=found.flatMap λb=>dZ b top
def bC(bs:List (Str×Int)):List (List Int):=bs.foldl (λfound b=>iG found b.2) [[]]
theorem fG{bs:List (Str×Int)}{i:Nat}(h:i<bs.length):bC (bs.take (i+1))=iG (bC (bs.take i)) bs[i].2:=by
 rw[List.take_succ_eq_append_getElem h]
 unfold bC
 rw[List.foldl_append]
 rfl
theorem wM(found:List (List Int))(top:Int):(iG found top).length=found.length*(top+1).toNat:=by
 induction found with
 | nil=>simp[iG]
 | cons b r ih=>
  unfold iG at ih ⊢
  rw[List.flatMap_cons,lA,ih,lC,Nat.succ_mul]
  simp[dZ]
  omega
theorem oD{bs:List (Str×Int)}(h:wL bs):∀i,i<=bs.length->((bC (bs.take i)).length:Int)=kG (bs.take i)/\∀s∈bC (bs.take i),s.length=i
 | 0,_=>by simp[bC,kG]
 | i+1,hi=>by
  have hi':i<bs.length:=by omega
  obtain⟨h1,h2⟩:=oD h i (by omega)
  obtain⟨g2,g3⟩:=h.one bs[i] (List.getElem_mem hi')
  rw[fG hi',aAh hi',wM]
  refine⟨?_,λs hs=>?_⟩
  . rw[Int.natCast_mul,h1,Int.toNat_of_nonneg (by omega)]
  . obtain⟨b,hb,hs⟩:=List.mem_flatMap.mp hs
    obtain⟨k,_,rfl⟩:=List.mem_map.mp hs
    rw[lA,h2 b hb];rfl
theorem aJd{bs:List (Str×Int)}(h:wL bs)(i:Nat)(hi:i<=bs.length):(bC (bs.take i)).length<=24:=by
 have h1:=(oD h i hi).1
 have h2:=(rQ bs (λb hb=>(h.one b hb).1) i).2
 have h3:kG bs<=24:=h.room
 omega
theorem lV{found:List (List Int)}{top:Int}{j:Nat}(h:j<found.length):(found.take (j+1)).flatMap (λb=>dZ b top)=(found.take j).flatMap (λb=>dZ b top)++dZ found[j] top:=by
 rw[List.take_succ_eq_append_getElem h,List.flatMap_append]
 simp
theorem aDX{found:List (List Int)}{top:Int}(j:Nat):((found.take j).flatMap λb=>dZ b top).length<=(iG found top).length:=by
 have e:found=found.take j++found.drop j:=(List.take_append_drop j found).symm
 unfold iG
 conv=>rhs;rw[e,List.flatMap_append,lA]
 omega
theorem gU{v:Vl}(ss:List (List Int)):items v (ss.map aD)=ss.map λs=>Vl.cl (aD s):=by
 simp[items,Vl.sub,Function.comp_def]
theorem aCf{P:Pg}(n:Nat){s0 s1 s2 s4:Sl}{b:List Int}{top:Int}(ht:1<=top)(ht7:top<=7)(hb:b.length<=10) :
 ev P (call P n) [s0,s1,s2,.sh false (.int top),s4,.sh false (aD b)] (.comp 1 [5] (.n 0) (.rng (.c (.int 0)) (.op .Add (.v 3) (.c (.int 1)))) .nil (.op .Add (.v 1) (.tup (.cons (.v 0) .nil))))=.ok ⟨.lst ((dZ b top).map aD),true,false,[]⟩:=by
 have hw:walk P (call P n) [s0,s1,s2,.sh false (.int top),s4,.sh false (aD b)] (.rng (.c (.int 0)) (.op .Add (.v 3) (.c (.int 1))))=.ok ((List.range (top+1).toNat).map λ(k:Nat)=>Vl.cl (.int (k:Int)),[]):=by
  refine dF (v:=.cl (.int (top+1))) ?_ ?_ (by omega)
  . simp[aL,Sl.val,opD,Vl.cl,noL]
  . show D.int (top+1)=D.int ((top+1).toNat:Int)
    rw[Int.toNat_of_nonneg (by omega)]
 rw[aDV (λv=>match v.d with|.int k=>.cl (aD (b++[k]))|_=>.cl .non) hw]
 . have e:(((List.range (top+1).toNat).map λ(k:Nat)=>Vl.cl (.int (k:Int))).map λv=>(match v.d with|.int k=>Vl.cl (aD (b++[k]))|_=>Vl.cl .non)).map (·.d)=(dZ b top).map aD:=by
    simp[dZ,Vl.cl,Function.comp_def]
   rw[pT (by rw[e];exact iF _),e]
 . simp only[lM,List.length_range];unfold lim;omega
 . intro y hy
   obtain⟨k,hk,rfl⟩:=List.mem_map.mp hy
   have hl:b.length+1<=lim:=by unfold lim;omega
   refine⟨[.sh false (.int k),.sh false (aD b)],?_,?_⟩
   . simp[cF,Vl.cl,Vl.slot,freeze]
   . simp[aL,Sl.val,Vl.cl,opD,jD,gD,dO,aD,noL,hl,dS]
theorem aAi{P:Pg}{f:Nat}(hF:P.fns[f]? = some rR)(n:Nat){bs:List (Str×Int)}(h:wL bs):call P (n+1) f [.lst (aX bs)]=.ok (.lst ((bC bs).map aD),true,false):=by
 obtain⟨σ',e,hI⟩:=fD (P:=P) (cl:=call P n) (σ:=[.sh true (.lst (aX bs)),.own false [.tup []],.dead,.dead,.dead,.dead]) (t:=.t [2,3]) (it:=.seq (.v 0))
  (b:=.cons (.set (.n 4) (.lst .nil)) (.cons (.for (.n 5) (.seq (.v 1)) (.cons (.ext 4 (.comp 1 [5] (.n 0) (.rng (.c (.int 0)) (.op .Add (.v 3) (.c (.int 1)))) .nil (.op .Add (.v 1) (.tup (.cons (.v 0) .nil))))) .nil)) (.cons (.mov 1 4) .nil)))
  (xs:=bs.map λb=>Vl.cl (box b)) (al:=[])
  (λi σ=>∃s2 s3 s4 s5,σ=[.sh true (.lst (aX bs)),.own false ((bC (bs.take i)).map aD),s2,s3,s4,s5])
  (by simp[aL,Sl.val,uE]) ⟨_,_,_,_,rfl⟩ (λi hi σ hσ=>by
   obtain⟨s2,s3,s4,s5,rfl⟩:=hσ
   have hi':i<bs.length:=by simpa using hi
   obtain⟨g2,g3⟩:=h.one bs[i] (List.getElem_mem hi')
   have hl24:=aJd h (i+1) hi'
   rw[fG hi'] at hl24
   obtain⟨_,hlen⟩:=oD h i (by omega)
   have hfew:=h.few
   obtain⟨σ2,e2,hJ⟩:=fD (P:=P) (cl:=call P n) (σ:=[.sh true (.lst (aX bs)),.own false ((bC (bs.take i)).map aD),.sh false (.str bs[i].1),.sh false (.int bs[i].2),.own false [],s5]) (t:=.n 5) (it:=.seq (.v 1))
    (b:=.cons (.ext 4 (.comp 1 [5] (.n 0) (.rng (.c (.int 0)) (.op .Add (.v 3) (.c (.int 1)))) .nil (.op .Add (.v 1) (.tup (.cons (.v 0) .nil))))) .nil)
    (xs:=(bC (bs.take i)).map λs=>Vl.cl (aD s)) (al:=[1])
    (λj σ=>∃s5,σ=[.sh true (.lst (aX bs)),.sh false (.lst ((bC (bs.take i)).map aD)),.sh false (.str bs[i].1),.sh false (.int bs[i].2),.own false ((((bC (bs.take i)).take j).flatMap λb=>dZ b bs[i].2).map aD),s5])
    (by simp[aL,Sl.val,gU]) ⟨_,by simp[freeze,Sl.freeze];rfl⟩ (λj hj σ hσ=>by
     obtain⟨s5,rfl⟩:=hσ
     have hj':j<(bC (bs.take i)).length:=by simpa using hj
     have hb:(bC (bs.take i))[j].length<=10:=by rw[hlen _ (List.getElem_mem hj')];omega
     have hc:=aCf (P:=P) n (s0:=.sh true (.lst (aX bs))) (s1:=.sh false (.lst ((bC (bs.take i)).map aD))) (s2:=.sh false (.str bs[i].1)) (s4:=.own false ((((bC (bs.take i)).take j).flatMap λb=>dZ b bs[i].2).map aD)) (b:=(bC (bs.take i))[j]) g2 g3 hb
     have hle:=aDX (found:=bC (bs.take i)) (top:=bs[i].2) (j+1)
     rw[lV hj',lA] at hle
     have hlim:((((bC (bs.take i)).take j).flatMap λb=>dZ b bs[i].2).map aD++(dZ (bC (bs.take i))[j] bs[i].2).map aD).length<=lim:=by
      rw[lA,lM,lM];unfold lim;omega
     refine⟨[.sh true (.lst (aX bs)),.sh false (.lst ((bC (bs.take i)).map aD)),.sh false (.str bs[i].1),.sh false (.int bs[i].2),.own false ((((bC (bs.take i)).take j).flatMap λb=>dZ b bs[i].2).map aD),.sh false (aD (bC (bs.take i))[j])],
      [.sh true (.lst (aX bs)),.sh false (.lst ((bC (bs.take i)).map aD)),.sh false (.str bs[i].1),.sh false (.int bs[i].2),.own false ((((bC (bs.take i)).take (j+1)).flatMap λb=>dZ b bs[i].2).map aD),.sh false (aD (bC (bs.take i))[j])],?_,?_,⟨_,rfl⟩⟩
     . simp[cF,Vl.cl,Vl.slot]
     . rw[aI,aGP,hc,aH]
       show(match pN ⟨.lst ((dZ (bC (bs.take i))[j] bs[i].2).map aD),true,false,[]⟩ with|some (v',ds')=>put _ 4 v' λds=>some (ds++ds')|none=>.bad).on _=_
       simp only[pN,iF,if_true]
       unfold put
       simp only[freeze,eO,gS,gZ]
       rw[if_pos hlim]
       simp[lV hj'])
   obtain⟨s5',rfl⟩:=hJ
   refine⟨[.sh true (.lst (aX bs)),.own false ((bC (bs.take i)).map aD),.sh false (.str bs[i].1),.sh false (.int bs[i].2),s4,s5],[.sh true (.lst (aX bs)),.own false ((bC (bs.take (i+1))).map aD),.sh false (.str bs[i].1),.sh false (.int bs[i].2),.dead,s5'],?_,?_,⟨_,_,_,_,rfl⟩⟩
   . simp[cF,box,Vl.cl,Vl.sub,noL,Vl.slot]
   . have et:(bC (bs.take i)).take ((bC (bs.take i)).map λs=>Vl.cl (aD s)).length=bC (bs.take i):=by simp
     rw[et] at e2
     simp[jV,gD,dO,cF,freeze,Vl.slot,e2,fG hi',iG])
 obtain⟨s2,s3,s4,s5,rfl⟩:=hI
 have et:bs.take (bs.map λb=>Vl.cl (box b)).length=bs:=by simp
 rw[et] at e
 refine aU (F:=rR) hF rfl (v:=⟨.lst ((bC bs).map aD),true,false,[]⟩) ?_
 simp[rR,jV,jD,gD,dO,cF,freeze,Vl.slot,e]
end HpS
end
noncomputable section
namespace Hp
open PySem (Str)
@[simp] theorem aJO (d:D):(⟨d,false,false,[]⟩:Vl)=.cl d:=id rfl
@[simp] theorem aV (d:D):(Vl.cl d).d=d:=id rfl
@[simp] theorem aLr (d:D):(Vl.cl d).fr=false:=id rfl
@[simp] theorem jE (d:D):(Vl.cl d).pa=false:=id rfl
@[simp] theorem bW (d:D):(Vl.cl d).al=[]:=id rfl
@[simp] theorem bI (d:D):(Vl.cl d).slot=.sh false d:=by cases d <;> rfl
@[simp] theorem rS (ds:List D) (pa:Bool) (al:List Nat):(⟨.lst ds,true,pa,al⟩:Vl).slot=.own pa ds:=id rfl
@[simp] theorem aW (i:Nat) (d:D):Sl.val i (.sh false d)=.ok (.cl d):=id rfl
@[simp] theorem aP (i:Nat) (pa:Bool) (k:Int):Sl.val i (.sh pa (.int k))=.ok (.cl (.int k)):=by cases pa <;> rfl
@[simp] theorem aJP (i:Nat) (pa:Bool) (k:Str):Sl.val i (.sh pa (.str k))=.ok (.cl (.str k)):=by cases pa <;> rfl
@[simp] theorem lH (i:Nat) (pa:Bool) (k:Bool):Sl.val i (.sh pa (.bl k))=.ok (.cl (.bl k)):=by cases pa <;> rfl
@[simp] theorem aJQ (i:Nat) (pa:Bool):Sl.val i (.sh pa .non)=.ok (.cl .non):=by cases pa <;> rfl
@[simp] theorem cP (i:Nat) (ds:List D):Sl.val i (.sh true (.lst ds))=.ok ⟨.lst ds,false,true,[]⟩:=id rfl
theorem cX(i:Nat)(pa:Bool){d:D}(h:noL d=true):Sl.val i (.sh pa d)=.ok (.cl d):=by unfold Sl.val;simp[h]
@[simp] theorem cQ (i:Nat) (pa:Bool) (ds:List D):Sl.val i (.own pa ds)=.ok ⟨.lst ds,false,pa,[i]⟩:=id rfl
@[simp] theorem cM (σ:Sg) (v:Vl) (i:Nat):cF σ v (.n i)=.ok (σ.set i v.slot):=id rfl
@[simp] theorem aQ (σ:Sg):freeze σ []=σ:=id rfl
@[simp] theorem iH (b:Bool):eV (.cl (.bl b))=.ok b:=id rfl
@[simp] theorem bH (args:List Vl) (d:D):hG args (d,false,false)=.cl d:=id rfl
@[simp] theorem fY (args:List Vl) (d:D):hG args (d,true,false)=⟨d,true,false,[]⟩:=id rfl
@[simp] theorem dU (a b:D):dM .Eq a b=eqD a b:=id rfl
@[simp] theorem aGR (a b:D):dM .NotEq a b=(eqD a b).map (!·):=id rfl
@[simp] theorem lI (a b:Int):dM .Lt (.int a) (.int b)=some (decide (a<b)):=id rfl
@[simp] theorem oE (a b:Int):dM .Gt (.int a) (.int b)=some (decide (b<a)):=id rfl
@[simp] theorem wN (a b:Int):dM .LtE (.int a) (.int b)=some (decide (a<=b)):=id rfl
@[simp] theorem aKW (a b:Int):dM .GtE (.int a) (.int b)=some (decide (b<=a)):=id rfl
theorem aDY(n:Nat)(a b:Int):eqF (n+1) (.int a) (.int b)=some (a==b):=rfl
theorem aDZ(n:Nat)(a b:List D):eqF (n+1) (.tup a) (.tup b)=fR n a b:=aBb n a b
@[simp] theorem dG (a b:Int):eqD (.int a) (.int b)=some (a==b):=id rfl
@[simp] theorem xZ (a b:Str):eqD (.str a) (.str b)=some (a==b):=id rfl
@[simp] theorem aKX (a b:Bool):eqD (.bl a) (.bl b)=some (a==b):=id rfl
@[simp] theorem aJR (P:Pg) (k:Int):isI [.tInt] P (.int k)=some true:=id rfl
@[simp] theorem aJe (P:Pg) (k:Int):isI [.tBool] P (.int k)=some false:=id rfl
@[simp] theorem aJS (P:Pg) (k:Str):isI [.tStr] P (.str k)=some true:=id rfl
@[simp] theorem aJT (P:Pg) (k:List D):isI [.tTuple] P (.tup k)=some true:=id rfl
@[simp] theorem aJU (P:Pg) (k:List D):isI [.tList] P (.lst k)=some true:=id rfl
@[simp] theorem aKY (P:Pg) (k:Bool):isI [.tBool] P (.bl k)=some true:=id rfl
@[simp] theorem add_int (i j:Int):opD .Add (.cl (.int i)) (.cl (.int j))=.ok (.cl (.int (i+j))):=id rfl
@[simp] theorem sub_int (i j:Int):opD .Sub (.cl (.int i)) (.cl (.int j))=.ok (.cl (.int (i-j))):=id rfl
theorem mul_int{i j:Int}(h:fF i j=true):opD .Mult (.cl (.int i)) (.cl (.int j))=.ok (.cl (.int (i*j))):=by
 show R.iff (fF i j) _=_
 rw[h];rfl
theorem yA{i j:Int}(h:xK j=true):opD .FloorDiv (.cl (.int i)) (.cl (.int j))=.ok (.cl (.int (i / j))):=by
 show R.iff (xK j) _=_
 rw[h];rfl
theorem rT{i j:Int}(h:0<j):opD .Mod (.cl (.int i)) (.cl (.int j))=.ok (.cl (.int (i % j))):=by
 show R.iff (decide (0<j)) _=_
 rw[decide_eq_true h];rfl
@[simp] theorem cR (ds:List D) (fr pa:Bool) (al:List Nat):biD .len [⟨.lst ds,fr,pa,al⟩]=.ok (.cl (.int ds.length)):=id rfl
@[simp] theorem aEa (ds:List D):biD .len [.cl (.tup ds)]=.ok (.cl (.int ds.length)):=id rfl
@[simp] theorem aCg (ds:List D):biD .len [.cl (.lst ds)]=.ok (.cl (.int ds.length)):=id rfl
end Hp
end
noncomputable section
namespace HpS
open Hp PySem
section
variable {P:Pg} {cl:Caller} {σ σ':Sg}
theorem cs{s:S}{ss:Ss}{o:O}(h:ex P cl σ s=.next σ')(r:exs P cl σ' ss=o):exs P cl σ (.cons s ss)=o:=by rw[aI,h,fN,r]
theorem fP{i:Nat}{e:E}{d:D}(h:ev P cl σ e=.ok (.cl d)):ex P cl σ (.set (.n i) e)=.next (σ.set i (.sh false d)):=by rw[bM,h,aH,bW,aQ,cM,aH,bI]
theorem eI{e:E}{ss:Ss}{v:Vl}(h:ev P cl σ e=.ok v):exs P cl σ (.cons (.ret e) ss)=.ret v:=by rw[aI,cC,h];rfl
theorem eL{c:E}{a:Ss}(h:tst P cl σ c=.ok false):ex P cl σ (.iff c a .nil)=.next σ:=by rw[bK,h];rfl
theorem fQ{c:E}{a b ss:Ss}{v:Vl}(h:tst P cl σ c=.ok true)(r:exs P cl σ a=.ret v):exs P cl σ (.cons (.iff c a b) ss)=.ret v:=by
 rw[aI,bK,h,aH,if_pos rfl,r];rfl
theorem cH{a b:E}{x y z:Vl}(h:ev P cl σ a=.ok x)(k:ev P cl σ b=.ok y)(e:bV x y=.ok z):ev P cl σ (.idx a b)=.ok z:=by rw[bB,h,aA,k,aA,e]
theorem bY{a:E}{w x:Str}{b:Bool}(h:ev P cl σ a=.ok (.cl (.str w)))(q:(w==x)=b):tst P cl σ (.cmp .Eq a (.c (.str x)))=.ok b:=by
 rw[cA,h,aA,bE,aA,aV,aV,dU,xZ,q]
theorem aJf{a:E}{w x:Str}{b:Bool}(h:ev P cl σ a=.ok (.cl (.str w)))(q:(w==x)=b):ev P cl σ (.cmp .Eq a (.c (.str x)))=.ok (.cl (.bl b)):=by
 rw[jQ,h,aA,bE,aA,aV,aV,dU,xZ,q]
theorem cT{f:Nat}{a b c:E}{x y z:Vl}{d:D}(h1:ev P cl σ a=.ok x)(h2:ev P cl σ b=.ok y)(h3:ev P cl σ c=.ok z)(hc:cl f [x.d,y.d,z.d]=.ok (d,false,false)):ev P cl σ (.call f (.cons a (.cons b (.cons c .nil))))=.ok (.cl d):=by
 have e:evs P cl σ (.cons a (.cons b (.cons c .nil)))=.ok [x,y,z]:=by rw[aB,h1,aA,aB,h2,aA,aB,h3,aA,aC];rfl
 rw[aM,e,aA,show [x,y,z].map (·.d)=[x.d,y.d,z.d] from rfl,hc];rfl
theorem v0_{d:D}{r:Sg}(h:noL d=true):ev P cl (.sh true d::r) (.v 0)=.ok (.cl d):=cX 0 true h
theorem v1_{s:Sl}{d:D}{r:Sg}(h:noL d=true):ev P cl (s::.sh true d::r) (.v 1)=.ok (.cl d):=cX 1 true h
theorem v2_{s t:Sl}{d:D}{r:Sg}(h:noL d=true):ev P cl (s::t::.sh true d::r) (.v 2)=.ok (.cl d):=cX 2 true h
theorem aEJ{t a b:E}{k:Bool}{v:Vl}(h:tst P cl σ t=.ok k)(r:(if k then ev P cl σ a else ev P cl σ b)=.ok v):ev P cl σ (.ife t a b)=.ok v:=by rw[wK,h,aA,r]
theorem aJg{a:E}{k:Bool}(h:ev P cl σ a=.ok (.cl (.bl k))):ev P cl σ (.nt a)=.ok (.cl (.bl !k)):=by rw[aEH,h];rfl
theorem aJh{a b:E}{x y:Bool}(h1:ev P cl σ a=.ok (.cl (.bl x)))(h2:ev P cl σ b=.ok (.cl (.bl y))):ev P cl σ (.an a b)=.ok (.cl (.bl (x&&y))):=by
 rw[aEI,h1,aA];cases x
 . rfl
 . exact h2
theorem aEK{a b:E}{x y:Bool}(h1:ev P cl σ a=.ok (.cl (.bl x)))(h2:ev P cl σ b=.ok (.cl (.bl y))):ev P cl σ (.orr a b)=.ok (.cl (.bl (x||y))):=by
 rw[aGN,h1,aA];cases x
 . exact h2
 . rfl
theorem aEb{o:Operator}{a b:E}{x y z:Vl}(h:ev P cl σ a=.ok x)(k:ev P cl σ b=.ok y)(e:opD o x y=.ok z):ev P cl σ (.op o a b)=.ok z:=by rw[cD,h,aA,k,aA,e]
theorem aEL{o:CmpOp}{a b:E}{x y:Vl}{k:Bool}(h:ev P cl σ a=.ok x)(g:ev P cl σ b=.ok y)(e:dM o x.d y.d=some k):ev P cl σ (.cmp o a b)=.ok (.cl (.bl k)):=by rw[jQ,h,aA,g,aA,e]
theorem aJi{b:Bi}{a:E}{x z:Vl}(h:ev P cl σ a=.ok x)(e:biD b [x]=.ok z):ev P cl σ (.bi b (.cons a .nil))=.ok z:=by
 have h2:evs P cl σ (.cons a .nil)=.ok [x]:=by rw[aB,h];rfl
 rw[cO,h2,aA,e]
end
end HpS
end
noncomputable section
namespace Hp
open PySem (Str)
theorem kH{α:Type}{g:α->D}(ng:∀t,noL (g t)=true):∀ts:List α,noLs (ts.map g)=true
 | []=>rfl
 | t::ts=>by rw[mC,noLs,ng t,kH ng ts];rfl
theorem oF{α:Type}{F:Vl->R (Option Vl)}{f:α->Vl}{g:α->D}{p:α->Bool}:∀{ts:List α},(∀t∈ts,F (f t)=.ok (if p t then some (.cl (g t)) else none))->eG F (ts.map f)=.ok ((ts.filter p).map λt=>.cl (g t))
 | [],_=>rfl
 | t::ts,h=>by
  have h1:=h t List.mem_cons_self
  have h2:=oF (F:=F) (f:=f) (g:=g) (p:=p) (ts:=ts) λy hy=>h y (List.mem_cons_of_mem _ hy)
  show(F (f t) >>= λy=>eG F (ts.map f) >>= λys=>(match y with|some y=>R.ok (y::ys)|none=>R.ok ys))=_
  rw[h1,h2]
  cases hp:p t with
  | true=>rw[List.filter_cons_of_pos hp];rfl
  | false=>rw[List.filter_cons_of_neg (by rw[hp];exact bN)];rfl
theorem yB{α:Type}{g:α->D}(ng:∀t,noL (g t)=true){k:Nat}{caps al:List Nat}(ts:List α):jW k caps al (ts.map λt=>Vl.cl (g t))=⟨.lst (ts.map g),true,false,[]⟩:=by
 have e:(ts.map λt=>Vl.cl (g t)).map (·.d)=ts.map g:=by rw[List.map_map];rfl
 rw[pT (by rw[e];exact kH ng ts),e]
theorem lJ{P:Pg}{cl:Caller}{σ:Sg}{k:Nat}{caps al:List Nat}{T:T}{it:It}{elt:E}{α:Type}{ts:List α}(f:α->Vl)(g:α->D)(ng:∀t,noL (g t)=true)(hw:walk P cl σ it=.ok (ts.map f,al))(hl:ts.length<=lim)
 (hb:∀t∈ts,∃σ1,cF (List.replicate k .dead++caps.map λi=>((freeze σ al)[i]?).getD .dead) (f t) T=.ok σ1/\ev P cl σ1 elt=.ok (.cl (g t))):ev P cl σ (.comp k caps T it .nil elt)=.ok ⟨.lst (ts.map g),true,false,[]⟩:=by
 rw[rL,hw,aA,oF (f:=f) (g:=g) (p:=λ_=>true) λt ht=>by
  obtain⟨σ1,e1,e2⟩:=hb t ht
  show(cF _ (f t) T >>= λσ1=>_)=_
  rw[e1]
  show(ev P cl σ1 elt >>= λy=>R.ok (some y))=_
  rw[e2]
  rfl]
 have hf:ts.filter (λ_=>true)=ts:=List.filter_eq_self.mpr λ_ _=>rfl
 have hl2:decide ((ts.map λt=>Vl.cl (g t)).length<=lim)=true:=decide_eq_true (by rw[lM];exact hl)
 rw[aA,hf,hl2,gH,yB ng]
theorem aCh{P:Pg}{cl:Caller}{σ:Sg}{k:Nat}{caps al:List Nat}{T:T}{it:It}{c elt:E}{α:Type}{ts:List α}(f:α->Vl)(g:α->D)(p:α->Bool)(ng:∀t,noL (g t)=true)(hw:walk P cl σ it=.ok (ts.map f,al))(hl:ts.length<=lim)
 (hb:∀t∈ts,∃σ1,cF (List.replicate k .dead++caps.map λi=>((freeze σ al)[i]?).getD .dead) (f t) T=.ok σ1/\tst P cl σ1 c=.ok (p t)/\ev P cl σ1 elt=.ok (.cl (g t))):ev P cl σ (.comp k caps T it (.cons c .nil) elt)=.ok ⟨.lst ((ts.filter p).map g),true,false,[]⟩:=by
 rw[rL,hw,aA,oF (f:=f) (g:=g) (p:=p) λt ht=>by
  obtain⟨σ1,e1,e2,e3⟩:=hb t ht
  show(cF _ (f t) T >>= λσ1=>_)=_
  rw[e1]
  show(tsts P cl σ1 (.cons c .nil) >>= λk=>if k then (ev P cl σ1 elt >>= λy=>R.ok (some y)) else R.ok none)=_
  rw[aAg,e2,aA]
  cases hp:p t with
  | true=>rw[if_pos rfl,aCd,aA,if_pos rfl,e3];rfl
  | false=>rfl]
 have hl2:decide (((ts.filter p).map λt=>Vl.cl (g t)).length<=lim)=true:=decide_eq_true (by rw[lM];exact Nat.le_trans (List.length_filter_le _ _) hl)
 rw[aA,hl2,gH,yB ng]
theorem uF{α:Type}(a b:α->D):∀ts:List α,hX (ts.map a) (ts.map b)=ts.map λt=>.tup [a t,b t]
 | []=>rfl
 | t::ts=>by rw[mC,mC,hX,uF a b ts];rfl
theorem pU{α:Type}{v:Vl}{g:α->D}(ng:∀t,noL (g t)=true)(ts:List α):items v (ts.map g)=ts.map λt=>Vl.cl (g t):=by
 unfold items
 rw[List.map_map]
 refine List.map_congr_left λt _=>?_
 show Vl.sub v (g t)=_
 unfold Vl.sub
 rw[if_pos (ng t)]
theorem mJ{a b:D}(ha:noL a=true)(hb:noL b=true):noL (.tup [a,b])=true:=by simp[noL,noLs,ha,hb]
theorem yC{s0 s1:Sl}{r:Sg}{a b:D}(ha:noL a=true)(hb:noL b=true):cF (s0::s1::r) (.cl (.tup [a,b])) (.t [0,1])=.ok (.sh false a::.sh false b::r):=by
 have h1:Vl.sub (.cl (.tup [a,b])) a=.cl a:=by unfold Vl.sub;rw[if_pos ha]
 have h2:Vl.sub (.cl (.tup [a,b])) b=.cl b:=by unfold Vl.sub;rw[if_pos hb]
 unfold cF
 simp only[aV,lC,lN,if_true,List.zip_cons_cons,List.zip_nil_left,List.foldl_cons,List.foldl_nil,h1,h2,bI,lS,lZ]
@[simp] theorem aJV {P:Pg} {cl:Caller} {σ:Sg} (a b:E):ev P cl σ (.lzip a b)=(ev P cl σ a >>= λx=>ev P cl σ b >>= λy=>match fS x.d,fS y.d with
 | some as,some bs=>.iff (decide (as.length<=lim)) (.ok (aEy x y (hX as bs)))
 | _,_=>.bad):=id rfl
end Hp
end
noncomputable section
namespace Hp
open PySem (Str Operator CmpOp)
section
variable {P:Pg} {cl:Caller} {σ:Sg}
@[simp] theorem yD (a l:E):ev P cl σ (.sli a (.cons l .nil) .nil)=(ev P cl σ a >>= λx=>ev P cl σ l >>= λl=>match l.d with|.int l=>.iff (aY l) (eW x (some l) none)|_=>.bad):=by
 show(ev P cl σ a >>= λx=>evs P cl σ (.cons l .nil) >>= λl=>evs P cl σ .nil >>= λh=>_)=_
 cases ev P cl σ a with
 | ok x=>
  show((ev P cl σ l >>= λx=>evs P cl σ .nil >>= λxs=>R.ok (x::xs)) >>= λl=>_)=(ev P cl σ l >>= λl=>_)
  cases ev P cl σ l <;> rfl
 | exc e=>rfl
 | bad=>rfl
@[simp] theorem aJW (a l h:E):ev P cl σ (.sli a (.cons l .nil) (.cons h .nil))=(ev P cl σ a >>= λx=>ev P cl σ l >>= λl=>ev P cl σ h >>= λh=>match l.d,h.d with|.int l,.int h=>.iff (aY l&&aY h) (eW x (some l) (some h))|_,_=>.bad):=by
 show(ev P cl σ a >>= λx=>evs P cl σ (.cons l .nil) >>= λl=>evs P cl σ (.cons h .nil) >>= λh=>_)=_
 cases ev P cl σ a with
 | ok x=>
  show((ev P cl σ l >>= λx=>evs P cl σ .nil >>= λxs=>R.ok (x::xs)) >>= λl=>_)=(ev P cl σ l >>= λl=>_)
  cases ev P cl σ l with
  | ok l=>
   show((ev P cl σ h >>= λx=>evs P cl σ .nil >>= λxs=>R.ok (x::xs)) >>= λh=>_)=(ev P cl σ h >>= λh=>_)
   cases ev P cl σ h <;> rfl
  | exc e=>rfl
  | bad=>rfl
 | exc e=>rfl
 | bad=>rfl
end
theorem cZ{n k:Nat}(h:k<n):ixN n (k:Int)=some k:=by
 unfold ixN
 rw[if_pos (Int.natCast_nonneg k),if_pos (by omega)]
 simp
theorem yE{v:Vl}{is:List Int}{k:Nat}(hv:v.d=.lst (is.map D.int))(h:k<is.length):bV v (.cl (.int (k:Int)))=.ok (.cl (.int (is.getD k 0))):=by
 unfold bV
 rw[hv]
 have hl:(is.map D.int).length=is.length:=by simp
 have e:(is.map D.int)[k]? = some (.int (is.getD k 0)):=by simp[h]
 simp only[aV,hl,cZ h,e,Vl.sub,noL,if_true]
def num(c:Int):Nat->Int
 | 0=>c % 2147483647+48271
 | k+1=>(num c k*num c k+48271*num c k+(k:Int)) % 2147483647
def aJj(b:Str×Int):D:=.tup [.str b.1,.int b.2]
@[simp] theorem aJk (b:Str×Int):noL (aJj b)=true:=by simp[aJj,noL,noLs]
end Hp
end
noncomputable section
namespace HpS
open Hp PySem
inductive Sm where
 | num (n:Int)|box (k:Nat)|aft (k:Nat)|two (p:Bool) (a b:Sm)
def rU(p:Bool):Str:=if p then "plus" else "minus"
def Sm.d:Sm->D
 | .num n=>.tup [.str "number",.int n]
 | .box k=>.tup [.str "box",.int k]
 | .aft k=>.tup [.str "after",.int k]
 | .two p a b=>.tup [.str (rU p),a.d,b.d]
def Sm.sz:Sm->Nat
 | .two _ a b=>1+a.sz+b.sz
 | _=>1
def Sm.val(ah be:List Int):Sm->Int
 | .num n=>n
 | .box k=>ah.getD k 0
 | .aft k=>be.getD k 0
 | .two p a b=>if p then a.val ah be+b.val ah be else a.val ah be-b.val ah be
def Sm.wf(c:Nat)(pl:Bool):Sm->Prop
 | .num n=>0<=n/\n<=99
 | .box k=>k<c
 | .aft k=>k<c/\pl=false
 | .two _ a b=>a.wf c pl/\b.wf c pl
theorem Sm.noL:∀s:Sm,Hp.noL s.d=true
 | .num _=>rfl
 | .box _=>rfl
 | .aft _=>rfl
 | .two _ a b=>by simp[Sm.d,Hp.noL,noLs,a.noL,b.noL]
theorem bX{v:Vl}{d:D}(h:Hp.noL d=true):Vl.sub v d=.cl d:=by unfold Vl.sub;rw[if_pos h]
theorem eA(x:D)(r:List D)(h:Hp.noL x=true):bV (.cl (.tup (x::r))) (.cl (.int 0))=.ok (.cl x):=by
 have:ixN (x::r).length 0=some 0:=cZ (k:=0) (by simp)
 unfold bV
 simp only[aV,this,gZ,bX h]
theorem fZ(x y:D)(r:List D)(h:Hp.noL y=true):bV (.cl (.tup (x::y::r))) (.cl (.int 1))=.ok (.cl y):=by
 have:ixN (x::y::r).length 1=some 1:=cZ (k:=1) (by simp)
 unfold bV
 simp only[aV,this,gZ,gS,bX h]
theorem uG(x y z:D)(r:List D)(h:Hp.noL z=true):bV (.cl (.tup (x::y::z::r))) (.cl (.int 2))=.ok (.cl z):=by
 have:ixN (x::y::z::r).length 2=some 2:=cZ (k:=2) (by simp)
 unfold bV
 simp only[aV,this,gZ,gS,bX h]
theorem iU{is:List Int}{k:Nat}(h:k<is.length):bV (.cl (aD is)) (.cl (.int (k:Int)))=.ok (.cl (.int (is.getD k 0))):=by
 unfold bV aD
 have hl:(is.map D.int).length=is.length:=by simp
 have e:(is.map D.int)[k]? = some (.int (is.getD k 0)):=by simp[h]
 simp only[aV,hl,cZ h,e,Vl.sub,Hp.noL,if_true]
def lK(f:Nat):Fn:=⟨3,6,
 (.cons (.set (.n 3) (.idx (.v 0) (.c (.int 0))))
 (.cons (.iff (.cmp .Eq (.v 3) (.c (.str "number")))
  (.cons (.ret (.idx (.v 0) (.c (.int 1))))
  .nil)
  .nil)
 (.cons (.iff (.cmp .Eq (.v 3) (.c (.str "box")))
  (.cons (.ret (.idx (.v 1) (.idx (.v 0) (.c (.int 1)))))
  .nil)
  .nil)
 (.cons (.iff (.cmp .Eq (.v 3) (.c (.str "after")))
  (.cons (.ret (.idx (.v 2) (.idx (.v 0) (.c (.int 1)))))
  .nil)
  .nil)
 (.cons (.set (.n 4) (.call f (.cons (.idx (.v 0) (.c (.int 1))) (.cons (.v 1) (.cons (.v 2) .nil)))))
 (.cons (.set (.n 5) (.call f (.cons (.idx (.v 0) (.c (.int 2))) (.cons (.v 1) (.cons (.v 2) .nil)))))
 (.cons (.ret (.ife (.cmp .Eq (.v 3) (.c (.str "plus"))) (.op .Add (.v 4) (.v 5)) (.op .Sub (.v 4) (.v 5))))
 .nil)))))))⟩
theorem aJl:(("number" : Str) == "number")=true:=by decide +kernel
theorem aJm:(("box" : Str) == "number")=false:=by decide +kernel
theorem aJn:(("box" : Str) == "box")=true:=by decide +kernel
theorem aKZ:(("after" : Str) == "number")=false:=by decide +kernel
theorem aLa:(("after" : Str) == "box")=false:=by decide +kernel
theorem aLb:(("after" : Str) == "after")=true:=by decide +kernel
theorem aJo:∀p,(rU p == "number")=false:=by decide +kernel
theorem aJp:∀p,(rU p == "box")=false:=by decide +kernel
theorem aJq:∀p,(rU p == "after")=false:=by decide +kernel
theorem aLc:∀p,(rU p == "plus")=p:=by decide +kernel
theorem iI{P:Pg}{f:Nat}(hF:P.fns[f]? = some (lK f)){ah be:List Int}{bd:D}{c:Nat}{pl:Bool}(ha:ah.length=c)(hb:be.length=c)(hn:Hp.noL bd=true)(hbd:pl=false->bd=aD be) :
 ∀(s:Sm) (n:Nat),s.wf c pl->call P (n+s.sz) f [s.d,aD ah,bd]=.ok (.int (s.val ah be),false,false)
 | .num k,n,w=>by
  refine aU (F:=lK f) hF rfl (v:=.cl (.int k)) ?_
  exact cs (fP (cH (v0_ rfl) rfl (eA _ _ rfl))) (fQ (bY rfl aJl) (eI (cH (v0_ rfl) rfl (fZ _ _ _ rfl))))
 | .box k,n,w=>by
  have w:k<c:=w
  refine aU (F:=lK f) hF rfl (v:=.cl (.int (ah.getD k 0))) ?_
  exact cs (fP (cH (v0_ rfl) rfl (eA _ _ rfl))) (cs (eL (bY rfl aJm)) (fQ (bY rfl aJn) (eI (cH (v1_ (aZ _)) (cH (v0_ rfl) rfl (fZ _ _ _ rfl)) (iU (by omega))))))
 | .aft k,n,w=>by
  obtain⟨w1,w2⟩:k<c/\pl=false:=w
  have e:=hbd w2
  subst e
  refine aU (F:=lK f) hF rfl (v:=.cl (.int (be.getD k 0))) ?_
  exact cs (fP (cH (v0_ rfl) rfl (eA _ _ rfl))) (cs (eL (bY rfl aKZ)) (cs (eL (bY rfl aLa)) (fQ (bY rfl aLb) (eI (cH (v2_ (aZ _)) (cH (v0_ rfl) rfl (fZ _ _ _ rfl)) (iU (by omega)))))))
 | .two p a b,n,w=>by
  obtain⟨w1,w2⟩:a.wf c pl/\b.wf c pl:=w
  have c1:=iI hF ha hb hn hbd a (n+b.sz) w1
  have c2:=iI hF ha hb hn hbd b (n+a.sz) w2
  rw[show n+b.sz+a.sz=n+a.sz+b.sz by omega] at c1
  have e:n+Sm.sz (.two p a b)=n+a.sz+b.sz+1:=by show n+(1+a.sz+b.sz)=_;omega
  rw[e]
  refine aU (F:=lK f) hF rfl (v:=.cl (.int (Sm.val ah be (.two p a b)))) ?_
  refine cs (fP (cH (v0_ (Sm.noL _)) rfl (eA _ _ rfl))) (cs (eL (bY rfl (aJo p))) (cs (eL (bY rfl (aJp p))) (cs (eL (bY rfl (aJq p))) (cs (fP (cT (cH (v0_ (Sm.noL _)) rfl (fZ _ _ _ a.noL)) (v1_ (aZ _)) (v2_ hn) c1)) (cs (fP (cT (cH (v0_ (Sm.noL _)) rfl (uG _ _ _ _ b.noL)) (v1_ (aZ _)) (v2_ hn) c2)) (eI (aEJ (bY rfl (aLc p)) ?_)))))))
  cases p <;> rfl
@[simp] theorem aJr {P:Pg} {cl:Caller} {σ:Sg} (i:Nat) (a:E):ev P cl σ (.tget i a)=(ev P cl σ a >>= λx=>match x.d,P.tabs[i]? with|.str k,some t=>.ok (.cl ((t.lookup k).getD .non))|_,_=>.bad):=id rfl
def fWhole:Fn:=⟨1,1,(.cons (.ret (.an (.isi (.v 0) [.tInt]) (.nt (.isi (.v 0) [.tBool])))) .nil)⟩
def fWithin(wh:Nat):Fn:=⟨3,3,(.cons (.ret (.an (.call wh (.cons (.v 0) .nil)) (.cmp2 .LtE .LtE (.v 1) (.v 0) (.v 2)))) .nil)⟩
def fCheck(wi:Nat):Fn:=⟨3,4,
 (.cons (.set (.n 3) (.ife (.cmp .Eq (.v 1) (.c (.str "number"))) (.c (.int 99)) (.op .Sub (.bi .len (.cons (.v 0) .nil)) (.c (.int 1)))))
 (.cons (.iff (.nt (.call wi (.cons (.v 2) (.cons (.c (.int 0)) (.cons (.v 3) .nil)))))
  (.cons (.rse 1 false (.cons (.c (.str "a number is a whole one from 0 to 99, a box the number of one")) .nil))
  .nil)
  .nil)
 .nil))⟩
def sumTab:List (Str×D):=[("number",.tup [.str "number"]),("box",.tup [.str "box"]),("after",.tup [.str "box"]),("plus",.tup [.str "sum",.str "sum"]),("minus",.tup [.str "sum",.str "sum"])]
def fForm:Fn:=⟨3,5,
 (.cons (.iff (.orr (.nt (.isi (.v 1) [.tTuple])) (.orr (.cmp .Eq (.bi .len (.cons (.v 1) .nil)) (.c (.int 0))) (.nt (.isi (.idx (.v 1) (.c (.int 0))) [.tStr]))))
  (.cons (.rse 1 false (.cons (.c (.str "a part is a tuple that begins with a word")) .nil))
  .nil)
  .nil)
 (.cons (.set (.n 3) (.idx (.v 1) (.c (.int 0))))
 (.cons (.set (.n 4) (.ife (.cmp .Eq (.v 0) (.c (.str "sum"))) (.tget 0 (.v 3)) (.tget 1 (.v 3))))
 (.cons (.iff (.orr (.cmp .Is (.v 4) (.c .non)) (.cmp .NotEq (.bi .len (.cons (.v 1) .nil)) (.op .Add (.bi .len (.cons (.v 4) .nil)) (.c (.int 1)))))
  (.cons (.rse 1 false (.cons (.c (.str "a part has a word that is due there, and as many things as go with it")) .nil))
  .nil)
  .nil)
 (.cons (.iff (.an (.v 2) (.cmp .Eq (.v 3) (.c (.str "after"))))
  (.cons (.rse 1 false (.cons (.c (.str "no after stands where a plain one is due")) .nil))
  .nil)
  .nil)
 (.cons (.retv 4)
 .nil))))))⟩
def Sm.word:Sm->Str
 | .num _ => "number" | .box _ => "box" | .aft _ => "after" | .two p _ _=>rU p
def Sm.rest:Sm->List D
 | .num n=>[.int n]|.box k=>[.int k]|.aft k=>[.int k]|.two _ a b=>[a.d,b.d]
def fLook(fo ch lo:Nat):Fn:=⟨5,8,
 (.cons (.iff (.cmp .Eq (.v 4) (.c (.int 40)))
  (.cons (.rse 2 false (.cons (.c (.str "a condition or sum has at most forty parts")) .nil))
  .nil)
  .nil)
 (.cons (.set (.n 4) (.op .Add (.v 4) (.c (.int 1))))
 (.cons (.set (.n 5) (.call fo (.cons (.v 1) (.cons (.v 2) (.cons (.v 3) .nil)))))
 (.cons (.for (.t [6,7]) (.zip (.v 5) (.sli (.v 2) (.cons (.c (.int 1)) .nil) .nil))
  (.cons (.iff (.orr (.cmp .Eq (.v 6) (.c (.str "sum"))) (.cmp .Eq (.v 6) (.c (.str "cond"))))
   (.cons (.set (.n 4) (.call lo (.cons (.v 0) (.cons (.v 6) (.cons (.v 7) (.cons (.v 3) (.cons (.v 4) .nil)))))))
   .nil)
   (.cons (.ex (.call ch (.cons (.v 0) (.cons (.v 6) (.cons (.v 7) .nil)))))
   .nil))
  .nil))
 (.cons (.retv 4)
 .nil)))))⟩
section
variable {P:Pg} {wh wi ch fo lo:Nat} (hW:P.fns[wh]? = some fWhole) (hI:P.fns[wi]? = some (fWithin wh)) (hC:P.fns[ch]? = some (fCheck wi)) (hO:P.fns[fo]? = some fForm) (hT:P.tabs[0]? = some sumTab) (hL:P.fns[lo]? = some (fLook fo ch lo))
include hW hI hC hO hT hL
end
section
variable {P:Pg} {wh wi ch fo lo:Nat} (hW:P.fns[wh]? = some fWhole) (hI:P.fns[wi]? = some (fWithin wh)) (hC:P.fns[ch]? = some (fCheck wi)) (hO:P.fns[fo]? = some fForm) (hT:P.tabs[0]? = some sumTab) (hL:P.fns[lo]? = some (fLook fo ch lo))
include hW hI hC hO hT hL
end
inductive Cn where
 | yes|cmp (i:Bool) (a b:Sm)|nt (c:Cn)|two (p:Bool) (a b:Cn)
def rV(i:Bool):Str:=if i then "is" else "less"
def kI(p:Bool):Str:=if p then "both" else "either"
def Cn.d:Cn->D
 | .yes=>.tup [.str "yes"]
 | .cmp i a b=>.tup [.str (rV i),a.d,b.d]
 | .nt c=>.tup [.str "not",c.d]
 | .two p a b=>.tup [.str (kI p),a.d,b.d]
def Cn.sz:Cn->Nat
 | .yes=>1
 | .cmp _ a b=>1+a.sz+b.sz
 | .nt c=>1+c.sz
 | .two _ a b=>1+a.sz+b.sz
def Cn.hold(ah be:List Int):Cn->Bool
 | .yes=>true
 | .cmp i a b=>if i then a.val ah be==b.val ah be else decide (a.val ah be<b.val ah be)
 | .nt c=>!c.hold ah be
 | .two p a b=>if p then a.hold ah be&&b.hold ah be else a.hold ah be||b.hold ah be
def Cn.wf(c:Nat)(pl:Bool):Cn->Prop
 | .yes=>True
 | .cmp _ a b=>a.wf c pl/\b.wf c pl
 | .nt x=>x.wf c pl
 | .two _ a b=>a.wf c pl/\b.wf c pl
theorem Cn.noL:∀s:Cn,Hp.noL s.d=true
 | .yes=>rfl
 | .cmp _ a b=>by simp[Cn.d,Hp.noL,noLs,a.noL,b.noL]
 | .nt c=>by simp[Cn.d,Hp.noL,noLs,c.noL]
 | .two _ a b=>by simp[Cn.d,Hp.noL,noLs,a.noL,b.noL]
def oG(v f:Nat):Fn:=⟨3,6,
 (.cons (.set (.n 3) (.idx (.v 0) (.c (.int 0))))
 (.cons (.iff (.cmp .Eq (.v 3) (.c (.str "yes")))
  (.cons (.ret (.c (.bl true)))
  .nil)
  .nil)
 (.cons (.iff (.cmp .Eq (.v 3) (.c (.str "not")))
  (.cons (.ret (.nt (.call f (.cons (.idx (.v 0) (.c (.int 1))) (.cons (.v 1) (.cons (.v 2) .nil))))))
  .nil)
  .nil)
 (.cons (.iff (.cmp .Eq (.v 3) (.c (.str "both")))
  (.cons (.ret (.an (.call f (.cons (.idx (.v 0) (.c (.int 1))) (.cons (.v 1) (.cons (.v 2) .nil)))) (.call f (.cons (.idx (.v 0) (.c (.int 2))) (.cons (.v 1) (.cons (.v 2) .nil))))))
  .nil)
  .nil)
 (.cons (.iff (.cmp .Eq (.v 3) (.c (.str "either")))
  (.cons (.ret (.orr (.call f (.cons (.idx (.v 0) (.c (.int 1))) (.cons (.v 1) (.cons (.v 2) .nil)))) (.call f (.cons (.idx (.v 0) (.c (.int 2))) (.cons (.v 1) (.cons (.v 2) .nil))))))
  .nil)
  .nil)
 (.cons (.set (.n 4) (.call v (.cons (.idx (.v 0) (.c (.int 1))) (.cons (.v 1) (.cons (.v 2) .nil)))))
 (.cons (.set (.n 5) (.call v (.cons (.idx (.v 0) (.c (.int 2))) (.cons (.v 1) (.cons (.v 2) .nil)))))
 (.cons (.ret (.ife (.cmp .Eq (.v 3) (.c (.str "is"))) (.cmp .Eq (.v 4) (.v 5)) (.cmp .Lt (.v 4) (.v 5))))
 .nil))))))))⟩
theorem aJs:(("yes" : Str) == "yes")=true:=by decide +kernel
theorem aJt:(("not" : Str) == "yes")=false:=by decide +kernel
theorem aJu:(("not" : Str) == "not")=true:=by decide +kernel
theorem aJv:∀p,(rV p == "yes")=false:=by decide +kernel
theorem aJw:∀p,(rV p == "not")=false:=by decide +kernel
theorem aLd:∀p,(rV p == "both")=false:=by decide +kernel
theorem aLe:∀p,(rV p == "either")=false:=by decide +kernel
theorem aGS:∀p,(rV p == "is")=p:=by decide +kernel
theorem aJx:∀p,(kI p == "yes")=false:=by decide +kernel
theorem aJy:∀p,(kI p == "not")=false:=by decide +kernel
theorem aEc:∀p,(kI p == "both")=p:=by decide +kernel
theorem aLf:∀p,(kI p == "either")=!p:=by decide +kernel
theorem kJ{P:Pg}{v f:Nat}(hV:P.fns[v]? = some (lK v))(hF:P.fns[f]? = some (oG v f)){ah be:List Int}{bd:D}{c:Nat}{pl:Bool}(ha:ah.length=c)(hb:be.length=c)(hn:Hp.noL bd=true)(hbd:pl=false->bd=aD be) :
 ∀(s:Cn) (n:Nat),s.wf c pl->call P (n+s.sz) f [s.d,aD ah,bd]=.ok (.bl (s.hold ah be),false,false)
 | .yes,n,w=>by
  refine aU (F:=oG v f) hF rfl (v:=.cl (.bl true)) ?_
  exact cs (fP (cH (v0_ rfl) rfl (eA _ _ rfl))) (fQ (bY rfl aJs) (eI rfl))
 | .cmp i a b,n,w=>by
  obtain⟨w1,w2⟩:a.wf c pl/\b.wf c pl:=w
  have c1:=iI hV ha hb hn hbd a (n+b.sz) w1
  have c2:=iI hV ha hb hn hbd b (n+a.sz) w2
  rw[show n+b.sz+a.sz=n+a.sz+b.sz by omega] at c1
  have e:n+Cn.sz (.cmp i a b)=n+a.sz+b.sz+1:=by show n+(1+a.sz+b.sz)=_;omega
  rw[e]
  refine aU (F:=oG v f) hF rfl (v:=.cl (.bl (Cn.hold ah be (.cmp i a b)))) ?_
  refine cs (fP (cH (v0_ (Cn.noL _)) rfl (eA _ _ rfl))) (cs (eL (bY rfl (aJv i))) (cs (eL (bY rfl (aJw i))) (cs (eL (bY rfl (aLd i))) (cs (eL (bY rfl (aLe i))) (cs (fP (cT (cH (v0_ (Cn.noL _)) rfl (fZ _ _ _ a.noL)) (v1_ (aZ _)) (v2_ hn) c1)) (cs (fP (cT (cH (v0_ (Cn.noL _)) rfl (uG _ _ _ _ b.noL)) (v1_ (aZ _)) (v2_ hn) c2)) (eI (aEJ (bY rfl (aGS i)) ?_))))))))
  cases i <;> rfl
 | .nt x,n,w=>by
  have c1:=kJ hV hF ha hb hn hbd x n w
  have e:n+Cn.sz (.nt x)=n+x.sz+1:=by show n+(1+x.sz)=_;omega
  rw[e]
  refine aU (F:=oG v f) hF rfl (v:=.cl (.bl (Cn.hold ah be (.nt x)))) ?_
  exact cs (fP (cH (v0_ (Cn.noL _)) rfl (eA _ _ rfl))) (cs (eL (bY rfl aJt)) (fQ (bY rfl aJu) (eI (aJg (cT (cH (v0_ (Cn.noL _)) rfl (fZ _ _ _ x.noL)) (v1_ (aZ _)) (v2_ hn) c1)))))
 | .two p a b,n,w=>by
  obtain⟨w1,w2⟩:a.wf c pl/\b.wf c pl:=w
  have c1:=kJ hV hF ha hb hn hbd a (n+b.sz) w1
  have c2:=kJ hV hF ha hb hn hbd b (n+a.sz) w2
  rw[show n+b.sz+a.sz=n+a.sz+b.sz by omega] at c1
  have e:n+Cn.sz (.two p a b)=n+a.sz+b.sz+1:=by show n+(1+a.sz+b.sz)=_;omega
  rw[e]
  refine aU (F:=oG v f) hF rfl (v:=.cl (.bl (Cn.hold ah be (.two p a b)))) ?_
  refine cs (fP (cH (v0_ (Cn.noL _)) rfl (eA _ _ rfl))) (cs (eL (bY rfl (aJx p))) (cs (eL (bY rfl (aJy p))) ?_))
  cases p with
  | true=>exact fQ (bY rfl (aEc true)) (eI (aJh (cT (cH (v0_ (Cn.noL _)) rfl (fZ _ _ _ a.noL)) (v1_ (aZ _)) (v2_ hn) c1) (cT (cH (v0_ (Cn.noL _)) rfl (uG _ _ _ _ b.noL)) (v1_ (aZ _)) (v2_ hn) c2)))
  | false=>exact cs (eL (bY rfl (aEc false))) (fQ (bY rfl (aLf false)) (eI (aEK (cT (cH (v0_ (Cn.noL _)) rfl (fZ _ _ _ a.noL)) (v1_ (aZ _)) (v2_ hn) c1) (cT (cH (v0_ (Cn.noL _)) rfl (uG _ _ _ _ b.noL)) (v1_ (aZ _)) (v2_ hn) c2))))
end HpS
end
noncomputable section
namespace K24
open Hp
def f0:Hp.Fn:=⟨3,6,
 (.cons (.set (.n 3) (.idx (.v 0) (.c (.int 0))))
 (.cons (.iff (.cmp .Eq (.v 3) (.c (.str "number")))
  (.cons (.ret (.idx (.v 0) (.c (.int 1))))
  .nil)
  .nil)
 (.cons (.iff (.cmp .Eq (.v 3) (.c (.str "box")))
  (.cons (.ret (.idx (.v 1) (.idx (.v 0) (.c (.int 1)))))
  .nil)
  .nil)
 (.cons (.iff (.cmp .Eq (.v 3) (.c (.str "after")))
  (.cons (.ret (.idx (.v 2) (.idx (.v 0) (.c (.int 1)))))
  .nil)
  .nil)
 (.cons (.set (.n 4) (.call 0 (.cons (.idx (.v 0) (.c (.int 1))) (.cons (.v 1) (.cons (.v 2) .nil)))))
 (.cons (.set (.n 5) (.call 0 (.cons (.idx (.v 0) (.c (.int 2))) (.cons (.v 1) (.cons (.v 2) .nil)))))
 (.cons (.ret (.ife (.cmp .Eq (.v 3) (.c (.str "plus"))) (.op .Add (.v 4) (.v 5)) (.op .Sub (.v 4) (.v 5))))
 .nil)))))))⟩
def f1:Hp.Fn:=⟨3,6,
 (.cons (.set (.n 3) (.idx (.v 0) (.c (.int 0))))
 (.cons (.iff (.cmp .Eq (.v 3) (.c (.str "yes")))
  (.cons (.ret (.c (.bl true)))
  .nil)
  .nil)
 (.cons (.iff (.cmp .Eq (.v 3) (.c (.str "not")))
  (.cons (.ret (.nt (.call 1 (.cons (.idx (.v 0) (.c (.int 1))) (.cons (.v 1) (.cons (.v 2) .nil))))))
  .nil)
  .nil)
 (.cons (.iff (.cmp .Eq (.v 3) (.c (.str "both")))
  (.cons (.ret (.an (.call 1 (.cons (.idx (.v 0) (.c (.int 1))) (.cons (.v 1) (.cons (.v 2) .nil)))) (.call 1 (.cons (.idx (.v 0) (.c (.int 2))) (.cons (.v 1) (.cons (.v 2) .nil))))))
  .nil)
  .nil)
 (.cons (.iff (.cmp .Eq (.v 3) (.c (.str "either")))
  (.cons (.ret (.orr (.call 1 (.cons (.idx (.v 0) (.c (.int 1))) (.cons (.v 1) (.cons (.v 2) .nil)))) (.call 1 (.cons (.idx (.v 0) (.c (.int 2))) (.cons (.v 1) (.cons (.v 2) .nil))))))
  .nil)
  .nil)
 (.cons (.set (.n 4) (.call 0 (.cons (.idx (.v 0) (.c (.int 1))) (.cons (.v 1) (.cons (.v 2) .nil)))))
 (.cons (.set (.n 5) (.call 0 (.cons (.idx (.v 0) (.c (.int 2))) (.cons (.v 1) (.cons (.v 2) .nil)))))
 (.cons (.ret (.ife (.cmp .Eq (.v 3) (.c (.str "is"))) (.cmp .Eq (.v 4) (.v 5)) (.cmp .Lt (.v 4) (.v 5))))
 .nil))))))))⟩
def f2:Hp.Fn:=⟨3,7,
 (.cons (.iff (.nt (.call 1 (.cons (.idx (.v 1) (.c (.int 0))) (.cons (.v 2) (.cons (.c .non) .nil)))))
  (.cons (.ret (.c .non))
  .nil)
  .nil)
 (.cons (.set (.n 3) (.bi .list (.cons (.v 2) .nil)))
 (.cons (.for (.t [4,5]) (.seq (.idx (.v 1) (.c (.int 1))))
  (.cons (.set (.n 6) (.call 0 (.cons (.v 5) (.cons (.v 2) (.cons (.c .non) .nil)))))
  (.cons (.iff (.nt (.cmp2 .LtE .LtE (.c (.int 0)) (.v 6) (.idx (.idx (.v 0) (.v 4)) (.c (.int 1)))))
   (.cons (.ret (.c .non))
   .nil)
   .nil)
  (.cons (.setIx 3 (.v 4) (.v 6))
  .nil))))
 (.cons (.ret (.bi .tuple (.cons (.v 3) .nil)))
 .nil))))⟩
def f3:Hp.Fn:=⟨2,2,
 (.cons (.ret (.ife (.cmp2 .LtE .Lt (.c (.int 0)) (.v 1) (.bi .len (.cons (.v 0) .nil))) (.idx (.v 0) (.v 1)) (.lst .nil)))
 .nil)⟩
def f4:Hp.Fn:=⟨3,9,
 (.cons (.set (.n 3) (.idx (.v 2) (.c (.int 0))))
 (.cons (.iff (.nt (.cmp2 .LtE .Lt (.c (.int 0)) (.v 3) (.bi .len (.cons (.idx (.v 0) (.c (.int 2))) .nil))))
  (.cons (.ret (.c .non))
  .nil)
  .nil)
 (.cons (.set (.n 4) (.idx (.v 1) (.c (.int 0))))
 (.cons (.set (.n 5) (.idx (.v 1) (.c (.int 1))))
 (.cons (.set (.n 6) (.call 3 (.cons (.idx (.idx (.v 0) (.c (.int 2))) (.v 3)) (.cons (.idx (.v 5) (.v 3)) .nil))))
 (.cons (.iff (.nt (.cmp2 .LtE .Lt (.c (.int 0)) (.idx (.v 2) (.c (.int 1))) (.bi .len (.cons (.v 6) .nil))))
  (.cons (.ret (.c .non))
  .nil)
  .nil)
 (.cons (.set (.n 7) (.idx (.v 6) (.idx (.v 2) (.c (.int 1)))))
 (.cons (.set (.n 8) (.call 2 (.cons (.idx (.v 0) (.c (.int 0))) (.cons (.v 7) (.cons (.v 4) .nil)))))
 (.cons (.iff (.cmp .Is (.v 8) (.c .non))
  (.cons (.ret (.c .non))
  .nil)
  .nil)
 (.cons (.ret (.tup (.cons (.v 8) (.cons (.op .Add (.op .Add (.sli (.v 5) .nil (.cons (.v 3) .nil)) (.tup (.cons (.idx (.v 7) (.c (.int 2))) .nil))) (.sli (.v 5) (.cons (.op .Add (.v 3) (.c (.int 1))) .nil) .nil)) .nil))))
 .nil))))))))))⟩
def f5:Hp.Fn:=⟨2,2,
 (.cons (.iff (.cmp .Lt (.v 1) (.bi .len (.cons (.v 0) .nil)))
  (.cons (.ret (.idx (.v 0) (.v 1)))
  .nil)
  .nil)
 (.cons (.ret (.op .Add (.op .Mult (.op .Mult (.c (.int 71)) (.v 1)) (.v 1)) (.op .Mult (.c (.int 7)) (.v 1))))
 .nil))⟩
def f6:Hp.Fn:=⟨1,6,
 (.cons (.set (.n 1) (.lst (.cons (.tup .nil) .nil)))
 (.cons (.for (.t [2,3]) (.seq (.v 0))
  (.cons (.set (.n 4) (.lst .nil))
  (.cons (.for (.n 5) (.seq (.v 1))
   (.cons (.ext 4 (.comp 1 [5] (.n 0) (.rng (.c (.int 0)) (.op .Add (.v 3) (.c (.int 1)))) .nil (.op .Add (.v 1) (.tup (.cons (.v 0) .nil)))))
   .nil))
  (.cons (.mov 1 4)
  .nil))))
 (.cons (.retv 1)
 .nil)))⟩
def f7:Hp.Fn:=⟨2,2,
 (.cons (.ret (.op .Mod (.op .Mult (.op .Add (.op .Mod (.v 0) (.c (.int 99991))) (.c (.int 1))) (.op .Add (.c (.int 48271)) (.op .Mult (.op .Mult (.c (.int 2018)) (.v 1)) (.v 1)))) (.c (.int 65521))))
 .nil)⟩
def f8:Hp.Fn:=⟨2,7,
 (.cons (.set (.n 2) (.lst (.cons (.tup (.cons (.c (.int 1)) .nil)) (.cons (.tup (.cons (.c (.int 2)) .nil)) (.cons (.tup (.cons (.c (.int 1)) (.cons (.c (.int 1)) .nil))) (.cons (.tup (.cons (.c (.int 3)) .nil)) (.cons (.tup (.cons (.c (.int 2)) (.cons (.c (.int 1)) .nil))) (.cons (.tup (.cons (.c (.int 5)) .nil)) (.cons (.tup (.cons (.c (.int 1)) (.cons (.c (.int 2)) .nil))) (.cons (.tup (.cons (.c (.int 1)) (.cons (.c (.int 1)) (.cons (.c (.int 1)) .nil)))) (.cons (.tup (.cons (.c (.int 2)) (.cons (.c (.int 2)) .nil))) (.cons (.tup (.cons (.c (.int 3)) (.cons (.c (.int 1)) .nil))) (.cons (.tup (.cons (.c (.int 7)) .nil)) (.cons (.tup (.cons (.c (.int 2)) (.cons (.c (.int 1)) (.cons (.c (.int 1)) .nil)))) (.cons (.tup (.cons (.c (.int 3)) (.cons (.c (.int 2)) .nil))) .nil)))))))))))))))
 (.cons (.set (.n 2) (.op .Add (.v 2) (.lst (.cons (.tup (.cons (.c (.int 1)) (.cons (.c (.int 1)) (.cons (.c (.int 2)) .nil)))) (.cons (.tup (.cons (.c (.int 5)) (.cons (.c (.int 1)) .nil))) (.cons (.tup (.cons (.c (.int 2)) (.cons (.c (.int 3)) .nil))) (.cons (.tup (.cons (.c (.int 1)) (.cons (.c (.int 1)) (.cons (.c (.int 1)) (.cons (.c (.int 1)) .nil))))) (.cons (.tup (.cons (.c (.int 2)) (.cons (.c (.int 2)) (.cons (.c (.int 1)) .nil)))) (.cons (.tup (.cons (.c (.int 7)) (.cons (.c (.int 2)) .nil))) (.cons (.tup (.cons (.c (.int 5)) (.cons (.c (.int 3)) .nil))) (.cons (.tup (.cons (.c (.int 1)) (.cons (.c (.int 1)) (.cons (.c (.int 1)) (.cons (.c (.int 2)) .nil))))) .nil)))))))))))
 (.cons (.set (.n 3) (.idx (.v 2) (.op .Mod (.call 7 (.cons (.v 0) (.cons (.c (.int 0)) .nil))) (.v 1))))
 (.cons (.set (.n 4) (.c (.str "abcdefghijklmnopqrstuvwxyz")))
 (.cons (.set (.n 5) (.mth .join (.c (.str "")) (.cons (.comp 1 [0,4] (.n 0) (.rng (.c (.int 1)) (.op .Add (.c (.int 1)) (.op .Mod (.call 7 (.cons (.v 0) (.cons (.c (.int 20)) .nil))) (.c (.int 8))))) .nil (.idx (.v 2) (.op .Mod (.call 7 (.cons (.v 1) (.cons (.v 0) .nil))) (.c (.int 26))))) .nil)))
 (.cons (.set (.n 6) (.op .Mod (.call 7 (.cons (.v 0) (.cons (.c (.int 21)) .nil))) (.op .Add (.bi .len (.cons (.v 5) .nil)) (.c (.int 1)))))
 (.cons (.ret (.comp 2 [0,4,5,6] (.t [0,1]) (.enum (.v 3)) .nil (.tup (.cons (.op .Add (.op .Add (.sli (.v 4) .nil (.cons (.v 5) .nil)) (.idx (.v 3) (.op .Mod (.op .Add (.op .Mult (.c (.int 3)) (.v 0)) (.v 2)) (.c (.int 26))))) (.sli (.v 4) (.cons (.v 5) .nil) .nil)) (.cons (.v 1) .nil)))))
 .nil)))))))⟩
def f9:Hp.Fn:=⟨5,7,
 (.cons (.set (.n 5) (.op .Mod (.call 7 (.cons (.v 0) (.cons (.v 1) .nil))) (.c (.int 7))))
 (.cons (.iff (.an (.cmp .Gt (.v 4) (.c (.int 0))) (.cmp .Gt (.v 5) (.c (.int 3))))
  (.cons (.set (.n 6) (.call 9 (.cons (.v 0) (.cons (.op .Add (.v 1) (.c (.int 3))) (.cons (.v 2) (.cons (.v 3) (.cons (.op .Sub (.v 4) (.c (.int 1))) .nil)))))))
  (.cons (.ret (.tup (.cons (.idx (.lst (.cons (.c (.str "plus")) (.cons (.c (.str "minus")) .nil))) (.op .Mod (.v 5) (.c (.int 2)))) (.cons (.v 6) (.cons (.call 9 (.cons (.v 0) (.cons (.op .Add (.v 1) (.c (.int 7))) (.cons (.v 2) (.cons (.v 3) (.cons (.op .Sub (.v 4) (.c (.int 1))) .nil)))))) .nil)))))
  .nil))
  .nil)
 (.cons (.iff (.cmp .Eq (.v 5) (.c (.int 0)))
  (.cons (.ret (.tup (.cons (.c (.str "number")) (.cons (.op .Mod (.call 7 (.cons (.v 0) (.cons (.op .Add (.v 1) (.c (.int 1))) .nil))) (.idx (.lst (.cons (.c (.int 3)) (.cons (.c (.int 9)) (.cons (.c (.int 100)) .nil)))) (.op .Mod (.call 7 (.cons (.v 0) (.cons (.op .Add (.v 1) (.c (.int 2))) .nil))) (.c (.int 3))))) .nil))))
  .nil)
  .nil)
 (.cons (.ret (.tup (.cons (.idx (.lst (.cons (.c (.str "box")) (.cons (.c (.str "after")) .nil))) (.bi .int (.cons (.an (.v 3) (.cmp .Eq (.op .Mod (.v 5) (.c (.int 2))) (.c (.int 1)))) .nil))) (.cons (.op .Mod (.call 7 (.cons (.v 0) (.cons (.op .Add (.v 1) (.c (.int 1))) .nil))) (.v 2)) .nil))))
 .nil))))⟩
def f10:Hp.Fn:=⟨5,7,
 (.cons (.set (.n 5) (.op .Mod (.call 7 (.cons (.v 0) (.cons (.v 1) .nil))) (.c (.int 9))))
 (.cons (.iff (.cmp .Eq (.v 5) (.c (.int 0)))
  (.cons (.ret (.tup (.cons (.c (.str "yes")) .nil)))
  .nil)
  .nil)
 (.cons (.iff (.an (.cmp .Gt (.v 4) (.c (.int 0))) (.cmp .Gt (.v 5) (.c (.int 5))))
  (.cons (.set (.n 6) (.call 10 (.cons (.v 0) (.cons (.op .Add (.v 1) (.c (.int 9))) (.cons (.v 2) (.cons (.v 3) (.cons (.op .Sub (.v 4) (.c (.int 1))) .nil)))))))
  (.cons (.iff (.cmp .Eq (.v 5) (.c (.int 6)))
   (.cons (.ret (.tup (.cons (.c (.str "not")) (.cons (.v 6) .nil))))
   .nil)
   .nil)
  (.cons (.ret (.tup (.cons (.idx (.lst (.cons (.c (.str "both")) (.cons (.c (.str "either")) .nil))) (.op .Sub (.v 5) (.c (.int 7)))) (.cons (.v 6) (.cons (.call 10 (.cons (.v 0) (.cons (.op .Add (.v 1) (.c (.int 23))) (.cons (.v 2) (.cons (.v 3) (.cons (.op .Sub (.v 4) (.c (.int 1))) .nil)))))) .nil)))))
  .nil)))
  .nil)
 (.cons (.set (.n 6) (.call 9 (.cons (.v 0) (.cons (.op .Add (.v 1) (.c (.int 1))) (.cons (.v 2) (.cons (.v 3) (.cons (.c (.int 1)) .nil)))))))
 (.cons (.ret (.tup (.cons (.idx (.lst (.cons (.c (.str "is")) (.cons (.c (.str "less")) .nil))) (.op .Mod (.v 5) (.c (.int 2)))) (.cons (.v 6) (.cons (.call 9 (.cons (.v 0) (.cons (.op .Add (.v 1) (.c (.int 4))) (.cons (.v 2) (.cons (.v 3) (.cons (.c (.int 1)) .nil)))))) .nil)))))
 .nil)))))⟩
def f11:Hp.Fn:=⟨3,8,
 (.cons (.set (.n 3) (.lst .nil))
 (.cons (.for (.n 4) (.rng (.c (.int 0)) (.v 1))
  (.cons (.set (.n 5) (.op .Mod (.call 7 (.cons (.v 0) (.cons (.op .Add (.c (.int 40)) (.v 4)) .nil))) (.c (.int 6))))
  (.cons (.set (.n 6) (.lst (.cons (.tup (.cons (.c (.str "plus")) (.cons (.tup (.cons (.c (.str "box")) (.cons (.v 4) .nil))) (.cons (.tup (.cons (.c (.str "number")) (.cons (.c (.int 1)) .nil))) .nil)))) (.cons (.tup (.cons (.c (.str "minus")) (.cons (.tup (.cons (.c (.str "box")) (.cons (.v 4) .nil))) (.cons (.tup (.cons (.c (.str "number")) (.cons (.c (.int 1)) .nil))) .nil)))) .nil))))
  (.cons (.app 6 (.call 9 (.cons (.v 0) (.cons (.op .Add (.c (.int 50)) (.op .Mult (.c (.int 9)) (.v 4))) (.cons (.v 1) (.cons (.c (.bl false)) (.cons (.c (.int 1)) .nil)))))))
  (.cons (.iff (.cmp .Lt (.v 5) (.c (.int 3)))
   (.cons (.app 3 (.tup (.cons (.v 4) (.cons (.idx (.v 6) (.v 5)) .nil))))
   .nil)
   .nil)
  .nil)))))
 (.cons (.set (.n 7) (.tup (.cons (.c (.str "yes")) .nil)))
 (.cons (.iff (.cmp .Eq (.op .Mod (.call 7 (.cons (.v 0) (.cons (.c (.int 30)) .nil))) (.c (.int 2))) (.c (.int 1)))
  (.cons (.set (.n 7) (.call 10 (.cons (.v 0) (.cons (.c (.int 10)) (.cons (.v 1) (.cons (.c (.bl false)) (.cons (.c (.int 1)) .nil)))))))
  .nil)
  .nil)
 (.cons (.ret (.tup (.cons (.v 7) (.cons (.bi .tuple (.cons (.v 3) .nil)) (.cons (.op .Mod (.call 7 (.cons (.v 0) (.cons (.c (.int 31)) .nil))) (.v 2)) .nil)))))
 .nil)))))⟩
def f12:Hp.Fn:=⟨3,8,
 (.cons (.set (.n 3) (.op .Mod (.call 7 (.cons (.call 5 (.cons (.v 0) (.cons (.v 1) .nil))) (.cons (.c (.int 1)) .nil))) (.c (.int 4))))
 (.cons (.set (.n 4) (.lst .nil))
 (.cons (.for (.n 5) (.rng (.c (.int 0)) (.v 3))
  (.cons (.set (.n 6) (.lst (.cons (.call 5 (.cons (.v 0) (.cons (.op .Add (.op .Add (.v 1) (.c (.int 1))) (.op .Mult (.c (.int 2)) (.v 5))) .nil))) (.cons (.call 5 (.cons (.v 0) (.cons (.op .Add (.op .Add (.v 1) (.c (.int 2))) (.op .Mult (.c (.int 2)) (.v 5))) .nil))) .nil))))
  (.cons (.set (.n 6) (.op .Add (.v 6) (.lst (.cons (.op .Add (.op .FloorDiv (.idx (.v 6) (.c (.int 0))) (.c (.int 3))) (.idx (.v 6) (.c (.int 1)))) (.cons (.op .Add (.op .FloorDiv (.idx (.v 6) (.c (.int 1))) (.c (.int 3))) (.idx (.v 6) (.c (.int 0)))) .nil)))))
  (.cons (.set (.n 7) (.comp 1 [2,3] (.n 0) (.seq (.v 6)) .nil (.call 11 (.cons (.v 0) (.cons (.v 1) (.cons (.op .Add (.v 2) (.c (.int 1))) .nil))))))
  (.cons (.app 4 (.sli (.v 7) .nil (.cons (.op .Add (.c (.int 1)) (.op .Mod (.call 7 (.cons (.idx (.v 6) (.c (.int 0))) (.cons (.c (.int 32)) .nil))) (.c (.int 4)))) .nil)))
  .nil)))))
 (.cons (.retv 4)
 .nil))))⟩
def f13:Hp.Fn:=⟨2,4,
 (.cons (.set (.n 2) (.op .Mod (.call 7 (.cons (.v 0) (.cons (.c (.int 3)) .nil))) (.c (.int 5))))
 (.cons (.set (.n 3) (.op .Mod (.call 7 (.cons (.v 0) (.cons (.c (.int 4)) .nil))) (.v 1)))
 (.cons (.iff (.cmp .Eq (.v 2) (.c (.int 0)))
  (.cons (.ret (.tup (.cons (.c (.str "is")) (.cons (.tup (.cons (.c (.str "after")) (.cons (.v 3) .nil))) (.cons (.tup (.cons (.c (.str "box")) (.cons (.v 3) .nil))) .nil)))))
  .nil)
  .nil)
 (.cons (.iff (.cmp .Eq (.v 2) (.c (.int 1)))
  (.cons (.ret (.tup (.cons (.c (.str "not")) (.cons (.tup (.cons (.c (.str "less")) (.cons (.tup (.cons (.c (.str "after")) (.cons (.v 3) .nil))) (.cons (.tup (.cons (.c (.str "box")) (.cons (.v 3) .nil))) .nil)))) .nil))))
  .nil)
  .nil)
 (.cons (.iff (.cmp .Eq (.v 2) (.c (.int 2)))
  (.cons (.ret (.tup (.cons (.c (.str "yes")) .nil)))
  .nil)
  .nil)
 (.cons (.ret (.call 10 (.cons (.v 0) (.cons (.c (.int 5)) (.cons (.v 1) (.cons (.c (.bl true)) (.cons (.c (.int 1)) .nil)))))))
 .nil))))))⟩
def f14:Hp.Fn:=⟨2,14,
 (.cons (.set (.n 2) (.bi .int (.cons (.cmp .Eq (.op .Mod (.op .FloorDiv (.call 5 (.cons (.v 0) (.cons (.c (.int 0)) .nil))) (.c (.int 9))) (.c (.int 8))) (.c (.int 5))) .nil)))
 (.cons (.set (.n 3) (.call 8 (.cons (.call 5 (.cons (.v 0) (.cons (.c (.int 0)) .nil))) (.cons (.op .Add (.v 1) (.op .Mult (.c (.int 5)) (.v 2))) .nil))))
 (.cons (.set (.n 4) (.bi .len (.cons (.v 3) .nil)))
 (.cons (.set (.n 5) (.call 10 (.cons (.call 5 (.cons (.v 0) (.cons (.c (.int 1)) .nil))) (.cons (.c (.int 1)) (.cons (.v 4) (.cons (.c (.bl false)) (.cons (.c (.int 1)) .nil)))))))
 (.cons (.iff (.cmp .Eq (.op .Mod (.call 7 (.cons (.call 5 (.cons (.v 0) (.cons (.c (.int 1)) .nil))) (.cons (.c (.int 60)) .nil))) (.c (.int 2))) (.c (.int 1)))
  (.cons (.set (.n 5) (.tup (.cons (.c (.str "is")) (.cons (.tup (.cons (.c (.str "box")) (.cons (.c (.int 0)) .nil))) (.cons (.tup (.cons (.c (.str "number")) (.cons (.c (.int 0)) .nil))) .nil)))))
  .nil)
  .nil)
 (.cons (.set (.n 6) (.lst .nil))
 (.cons (.set (.n 7) (.lst .nil))
 (.cons (.set (.n 8) (.lst .nil))
 (.cons (.for (.n 9) (.rng (.c (.int 0)) (.op .Add (.c (.int 1)) (.op .Mod (.call 7 (.cons (.call 5 (.cons (.v 0) (.cons (.c (.int 2)) .nil))) (.cons (.c (.int 2)) .nil))) (.op .Sub (.c (.int 3)) (.v 2)))))
  (.cons (.set (.n 10) (.op .Add (.c (.int 3)) (.op .Mult (.c (.int 9)) (.v 9))))
  (.cons (.app 6 (.call 12 (.cons (.v 0) (.cons (.v 10) (.cons (.v 4) .nil)))))
  (.cons (.app 7 (.call 13 (.cons (.call 5 (.cons (.v 0) (.cons (.op .Add (.v 10) (.c (.int 7))) .nil))) (.cons (.v 4) .nil))))
  (.cons (.set (.n 11) (.call 5 (.cons (.v 0) (.cons (.op .Add (.v 10) (.c (.int 8))) .nil))))
  (.cons (.set (.n 12) (.lst .nil))
  (.cons (.for (.n 13) (.rng (.c (.int 0)) (.op .Add (.bi .len (.cons (.idx (.v 6) (.v 9)) .nil)) (.c (.int 1))))
   (.cons (.app 12 (.idx (.lst (.cons (.tup (.cons (.c (.str "yes")) .nil)) (.cons (.call 10 (.cons (.v 11) (.cons (.op .Mult (.c (.int 7)) (.v 13)) (.cons (.v 4) (.cons (.c (.bl false)) (.cons (.c (.int 0)) .nil)))))) .nil))) (.op .Mod (.call 7 (.cons (.v 11) (.cons (.v 13) .nil))) (.c (.int 2)))))
   .nil))
  (.cons (.app 8 (.v 12))
  .nil))))))))
 (.cons (.ret (.tup (.cons (.v 3) (.cons (.v 5) (.cons (.v 6) (.cons (.v 7) (.cons (.v 8) .nil)))))))
 .nil))))))))))⟩
def f15:Hp.Fn:=⟨3,4,
 (.cons (.iff (.cmp .Eq (.idx (.v 0) (.c (.int 0))) (.c (.str "number")))
  (.cons (.ret (.idx (.v 0) (.c (.int 1))))
  .nil)
  .nil)
 (.cons (.iff (.cmp .Eq (.idx (.v 0) (.c (.int 0))) (.c (.str "box")))
  (.cons (.ret (.idx (.v 1) (.idx (.v 0) (.c (.int 1)))))
  .nil)
  .nil)
 (.cons (.iff (.cmp .Eq (.idx (.v 0) (.c (.int 0))) (.c (.str "after")))
  (.cons (.ret (.idx (.v 2) (.idx (.v 0) (.c (.int 1)))))
  .nil)
  .nil)
 (.cons (.set (.n 3) (.call 15 (.cons (.idx (.v 0) (.c (.int 1))) (.cons (.v 1) (.cons (.v 2) .nil)))))
 (.cons (.ret (.op .Add (.v 3) (.op .Mult (.op .Sub (.c (.int 1)) (.op .Mult (.c (.int 2)) (.bi .int (.cons (.cmp .Eq (.idx (.v 0) (.c (.int 0))) (.c (.str "minus"))) .nil)))) (.call 15 (.cons (.idx (.v 0) (.c (.int 2))) (.cons (.v 1) (.cons (.v 2) .nil)))))))
 .nil)))))⟩
def f16:Hp.Fn:=⟨3,5,
 (.cons (.iff (.cmp .Eq (.idx (.v 0) (.c (.int 0))) (.c (.str "yes")))
  (.cons (.ret (.c (.bl true)))
  .nil)
  .nil)
 (.cons (.iff (.cmp .Eq (.idx (.v 0) (.c (.int 0))) (.c (.str "not")))
  (.cons (.ret (.nt (.call 16 (.cons (.idx (.v 0) (.c (.int 1))) (.cons (.v 1) (.cons (.v 2) .nil))))))
  .nil)
  .nil)
 (.cons (.iff (.cmp .Eq (.idx (.v 0) (.c (.int 0))) (.c (.str "is")))
  (.cons (.ret (.cmp .Eq (.call 15 (.cons (.idx (.v 0) (.c (.int 1))) (.cons (.v 1) (.cons (.v 2) .nil)))) (.call 15 (.cons (.idx (.v 0) (.c (.int 2))) (.cons (.v 1) (.cons (.v 2) .nil))))))
  .nil)
  .nil)
 (.cons (.iff (.cmp .Eq (.idx (.v 0) (.c (.int 0))) (.c (.str "less")))
  (.cons (.ret (.cmp .Lt (.call 15 (.cons (.idx (.v 0) (.c (.int 1))) (.cons (.v 1) (.cons (.v 2) .nil)))) (.call 15 (.cons (.idx (.v 0) (.c (.int 2))) (.cons (.v 1) (.cons (.v 2) .nil))))))
  .nil)
  .nil)
 (.cons (.set (.n 3) (.call 16 (.cons (.idx (.v 0) (.c (.int 1))) (.cons (.v 1) (.cons (.v 2) .nil)))))
 (.cons (.set (.n 4) (.call 16 (.cons (.idx (.v 0) (.c (.int 2))) (.cons (.v 1) (.cons (.v 2) .nil)))))
 (.cons (.iff (.cmp .Eq (.idx (.v 0) (.c (.int 0))) (.c (.str "both")))
  (.cons (.ret (.an (.v 3) (.v 4)))
  .nil)
  .nil)
 (.cons (.ret (.orr (.v 3) (.v 4)))
 .nil))))))))⟩
def f17:Hp.Fn:=⟨1,1,
 (.cons (.ret (.comp 2 [0] (.t [0,1]) (.enum (.call 23 (.cons (.v 0) .nil))) (.cons (.call 26 (.cons (.v 2) (.cons (.idx (.v 1) (.c (.int 0))) .nil))) .nil) (.v 0)))
 .nil)⟩
def f18:Hp.Fn:=⟨3,12,
 (.cons (.set (.t [3,4]) (.v 1))
 (.cons (.iff (.nt (.cmp2 .LtE .Lt (.c (.int 0)) (.idx (.v 2) (.c (.int 0))) (.bi .len (.cons (.v 4) .nil))))
  (.cons (.ret (.c .non))
  .nil)
  .nil)
 (.cons (.set (.n 5) (.idx (.idx (.v 0) (.c (.int 2))) (.idx (.v 2) (.c (.int 0)))))
 (.cons (.iff (.orr (.cmp .GtE (.idx (.v 4) (.idx (.v 2) (.c (.int 0)))) (.bi .len (.cons (.v 5) .nil))) (.nt (.cmp2 .LtE .Lt (.c (.int 0)) (.idx (.v 2) (.c (.int 1))) (.bi .len (.cons (.idx (.v 5) (.idx (.v 4) (.idx (.v 2) (.c (.int 0))))) .nil)))))
  (.cons (.ret (.c .non))
  .nil)
  .nil)
 (.cons (.set (.t [6,7,8]) (.idx (.idx (.v 5) (.idx (.v 4) (.idx (.v 2) (.c (.int 0))))) (.idx (.v 2) (.c (.int 1)))))
 (.cons (.iff (.nt (.call 16 (.cons (.v 6) (.cons (.v 3) (.cons (.c .non) .nil)))))
  (.cons (.ret (.c .non))
  .nil)
  .nil)
 (.cons (.set (.n 9) (.bi .list (.cons (.v 3) .nil)))
 (.cons (.for (.t [10,11]) (.seq (.v 7))
  (.cons (.setIx 9 (.v 10) (.call 15 (.cons (.v 11) (.cons (.v 3) (.cons (.c .non) .nil)))))
  (.cons (.iff (.nt (.cmp2 .LtE .LtE (.c (.int 0)) (.idx (.v 9) (.v 10)) (.idx (.idx (.idx (.v 0) (.c (.int 0))) (.v 10)) (.c (.int 1)))))
   (.cons (.ret (.c .non))
   .nil)
   .nil)
  .nil)))
 (.cons (.ret (.tup (.cons (.bi .tuple (.cons (.v 9) .nil)) (.cons (.op .Add (.op .Add (.sli (.v 4) .nil (.cons (.idx (.v 2) (.c (.int 0))) .nil)) (.tup (.cons (.v 8) .nil))) (.sli (.v 4) (.cons (.op .Add (.idx (.v 2) (.c (.int 0))) (.c (.int 1))) .nil) .nil)) .nil))))
 .nil)))))))))⟩
def f19:Hp.Fn:=⟨1,8,
 (.cons (.set (.n 1) (.call 14 (.cons (.v 0) (.cons (.c (.int 16)) .nil))))
 (.cons (.set (.n 2) (.bi .tuple (.cons (.comp 1 [] (.n 0) (.seq (.idx (.v 1) (.c (.int 2)))) .nil (.bi .len (.cons (.v 0) .nil))) .nil)))
 (.cons (.set (.n 3) (.lst .nil))
 (.cons (.set (.n 4) (.lst .nil))
 (.cons (.for (.t [5,6]) (.enum (.call 23 (.cons (.v 1) .nil)))
  (.cons (.iff (.cmp .Eq (.idx (.idx (.v 6) (.c (.int 0))) (.c (.int 1))) (.v 2))
   (.cons (.app 3 (.v 5))
   .nil)
   (.cons (.iff (.call 28 (.cons (.v 1) (.cons (.idx (.v 6) (.c (.int 0))) .nil)))
    (.cons (.app 4 (.v 5))
    .nil)
    .nil)
   .nil))
  .nil))
 (.cons (.two 7 (.call 17 (.cons (.v 1) .nil)) (.call 25 (.cons (.v 1) .nil)))
 (.cons (.iff (.nt (.callP 20 7 (.cons (.lst (.cons (.v 3) (.cons (.v 4) .nil))) .nil)))
  (.cons (.ret (.c (.bl false)))
  .nil)
  .nil)
 (.cons (.appP 7 false (.c (.int 0)))
 (.cons (.clrP 7 true)
 (.cons (.ret (.an (.call 20 (.cons (.call 25 (.cons (.v 1) .nil)) (.cons (.v 4) .nil))) (.call 20 (.cons (.call 17 (.cons (.v 1) .nil)) (.cons (.v 3) .nil)))))
 .nil))))))))))⟩
def f20:Hp.Fn:=⟨2,3,
 (.cons (.iff (.cmp .Is (.v 1) (.c .non))
  (.cons (.ret (.cmp .Is (.v 0) (.c .non)))
  .nil)
  .nil)
 (.cons (.iff (.isi (.v 1) [.tInt])
  (.cons (.ret (.an (.isi (.v 0) [.tInt]) (.an (.nt (.isi (.v 0) [.tBool])) (.cmp .Eq (.v 0) (.v 1)))))
  .nil)
  .nil)
 (.cons (.iff (.isi (.v 1) [.tStr])
  (.cons (.ret (.an (.isi (.v 0) [.tStr]) (.cmp .Eq (.v 0) (.v 1))))
  .nil)
  .nil)
 (.cons (.iff (.an (.isi (.v 1) [.tTuple]) (.nt (.isi (.v 0) [.tTuple])))
  (.cons (.ret (.c (.bl false)))
  .nil)
  .nil)
 (.cons (.iff (.an (.isi (.v 1) [.tList]) (.nt (.isi (.v 0) [.tList])))
  (.cons (.ret (.c (.bl false)))
  .nil)
  .nil)
 (.cons (.iff (.cmp .NotEq (.bi .len (.cons (.v 0) .nil)) (.bi .len (.cons (.v 1) .nil)))
  (.cons (.ret (.c (.bl false)))
  .nil)
  .nil)
 (.cons (.for (.n 2) (.rng (.c (.int 0)) (.bi .len (.cons (.v 1) .nil)))
  (.cons (.iff (.nt (.call 20 (.cons (.idx (.v 0) (.v 2)) (.cons (.idx (.v 1) (.v 2)) .nil))))
   (.cons (.ret (.c (.bl false)))
   .nil)
   .nil)
  .nil))
 (.cons (.ret (.c (.bl true)))
 .nil))))))))⟩
def f21:Hp.Fn:=⟨2,2,
 (.cons (.ret (.comp 1 [1] (.n 0) (.seq (.call 6 (.cons (.v 0) .nil))) (.cons (.call 1 (.cons (.v 1) (.cons (.v 0) (.cons (.c .non) .nil)))) .nil) (.v 0)))
 .nil)⟩
def f22:Hp.Fn:=⟨2,2,
 (.cons (.ret (.tup (.cons (.v 1) (.cons (.bi .tuple (.cons (.comp 1 [] (.n 0) (.seq (.idx (.v 0) (.c (.int 2)))) .nil (.c (.int 0))) .nil)) .nil))))
 .nil)⟩
def f23:Hp.Fn:=⟨1,7,
 (.cons (.set (.n 1) (.lst .nil))
 (.cons (.dnew 2)
 (.cons (.for (.n 3) (.seq (.call 21 (.cons (.idx (.v 0) (.c (.int 0))) (.cons (.idx (.v 0) (.c (.int 1))) .nil))))
  (.cons (.set (.n 4) (.call 22 (.cons (.v 0) (.cons (.v 3) .nil))))
  (.cons (.dput 2 (.v 4))
  (.cons (.app 1 (.tup (.cons (.v 4) (.cons (.c .non) (.cons (.c .non) .nil)))))
  .nil))))
 (.cons (.set (.n 5) (.c (.int 0)))
 (.cons (.whl (.cmp .Lt (.v 5) (.bi .len (.cons (.v 1) .nil)))
  (.cons (.for (.t [6,4]) (.seq (.call 24 (.cons (.v 0) (.cons (.idx (.idx (.v 1) (.v 5)) (.c (.int 0))) .nil))))
   (.cons (.iff (.dnin (.v 4) 2)
    (.cons (.dput 2 (.v 4))
    (.cons (.app 1 (.tup (.cons (.v 4) (.cons (.v 5) (.cons (.v 6) .nil)))))
    .nil))
    .nil)
   .nil))
  (.cons (.set (.n 5) (.op .Add (.v 5) (.c (.int 1))))
  .nil)))
 (.cons (.retv 1)
 .nil))))))⟩
def f24:Hp.Fn:=⟨2,7,
 (.cons (.set (.n 2) (.lst .nil))
 (.cons (.for (.t [3,4]) (.enum (.idx (.v 0) (.c (.int 2))))
  (.cons (.for (.n 5) (.rng (.c (.int 0)) (.bi .len (.cons (.call 3 (.cons (.v 4) (.cons (.idx (.idx (.v 1) (.c (.int 1))) (.v 3)) .nil))) .nil)))
   (.cons (.set (.n 6) (.call 4 (.cons (.v 0) (.cons (.v 1) (.cons (.tup (.cons (.v 3) (.cons (.v 5) .nil))) .nil)))))
   (.cons (.iff (.cmp .IsNot (.v 6) (.c .non))
    (.cons (.app 2 (.tup (.cons (.tup (.cons (.v 3) (.cons (.v 5) .nil))) (.cons (.v 6) .nil))))
    .nil)
    .nil)
   .nil)))
  .nil))
 (.cons (.retv 2)
 .nil)))⟩
def f25:Hp.Fn:=⟨1,1,
 (.cons (.ret (.comp 2 [0] (.t [0,1]) (.enum (.call 23 (.cons (.v 0) .nil))) (.cons (.call 27 (.cons (.v 2) (.cons (.idx (.v 1) (.c (.int 0))) .nil))) .nil) (.v 0)))
 .nil)⟩
def f26:Hp.Fn:=⟨2,2,
 (.cons (.ret (.bi .all (.cons (.comp 2 [] (.t [0,1]) (.zip (.idx (.v 0) (.c (.int 2))) (.idx (.v 1) (.c (.int 1)))) .nil (.cmp .Eq (.v 1) (.bi .len (.cons (.v 0) .nil)))) .nil)))
 .nil)⟩
def f27:Hp.Fn:=⟨2,2,
 (.cons (.ret (.an (.nt (.call 26 (.cons (.v 0) (.cons (.v 1) .nil)))) (.cmp .Eq (.bi .len (.cons (.call 24 (.cons (.v 0) (.cons (.v 1) .nil))) .nil)) (.c (.int 0)))))
 .nil)⟩
def f28:Hp.Fn:=⟨2,4,
 (.cons (.for (.n 2) (.rng (.c (.int 0)) (.bi .len (.cons (.idx (.v 0) (.c (.int 2))) .nil)))
  (.cons (.for (.n 3) (.rng (.c (.int 0)) (.c (.int 4)))
   (.cons (.iff (.cmp .IsNot (.call 18 (.cons (.v 0) (.cons (.v 1) (.cons (.tup (.cons (.v 2) (.cons (.v 3) .nil))) .nil)))) (.c .non))
    (.cons (.ret (.c (.bl false)))
    .nil)
    .nil)
   .nil))
  .nil))
 (.cons (.ret (.c (.bl true)))
 .nil))⟩
def pg:Hp.Pg:=⟨[f0,f1,f2,f3,f4,f5,f6,f7,f8,f9,f10,f11,f12,f13,f14,f15,f16,f17,f18,f19,f20,f21,f22,f23,f24,f25,f26,f27,f28],[],[]⟩
end K24
end
noncomputable section
namespace K24
open Hp HpS PySem
def mix(c k:Int):Int:=(c % 99991+1)*(48271+2018*k*k) % 65521
theorem rW(c k:Int):0<=mix c k:=Int.emod_nonneg _ (by decide)
theorem dA(n:Nat)(c:Int){k:Int}(h0:0<=k)(h1:k<=1000):call pg (n+1) 7 [.int c,.int k]=.ok (.int (mix c k),false,false):=by
 have r0:0<=c % 99991:=Int.emod_nonneg _ (by decide)
 have r1:c % 99991<99991:=Int.emod_lt_of_pos _ (by decide)
 have m1:opD .Mult (.cl (.int 2018)) (.cl (.int k))=.ok (.cl (.int (2018*k))):=mul_int (by
  simp only[fF,Bool.or_eq_true,bA,decide_eq_true_eq];right;omega)
 have m2:opD .Mult (.cl (.int (2018*k))) (.cl (.int k))=.ok (.cl (.int (2018*k*k))):=mul_int (by
  simp only[fF,Bool.or_eq_true,bA,decide_eq_true_eq];right;omega)
 have m3:opD .Mult (.cl (.int (c % 99991+1))) (.cl (.int (48271+2018*k*k)))=.ok (.cl (.int ((c % 99991+1)*(48271+2018*k*k)))):=mul_int (by
  simp only[fF,Bool.or_eq_true,bA,decide_eq_true_eq];left;omega)
 have d1:∀i:Int,opD .Mod (.cl (.int i)) (.cl (.int 99991))=.ok (.cl (.int (i % 99991))):=λi=>rT (by decide)
 have d2:∀i:Int,opD .Mod (.cl (.int i)) (.cl (.int 65521))=.ok (.cl (.int (i % 65521))):=λi=>rT (by decide)
 refine aU (F:=f7) rfl rfl (v:=.cl (.int (mix c k))) ?_
 simp only[f7,mC,mN,List.cons_append,List.nil_append,aI,cC,cD,aO,bE,aL,gS,gZ,aP,aA,d1,add_int,m1,m2,m3,d2,aH,eD]
 rfl
def cellAt(ns:List Int)(k:Nat):Int:=if k<ns.length then ns.getD k 0 else 71*(k:Int)*k+7*k
theorem eE(n:Nat)(ns:List Int){k:Nat}(h:k<=1000):call pg (n+1) 5 [.lst (ns.map D.int),.int k]=.ok (.int (cellAt ns k),false,false):=by
 have m1:opD .Mult (.cl (.int 71)) (.cl (.int k))=.ok (.cl (.int (71*k))):=mul_int (by
  simp only[fF,Bool.or_eq_true,bA,decide_eq_true_eq];right;omega)
 have m2:opD .Mult (.cl (.int (71*k))) (.cl (.int k))=.ok (.cl (.int (71*k*k))):=mul_int (by
  simp only[fF,Bool.or_eq_true,bA,decide_eq_true_eq];right;omega)
 have m3:opD .Mult (.cl (.int 7)) (.cl (.int k))=.ok (.cl (.int (7*k))):=mul_int (by
  simp only[fF,Bool.or_eq_true,bA,decide_eq_true_eq];right;omega)
 have hl:((ns.map D.int).length:Int)=(ns.length:Int):=by simp
 refine aU (F:=f5) rfl rfl (v:=.cl (.int (cellAt ns k))) ?_
 unfold cellAt
 by_cases hk:k<ns.length
 . have i1:=yE (v:=⟨.lst (ns.map D.int),false,true,[]⟩) (is:=ns) rfl hk
   have hd:decide ((k:Int)<(ns.length:Int))=true:=decide_eq_true (by omega)
   simp only[f5,mC,mN,List.cons_append,List.nil_append,aI,bK,cA,cO,aB,aC,cC,bB,aO,bE,aL,gS,gZ,aP,cP,aA,cR,aV,hl,lI,hd,aH,if_true,i1,eD,hk]
 . have hd:decide ((k:Int)<(ns.length:Int))=false:=decide_eq_false (by omega)
   simp only[f5,mC,mN,List.cons_append,List.nil_append,aI,bT,bK,cA,cO,aB,aC,cC,cD,aO,bE,aL,gS,gZ,aP,cP,aA,cR,aV,hl,lI,hd,aH,bF,if_false,m1,m2,m3,add_int,fN,eD,hk]
theorem eJ(j:Int)(h:0<j):∀i:Int,opD .Mod (.cl (.int i)) (.cl (.int j))=.ok (.cl (.int (i % j))):=λi=>rT h
theorem aCi(i:Int):i % 2=0\/i % 2=1:=by omega
theorem yF{a b:Str}{v:Vl}(hv:v.d=.lst [.str a,.str b]){i:Int}(h:i=0\/i=1):bV v (.cl (.int i))=.ok (.cl (.str (if i=0 then a else b))):=by
 unfold bV
 rw[hv]
 rcases h with rfl|rfl <;> rfl
theorem aEd(a b:Str):jV [.cl (.str a),.cl (.str b)]=⟨.lst [.str a,.str b],true,false,[]⟩:=rfl
theorem aLg(a b c:Int):jV [.cl (.int a),.cl (.int b),.cl (.int c)]=⟨.lst [.int a,.int b,.int c],true,false,[]⟩:=rfl
theorem aJz{a b c:Int}{v:Vl}(hv:v.d=.lst [.int a,.int b,.int c]){i:Int}(h0:0<=i)(h:i<3):bV v (.cl (.int i))=.ok (.cl (.int (if i=0 then a else if i=1 then b else c))):=by
 unfold bV
 rw[hv]
 have:i=0\/i=1\/i=2:=by omega
 rcases this with rfl|rfl|rfl <;> rfl
theorem wP(b:Bool):biD .int [.cl (.bl b)]=.ok (.cl (.int (b2i b))):=rfl
theorem pC(a b:D):jD [.cl a,.cl b]=.cl (.tup [a,b]):=rfl
theorem aEe(a b c:D):jD [.cl a,.cl b,.cl c]=.cl (.tup [a,b,c]):=rfl
theorem uH{P:Pg}{cl:Caller}{σ:Sg}{a b:E}{x y:Bool}(h1:ev P cl σ a=.ok (.cl (.bl x)))(h2:ev P cl σ b=.ok (.cl (.bl y))):ev P cl σ (.an a b)=.ok (.cl (.bl (x&&y))):=by
 rw[aEI,h1]
 cases x with
 | true=>exact h2
 | false=>rfl
theorem oH(n:Nat)(c:Int){k:Int}(h0:0<=k)(h1:k<=900){m:Nat}(hm:1<=m)(af:Bool){dp:Int}(hd:dp<=0\/mix c k % 7<=3):∃s:Sm,s.wf m (!af)/\s.sz=1/\call pg (n+2) 9 [.int c,.int k,.int m,.bl af,.int dp]=.ok (s.d,false,false):=by
 have x0:=dA n c h0 (by omega)
 have x1:=dA n c (k:=k+1) (by omega) (by omega)
 have x2:=dA n c (k:=k+2) (by omega) (by omega)
 have n1:=rW c (k+1)
 have mm:=eJ (m:Int) (by omega)
 have ht:tst pg (call pg (n+1)) [.sh true (.int c),.sh true (.int k),.sh true (.int m),.sh true (.bl af),.sh true (.int dp),.sh false (.int (mix c k % 7)),.dead] (.an (.cmp .Gt (.v 4) (.c (.int 0))) (.cmp .Gt (.v 5) (.c (.int 3))))=.ok false:=by
  simp only[oA,cA,aO,bE,aL,gS,gZ,aP,aA,aV,oE]
  cases q:decide (0<dp) with
  | false=>rfl
  | true=>
   have q:=of_decide_eq_true q
   rw[if_pos rfl,decide_eq_false (by omega)]
 by_cases hz:mix c k % 7=0
 . have hz':(mix c k % 7==0)=true:=by rw[hz];rfl
   have p3:=aJz (a:=3) (b:=9) (c:=100) (v:=⟨.lst [.int 3,.int 9,.int 100],true,false,[]⟩) rfl (i:=mix c (k+2) % 3) (by omega) (by omega)
   have hq:∃q:Int,(if mix c (k+2) % 3=0 then (3:Int) else if mix c (k+2) % 3=1 then 9 else 100)=q/\0<q/\q<=100:=⟨_,rfl,by split <;> (try split) <;> decide,by split <;> (try split) <;> decide⟩
   obtain⟨q,hq,q0,q1⟩:=hq
   rw[hq] at p3
   refine⟨.num (mix c (k+1) % q),⟨Int.emod_nonneg _ (by omega),by have:=Int.emod_lt_of_pos (mix c (k+1)) q0;omega⟩,rfl,?_⟩
   refine aU (F:=f9) rfl rfl (v:=.cl (Sm.d (.num (mix c (k+1) % q)))) ?_
   show exs pg (call pg (n+1)) [.sh true (.int c),.sh true (.int k),.sh true (.int m),.sh true (.bl af),.sh true (.int dp),.dead,.dead] _=_
   simp only[f9,aI,bT,bM,cD,aM,aB,aC,aO,bE,aL,gS,gZ,aP,aA,mC,mN,aV,x0,bH,eJ 7 (by decide),aH,bW,aQ,cM,bI,lS,lZ,fN,bK,ht,bF,if_false,cA,dU,dG,hz',if_true,cC,dD,add_int,x1,x2,eJ 3 (by decide),bB,gR,aLg,p3,eJ q q0,pC,eD,Sm.d]
 . have hz':(mix c k % 7==0)=false:=beq_eq_false_iff_ne.mpr hz
   have hb:∃b:Bool,(af&&(mix c k % 7 % 2==1))=b:=⟨_,rfl⟩
   obtain⟨b,hb⟩:=hb
   have p2:=yF (a:= "box") (b:= "after") (v:=⟨.lst [.str "box",.str "after"],true,false,[]⟩) rfl (i:=b2i b) (by cases b <;> simp[b2i])
   have hk:mix c (k+1) % (m:Int)=((mix c (k+1) % (m:Int)).toNat:Int):=by rw[Int.toNat_of_nonneg (Int.emod_nonneg _ (by omega))]
   have hlt:(mix c (k+1) % (m:Int)).toNat<m:=by have:=Int.emod_lt_of_pos (mix c (k+1)) (show(0:Int)<m by omega);omega
   have hs:∃s:Sm,s.wf m (!af)/\s.sz=1/\D.tup [.str (if b2i b=0 then "box" else "after"),.int (mix c (k+1) % (m:Int))]=s.d:=by
    cases b with
    | false=>exact⟨.box (mix c (k+1) % (m:Int)).toNat,hlt,rfl,by rw[hk];rfl⟩
    | true=>
     have ha:af=true:=by cases af <;> first|rfl|cases hb
     exact⟨.aft (mix c (k+1) % (m:Int)).toNat,⟨hlt,by rw[ha];rfl⟩,rfl,by rw[hk];rfl⟩
   obtain⟨s,s1,s2,s3⟩:=hs
   refine⟨s,s1,s2,?_⟩
   have e:ev pg (call pg (n+1)) [.sh true (.int c),.sh true (.int k),.sh true (.int m),.sh true (.bl af),.sh true (.int dp),.sh false (.int (mix c k % 7)),.dead] (.an (.v 3) (.cmp .Eq (.op .Mod (.v 5) (.c (.int 2))) (.c (.int 1))))=.ok (.cl (.bl b)):=by
    rw[<-hb]
    refine uH rfl ?_
    simp only[jQ,cD,aO,bE,aL,gS,gZ,aP,aA,eJ 2 (by decide),aV,dU,dG]
   refine aU (F:=f9) rfl rfl (v:=.cl s.d) ?_
   show exs pg (call pg (n+1)) [.sh true (.int c),.sh true (.int k),.sh true (.int m),.sh true (.bl af),.sh true (.int dp),.dead,.dead] _=_
   simp only[f9,aI,bT,bM,cD,aM,aB,aC,aO,bE,aL,gS,gZ,aP,lH,aA,mC,mN,aV,x0,bH,eJ 7 (by decide),aH,bW,aQ,cM,bI,lS,lZ,fN,bK,ht,bF,if_false,cA,dU,dG,hz',cC,dD,e,add_int,x1,cO,bB,gR,aEd,mm,wP,p2,pC,s3,eD]
theorem oI(n:Nat)(c:Int){k:Int}(h0:0<=k)(h1:k<=800){m:Nat}(hm:1<=m)(af:Bool):∃s:Sm,s.wf m (!af)/\s.sz<=3/\call pg (n+3) 9 [.int c,.int k,.int m,.bl af,.int 1]=.ok (s.d,false,false):=by
 by_cases hb:mix c k % 7<=3
 . obtain⟨s,a,b,e⟩:=oH (n+1) c h0 (by omega) hm af (dp:=1) (.inr hb)
   exact⟨s,a,by omega,e⟩
 . obtain⟨s,s1,s2,s3⟩:=oH n c (k:=k+3) (by omega) (by omega) hm af (dp:=1-1) (.inl (by decide))
   obtain⟨t,t1,t2,t3⟩:=oH n c (k:=k+7) (by omega) (by omega) hm af (dp:=1-1) (.inl (by decide))
   have x0:=dA (n+1) c h0 (by omega)
   have hd:decide ((3:Int)<mix c k % 7)=true:=decide_eq_true (by omega)
   have hd1:decide ((0:Int)<1)=true:=rfl
   have p2:=yF (a:= "plus") (b:= "minus") (v:=⟨.lst [.str "plus",.str "minus"],true,false,[]⟩) rfl (aCi (mix c k % 7))
   have v6:∀i,Sl.val i (.sh false s.d)=.ok (.cl s.d):=λi=>rfl
   have hw:(if mix c k % 7 % 2=0 then ("plus" : Str) else "minus")=rU (decide (mix c k % 7 % 2=0)):=by
    unfold rU;by_cases h:mix c k % 7 % 2=0 <;> simp[h]
   rw[hw] at p2
   refine⟨.two (decide (mix c k % 7 % 2=0)) s t,⟨s1,t1⟩,by show 1+s.sz+t.sz<=3;omega,?_⟩
   refine aU (F:=f9) rfl rfl (v:=.cl (Sm.d (.two (decide (mix c k % 7 % 2=0)) s t))) ?_
   show exs pg (call pg (n+2)) [.sh true (.int c),.sh true (.int k),.sh true (.int m),.sh true (.bl af),.sh true (.int 1),.dead,.dead] _=_
   simp only[f9,aI,bT,bM,cD,aM,aB,aC,aO,bE,aL,gS,gZ,aP,lH,aW,aA,mC,mN,aV,x0,bH,eJ 7 (by decide),aH,bW,aQ,cM,bI,lS,lZ,fN,bK,oA,cA,oE,hd,hd1,if_true,add_int,sub_int,s3,t3,cC,dD,bB,gR,aEd,eJ 2 (by decide),p2,aEe,eD,Sm.d]
def drp:Nat->Ss->Ss
 | 0,s=>s
 | n+1,.cons _ s=>drp n s
 | _+1,.nil=>.nil
def hdS:Ss->S
 | .cons s _=>s
 | .nil=>.pass
theorem stp{P:Pg}{cl:Caller}{σ σ':Sg}{s:S}{ss:Ss}(h:ex P cl σ s=.next σ'):exs P cl σ (.cons s ss)=exs P cl σ' ss:=by rw[aI,h,fN]
theorem aGT(a:D):jD [.cl a]=.cl (.tup [a]):=rfl
theorem iV(n:Nat)(c:Int){k:Int}(h0:0<=k)(h1:k<=700){m:Nat}(hm:1<=m)(af:Bool){dp:Int}(hd:dp<=0\/mix c k % 9<=5):∃q:Cn,q.wf m (!af)/\q.sz<=7/\call pg (n+4) 10 [.int c,.int k,.int m,.bl af,.int dp]=.ok (q.d,false,false):=by
 have x0:=dA (n+2) c h0 (by omega)
 obtain⟨s,s1,s2,s3⟩:=oI n c (k:=k+1) (by omega) (by omega) hm af
 obtain⟨t,t1,t2,t3⟩:=oI n c (k:=k+4) (by omega) (by omega) hm af
 have ht:tst pg (call pg (n+3)) [.sh true (.int c),.sh true (.int k),.sh true (.int m),.sh true (.bl af),.sh true (.int dp),.sh false (.int (mix c k % 9)),.dead] (.an (.cmp .Gt (.v 4) (.c (.int 0))) (.cmp .Gt (.v 5) (.c (.int 5))))=.ok false:=by
  simp only[oA,cA,aO,bE,aL,gS,gZ,aP,aA,aV,oE]
  cases q:decide (0<dp) with
  | false=>rfl
  | true=>
   have q:=of_decide_eq_true q
   rw[if_pos rfl,decide_eq_false (by omega)]
 by_cases hz:mix c k % 9=0
 . have hz':(mix c k % 9==0)=true:=by rw[hz];rfl
   refine⟨.yes,trivial,by decide,?_⟩
   refine aU (F:=f10) rfl rfl (v:=.cl (Cn.d .yes)) ?_
   show exs pg (call pg (n+3)) [.sh true (.int c),.sh true (.int k),.sh true (.int m),.sh true (.bl af),.sh true (.int dp),.dead,.dead] _=_
   simp only[f10,aI,bT,bM,cD,aM,aB,aC,aO,bE,aL,gS,gZ,aP,aA,mC,mN,aV,x0,bH,eJ 9 (by decide),aH,bW,aQ,cM,bI,lS,lZ,fN,bK,cA,dU,dG,hz',if_true,cC,dD,aGT,eD,Cn.d]
 . have hz':(mix c k % 9==0)=false:=beq_eq_false_iff_ne.mpr hz
   have p2:=yF (a:= "is") (b:= "less") (v:=⟨.lst [.str "is",.str "less"],true,false,[]⟩) rfl (aCi (mix c k % 9))
   have hw:(if mix c k % 9 % 2=0 then ("is" : Str) else "less")=rV (decide (mix c k % 9 % 2=0)):=by
    unfold rV;by_cases h:mix c k % 9 % 2=0 <;> simp[h]
   rw[hw] at p2
   refine⟨.cmp (decide (mix c k % 9 % 2=0)) s t,⟨s1,t1⟩,by show 1+s.sz+t.sz<=7;omega,?_⟩
   refine aU (F:=f10) rfl rfl (v:=.cl (Cn.d (.cmp (decide (mix c k % 9 % 2=0)) s t))) ?_
   show exs pg (call pg (n+3)) [.sh true (.int c),.sh true (.int k),.sh true (.int m),.sh true (.bl af),.sh true (.int dp),.dead,.dead] _=_
   simp only[f10,aI,bT,bM,cD,aM,aB,aC,aO,bE,aL,gS,gZ,aP,lH,aW,aA,mC,mN,aV,x0,bH,eJ 9 (by decide),aH,bW,aQ,cM,bI,lS,lZ,fN,bK,ht,bF,if_false,cA,dU,dG,hz',add_int,s3,t3,cC,dD,bB,gR,aEd,eJ 2 (by decide),p2,aEe,eD,Cn.d]
theorem lL(n:Nat)(c:Int){k:Int}(h0:0<=k)(h1:k<=600){m:Nat}(hm:1<=m)(af:Bool):∃q:Cn,q.wf m (!af)/\q.sz<=15/\call pg (n+5) 10 [.int c,.int k,.int m,.bl af,.int 1]=.ok (q.d,false,false):=by
 by_cases hb:mix c k % 9<=5
 . obtain⟨q,a,b,e⟩:=iV (n+1) c h0 (by omega) hm af (dp:=1) (.inr hb)
   exact⟨q,a,by omega,e⟩
 . have x0:=dA (n+3) c h0 (by omega)
   obtain⟨s,s1,s2,s3⟩:=iV n c (k:=k+9) (by omega) (by omega) hm af (dp:=1-1) (.inl (by decide))
   obtain⟨t,t1,t2,t3⟩:=iV n c (k:=k+23) (by omega) (by omega) hm af (dp:=1-1) (.inl (by decide))
   have hd:decide ((5:Int)<mix c k % 9)=true:=decide_eq_true (by omega)
   have hd1:decide ((0:Int)<1)=true:=rfl
   have hz':(mix c k % 9==0)=false:=beq_eq_false_iff_ne.mpr (by omega)
   by_cases h6:mix c k % 9=6
   . have h6':(mix c k % 9==6)=true:=by rw[h6];rfl
     refine⟨.nt s,s1,by show 1+s.sz<=15;omega,?_⟩
     refine aU (F:=f10) rfl rfl (v:=.cl (Cn.d (.nt s))) ?_
     show exs pg (call pg (n+4)) [.sh true (.int c),.sh true (.int k),.sh true (.int m),.sh true (.bl af),.sh true (.int 1),.dead,.dead] _=_
     simp only[f10,aI,bT,bM,cD,aM,aB,aC,aO,bE,aL,gS,gZ,aP,lH,aW,aA,mC,mN,aV,x0,bH,eJ 9 (by decide),aH,bW,aQ,cM,bI,lS,lZ,fN,bK,oA,cA,oE,dU,dG,hz',bF,if_false,hd,hd1,if_true,add_int,sub_int,s3,h6',cC,dD,pC,eD,Cn.d]
   . have h6':(mix c k % 9==6)=false:=beq_eq_false_iff_ne.mpr h6
     have p2:=yF (a:= "both") (b:= "either") (v:=⟨.lst [.str "both",.str "either"],true,false,[]⟩) rfl (i:=mix c k % 9-7) (by omega)
     have hw:(if mix c k % 9-7=0 then ("both" : Str) else "either")=kI (decide (mix c k % 9-7=0)):=by
      unfold kI;by_cases h:mix c k % 9-7=0 <;> simp[h]
     rw[hw] at p2
     refine⟨.two (decide (mix c k % 9-7=0)) s t,⟨s1,t1⟩,by show 1+s.sz+t.sz<=15;omega,?_⟩
     refine aU (F:=f10) rfl rfl (v:=.cl (Cn.d (.two (decide (mix c k % 9-7=0)) s t))) ?_
     show exs pg (call pg (n+4)) [.sh true (.int c),.sh true (.int k),.sh true (.int m),.sh true (.bl af),.sh true (.int 1),.dead,.dead] _=_
     simp only[f10,aI,bT,bM,cD,aM,aB,aC,aO,bE,aL,gS,gZ,aP,lH,aW,aA,mC,mN,aV,x0,bH,eJ 9 (by decide),aH,bW,aQ,cM,bI,lS,lZ,fN,bK,oA,cA,oE,dU,dG,hz',bF,if_false,hd,hd1,if_true,add_int,sub_int,s3,t3,h6',cC,dD,bB,gR,aEd,p2,aEe,eD,Cn.d]
theorem uI(n:Nat)(c:Int){m:Nat}(hm:1<=m):∃q:Cn,q.wf m false/\q.sz<=15/\call pg (n+6) 13 [.int c,.int m]=.ok (q.d,false,false):=by
 have x3:=dA (n+4) c (k:=3) (by decide) (by decide)
 have x4:=dA (n+4) c (k:=4) (by decide) (by decide)
 obtain⟨q,q1,q2,q3⟩:=lL n c (k:=5) (by decide) (by decide) hm true
 obtain⟨b,hk,hlt⟩:∃b:Nat,mix c 4 % (m:Int)=(b:Int)/\b<m:=⟨(mix c 4 % (m:Int)).toNat,by rw[Int.toNat_of_nonneg (Int.emod_nonneg _ (by omega))],by have:=Int.emod_lt_of_pos (mix c 4) (show(0:Int)<m by omega);omega⟩
 have hr:0<=mix c 3 % 5/\mix c 3 % 5<5:=by omega
 generalize ew:mix c 3 % 5=w at hr
 have e:∀(q:Cn),q.wf m false->q.sz<=15->exs pg (call pg (n+5)) [.sh true (.int c),.sh true (.int m),.sh false (.int w),.sh false (.int b)] (drp 2 f13.body)=.ret (.cl q.d)->∃q:Cn,q.wf m false/\q.sz<=15/\call pg (n+6) 13 [.int c,.int m]=.ok (q.d,false,false):=λq a1 a2 h=>⟨q,a1,a2,by
  refine aU (F:=f13) rfl rfl (v:=.cl q.d) ?_
  show exs pg (call pg (n+5)) [.sh true (.int c),.sh true (.int m),.dead,.dead] _=_
  refine(stp (σ':=[.sh true (.int c),.sh true (.int m),.sh false (.int w),.dead]) ?_).trans ((stp (σ':=[.sh true (.int c),.sh true (.int m),.sh false (.int w),.sh false (.int b)]) ?_).trans h)
  . simp only[bM,cD,aM,aB,aC,aO,bE,aL,gS,gZ,aP,aA,mC,mN,aV,x3,bH,eJ 5 (by decide),ew,aH,bW,aQ,cM,bI,lS,lZ]
  . simp only[bM,cD,aM,aB,aC,aO,bE,aL,gS,gZ,aP,aA,mC,mN,aV,x4,bH,eJ (m:Int) (show(0:Int)<m by omega),hk,aH,bW,aQ,cM,bI,lS,lZ]⟩
 have h:w=0\/w=1\/w=2\/3<=w:=by omega
 rcases h with rfl|rfl|rfl|h
 . refine e (.cmp true (.aft b) (.box b)) ⟨⟨hlt,rfl⟩,hlt⟩ (by show 1+1+1<=15;decide) ?_
   rfl
 . refine e (.nt (.cmp false (.aft b) (.box b))) ⟨⟨hlt,rfl⟩,hlt⟩ (by show 1+(1+1+1)<=15;decide) ?_
   rfl
 . refine e .yes trivial (by decide) ?_
   rfl
 . refine e q q1 q2 ?_
   have e0:(w==0)=false:=beq_eq_false_iff_ne.mpr (by omega)
   have e1:(w==1)=false:=beq_eq_false_iff_ne.mpr (by omega)
   have e2:(w==2)=false:=beq_eq_false_iff_ne.mpr (by omega)
   simp only[drp,f13,aI,bT,bK,cA,aO,bE,aL,gS,gZ,aP,aA,aV,dU,dG,e0,e1,e2,aH,bF,if_false,fN,cC,lH,aM,aB,aC,mC,mN,q3,bH,eD]
structure Way where
 g:Cn
 ps:List (Nat×Sm)
 nx:Nat
def dH(p:Nat×Sm):D:=.tup [.int p.1,p.2.d]
def Way.d(w:Way):D:=.tup [w.g.d,.tup (w.ps.map dH),.int w.nx]
structure kK (m:Nat) (p:Nat×Sm):Prop where
 box:p.1<m
 wf:p.2.wf m true
 sz:p.2.sz<=3
structure oJ (m pl:Nat) (w:Way):Prop where
 g:w.g.wf m true
 gs:w.g.sz<=15
 ps:∀p∈w.ps,kK m p
 len:w.ps.length<=m
 nx:w.nx<pl
theorem yG(p:Nat×Sm):noL (dH p)=true:=mJ rfl p.2.noL
theorem iW(ps:List (Nat×Sm)):noLs (ps.map dH)=true:=kH yG ps
theorem mK(w:Way):noL w.d=true:=by simp[Way.d,noL,noLs,w.g.noL,iW]
theorem aAj(ws:List Way):noLs (ws.map Way.d)=true:=kH mK ws
theorem rX(i:Nat){ds:List D}(h:noLs ds=true):biD .tuple [⟨.lst ds,false,false,[i]⟩]=.ok (.cl (.tup ds)):=by
 show R.ok (Vl.mk (.tup ds) false (false&&!noLs ds) (if noLs ds=true then [] else [i]))=_
 rw[h];rfl
theorem aJA{a b c:Sm}{i:Nat}{w:Int}(h0:0<=w)(h:w<3):bV ⟨.lst [a.d,b.d,c.d],false,false,[i]⟩ (.cl (.int w))=.ok (.cl (if w=0 then a else if w=1 then b else c).d):=by
 have:w=0\/w=1\/w=2:=by omega
 have ha:=a.noL
 have hb:=b.noL
 have hc:=c.noL
 rcases this with rfl|rfl|rfl
 . show R.ok (Vl.sub _ a.d)=_;rw[bX ha];rfl
 . show R.ok (Vl.sub _ b.d)=_;rw[bX hb];rfl
 . show R.ok (Vl.sub _ c.d)=_;rw[bX hc];rfl
abbrev wQ:Ss:=match hdS (drp 1 f11.body) with|.for _ _ b=>b|_=>.nil
theorem aCj(n:Nat)(c:Int){m pl:Nat}(hm:1<=m)(hm5:m<=5){k:Nat}(hk:k<m){ps:List (Nat×Sm)}(hp:∀p∈ps,kK m p)(hl:ps.length<=k)(s5 s6 s7:Sl) :
 ∃(ps':List (Nat×Sm)) (s5' s6':Sl),(∀p∈ps',kK m p)/\ps'.length<=k+1/\exs pg (call pg (n+5)) [.sh true (.int c),.sh true (.int m),.sh true (.int pl),.own false (ps.map dH),.sh false (.int k),s5,s6,s7] wQ =
  .next [.sh true (.int c),.sh true (.int m),.sh true (.int pl),.own false (ps'.map dH),.sh false (.int k),s5',s6',s7]:=by
 have x0:=dA (n+4) c (k:=40+(k:Int)) (by omega) (by omega)
 obtain⟨s,s1,s2,s3⟩:=oI (n+2) c (k:=50+9*(k:Int)) (by omega) (by omega) hm false
 have m9:opD .Mult (.cl (.int 9)) (.cl (.int k))=.ok (.cl (.int (9*k))):=mul_int (by
  simp only[fF,Bool.or_eq_true,bA,decide_eq_true_eq];right;omega)
 have hr:0<=mix c (40+(k:Int)) % 6:=Int.emod_nonneg _ (by decide)
 generalize ew:mix c (40+(k:Int)) % 6=w at hr
 let a:Sm:=.two true (.box k) (.num 1)
 let b:Sm:=.two false (.box k) (.num 1)
 have e1:ex pg (call pg (n+5)) [.sh true (.int c),.sh true (.int m),.sh true (.int pl),.own false (ps.map dH),.sh false (.int k),s5,s6,s7] (hdS wQ)=.next [.sh true (.int c),.sh true (.int m),.sh true (.int pl),.own false (ps.map dH),.sh false (.int k),.sh false (.int w),s6,s7]:=by
  simp only[wQ,hdS,drp,f11,bM,cD,aM,aB,aC,aO,bE,aL,gS,gZ,aP,aA,mC,mN,aV,add_int,x0,bH,eJ 6 (by decide),ew,aH,bW,aQ,cM,bI,lS,lZ]
 have e2:ex pg (call pg (n+5)) [.sh true (.int c),.sh true (.int m),.sh true (.int pl),.own false (ps.map dH),.sh false (.int k),.sh false (.int w),s6,s7] (hdS (drp 1 wQ))=.next [.sh true (.int c),.sh true (.int m),.sh true (.int pl),.own false (ps.map dH),.sh false (.int k),.sh false (.int w),.own false [a.d,b.d],s7]:=rfl
 have e3:ex pg (call pg (n+5)) [.sh true (.int c),.sh true (.int m),.sh true (.int pl),.own false (ps.map dH),.sh false (.int k),.sh false (.int w),.own false [a.d,b.d],s7] (hdS (drp 2 wQ))=.next [.sh true (.int c),.sh true (.int m),.sh true (.int pl),.own false (ps.map dH),.sh false (.int k),.sh false (.int w),.own false [a.d,b.d,s.d],s7]:=by
  simp only[wQ,hdS,drp,f11,fC,cD,aM,aB,aC,aO,bE,aL,gS,gZ,aP,aA,mC,mN,aV,m9,add_int,s3,bH,aH]
  rfl
 have p3:=aJA (a:=a) (b:=b) (c:=s) (i:=6) (w:=w) hr
 by_cases h3:w<3
 . have hd:decide (w<3)=true:=decide_eq_true h3
   have p3:=p3 h3
   have q:kK m (k,if w=0 then a else if w=1 then b else s):=by
    by_cases h:w=0
    . rw[if_pos h];exact⟨hk,⟨hk,show(0:Int)<=1/\(1:Int)<=99 by decide⟩,Nat.le_refl 3⟩
    . rw[if_neg h]
      by_cases h:w=1
      . rw[if_pos h];exact⟨hk,⟨hk,show(0:Int)<=1/\(1:Int)<=99 by decide⟩,Nat.le_refl 3⟩
      . rw[if_neg h];exact⟨hk,s1,s2⟩
   generalize (if w=0 then a else if w=1 then b else s)=z at p3 q
   have hll:ps.length+1<=lim:=by unfold lim;omega
   refine⟨ps++[(k,z)],.sh false (.int w),.own false [a.d,b.d,s.d],λp h=>?_,by simp;omega,((stp e1).trans ((stp e2).trans ((stp e3).trans ?_)))⟩
   . rcases List.mem_append.mp h with h|h
     . exact hp p h
     . rw[List.mem_singleton.mp h];exact q
   . simp only[aI,bT,bK,cA,aO,bE,aL,gS,gZ,aP,cQ,aA,aV,lI,hd,aH,if_true,fC,dD,aB,aC,bB,p3,pC,put,bW,aQ,eO,lA,lM,lC,lN,hll,jE,Bool.or_false,lS,lZ,fN,List.map_append,mC,mN]
     rfl
 . have hd:decide (w<3)=false:=decide_eq_false h3
   refine⟨ps,.sh false (.int w),.own false [a.d,b.d,s.d],hp,by omega,((stp e1).trans ((stp e2).trans ((stp e3).trans ?_)))⟩
   simp only[aI,bT,bK,cA,aO,bE,aL,gS,gZ,aP,cQ,aA,aV,lI,hd,aH,bF,if_false,fN]
theorem yH(n:Nat)(c:Int){m pl:Nat}(hm:1<=m)(hm5:m<=5)(hpl:1<=pl):∃w:Way,oJ m pl w/\call pg (n+6) 11 [.int c,.int m,.int pl]=.ok (w.d,false,false):=by
 have hw:walk pg (call pg (n+5)) [.sh true (.int c),.sh true (.int m),.sh true (.int pl),.own false [],.dead,.dead,.dead,.dead] (.rng (.c (.int 0)) (.v 1))=.ok ((List.range m).map λ(k:Nat)=>Vl.cl (.int (k:Int)),[]):=dF (v:=.cl (.int m)) rfl rfl (by omega)
 obtain⟨σ',e,hI⟩:=fD (t:=.n 4) (b:=wQ) (λi σ=>∃(ps:List (Nat×Sm)) (s4 s5 s6:Sl),(∀p∈ps,kK m p)/\ps.length<=i/\σ=[.sh true (.int c),.sh true (.int m),.sh true (.int pl),.own false (ps.map dH),s4,s5,s6,.dead]) hw ⟨[],_,_,_,λ_ h=>(nomatch h),Nat.le_refl _,rfl⟩ (λi hi σ hσ=>by
  obtain⟨ps,s4,s5,s6,h1,h2,rfl⟩:=hσ
  have hi':i<m:=by simpa using hi
  obtain⟨ps',s5',s6',g1,g2,g3⟩:=aCj n c (pl:=pl) hm hm5 hi' h1 h2 s5 s6 .dead
  refine⟨_,_,?_,g3,ps',_,_,_,g1,g2,rfl⟩
  simp)
 obtain⟨ps,s4,s5,s6,h1,h2,rfl⟩:=hI
 have h2:ps.length<=m:=by simpa using h2
 have x1:=dA (n+4) c (k:=30) (by decide) (by decide)
 have x2:=dA (n+4) c (k:=31) (by decide) (by decide)
 obtain⟨q,q1,q2,q3⟩:=lL n c (k:=10) (by decide) (by decide) hm false
 obtain⟨nx,hk,hlt⟩:∃b:Nat,mix c 31 % (pl:Int)=(b:Int)/\b<pl:=⟨(mix c 31 % (pl:Int)).toNat,by rw[Int.toNat_of_nonneg (Int.emod_nonneg _ (by omega))],by have:=Int.emod_lt_of_pos (mix c 31) (show(0:Int)<pl by omega);omega⟩
 have fin:∀g:Cn,exs pg (call pg (n+5)) [.sh true (.int c),.sh true (.int m),.sh true (.int pl),.own false (ps.map dH),s4,s5,s6,.sh false g.d] (drp 4 f11.body)=.ret (.cl (Way.d ⟨g,ps,nx⟩)):=λg=>by
  simp only[drp,f11,aI,cC,dD,aB,aC,aO,aL,gS,gZ,aW,cQ,aP,aA,cO,rX 3 (iW ps),cD,aM,bE,mC,mN,aV,x2,bH,eJ (pl:Int) (show(0:Int)<pl by omega),hk,aEe,aH,eD,Way.d]
 have st:∀{v:Vl},exs pg (call pg (n+5)) [.sh true (.int c),.sh true (.int m),.sh true (.int pl),.own false (ps.map dH),s4,s5,s6,.sh false (Cn.d .yes)] (drp 3 f11.body)=.ret v->call pg (n+6) 11 [.int c,.int m,.int pl]=.ok (v.d,v.fr,v.pa):=λ{v} h=>by
  refine aU (F:=f11) rfl rfl ?_
  show exs pg (call pg (n+5)) [.sh true (.int c),.sh true (.int m),.sh true (.int pl),.dead,.dead,.dead,.dead,.dead] _=_
  refine(stp (σ':=[.sh true (.int c),.sh true (.int m),.sh true (.int pl),.own false [],.dead,.dead,.dead,.dead]) rfl).trans ((stp e).trans ((stp ?_).trans h))
  rfl
 have tt:∀{r:Bool},(mix c 30 % 2==1)=r->tst pg (call pg (n+5)) [.sh true (.int c),.sh true (.int m),.sh true (.int pl),.own false (ps.map dH),s4,s5,s6,.sh false (Cn.d .yes)] (.cmp .Eq (.op .Mod (.call 7 (.cons (.v 0) (.cons (.c (.int 30)) .nil))) (.c (.int 2))) (.c (.int 1)))=.ok r:=λ{r} hr=>by
  simp only[cA,cD,aM,aB,aC,aO,bE,aL,gS,gZ,aP,aA,mC,mN,aV,x1,bH,eJ 2 (by decide),dU,dG,hr]
 cases hb:mix c 30 % 2==1 with
 | true=>
  refine⟨⟨q,ps,nx⟩,⟨q1,q2,h1,h2,hlt⟩,st (v:=.cl (Way.d ⟨q,ps,nx⟩)) ((stp ?_).trans (fin q))⟩
  simp only[bK,tt hb,aH,if_true,aI,bT,bM,aM,aB,aC,aO,bE,aL,gS,gZ,aP,aA,mC,mN,aV,q3,bH,bW,aQ,cM,bI,lS,lZ,fN]
 | false=>
  refine⟨⟨.yes,ps,nx⟩,⟨trivial,(show(1:Nat)<=15 by decide),h1,h2,hlt⟩,st (v:=.cl (Way.d ⟨.yes,ps,nx⟩)) ((stp ?_).trans (fin .yes))⟩
  simp only[bK,tt hb,aH,bF,if_false,bT]
def dI(ws:List Way):D:=.lst (ws.map Way.d)
def aK(rows:List (List Way)):D:=.lst (rows.map dI)
structure aCk (m pl:Nat) (r:List Way):Prop where
 one:1<=r.length
 few:r.length<=4
 all:∀w∈r,oJ m pl w
structure rY (m:Nat) (rows:List (List Way)):Prop where
 few:rows.length<=3
 all:∀r∈rows,aCk m (rows.length+1) r
theorem wR{v:Vl}(is:List Int):items v (is.map D.int)=is.map λi=>Vl.cl (.int i):=by
 unfold items
 rw[List.map_map]
 exact List.map_congr_left λi _=>rfl
theorem wU{α:Type}(xs:List α)(k:Nat)(h:k<=xs.length):cut xs none (some (k:Int))=xs.take k:=by
 unfold cut sIx
 simp only[]
 rw[if_neg (by omega),List.drop_zero]
 simp[Nat.min_eq_left h]
theorem uJ{α:Type}(xs:List α)(k:Nat)(h:k<=xs.length):cut xs (some (k:Int)) none=xs.drop k:=by
 unfold cut sIx
 simp only[]
 rw[if_neg (by omega),List.take_of_length_le (by rw[List.length_drop];simp[Nat.min_eq_left h])]
 simp[Nat.min_eq_left h]
abbrev oK:Ss:=match hdS (drp 2 f12.body) with|.for _ _ b=>b|_=>.nil
theorem aLh(i:Int):opD .FloorDiv (.cl (.int i)) (.cl (.int 3))=.ok (.cl (.int (i / 3))):=yA rfl
theorem aAk(n:Nat)(ns:List Int){a m R:Nat}(ha:a<=100)(hm:1<=m)(hm5:m<=5){k:Nat}(hk:k<4)(rows:List (List Way))(hr:rows.length<=k)(s6 s7:Sl) :
 ∃r s6' s7',aCk m (R+1) r/\exs pg (call pg (n+7)) [.sh true (.lst (ns.map D.int)),.sh true (.int a),.sh true (.int m),.sh false (.int R),.own false (rows.map dI),.sh false (.int k),s6,s7] oK =
  .next [.sh true (.lst (ns.map D.int)),.sh true (.int a),.sh true (.int m),.sh false (.int R),.own false ((rows++[r]).map dI),.sh false (.int k),s6',s7']:=by
 have c1:call pg (n+7) 5 [.lst (ns.map D.int),.int ((a:Int)+1+2*(k:Int))]=_:=eE (n+6) ns (k:=a+1+2*k) (by omega)
 have c2:call pg (n+7) 5 [.lst (ns.map D.int),.int ((a:Int)+2+2*(k:Int))]=_:=eE (n+6) ns (k:=a+2+2*k) (by omega)
 generalize cellAt ns (a+1+2*k)=x at c1
 generalize cellAt ns (a+2+2*k)=y at c2
 have m2:opD .Mult (.cl (.int 2)) (.cl (.int k))=.ok (.cl (.int (2*k))):=mul_int (by
  simp only[fF,Bool.or_eq_true,bA,decide_eq_true_eq];right;omega)
 obtain⟨W,hW⟩:∃W:Int->Way,∀c,oJ m (R+1) (W c)/\call pg (n+6+1) 11 [.int c,.int m,.int ((R+1:Nat):Int)]=.ok ((W c).d,false,false):=⟨λc=>Classical.choose (yH (n+1) c hm hm5 (Nat.le_add_left 1 R)),λc=>Classical.choose_spec (yH (n+1) c hm hm5 (Nat.le_add_left 1 R))⟩
 have e1:ex pg (call pg (n+7)) [.sh true (.lst (ns.map D.int)),.sh true (.int a),.sh true (.int m),.sh false (.int R),.own false (rows.map dI),.sh false (.int k),s6,s7] (hdS oK)=.next [.sh true (.lst (ns.map D.int)),.sh true (.int a),.sh true (.int m),.sh false (.int R),.own false (rows.map dI),.sh false (.int k),.own false [.int x,.int y],s7]:=by
  simp only[oK,hdS,drp,f12,bM,gR,aB,aC,aM,cD,aO,bE,aL,gS,gZ,aP,cP,aA,mC,mN,aV,m2,add_int,c1,c2,bH,aH]
  rfl
 let L:List Int:=[x,y,x / 3+y,y / 3+x]
 have i0:bV ⟨.lst [.int x,.int y],false,false,[6]⟩ (.cl (.int 0))=.ok (.cl (.int x)):=rfl
 have i1:bV ⟨.lst [.int x,.int y],false,false,[6]⟩ (.cl (.int 1))=.ok (.cl (.int y)):=rfl
 have e2:ex pg (call pg (n+7)) [.sh true (.lst (ns.map D.int)),.sh true (.int a),.sh true (.int m),.sh false (.int R),.own false (rows.map dI),.sh false (.int k),.own false [.int x,.int y],s7] (hdS (drp 1 oK))=.next [.sh true (.lst (ns.map D.int)),.sh true (.int a),.sh true (.int m),.sh false (.int R),.own false (rows.map dI),.sh false (.int k),.own false (L.map D.int),s7]:=by
  simp only[oK,hdS,drp,f12,bM,cD,gR,aB,aC,bB,aO,bE,aL,gS,gZ,cQ,aA,i0,i1,aLh,add_int]
  rfl
 have hw:walk pg (call pg (n+7)) [.sh true (.lst (ns.map D.int)),.sh true (.int a),.sh true (.int m),.sh false (.int R),.own false (rows.map dI),.sh false (.int k),.own false (L.map D.int),s7] (.seq (.v 6))=.ok (L.map (λi=>Vl.cl (.int i)),[6]):=by
  simp only[eZ,aO,aL,gS,gZ,cQ,aA,wR]
 have hc:=lJ (P:=pg) (k:=1) (caps:=[2,3]) (T:=.n 0) (elt:=.call 11 (.cons (.v 0) (.cons (.v 1) (.cons (.op .Add (.v 2) (.c (.int 1))) .nil)))) (λi=>Vl.cl (.int i)) (λi=>(W i).d) (λi=>mK _) hw (by show 4<=lim;decide) λt ht=>by
  refine⟨[.sh false (.int t),.sh true (.int m),.sh false (.int R)],rfl,?_⟩
  have h:=(hW t).2
  simp only[aM,aB,aC,cD,aO,bE,aL,gS,gZ,aP,aA,mC,mN,aV,add_int]
  have h:call pg (n+7) 11 [.int t,.int m,.int ((R:Int)+1)]=_:=h
  rw[h,aA,bH]
 let ws:List Way:=L.map W
 have hws:L.map (λi=>(W i).d)=ws.map Way.d:=by simp[ws]
 rw[hws] at hc
 have e3:ex pg (call pg (n+7)) [.sh true (.lst (ns.map D.int)),.sh true (.int a),.sh true (.int m),.sh false (.int R),.own false (rows.map dI),.sh false (.int k),.own false (L.map D.int),s7] (hdS (drp 2 oK))=.next [.sh true (.lst (ns.map D.int)),.sh true (.int a),.sh true (.int m),.sh false (.int R),.own false (rows.map dI),.sh false (.int k),.own false (L.map D.int),.own false (ws.map Way.d)]:=by
  show ex pg (call pg (n+7)) _ (.set (.n 7) _)=_
  rw[bM,hc,aH]
  rfl
 have x0:=dA (n+6) x (k:=32) (by decide) (by decide)
 obtain⟨j,hj,hlt⟩:∃b:Nat,1+mix x 32 % 4=(b:Int)/\1<=b/\b<=4:=⟨(1+mix x 32 % 4).toNat,by have:=rW x 32;omega,by omega,by omega⟩
 have j0:bV ⟨.lst (L.map D.int),false,false,[6]⟩ (.cl (.int 0))=.ok (.cl (.int x)):=rfl
 have sk:aY (j:Int)=true:=kF (by omega)
 have sl:eW ⟨.lst (ws.map Way.d),false,false,[7]⟩ none (some (j:Int))=.ok ⟨dI (ws.take j),true,false,[]⟩:=by
  unfold eW dI
  simp only[aAj,if_true,Bool.false_and]
  rw[wU _ _ (show j<=(ws.map Way.d).length from hlt.2),List.map_take]
 have hll:rows.length+1<=lim:=by unfold lim;omega
 refine⟨ws.take j,.own false (L.map D.int),.own false (ws.map Way.d),⟨?_,?_,λw hw=>?_⟩,(stp e1).trans ((stp e2).trans ((stp e3).trans ?_))⟩
 . rw[List.length_take];show 1<=min j 4;omega
 . rw[List.length_take];show min j 4<=4;omega
 . obtain⟨i,_,rfl⟩:=List.mem_map.mp (List.mem_of_mem_take hw)
   exact(hW i).1
 . show exs pg (call pg (n+7)) _ (.cons (.app 4 _) .nil)=_
   simp only[aI,bT,fC,rK,cD,aM,aB,aC,bB,aO,bE,aL,gS,gZ,cQ,aA,j0,mC,mN,aV,x0,bH,eJ 4 (by decide),add_int,hj,sk,gH,sl,aH,put,aQ,eO,lA,lM,lC,lN,hll,if_true,Bool.or_false,lS,lZ,fN,List.map_append]
theorem aCl(n:Nat)(ns:List Int){a m:Nat}(ha:a<=100)(hm:1<=m)(hm5:m<=5):∃rows,rY m rows/\call pg (n+8) 12 [.lst (ns.map D.int),.int a,.int m]=.ok (aK rows,true,false):=by
 have c0:=eE (n+6) ns (k:=a) (by omega)
 have x0:=dA (n+6) (cellAt ns a) (k:=1) (by decide) (by decide)
 obtain⟨R,hR,hlt⟩:∃b:Nat,mix (cellAt ns a) 1 % 4=(b:Int)/\b<=3:=⟨(mix (cellAt ns a) 1 % 4).toNat,by have:=rW (cellAt ns a) 1;omega,by omega⟩
 have hw:walk pg (call pg (n+7)) [.sh true (.lst (ns.map D.int)),.sh true (.int a),.sh true (.int m),.sh false (.int R),.own false [],.dead,.dead,.dead] (.rng (.c (.int 0)) (.v 3))=.ok ((List.range R).map λ(k:Nat)=>Vl.cl (.int (k:Int)),[]):=dF (v:=.cl (.int R)) rfl rfl (by omega)
 obtain⟨σ',e,hI⟩:=fD (t:=.n 5) (b:=oK) (λi σ=>∃(rows:List (List Way)) (s5 s6 s7:Sl),(∀r∈rows,aCk m (R+1) r)/\rows.length=i/\σ=[.sh true (.lst (ns.map D.int)),.sh true (.int a),.sh true (.int m),.sh false (.int R),.own false (rows.map dI),s5,s6,s7]) hw ⟨[],_,_,_,λ_ h=>(nomatch h),rfl,rfl⟩ (λi hi σ hσ=>by
  obtain⟨rows,s5,s6,s7,h1,h2,rfl⟩:=hσ
  have hi':i<R:=by simpa using hi
  obtain⟨r,s6',s7',g1,g2⟩:=aAk n ns (R:=R) ha hm hm5 (k:=i) (by omega) rows (by omega) s6 s7
  refine⟨_,_,?_,g2,rows++[r],_,_,_,λp h=>?_,by simp[h2],rfl⟩
  . simp
  . rcases List.mem_append.mp h with h|h
    . exact h1 p h
    . rw[List.mem_singleton.mp h];exact g1)
 obtain⟨rows,s5,s6,s7,h1,h2,rfl⟩:=hI
 have h2:rows.length=R:=by simpa using h2
 refine⟨rows,⟨by omega,by rw[h2];exact h1⟩,aU (F:=f12) rfl rfl (v:=⟨aK rows,true,false,[]⟩) ?_⟩
 show exs pg (call pg (n+7)) [.sh true (.lst (ns.map D.int)),.sh true (.int a),.sh true (.int m),.dead,.dead,.dead,.dead,.dead] _=_
 refine(stp (σ':=[.sh true (.lst (ns.map D.int)),.sh true (.int a),.sh true (.int m),.sh false (.int R),.dead,.dead,.dead,.dead]) ?_).trans ((stp (σ':=[.sh true (.lst (ns.map D.int)),.sh true (.int a),.sh true (.int m),.sh false (.int R),.own false [],.dead,.dead,.dead]) rfl).trans ((stp e).trans rfl))
 simp only[bM,cD,aM,aB,aC,aO,bE,aL,gS,gZ,aP,cP,aA,mC,mN,aV,c0,x0,bH,eJ 4 (by decide),hR,aH,bW,aQ,cM,bI,lS,lZ]
def chD(xs:List Nat):List D:=xs.map λx=>.str ⟨#[x]⟩
theorem uK:∀xs:List Nat,gN (chD xs)=some (xs.map λx=>(⟨#[x]⟩:Str))
 | []=>rfl
 | x::xs=>by
  have:=uK xs
  unfold chD at this ⊢
  simp[gN,this]
theorem yI(a b:Str):(a++b).cps=a.cps++b.cps:=rfl
theorem yJ:∀xs:List Nat,PySem.Str.join "" (xs.map λx=>(⟨#[x]⟩:Str))=⟨xs.toArray⟩
 | []=>rfl
 | [x]=>rfl
 | x::y::xs=>by
  have ih:=yJ (y::xs)
  show(⟨#[x]⟩:Str)++(("" : String):Str)++PySem.Str.join "" ((y::xs).map λx=>(⟨#[x]⟩:Str))=_
  rw[ih]
  have:∀a b:Str,a.cps=b.cps->a=b:=λa b h=>by cases a;cases b;simp_all
  apply this
  rw[yI,yI]
  show #[x]++#[]++(y::xs).toArray=(x::y::xs).toArray
  simp
theorem aEf{xs:List Nat}{fr pa:Bool}{al:List Nat}(h:xs.length<=1000):mtD .join (.cl (.str "")) [⟨.lst (chD xs),fr,pa,al⟩]=.ok (.cl (.str ⟨xs.toArray⟩)):=by
 unfold mtD
 simp only[aV,uK,lM,List.map_map]
 have hs:((xs.map ((λx:Str=>x.length)∘λx=>(⟨#[x]⟩:Str))).sum+xs.length*(("" : String):Str).length)<=lim:=by
  have e1:(xs.map ((λx:Str=>x.length)∘λx=>(⟨#[x]⟩:Str))).sum=xs.length:=by
   clear h
   induction xs with
   | nil=>rfl
   | cons x xs ih=>simp only[mC,List.sum_cons,ih,Function.comp,lC];show 1+_=_;omega
  have e2:(("" : String):Str).length=0:=rfl
  rw[e1,e2]
  unfold lim
  omega
 rw[decide_eq_true hs,gH,yJ]
theorem oM{i:Int}(h0:0<=i)(h1:i<26):bV (.cl (.str "abcdefghijklmnopqrstuvwxyz")) (.cl (.int i))=.ok (.cl (.str ⟨#[97+i.toNat]⟩)):=by
 have all:∀k∈List.range 26,("abcdefghijklmnopqrstuvwxyz" : Str).cps.toList[k]? = some (97+k):=by decide +kernel
 have hl:("abcdefghijklmnopqrstuvwxyz" : Str).length=26:=by decide +kernel
 have e:i=((i.toNat:Nat):Int):=by omega
 have hk:i.toNat<26:=by omega
 have h2:=all i.toNat (by rw[List.mem_range];exact hk)
 show R.iff (decide (("abcdefghijklmnopqrstuvwxyz" : Str).length<=lim)) (match ixN ("abcdefghijklmnopqrstuvwxyz" : Str).length i with|some j=>(match ("abcdefghijklmnopqrstuvwxyz" : Str).cps.toList[j]? with|some c=>R.ok (Vl.cl (.str ⟨#[c]⟩))|none=>.bad)|none=>.bad)=_
 have hx:ixN 26 i=some i.toNat:=by
  conv=>lhs;rw[e]
  exact cZ hk
 rw[hl,hx]
 simp only[h2]
 have:decide (26<=lim)=true:=decide_eq_true (by unfold lim;omega)
 rw[this,gH]
def tab:List (List Int):=[[1],[2],[1,1],[3],[2,1],[5],[1,2],[1,1,1],[2,2],[3,1],[7],[2,1,1],[3,2],[1,1,2],[5,1],[2,3],[1,1,1,1],[2,2,1],[7,2],[5,3],[1,1,1,2]]
theorem aGU:∀t∈tab,(1<=t.length/\t.length<=4)/\(∀x∈t,1<=x/\x<=7)/\(t.map (·+1)).foldl (·*·) 1<=24:=by decide +kernel
structure aEM (bs:List (Str×Int)):Prop where
 tops:wL bs
 one:1<=bs.length
 few:bs.length<=4
 nm:∀b∈bs,qX b.1=true/\b.1.length<=8
@[simp] theorem iX {P:Pg} {cl:Caller} {σ:Sg} (a:E):walk P cl σ (.enum a)=(ev P cl σ a >>= λx=>match fS x.d with|some as=>.ok (items x (eN 0 as),x.al)|none=>.bad):=id rfl
theorem oN:∀(is:List Int) (j:Int),eN j (is.map D.int)=(List.range is.length).map λ(k:Nat)=>.tup [.int (j+(k:Int)),.int (is.getD k 0)]
 | [],_=>rfl
 | i::is,j=>by
  rw[mC,eN,oN is (j+1),lC,List.range_succ_eq_map,mC,List.map_map]
  refine congr (congrArg _ (by simp)) (List.map_congr_left λk _=>?_)
  have:j+1+(k:Int)=j+((k+1:Nat):Int):=by omega
  simp only[Function.comp,this,List.getD_cons_succ]
def pV(xs:List Nat)(a l:Nat):Str:=⟨(xs.take a++[l]++xs.drop a).toArray⟩
theorem aCm(xs:List Nat)(a l:Nat):(pV xs a l).length=xs.length+1:=by
 show(xs.take a++[l]++xs.drop a).toArray.size=_
 rw[List.size_toArray,lA,lA,List.length_take,List.length_drop]
 simp only[lC,lN]
 omega
theorem aCn{xs:List Nat}{a l:Nat}(h:∀x∈xs,97<=x/\x<=122)(hl:97<=l/\l<=122):qX (pV xs a l)=true:=by
 unfold qX pV
 rw[List.all_toArray,List.all_eq_true]
 intro x hx
 have:97<=x/\x<=122:=by
  rcases List.mem_append.mp hx with hx|hx
  . rcases List.mem_append.mp hx with hx|hx
    . exact h x (List.mem_of_mem_take hx)
    . rw[List.mem_singleton.mp hx];exact hl
  . exact h x (List.mem_of_mem_drop hx)
 simp[this]
theorem aCo{P:Pg}{cl:Caller}{xs:List Nat}(hx:xs.length<=7){a:Nat}(ha:a<=xs.length){k:Nat}(hk:k<=10)(c t:Int) :
 ev P cl [.sh false (.int k),.sh false (.int t),.sh true (.int c),.sh false (.str "abcdefghijklmnopqrstuvwxyz"),.sh false (.str ⟨xs.toArray⟩),.sh false (.int a)]
  (.tup (.cons (.op .Add (.op .Add (.sli (.v 4) .nil (.cons (.v 5) .nil)) (.idx (.v 3) (.op .Mod (.op .Add (.op .Mult (.c (.int 3)) (.v 0)) (.v 2)) (.c (.int 26))))) (.sli (.v 4) (.cons (.v 5) .nil) .nil)) (.cons (.v 1) .nil))) =
 .ok (.cl (box (pV xs a (97+((3*(k:Int)+c) % 26).toNat),t))):=by
 have m3:opD .Mult (.cl (.int 3)) (.cl (.int k))=.ok (.cl (.int (3*k))):=mul_int (by
  simp only[fF,Bool.or_eq_true,bA,decide_eq_true_eq];right;omega)
 have il:=oM (i:=(3*(k:Int)+c) % 26) (Int.emod_nonneg _ (by decide)) (Int.emod_lt_of_pos _ (by decide))
 have sk:aY (a:Int)=true:=kF (by omega)
 have sz:((⟨xs.toArray⟩:Str).length)<=lim:=by show xs.toArray.size<=lim;rw[List.size_toArray];unfold lim;omega
 have sl1:eW (.cl (.str ⟨xs.toArray⟩)) none (some (a:Int))=.ok (.cl (.str ⟨(xs.take a).toArray⟩)):=by
  show R.iff (decide ((⟨xs.toArray⟩:Str).length<=lim)) (R.ok (Vl.cl (.str ⟨(cut xs.toArray.toList none (some (a:Int))).toArray⟩)))=_
  rw[decide_eq_true sz,gH,List.toList_toArray,wU xs a ha]
 have sl2:eW (.cl (.str ⟨xs.toArray⟩)) (some (a:Int)) none=.ok (.cl (.str ⟨(xs.drop a).toArray⟩)):=by
  show R.iff (decide ((⟨xs.toArray⟩:Str).length<=lim)) (R.ok (Vl.cl (.str ⟨(cut xs.toArray.toList (some (a:Int)) none).toArray⟩)))=_
  rw[decide_eq_true sz,gH,List.toList_toArray,uJ xs a ha]
 have ad:∀(u v:List Nat),u.length+v.length<=100->opD .Add (.cl (.str ⟨u.toArray⟩)) (.cl (.str ⟨v.toArray⟩))=.ok (.cl (.str ⟨(u++v).toArray⟩)):=λu v h=>by
  have hz:(⟨u.toArray⟩:Str).length+(⟨v.toArray⟩:Str).length<=lim:=by show u.toArray.size+v.toArray.size<=lim;rw[List.size_toArray,List.size_toArray];unfold lim;omega
  have e:(⟨u.toArray⟩:Str)++(⟨v.toArray⟩:Str)=⟨(u++v).toArray⟩:=by
   show(⟨u.toArray++v.toArray⟩:Str)=_
   simp
  show R.iff (decide ((⟨u.toArray⟩:Str).length+(⟨v.toArray⟩:Str).length<=lim)) (R.ok (Vl.cl (.str ((⟨u.toArray⟩:Str)++(⟨v.toArray⟩:Str)))))=_
  rw[decide_eq_true hz,gH,e]
 have a1:=ad (xs.take a) [97+((3*(k:Int)+c) % 26).toNat] (by rw[List.length_take];simp only[lC,lN];omega)
 have a2:=ad (xs.take a++[97+((3*(k:Int)+c) % 26).toNat]) (xs.drop a) (by rw[lA,List.length_take,List.length_drop];simp only[lC,lN];omega)
 simp only[dD,aB,aC,cD,rK,yD,bB,aO,bE,aL,gS,gZ,aW,aP,aA,aV,sk,gH,sl1,sl2,m3,add_int,eJ 26 (by decide),il]
 have a1:opD .Add (.cl (.str ⟨(xs.take a).toArray⟩)) (.cl (.str ⟨#[97+((3*(k:Int)+c) % 26).toNat]⟩))=_:=a1
 simp only[a1,aA,a2,pC]
 rfl
theorem aEg{j:Nat}(h:j<tab.length):bV ⟨.lst (tab.map aD),false,false,[2]⟩ (.cl (.int (j:Int)))=.ok (.cl (aD (tab.getD j []))):=by
 unfold bV
 have hl:(tab.map aD).length=tab.length:=by rw[lM]
 have e:(tab.map aD)[j]? = some (aD (tab.getD j [])):=by simp[h]
 simp only[aV,hl,cZ h,e,Vl.sub,aZ,if_true]
theorem aCp(n:Nat)(c:Int)(s1 s2 s3 s6:Sl):∃xs:List Nat,xs.length<=7/\(∀x∈xs,97<=x/\x<=122) /\
 ev pg (call pg (n+1)) [.sh true (.int c),s1,s2,s3,.sh false (.str "abcdefghijklmnopqrstuvwxyz"),.dead,s6]
  (.mth .join (.c (.str "")) (.cons (.comp 1 [0,4] (.n 0) (.rng (.c (.int 1)) (.op .Add (.c (.int 1)) (.op .Mod (.call 7 (.cons (.v 0) (.cons (.c (.int 20)) .nil))) (.c (.int 8))))) .nil (.idx (.v 2) (.op .Mod (.call 7 (.cons (.v 1) (.cons (.v 0) .nil))) (.c (.int 26))))) .nil))=.ok (.cl (.str ⟨xs.toArray⟩)):=by
 have x0:=dA n c (k:=20) (by decide) (by decide)
 obtain⟨j,hj,hlt⟩:∃b:Nat,mix c 20 % 8=(b:Int)/\b<=7:=⟨(mix c 20 % 8).toNat,by have:=rW c 20;omega,by omega⟩
 have sk:aY (1+(j:Int))=true:=xY (by omega) (by omega)
 have hr:(fI 1 (1+(j:Int))).map Vl.cl=(List.range j).map λ(k:Nat)=>Vl.cl (.int (1+(k:Int))):=by
  unfold fI
  rw[List.map_map]
  have:(1+(j:Int)-1).toNat=j:=by omega
  rw[this]
  rfl
 have hw:walk pg (call pg (n+1)) [.sh true (.int c),s1,s2,s3,.sh false (.str "abcdefghijklmnopqrstuvwxyz"),.dead,s6] (.rng (.c (.int 1)) (.op .Add (.c (.int 1)) (.op .Mod (.call 7 (.cons (.v 0) (.cons (.c (.int 20)) .nil))) (.c (.int 8)))))=.ok ((List.range j).map (λ(k:Nat)=>Vl.cl (.int (1+(k:Int)))),[]):=by
  simp only[uB,bE,cD,aM,aB,aC,aO,aL,gZ,aP,aA,mC,mN,aV,x0,bH,eJ 8 (by decide),hj,add_int,hr]
  show R.iff (aY 1&&aY (1+(j:Int))) _=_
  rw[sk]
  rfl
 have hc:=lJ (P:=pg) (k:=1) (caps:=[0,4]) (T:=.n 0) (elt:=.idx (.v 2) (.op .Mod (.call 7 (.cons (.v 1) (.cons (.v 0) .nil))) (.c (.int 26)))) (λ(k:Nat)=>Vl.cl (.int (1+(k:Int)))) (λk=>.str ⟨#[97+(mix c (1+(k:Int)) % 26).toNat]⟩) (λ_=>rfl) hw (by rw[List.length_range];unfold lim;omega) λt ht=>by
  have ht:t<j:=by simpa using ht
  have x1:=dA n c (k:=1+(t:Int)) (by omega) (by omega)
  have il:=oM (i:=mix c (1+(t:Int)) % 26) (Int.emod_nonneg _ (by decide)) (Int.emod_lt_of_pos _ (by decide))
  refine⟨[.sh false (.int (1+(t:Int))),.sh true (.int c),.sh false (.str "abcdefghijklmnopqrstuvwxyz")],rfl,?_⟩
  simp only[bB,cD,aM,aB,aC,aO,bE,aL,gS,gZ,aP,aW,aA,mC,mN,aV,x1,bH,eJ 26 (by decide),il]
 refine⟨(List.range j).map λ(k:Nat)=>97+(mix c (1+(k:Int)) % 26).toNat,by simp;omega,λx hx=>?_,?_⟩
 . obtain⟨k,_,rfl⟩:=List.mem_map.mp hx
   have h1:=Int.emod_lt_of_pos (mix c (1+(k:Int))) (show(0:Int)<26 by decide)
   omega
 . have e:(List.range j).map (λ(k:Nat)=>D.str ⟨#[97+(mix c (1+(k:Int)) % 26).toNat]⟩)=chD ((List.range j).map λ(k:Nat)=>97+(mix c (1+(k:Int)) % 26).toNat):=by simp[chD]
   rw[e] at hc
   rw[aGO,bE,aA,aB,hc,aA,aC,aA,aA,aEf (by simp;omega)]
theorem aAl(n:Nat)(c:Int){most:Nat}(h1:1<=most)(h2:most<=21):∃bs,aEM bs/\call pg (n+2) 8 [.int c,.int most]=.ok (.lst (aX bs),true,false):=by
 have x0:=dA n c (k:=0) (by decide) (by decide)
 have x21:=dA n c (k:=21) (by decide) (by decide)
 obtain⟨j,hj,hlt⟩:∃b:Nat,mix c 0 % (most:Int)=(b:Int)/\b<21:=⟨(mix c 0 % (most:Int)).toNat,by rw[Int.toNat_of_nonneg (Int.emod_nonneg _ (by omega))],by have:=Int.emod_lt_of_pos (mix c 0) (show(0:Int)<most by omega);omega⟩
 have it:=aEg (j:=j) (show j<21 from hlt)
 have hmem:tab.getD j []∈tab:=by
  rw[List.getD_eq_getElem?_getD,List.getElem?_eq_getElem (show j<tab.length from hlt)]
  exact List.getElem_mem _
 obtain⟨⟨t1,t2⟩,t3,t4⟩:=aGU _ hmem
 generalize tab.getD j []=tops at it t1 t2 t3 t4
 obtain⟨xs,y1,y2,y3⟩:=aCp n c (.sh true (.int most)) (.own false (tab.map aD)) (.sh false (aD tops)) .dead
 have hl:(⟨xs.toArray⟩:Str).length=xs.length:=List.size_toArray ..
 have ln:biD .len [.cl (.str ⟨xs.toArray⟩)]=.ok (.cl (.int (xs.length:Int))):=by
  show R.iff (decide ((⟨xs.toArray⟩:Str).length<=lim)) (R.ok (Vl.cl (.int ((⟨xs.toArray⟩:Str).length:Int))))=_
  rw[hl,decide_eq_true (show xs.length<=lim by unfold lim;omega),gH]
 obtain⟨a,ha,hal⟩:∃b:Nat,mix c 21 % ((xs.length:Int)+1)=(b:Int)/\b<=xs.length:=⟨(mix c 21 % ((xs.length:Int)+1)).toNat,by rw[Int.toNat_of_nonneg (Int.emod_nonneg _ (by omega))],by have:=Int.emod_lt_of_pos (mix c 21) (show(0:Int)<(xs.length:Int)+1 by omega);omega⟩
 let σ:Sg:=[.sh true (.int c),.sh true (.int most),.own false (tab.map aD),.sh false (aD tops),.sh false (.str "abcdefghijklmnopqrstuvwxyz"),.sh false (.str ⟨xs.toArray⟩),.sh false (.int a)]
 have hw:walk pg (call pg (n+1)) σ (.enum (.v 3))=.ok ((List.range tops.length).map (λ(k:Nat)=>Vl.cl (.tup [.int (k:Int),.int (tops.getD k 0)])),[]):=by
  have e:=oN tops 0
  have e':(List.range tops.length).map (λ(k:Nat)=>D.tup [.int (0+(k:Int)),.int (tops.getD k 0)])=(List.range tops.length).map (λ(k:Nat)=>D.tup [.int (k:Int),.int (tops.getD k 0)]):=List.map_congr_left λk _=>by rw[Int.zero_add]
  rw[e'] at e
  have hi:∀v:Vl,items v ((List.range tops.length).map (λ(k:Nat)=>D.tup [.int (k:Int),.int (tops.getD k 0)]))=(List.range tops.length).map (λ(k:Nat)=>Vl.cl (.tup [.int (k:Int),.int (tops.getD k 0)])):=λv=>pU (g:=λ(k:Nat)=>D.tup [.int (k:Int),.int (tops.getD k 0)]) (λ_=>rfl) _
  rw[iX]
  show(R.ok (Vl.cl (aD tops)) >>= λx=>match fS x.d with|some as=>R.ok (items x (eN 0 as),x.al)|none=>.bad)=_
  rw[aA]
  show R.ok (items (Vl.cl (aD tops)) (eN 0 (tops.map D.int)),[])=_
  rw[e,hi]
 let bx:Nat->Str×Int:=λk=>(pV xs a (97+((3*(k:Int)+c) % 26).toNat),tops.getD k 0)
 have hc:=lJ (P:=pg) (σ:=σ) (k:=2) (caps:=[0,4,5,6]) (T:=.t [0,1]) (elt:=.tup (.cons (.op .Add (.op .Add (.sli (.v 4) .nil (.cons (.v 5) .nil)) (.idx (.v 3) (.op .Mod (.op .Add (.op .Mult (.c (.int 3)) (.v 0)) (.v 2)) (.c (.int 26))))) (.sli (.v 4) (.cons (.v 5) .nil) .nil)) (.cons (.v 1) .nil))) (λ(k:Nat)=>Vl.cl (.tup [.int (k:Int),.int (tops.getD k 0)])) (λk=>box (bx k)) (λk=>rO _) hw (by rw[List.length_range];unfold lim;omega) λt ht=>by
  have ht:t<tops.length:=by simpa using ht
  exact⟨_,yC rfl rfl,aCo (cl:=call pg (n+1)) y1 hal (k:=t) (by omega) c (tops.getD t 0)⟩
 have eb:(List.range tops.length).map (λk=>box (bx k))=aX ((List.range tops.length).map bx):=by simp[aX]
 rw[eb] at hc
 have sec:((List.range tops.length).map bx).map (·.2)=tops:=by
  rw[List.map_map]
  refine List.ext_getElem (by simp) λi h1 h2=>?_
  simp[bx,h2]
 have hin:∀b∈(List.range tops.length).map bx,b.2∈tops/\qX b.1=true/\b.1.length<=8:=λb hb=>by
  refine⟨?_,?_⟩
  . have:=List.mem_map_of_mem (f:=λp:Str×Int=>p.2) hb
    rwa [sec] at this
  . obtain⟨k,_,rfl⟩:=List.mem_map.mp hb
    have h1:=Int.emod_lt_of_pos (3*(k:Int)+c) (show(0:Int)<26 by decide)
    exact⟨aCn y2 (by omega),by show(pV _ _ _).length<=8;rw[aCm];omega⟩
 refine⟨(List.range tops.length).map bx,⟨⟨by simp;omega,λb hb=>t3 _ (hin b hb).1,?_⟩,by simpa using t1,by simpa using t2,λb hb=>(hin b hb).2⟩,?_⟩
 . have e:((List.range tops.length).map bx).map (λb=>b.2+1)=tops.map (·+1):=by
    conv=>rhs;rw[<-sec,List.map_map]
    rfl
   rw[e];exact t4
 . refine aU (F:=f8) rfl rfl (v:=⟨.lst (aX ((List.range tops.length).map bx)),true,false,[]⟩) ?_
   show exs pg (call pg (n+1)) [.sh true (.int c),.sh true (.int most),.dead,.dead,.dead,.dead,.dead] _=_
   refine(stp (σ':=[.sh true (.int c),.sh true (.int most),.own false ((tab.take 13).map aD),.dead,.dead,.dead,.dead]) rfl).trans ?_
   refine(stp (σ':=[.sh true (.int c),.sh true (.int most),.own false (tab.map aD),.dead,.dead,.dead,.dead]) rfl).trans ?_
   refine(stp (σ':=[.sh true (.int c),.sh true (.int most),.own false (tab.map aD),.sh false (aD tops),.dead,.dead,.dead]) ?_).trans ?_
   . simp only[bM,bB,cD,aM,aB,aC,aO,bE,aL,gS,gZ,aP,cQ,aA,mC,mN,aV,x0,bH,eJ (most:Int) (show(0:Int)<most by omega),hj,it,aH,bW,aQ,cM,bI,lS,lZ]
   refine(stp (σ':=[.sh true (.int c),.sh true (.int most),.own false (tab.map aD),.sh false (aD tops),.sh false (.str "abcdefghijklmnopqrstuvwxyz"),.dead,.dead]) rfl).trans ?_
   refine(stp (σ':=[.sh true (.int c),.sh true (.int most),.own false (tab.map aD),.sh false (aD tops),.sh false (.str "abcdefghijklmnopqrstuvwxyz"),.sh false (.str ⟨xs.toArray⟩),.dead]) ?_).trans ?_
   . rw[bM,y3];rfl
   refine(stp (σ':=σ) ?_).trans ?_
   . simp only[bM,cD,aM,cO,aB,aC,aO,bE,aL,gS,gZ,aP,aW,aA,mC,mN,aV,x21,bH,ln,add_int,eJ ((xs.length:Int)+1) (show(0:Int)<(xs.length:Int)+1 by omega),ha,aH,bW,aQ,cM,bI,lS,lZ]
     rfl
   rw[aI,cC,hc,aH,eD]
def eP(ns:List Cn):D:=.lst (ns.map Cn.d)
structure rZ (m:Nat) (ns:List Cn):Prop where
 few:ns.length<=4
 all:∀q∈ns,q.wf m true/\q.sz<=7
theorem aJB{a b:Cn}{i:Int}(h:i=0\/i=1):bV ⟨.lst [a.d,b.d],true,false,[]⟩ (.cl (.int i))=.ok (.cl (if i=0 then a else b).d):=by
 have ha:=a.noL
 have hb:=b.noL
 rcases h with rfl|rfl
 . show R.ok (Vl.sub _ a.d)=_;rw[bX ha];rfl
 . show R.ok (Vl.sub _ b.d)=_;rw[bX hb];rfl
theorem aLi(a b:Cn):jV [.cl a.d,.cl b.d]=⟨.lst [a.d,b.d],true,false,[]⟩:=rfl
abbrev fE:Ss:=match hdS (drp 8 f14.body) with|.for _ _ b=>b|_=>.nil
abbrev aEN:Ss:=match hdS (drp 5 fE) with|.for _ _ b=>b|_=>.nil
theorem aAm(n:Nat)(x:Int){m:Nat}(hm:1<=m){k:Nat}(hk:k<=10)(ns:List Cn)(hn:ns.length<=10)(s0 s1 s2 s3 s5 s6 s7 s8 s9 s10:Sl) :
 ∃q:Cn,q.wf m true/\q.sz<=7/\exs pg (call pg (n+4)) [s0,s1,s2,s3,.sh false (.int m),s5,s6,s7,s8,s9,s10,.sh false (.int x),.own false (ns.map Cn.d),.sh false (.int k)] aEN =
  .next [s0,s1,s2,s3,.sh false (.int m),s5,s6,s7,s8,s9,s10,.sh false (.int x),.own false ((ns++[q]).map Cn.d),.sh false (.int k)]:=by
 obtain⟨q,q1,q2,q3⟩:=iV n x (k:=7*(k:Int)) (by omega) (by omega) hm false (dp:=0) (.inl (Int.le_refl 0))
 have x0:=dA (n+3) x (k:=(k:Int)) (by omega) (by omega)
 have m7:opD .Mult (.cl (.int 7)) (.cl (.int k))=.ok (.cl (.int (7*k))):=mul_int (by
  simp only[fF,Bool.or_eq_true,bA,decide_eq_true_eq];right;omega)
 have pc:=aJB (a:=.yes) (b:=q) (aCi (mix x (k:Int)))
 have hz:(if mix x (k:Int) % 2=0 then Cn.yes else q).wf m true/\(if mix x (k:Int) % 2=0 then Cn.yes else q).sz<=7:=by
  by_cases h:mix x (k:Int) % 2=0
  . rw[if_pos h];exact⟨trivial,by decide⟩
  . rw[if_neg h];exact⟨q1,q2⟩
 generalize (if mix x (k:Int) % 2=0 then Cn.yes else q)=z at pc hz
 have hll:ns.length+1<=lim:=by unfold lim;omega
 have hy:Cn.d .yes=.tup [.str "yes"]:=rfl
 have lc:=aLi .yes q
 rw[hy] at lc pc
 refine⟨z,hz.1,hz.2,?_⟩
 show exs pg (call pg (n+4)) _ (.cons (.app 12 _) .nil)=_
 simp only[aI,bT,fC,bB,gR,aB,aC,dD,bE,aA,aGT,aM,cD,aO,aL,gS,gZ,aP,m7,mC,mN,aV,q3,bH,lc,x0,eJ 2 (by decide),pc,aH,put,bW,aQ,eO,lA,lM,lC,lN,hll,if_true,jE,Bool.or_false,lS,lZ,fN,List.map_append]
theorem wV(n:Nat)(ns:List Int){m:Nat}(hm:1<=m)(hm5:m<=5){k:Nat}(hk:k<3){hs:List (List (List Way))}{pr:List Cn}{nt:List (List Cn)}(l1:hs.length=k)(l2:pr.length=k)(l3:nt.length=k)(s1 s2 s3 s5 s10 s11 s12 s13:Sl) :
 ∃h p t s10' s11' s12' s13',rY m h/\(p.wf m false/\p.sz<=15)/\rZ m t/\exs pg (call pg (n+8)) [.sh true (.lst (ns.map D.int)),s1,s2,s3,.sh false (.int m),s5,.own false (hs.map aK),.own false (pr.map Cn.d),.own false (nt.map eP),.sh false (.int k),s10,s11,s12,s13] fE =
  .next [.sh true (.lst (ns.map D.int)),s1,s2,s3,.sh false (.int m),s5,.own false ((hs++[h]).map aK),.own false ((pr++[p]).map Cn.d),.own false ((nt++[t]).map eP),.sh false (.int k),s10',s11',s12',s13']:=by
 have m9:opD .Mult (.cl (.int 9)) (.cl (.int k))=.ok (.cl (.int (9*k))):=mul_int (by
  simp only[fF,Bool.or_eq_true,bA,decide_eq_true_eq];right;omega)
 obtain⟨a,ha,hal⟩:∃a:Nat,(3:Int)+9*(k:Int)=(a:Int)/\a<=30:=⟨3+9*k,by omega,by omega⟩
 obtain⟨h,h1,h2⟩:=aCl n ns (a:=a) (by omega) hm hm5
 have c7:call pg (n+8) 5 [.lst (ns.map D.int),.int ((a:Int)+7)]=_:=eE (n+7) ns (k:=a+7) (by omega)
 have c8:call pg (n+8) 5 [.lst (ns.map D.int),.int ((a:Int)+8)]=_:=eE (n+7) ns (k:=a+8) (by omega)
 generalize cellAt ns (a+7)=y at c7
 generalize cellAt ns (a+8)=x at c8
 obtain⟨p,p1,p2,p3⟩:=uI (n+2) y hm
 have ll1:hs.length+1<=lim:=by unfold lim;omega
 have ll2:pr.length+1<=lim:=by unfold lim;omega
 have ll3:nt.length+1<=lim:=by unfold lim;omega
 have e1:ex pg (call pg (n+8)) [.sh true (.lst (ns.map D.int)),s1,s2,s3,.sh false (.int m),s5,.own false (hs.map aK),.own false (pr.map Cn.d),.own false (nt.map eP),.sh false (.int k),s10,s11,s12,s13] (hdS fE)=.next [.sh true (.lst (ns.map D.int)),s1,s2,s3,.sh false (.int m),s5,.own false (hs.map aK),.own false (pr.map Cn.d),.own false (nt.map eP),.sh false (.int k),.sh false (.int a),s11,s12,s13]:=by
  simp only[fE,hdS,drp,f14,bM,cD,aO,bE,aL,gS,gZ,aP,aA,m9,add_int,ha,aH,bW,aQ,cM,bI,lS,lZ]
 have e2:ex pg (call pg (n+8)) [.sh true (.lst (ns.map D.int)),s1,s2,s3,.sh false (.int m),s5,.own false (hs.map aK),.own false (pr.map Cn.d),.own false (nt.map eP),.sh false (.int k),.sh false (.int a),s11,s12,s13] (hdS (drp 1 fE))=.next [.sh true (.lst (ns.map D.int)),s1,s2,s3,.sh false (.int m),s5,.own false ((hs++[h]).map aK),.own false (pr.map Cn.d),.own false (nt.map eP),.sh false (.int k),.sh false (.int a),s11,s12,s13]:=by
  simp only[fE,hdS,drp,f14,fC,aM,aB,aC,aO,aL,gS,gZ,aP,cP,aA,mC,mN,aV,h2,fY,aH,put,aQ,eO,lA,lM,lC,lN,ll1,if_true,Bool.or_false,lS,lZ,List.map_append]
 have e3:ex pg (call pg (n+8)) [.sh true (.lst (ns.map D.int)),s1,s2,s3,.sh false (.int m),s5,.own false ((hs++[h]).map aK),.own false (pr.map Cn.d),.own false (nt.map eP),.sh false (.int k),.sh false (.int a),s11,s12,s13] (hdS (drp 2 fE))=.next [.sh true (.lst (ns.map D.int)),s1,s2,s3,.sh false (.int m),s5,.own false ((hs++[h]).map aK),.own false ((pr++[p]).map Cn.d),.own false (nt.map eP),.sh false (.int k),.sh false (.int a),s11,s12,s13]:=by
  simp only[fE,hdS,drp,f14,fC,aM,aB,aC,aO,cD,bE,aL,gS,gZ,aP,cP,aA,mC,mN,aV,add_int,c7,bH,p3,aH,put,bW,aQ,eO,lA,lM,lC,lN,ll2,if_true,jE,Bool.or_false,lS,lZ,List.map_append]
 have e4:ex pg (call pg (n+8)) [.sh true (.lst (ns.map D.int)),s1,s2,s3,.sh false (.int m),s5,.own false ((hs++[h]).map aK),.own false ((pr++[p]).map Cn.d),.own false (nt.map eP),.sh false (.int k),.sh false (.int a),s11,s12,s13] (hdS (drp 3 fE))=.next [.sh true (.lst (ns.map D.int)),s1,s2,s3,.sh false (.int m),s5,.own false ((hs++[h]).map aK),.own false ((pr++[p]).map Cn.d),.own false (nt.map eP),.sh false (.int k),.sh false (.int a),.sh false (.int x),s12,s13]:=by
  simp only[fE,hdS,drp,f14,bM,aM,aB,aC,aO,cD,bE,aL,gS,gZ,aP,cP,aA,mC,mN,aV,add_int,c8,bH,aH,bW,aQ,cM,bI,lS,lZ]
 have e5:ex pg (call pg (n+8)) [.sh true (.lst (ns.map D.int)),s1,s2,s3,.sh false (.int m),s5,.own false ((hs++[h]).map aK),.own false ((pr++[p]).map Cn.d),.own false (nt.map eP),.sh false (.int k),.sh false (.int a),.sh false (.int x),s12,s13] (hdS (drp 4 fE))=.next [.sh true (.lst (ns.map D.int)),s1,s2,s3,.sh false (.int m),s5,.own false ((hs++[h]).map aK),.own false ((pr++[p]).map Cn.d),.own false (nt.map eP),.sh false (.int k),.sh false (.int a),.sh false (.int x),.own false [],s13]:=rfl
 have hix:bV ⟨.lst ((hs++[h]).map aK),false,false,[6]⟩ (.cl (.int (k:Int)))=.ok ⟨aK h,false,false,[6]⟩:=by
  have hlt:k<((hs++[h]).map aK).length:=by simp;omega
  have hg:((hs++[h]).map aK)[k]? = some (aK h):=by rw[List.getElem?_map,<-l1];simp
  unfold bV
  simp only[aV,cZ hlt,hg]
  rfl
 have hw:walk pg (call pg (n+8)) [.sh true (.lst (ns.map D.int)),s1,s2,s3,.sh false (.int m),s5,.own false ((hs++[h]).map aK),.own false ((pr++[p]).map Cn.d),.own false (nt.map eP),.sh false (.int k),.sh false (.int a),.sh false (.int x),.own false [],s13] (.rng (.c (.int 0)) (.op .Add (.bi .len (.cons (.idx (.v 6) (.v 9)) .nil)) (.c (.int 1))))=.ok ((List.range (h.length+1)).map λ(k:Nat)=>Vl.cl (.int (k:Int)),[]):=by
  have hf:=h1.few
  refine dF (v:=.cl (.int ((h.length+1:Nat):Int))) ?_ rfl (by omega)
  simp only[cD,cO,aB,aC,bB,aO,bE,aL,gS,gZ,cQ,aP,aA,hix]
  show(biD .len [⟨.lst (h.map dI),false,false,[6]⟩] >>= _)=_
  rw[cR,aA,add_int,lM]
  rfl
 obtain⟨σ',e6,hI⟩:=fD (t:=.n 13) (b:=aEN) (λi σ=>∃(t:List Cn) (s13:Sl),(∀q∈t,q.wf m true/\q.sz<=7)/\t.length=i/\σ=[.sh true (.lst (ns.map D.int)),s1,s2,s3,.sh false (.int m),s5,.own false ((hs++[h]).map aK),.own false ((pr++[p]).map Cn.d),.own false (nt.map eP),.sh false (.int k),.sh false (.int a),.sh false (.int x),.own false (t.map Cn.d),s13]) hw ⟨[],_,λ_ h=>(nomatch h),rfl,rfl⟩ (λi hi σ hσ=>by
  obtain⟨t,s13,g1,g2,rfl⟩:=hσ
  have hf:=h1.few
  have hi':i<h.length+1:=by simpa using hi
  obtain⟨q,q1,q2,q3⟩:=aAm (n+4) x hm (k:=i) (by omega) t (by omega) (.sh true (.lst (ns.map D.int))) s1 s2 s3 s5 (.own false ((hs++[h]).map aK)) (.own false ((pr++[p]).map Cn.d)) (.own false (nt.map eP)) (.sh false (.int k)) (.sh false (.int a))
  refine⟨_,_,?_,q3,t++[q],_,λz hz=>?_,by simp[g2],rfl⟩
  . simp
  . rcases List.mem_append.mp hz with hz|hz
    . exact g1 z hz
    . rw[List.mem_singleton.mp hz];exact⟨q1,q2⟩)
 obtain⟨t,s13',g1,g2,rfl⟩:=hI
 have g2:t.length=h.length+1:=by simpa using g2
 have hf:=h1.few
 refine⟨h,p,t,.sh false (.int a),.sh false (.int x),.sh false (eP t),s13',h1,⟨p1,p2⟩,⟨by omega,g1⟩,(stp e1).trans ((stp e2).trans ((stp e3).trans ((stp e4).trans ((stp e5).trans ((stp e6).trans ?_)))))⟩
 show exs pg (call pg (n+8)) _ (.cons (.app 8 (.v 12)) .nil)=_
 have hfz:∀{a0 a1 a2 a3 a4 a5 a6 a7 a8 a9 a10 a11 a13:Sl} {ds:List D},freeze [a0,a1,a2,a3,a4,a5,a6,a7,a8,a9,a10,a11,.own false ds,a13] [12]=[a0,a1,a2,a3,a4,a5,a6,a7,a8,a9,a10,a11,.sh false (.lst ds),a13]:=rfl
 simp only[aI,bT,fC,aO,aL,gS,gZ,cQ,aH,put,hfz,eO,lA,lM,lC,lN,ll3,if_true,Bool.or_false,lS,lZ,fN,List.map_append,mC,mN]
 rfl
structure aR where
 bs:List (Str×Int)
 bg:Cn
 hs:List (List (List Way))
 pr:List Cn
 nt:List (List Cn)
def aR.d(h:aR):D:=.tup [.lst (aX h.bs),h.bg.d,.lst (h.hs.map aK),.lst (h.pr.map Cn.d),.lst (h.nt.map eP)]
structure bO (h:aR):Prop where
 bs:aEM h.bs
 bg:h.bg.wf h.bs.length true/\h.bg.sz<=15
 one:1<=h.hs.length
 few:h.hs.length<=3
 hs:∀x∈h.hs,rY h.bs.length x
 pf:h.pr.length<=3
 pr:∀p∈h.pr,p.wf h.bs.length false/\p.sz<=15
 nf:h.nt.length<=3
 nt:∀t∈h.nt,rZ h.bs.length t
theorem aAn(n:Nat)(ns:List Int):∃h:aR,bO h/\call pg (n+9) 14 [.lst (ns.map D.int),.int 16]=.ok (h.d,false,false):=by
 have c0:call pg (n+8) 5 [.lst (ns.map D.int),.int 0]=_:=eE (n+7) ns (k:=0) (by omega)
 have c1:call pg (n+8) 5 [.lst (ns.map D.int),.int 1]=_:=eE (n+7) ns (k:=1) (by omega)
 have c2:call pg (n+8) 5 [.lst (ns.map D.int),.int 2]=_:=eE (n+7) ns (k:=2) (by omega)
 generalize cellAt ns 0=x0 at c0
 generalize cellAt ns 1=x1 at c1
 generalize cellAt ns 2=x2 at c2
 have d9:opD .FloorDiv (.cl (.int x0)) (.cl (.int 9))=.ok (.cl (.int (x0 / 9))):=yA rfl
 obtain⟨g,hg⟩:∃g,(x0 / 9 % 8==5)=g:=⟨_,rfl⟩
 have m5:opD .Mult (.cl (.int 5)) (.cl (.int (b2i g)))=.ok (.cl (.int (5*b2i g))):=mul_int (by cases g <;> decide)
 obtain⟨most,hmo,hm1,hm2⟩:∃k:Nat,(16:Int)+5*b2i g=(k:Int)/\1<=k/\k<=21:=⟨if g then 21 else 16,by cases g <;> rfl,by cases g <;> decide,by cases g <;> decide⟩
 obtain⟨bs,hb,eb⟩:=aAl (n+6) x0 hm1 hm2
 have hbl:(aX bs).length=bs.length:=by simp[aX]
 obtain⟨q,q1,q2,q3⟩:=lL (n+3) x1 (k:=1) (by decide) (by decide) hb.one false
 have y1:=dA (n+7) x1 (k:=60) (by decide) (by decide)
 have y2:=dA (n+7) x2 (k:=2) (by decide) (by decide)
 have hm5:bs.length<=5:=by have:=hb.few;omega
 have g0:0<(3:Int)-b2i g:=by cases g <;> decide
 obtain⟨J,hJ,hj1,hj2⟩:∃k:Nat,1+mix x2 2 % (3-b2i g)=(k:Int)/\1<=k/\k<=3:=by
  have h1:=Int.emod_nonneg (mix x2 2) (show(3:Int)-b2i g≠0 by omega)
  have h2:=Int.emod_lt_of_pos (mix x2 2) g0
  have h3:b2i g=0\/b2i g=1:=by cases g <;> simp[b2i]
  exact⟨(1+mix x2 2 % (3-b2i g)).toNat,by omega,by omega,by omega⟩
 obtain⟨bg,b1,b2,e5⟩:∃bg:Cn,bg.wf bs.length true/\bg.sz<=15/\ex pg (call pg (n+8)) [.sh true (.lst (ns.map D.int)),.sh true (.int 16),.sh false (.int (b2i g)),.own false (aX bs),.sh false (.int bs.length),.sh false q.d,.dead,.dead,.dead,.dead,.dead,.dead,.dead,.dead] (hdS (drp 4 f14.body))=.next [.sh true (.lst (ns.map D.int)),.sh true (.int 16),.sh false (.int (b2i g)),.own false (aX bs),.sh false (.int bs.length),.sh false bg.d,.dead,.dead,.dead,.dead,.dead,.dead,.dead,.dead]:=by
  have tt:∀{r:Bool},(mix x1 60 % 2==1)=r->tst pg (call pg (n+8)) [.sh true (.lst (ns.map D.int)),.sh true (.int 16),.sh false (.int (b2i g)),.own false (aX bs),.sh false (.int bs.length),.sh false q.d,.dead,.dead,.dead,.dead,.dead,.dead,.dead,.dead] (.cmp .Eq (.op .Mod (.call 7 (.cons (.call 5 (.cons (.v 0) (.cons (.c (.int 1)) .nil))) (.cons (.c (.int 60)) .nil))) (.c (.int 2))) (.c (.int 1)))=.ok r:=λ{r} hr=>by
   simp only[cA,cD,aM,aB,aC,aO,bE,aL,gZ,cP,aA,mC,mN,aV,c1,bH,y1,eJ 2 (by decide),dU,dG,hr]
  cases hr:mix x1 60 % 2==1 with
  | true=>
   refine⟨.cmp true (.box 0) (.num 0),⟨hb.one,(show(0:Int)<=0/\(0:Int)<=99 by decide)⟩,(show 1+1+1<=15 by decide),?_⟩
   show ex pg (call pg (n+8)) _ (.iff _ _ _)=_
   rw[bK,tt hr,aH,if_pos rfl]
   rfl
  | false=>
   refine⟨q,q1,q2,?_⟩
   show ex pg (call pg (n+8)) _ (.iff _ _ _)=_
   rw[bK,tt hr,aH,if_neg bN]
   rfl
 have hw:walk pg (call pg (n+8)) [.sh true (.lst (ns.map D.int)),.sh true (.int 16),.sh false (.int (b2i g)),.own false (aX bs),.sh false (.int bs.length),.sh false bg.d,.own false [],.own false [],.own false [],.dead,.dead,.dead,.dead,.dead] (.rng (.c (.int 0)) (.op .Add (.c (.int 1)) (.op .Mod (.call 7 (.cons (.call 5 (.cons (.v 0) (.cons (.c (.int 2)) .nil))) (.cons (.c (.int 2)) .nil))) (.op .Sub (.c (.int 3)) (.v 2)))))=.ok ((List.range J).map λ(k:Nat)=>Vl.cl (.int (k:Int)),[]):=by
  refine dF (v:=.cl (.int (J:Int))) ?_ rfl (by omega)
  simp only[cD,aM,aB,aC,aO,bE,aL,gS,gZ,cP,aP,aA,mC,mN,aV,c2,bH,y2,sub_int,eJ _ g0,add_int,hJ]
 obtain⟨σ',e9,hI⟩:=fD (t:=.n 9) (b:=fE) (λi σ=>∃(hs:List (List (List Way))) (pr:List Cn) (nt:List (List Cn)) (s9 s10 s11 s12 s13:Sl),hs.length=i/\pr.length=i/\nt.length=i/\(∀x∈hs,rY bs.length x)/\(∀p∈pr,p.wf bs.length false/\p.sz<=15)/\(∀t∈nt,rZ bs.length t) /\
  σ=[.sh true (.lst (ns.map D.int)),.sh true (.int 16),.sh false (.int (b2i g)),.own false (aX bs),.sh false (.int bs.length),.sh false bg.d,.own false (hs.map aK),.own false (pr.map Cn.d),.own false (nt.map eP),s9,s10,s11,s12,s13]) hw ⟨[],[],[],_,_,_,_,_,rfl,rfl,rfl,λ_ h=>(nomatch h),λ_ h=>(nomatch h),λ_ h=>(nomatch h),rfl⟩ (λi hi σ hσ=>by
  obtain⟨hs,pr,nt,s9,s10,s11,s12,s13,l1,l2,l3,o1,o2,o3,rfl⟩:=hσ
  have hi':i<J:=by simpa using hi
  obtain⟨h,p,t,t10,t11,t12,t13,r1,r2,r3,r4⟩:=wV n ns hb.one hm5 (k:=i) (by omega) l1 l2 l3 (.sh true (.int 16)) (.sh false (.int (b2i g))) (.own false (aX bs)) (.sh false bg.d) s10 s11 s12 s13
  refine⟨_,_,?_,r4,hs++[h],pr++[p],nt++[t],_,_,_,_,_,by simp[l1],by simp[l2],by simp[l3],λz hz=>?_,λz hz=>?_,λz hz=>?_,rfl⟩
  . simp
  . rcases List.mem_append.mp hz with hz|hz
    . exact o1 z hz
    . rw[List.mem_singleton.mp hz];exact r1
  . rcases List.mem_append.mp hz with hz|hz
    . exact o2 z hz
    . rw[List.mem_singleton.mp hz];exact r2
  . rcases List.mem_append.mp hz with hz|hz
    . exact o3 z hz
    . rw[List.mem_singleton.mp hz];exact r3)
 obtain⟨hs,pr,nt,s9,s10,s11,s12,s13,l1,l2,l3,o1,o2,o3,rfl⟩:=hI
 have l1:hs.length=J:=by simpa using l1
 have l2:pr.length=J:=by simpa using l2
 have l3:nt.length=J:=by simpa using l3
 refine⟨⟨bs,bg,hs,pr,nt⟩,⟨hb,⟨b1,b2⟩,by show 1<=hs.length;omega,by show hs.length<=3;omega,o1,by show pr.length<=3;omega,o2,by show nt.length<=3;omega,o3⟩,?_⟩
 refine aU (F:=f14) rfl rfl (v:=⟨aR.d ⟨bs,bg,hs,pr,nt⟩,false,false,[3,6,7,8]⟩) ?_
 show exs pg (call pg (n+8)) [.sh true (.lst (ns.map D.int)),.sh true (.int 16),.dead,.dead,.dead,.dead,.dead,.dead,.dead,.dead,.dead,.dead,.dead,.dead] _=_
 refine(stp (σ':=[.sh true (.lst (ns.map D.int)),.sh true (.int 16),.sh false (.int (b2i g)),.dead,.dead,.dead,.dead,.dead,.dead,.dead,.dead,.dead,.dead,.dead]) ?_).trans ?_
 . simp only[bM,cO,jQ,cD,aM,aB,aC,aO,bE,aL,gZ,cP,aA,mC,mN,aV,c0,bH,d9,eJ 8 (by decide),dU,dG,hg,wP,aH,bW,aQ,cM,bI,lS,lZ]
 refine(stp (σ':=[.sh true (.lst (ns.map D.int)),.sh true (.int 16),.sh false (.int (b2i g)),.own false (aX bs),.dead,.dead,.dead,.dead,.dead,.dead,.dead,.dead,.dead,.dead]) ?_).trans ?_
 . simp only[bM,cD,aM,aB,aC,aO,bE,aL,gS,gZ,cP,aP,aA,mC,mN,aV,c0,bH,m5,add_int,hmo,eb,fY,aH,aQ,cM,rS,lS,lZ]
 refine(stp (σ':=[.sh true (.lst (ns.map D.int)),.sh true (.int 16),.sh false (.int (b2i g)),.own false (aX bs),.sh false (.int bs.length),.dead,.dead,.dead,.dead,.dead,.dead,.dead,.dead,.dead]) ?_).trans ?_
 . simp only[bM,cO,aB,aC,aO,aL,gS,gZ,cQ,aA,cR,hbl,aH,bW,aQ,cM,bI,lS,lZ]
 refine(stp (σ':=[.sh true (.lst (ns.map D.int)),.sh true (.int 16),.sh false (.int (b2i g)),.own false (aX bs),.sh false (.int bs.length),.sh false q.d,.dead,.dead,.dead,.dead,.dead,.dead,.dead,.dead]) ?_).trans ?_
 . simp only[bM,aM,aB,aC,aO,bE,aL,gS,gZ,cP,aP,aA,mC,mN,aV,c1,bH,q3,aH,bW,aQ,cM,bI,lS,lZ]
 refine(stp e5).trans ?_
 refine(stp (σ':=[.sh true (.lst (ns.map D.int)),.sh true (.int 16),.sh false (.int (b2i g)),.own false (aX bs),.sh false (.int bs.length),.sh false bg.d,.own false [],.dead,.dead,.dead,.dead,.dead,.dead,.dead]) rfl).trans ?_
 refine(stp (σ':=[.sh true (.lst (ns.map D.int)),.sh true (.int 16),.sh false (.int (b2i g)),.own false (aX bs),.sh false (.int bs.length),.sh false bg.d,.own false [],.own false [],.dead,.dead,.dead,.dead,.dead,.dead]) rfl).trans ?_
 refine(stp (σ':=[.sh true (.lst (ns.map D.int)),.sh true (.int 16),.sh false (.int (b2i g)),.own false (aX bs),.sh false (.int bs.length),.sh false bg.d,.own false [],.own false [],.own false [],.dead,.dead,.dead,.dead,.dead]) rfl).trans ?_
 exact(stp e9).trans rfl
theorem aLj:∀p,(rU p == "minus")=!p:=by decide +kernel
theorem aLk:∀p,(rV p == "less")=!p:=by decide +kernel
theorem aLl:∀p,(kI p == "is")=false:=by decide +kernel
theorem aLm:∀p,(kI p == "less")=false:=by decide +kernel
theorem gI{ah:List Int}{c:Nat}(ha:ah.length=c):∀(s:Sm) (n:Nat),s.wf c true->call pg (n+s.sz) 15 [s.d,aD ah,.non]=.ok (.int (s.val ah ah),false,false)
 | .num k,n,w=>by
  refine aU (F:=f15) rfl rfl (v:=.cl (.int k)) ?_
  exact fQ (bY (cH (v0_ rfl) rfl (eA _ _ rfl)) aJl) (eI (cH (v0_ rfl) rfl (fZ _ _ _ rfl)))
 | .box k,n,w=>by
  have w:k<c:=w
  refine aU (F:=f15) rfl rfl (v:=.cl (.int (ah.getD k 0))) ?_
  exact cs (eL (bY (cH (v0_ rfl) rfl (eA _ _ rfl)) aJm)) (fQ (bY (cH (v0_ rfl) rfl (eA _ _ rfl)) aJn) (eI (cH (v1_ (aZ _)) (cH (v0_ rfl) rfl (fZ _ _ _ rfl)) (iU (by omega)))))
 | .aft k,n,w=>by cases w.2
 | .two p a b,n,w=>by
  have c1:=gI ha a (n+b.sz) w.1
  have c2:=gI ha b (n+a.sz) w.2
  rw[show n+b.sz+a.sz=n+a.sz+b.sz by omega] at c1
  have e:n+Sm.sz (.two p a b)=n+a.sz+b.sz+1:=by show n+(1+a.sz+b.sz)=_;omega
  rw[e]
  have m2:opD .Mult (.cl (.int 2)) (.cl (.int (b2i !p)))=.ok (.cl (.int (2*b2i !p))):=mul_int (by cases p <;> decide)
  have m1:opD .Mult (.cl (.int (1-2*b2i !p))) (.cl (.int (b.val ah ah)))=.ok (.cl (.int ((1-2*b2i !p)*b.val ah ah))):=mul_int (by
   simp only[fF,Bool.or_eq_true,bA,decide_eq_true_eq];left;cases p <;> decide)
  have e:a.val ah ah+(1-2*b2i !p)*b.val ah ah=Sm.val ah ah (.two p a b):=by
   show _=if p=true then a.val ah ah+b.val ah ah else a.val ah ah-b.val ah ah
   cases p
   . show _+(1-2*1)*_=_-_;omega
   . show _+(1-2*0)*_=_+_;omega
  refine aU (F:=f15) rfl rfl (v:=.cl (.int (Sm.val ah ah (.two p a b)))) ?_
  rw[<-e]
  exact cs (eL (bY (cH (v0_ (Sm.noL _)) rfl (eA _ _ rfl)) (aJo p))) (cs (eL (bY (cH (v0_ (Sm.noL _)) rfl (eA _ _ rfl)) (aJp p))) (cs (eL (bY (cH (v0_ (Sm.noL _)) rfl (eA _ _ rfl)) (aJq p))) (cs (fP (cT (cH (v0_ (Sm.noL _)) rfl (fZ _ _ _ a.noL)) (v1_ (aZ _)) rfl c1)) (eI (aEb rfl (aEb (aEb rfl (aEb rfl (aJi (aJf (cH (v0_ (Sm.noL _)) rfl (eA _ _ rfl)) (aLj p)) (wP _)) m2) (sub_int _ _)) (cT (cH (v0_ (Sm.noL _)) rfl (uG _ _ _ _ b.noL)) (v1_ (aZ _)) rfl c2) m1) (add_int _ _))))))
theorem kL{ah:List Int}{c:Nat}(ha:ah.length=c):∀(s:Cn) (n:Nat),s.wf c true->call pg (n+s.sz) 16 [s.d,aD ah,.non]=.ok (.bl (s.hold ah ah),false,false)
 | .yes,n,w=>by
  refine aU (F:=f16) rfl rfl (v:=.cl (.bl true)) ?_
  exact fQ (bY (cH (v0_ rfl) rfl (eA _ _ rfl)) aJs) (eI rfl)
 | .cmp i a b,n,w=>by
  have c1:=gI ha a (n+b.sz) w.1
  have c2:=gI ha b (n+a.sz) w.2
  rw[show n+b.sz+a.sz=n+a.sz+b.sz by omega] at c1
  have e:n+Cn.sz (.cmp i a b)=n+a.sz+b.sz+1:=by show n+(1+a.sz+b.sz)=_;omega
  rw[e]
  refine aU (F:=f16) rfl rfl (v:=.cl (.bl (Cn.hold ah ah (.cmp i a b)))) ?_
  refine cs (eL (bY (cH (v0_ (Cn.noL _)) rfl (eA _ _ rfl)) (aJv i))) (cs (eL (bY (cH (v0_ (Cn.noL _)) rfl (eA _ _ rfl)) (aJw i))) ?_)
  cases i with
  | true=>exact fQ (bY (cH (v0_ (Cn.noL _)) rfl (eA _ _ rfl)) (aGS true)) (eI (aEL (cT (cH (v0_ (Cn.noL _)) rfl (fZ _ _ _ a.noL)) (v1_ (aZ _)) rfl c1) (cT (cH (v0_ (Cn.noL _)) rfl (uG _ _ _ _ b.noL)) (v1_ (aZ _)) rfl c2) rfl))
  | false=>exact cs (eL (bY (cH (v0_ (Cn.noL _)) rfl (eA _ _ rfl)) (aGS false))) (fQ (bY (cH (v0_ (Cn.noL _)) rfl (eA _ _ rfl)) (aLk false)) (eI (aEL (cT (cH (v0_ (Cn.noL _)) rfl (fZ _ _ _ a.noL)) (v1_ (aZ _)) rfl c1) (cT (cH (v0_ (Cn.noL _)) rfl (uG _ _ _ _ b.noL)) (v1_ (aZ _)) rfl c2) rfl)))
 | .nt x,n,w=>by
  have c1:=kL ha x n w
  have e:n+Cn.sz (.nt x)=n+x.sz+1:=by show n+(1+x.sz)=_;omega
  rw[e]
  refine aU (F:=f16) rfl rfl (v:=.cl (.bl (Cn.hold ah ah (.nt x)))) ?_
  exact cs (eL (bY (cH (v0_ (Cn.noL _)) rfl (eA _ _ rfl)) aJt)) (fQ (bY (cH (v0_ (Cn.noL _)) rfl (eA _ _ rfl)) aJu) (eI (aJg (cT (cH (v0_ (Cn.noL _)) rfl (fZ _ _ _ x.noL)) (v1_ (aZ _)) rfl c1))))
 | .two p a b,n,w=>by
  have c1:=kL ha a (n+b.sz) w.1
  have c2:=kL ha b (n+a.sz) w.2
  rw[show n+b.sz+a.sz=n+a.sz+b.sz by omega] at c1
  have e:n+Cn.sz (.two p a b)=n+a.sz+b.sz+1:=by show n+(1+a.sz+b.sz)=_;omega
  rw[e]
  refine aU (F:=f16) rfl rfl (v:=.cl (.bl (Cn.hold ah ah (.two p a b)))) ?_
  refine cs (eL (bY (cH (v0_ (Cn.noL _)) rfl (eA _ _ rfl)) (aJx p))) (cs (eL (bY (cH (v0_ (Cn.noL _)) rfl (eA _ _ rfl)) (aJy p))) (cs (eL (bY (cH (v0_ (Cn.noL _)) rfl (eA _ _ rfl)) (aLl p))) (cs (eL (bY (cH (v0_ (Cn.noL _)) rfl (eA _ _ rfl)) (aLm p))) (cs (fP (cT (cH (v0_ (Cn.noL _)) rfl (fZ _ _ _ a.noL)) (v1_ (aZ _)) rfl c1)) (cs (fP (cT (cH (v0_ (Cn.noL _)) rfl (uG _ _ _ _ b.noL)) (v1_ (aZ _)) rfl c2)) ?_)))))
  cases p with
  | true=>exact fQ (bY (cH (v0_ (Cn.noL _)) rfl (eA _ _ rfl)) (aEc true)) (eI (aJh rfl rfl))
  | false=>exact cs (eL (bY (cH (v0_ (Cn.noL _)) rfl (eA _ _ rfl)) (aEc false))) (eI (aEK rfl rfl))
def gW(bs:List (Str×Int))(k:Nat):Int:=(bs.map (·.2)).getD k 0
def putF(bs:List (Str×Int))(st:List Int):List Int->List (Nat×Sm)->Option (List Int)
 | acc,[]=>some acc
 | acc,p::ps=>if 0<=p.2.val st st/\p.2.val st st<=gW bs p.1 then putF bs st (acc.set p.1 (p.2.val st st)) ps else none
def behF(bs:List (Str×Int))(w:Way)(st:List Int):Option (List Int):=if w.g.hold st st then putF bs st st w.ps else none
def stD:Option (List Int)->D
 | none=>.non
 | some r=>aD r
theorem aCq{P:Pg}{cl:Caller}{σ:Sg}{a b:E}{x y:Int}(h1:ev P cl σ a=.ok (.cl (.int x)))(h2:ev P cl σ b=.ok (.cl (.int y))):tst P cl σ (.cmp2 .LtE .LtE (.c (.int 0)) a b)=.ok (decide (0<=x)&&decide (x<=y)):=by
 rw[uA,bE,aA,h1,aA,aV,aV,wN]
 cases decide (0<=x) with
 | true=>simp only[h2,aA,aV,wN,Bool.true_and]
 | false=>rfl
theorem jR{P:Pg}{cl:Caller}{σ:Sg}{a b:E}{x y:Int}(h1:ev P cl σ a=.ok (.cl (.int x)))(h2:ev P cl σ b=.ok (.cl (.int y))):tst P cl σ (.cmp2 .LtE .Lt (.c (.int 0)) a b)=.ok (decide (0<=x)&&decide (x<y)):=by
 rw[uA,bE,aA,h1,aA,aV,aV,wN]
 cases decide (0<=x) with
 | true=>simp only[h2,aA,aV,lI,Bool.true_and]
 | false=>rfl
theorem yK{bs:List (Str×Int)}{k:Nat}(h:k<bs.length):∃b:D,noL b=true/\bV ⟨.lst (aX bs),false,true,[]⟩ (.cl (.int (k:Int)))=.ok (.cl b)/\bV (.cl b) (.cl (.int 1))=.ok (.cl (.int (gW bs k))):=by
 refine⟨box bs[k],rO _,?_,?_⟩
 . have hl:(aX bs).length=bs.length:=by simp[aX]
   have e:(aX bs)[k]? = some (box bs[k]):=by simp[aX,h]
   unfold bV
   simp only[aV,hl,cZ h,e,Vl.sub,rO,if_true]
 . have:=fZ (.str bs[k].1) (.int bs[k].2) [] rfl
   unfold box gW
   rw[this]
   simp[h]
theorem aCr(n:Nat){bs:List (Str×Int)}{st:List Int}(hs:st.length=bs.length){s:Sm}(w:s.wf bs.length true)(z:s.sz<=3):call pg (n+3) 0 [s.d,aD st,.non]=.ok (.int (s.val st st),false,false):=by
 have:=iI (P:=pg) (f:=0) rfl (ah:=st) (be:=st) (bd:=.non) (c:=bs.length) (pl:=true) hs hs rfl (λh=>nomatch h) s (n+3-s.sz) w
 rwa [show n+3-s.sz+s.sz=n+3 by omega] at this
theorem aAo(n:Nat){bs:List (Str×Int)}{st:List Int}(hs:st.length=bs.length){s:Sm}(w:s.wf bs.length true)(z:s.sz<=3):call pg (n+3) 15 [s.d,aD st,.non]=.ok (.int (s.val st st),false,false):=by
 have:=gI (ah:=st) (c:=bs.length) hs s (n+3-s.sz) w
 rwa [show n+3-s.sz+s.sz=n+3 by omega] at this
theorem uL(n:Nat){bs:List (Str×Int)}{st:List Int}(hs:st.length=bs.length){q:Cn}(w:q.wf bs.length true)(z:q.sz<=15):call pg (n+15) 1 [q.d,aD st,.non]=.ok (.bl (q.hold st st),false,false):=by
 have:=kJ (P:=pg) (v:=0) (f:=1) rfl rfl (ah:=st) (be:=st) (bd:=.non) (c:=bs.length) (pl:=true) hs hs rfl (λh=>nomatch h) q (n+15-q.sz) w
 rwa [show n+15-q.sz+q.sz=n+15 by omega] at this
theorem aCs(n:Nat){bs:List (Str×Int)}{st:List Int}(hs:st.length=bs.length){q:Cn}(w:q.wf bs.length true)(z:q.sz<=15):call pg (n+15) 16 [q.d,aD st,.non]=.ok (.bl (q.hold st st),false,false):=by
 have:=kL (ah:=st) (c:=bs.length) hs q (n+15-q.sz) w
 rwa [show n+15-q.sz+q.sz=n+15 by omega] at this
abbrev aCt:Ss:=match hdS (drp 2 f2.body) with|.for _ _ b=>b|_=>.nil
theorem aEh{p:Nat×Sm}{s0 s1 s2 s3 s4 s5 s6:Sl}:cF [s0,s1,s2,s3,s4,s5,s6] (.cl (dH p)) (.t [4,5])=.ok [s0,s1,s2,s3,.sh false (.int p.1),.sh false p.2.d,s6]:=by
 unfold cF dH
 simp only[aV,lC,lN,if_true,List.zip_cons_cons,List.zip_nil_left,List.foldl_cons,List.foldl_nil,bX p.2.noL,bX (show noL (.int (p.1:Int))=true from rfl),bI,lS,lZ]
theorem uM(acc:List Int)(k:Nat)(v:Int):(acc.map D.int).set k (.int v)=(acc.set k v).map D.int:=by rw[List.map_set]
theorem aCu(n:Nat){bs:List (Str×Int)}{st acc:List Int}(hs:st.length=bs.length)(ha:acc.length=bs.length)(hb:bs.length<=5){p:Nat×Sm}(o:kK bs.length p)(s1 s4 s5 s6:Sl) :
 exs pg (call pg (n+3)) [.sh true (.lst (aX bs)),s1,.sh true (aD st),.own false (acc.map D.int),.sh false (.int p.1),.sh false p.2.d,s6] aCt =
  if 0<=p.2.val st st/\p.2.val st st<=gW bs p.1 then .next [.sh true (.lst (aX bs)),s1,.sh true (aD st),.own false ((acc.set p.1 (p.2.val st st)).map D.int),.sh false (.int p.1),.sh false p.2.d,.sh false (.int (p.2.val st st))] else .ret (.cl .non):=by
 have cv:=aCr n hs o.wf o.sz
 generalize p.2.val st st=v at cv
 obtain⟨b,b1,b2,b3⟩:=yK (bs:=bs) (k:=p.1) o.box
 have v2:=cX 2 true (aZ st)
 have e1:ex pg (call pg (n+3)) [.sh true (.lst (aX bs)),s1,.sh true (aD st),.own false (acc.map D.int),.sh false (.int p.1),.sh false p.2.d,s6] (hdS aCt)=.next [.sh true (.lst (aX bs)),s1,.sh true (aD st),.own false (acc.map D.int),.sh false (.int p.1),.sh false p.2.d,.sh false (.int v)]:=by
  simp only[aCt,hdS,drp,f2,bM,aM,aB,aC,aO,bE,aL,gS,gZ,aW,v2,aA,mC,mN,aV,cv,bH,aH,bW,aQ,cM,bI,lS,lZ]
 have tt:=aCq (P:=pg) (cl:=call pg (n+3)) (σ:=[.sh true (.lst (aX bs)),s1,.sh true (aD st),.own false (acc.map D.int),.sh false (.int p.1),.sh false p.2.d,.sh false (.int v)]) (a:=.v 6) (b:=.idx (.idx (.v 0) (.v 4)) (.c (.int 1))) (x:=v) (y:=gW bs p.1) rfl (by
  simp only[bB,aO,bE,aL,gS,gZ,cP,aP,aA,b2,b3])
 refine(stp e1).trans ?_
 show exs pg (call pg (n+3)) _ (.cons (.iff (.nt _) _ _) (.cons (.setIx 3 (.v 4) (.v 6)) .nil))=_
 by_cases hv:0<=v/\v<=gW bs p.1
 . have hd:(decide (0<=v)&&decide (v<=gW bs p.1))=true:=by rw[decide_eq_true hv.1,decide_eq_true hv.2];rfl
   rw[if_pos hv]
   have hx:ixN acc.length (p.1:Int)=some p.1:=cZ (by rw[ha];exact o.box)
   have hll:acc.length<=lim:=by unfold lim;omega
   simp only[aI,bT,bK,dE,tt,aA,hd,Bool.not_true,aH,bF,if_false,fN,uC,aO,aL,gS,gZ,aP,aV,put,bW,aQ,eO,hx,uM,lM,List.length_set,hll,if_true,jE,Bool.or_false,lS,lZ]
 . have hd:(decide (0<=v)&&decide (v<=gW bs p.1))=false:=by
    cases h:(decide (0<=v)&&decide (v<=gW bs p.1)) with
    | false=>rfl
    | true=>simp only[bA,decide_eq_true_eq] at h;exact absurd h hv
   rw[if_neg hv]
   simp only[aI,bT,bK,dE,tt,aA,hd,Bool.not_false,aH,if_true,cC,bE,eD]
theorem uN(n:Nat){bs:List (Str×Int)}{st:List Int}(hs:st.length=bs.length)(hb:bs.length<=5)(s1:Sl):∀(ps:List (Nat×Sm)) (acc:List Int) (s4 s5 s6:Sl),(∀p∈ps,kK bs.length p)->acc.length=bs.length ->
 ∃t4 t5 t6,dJ (λσ x=>O.from σ (cF σ x (.t [4,5])) λσ'=>exs pg (call pg (n+3)) σ' aCt) (ps.map λp=>Vl.cl (dH p)) [.sh true (.lst (aX bs)),s1,.sh true (aD st),.own false (acc.map D.int),s4,s5,s6] =
  (match putF bs st acc ps with|none=>.ret (.cl .non)|some r=>.next [.sh true (.lst (aX bs)),s1,.sh true (aD st),.own false (r.map D.int),t4,t5,t6])
 | [],acc,s4,s5,s6,_,_=>⟨s4,s5,s6,rfl⟩
 | p::ps,acc,s4,s5,s6,h,ha=>by
  have o:=h p List.mem_cons_self
  have tu:=aCu n hs ha hb o s1 s4 s5 s6
  rw[mC,dJ,aEh,aH,tu,putF]
  by_cases hv:0<=p.2.val st st/\p.2.val st st<=gW bs p.1
  . rw[if_pos hv,if_pos hv]
    exact uN n hs hb s1 ps (acc.set p.1 (p.2.val st st)) _ _ _ (λq hq=>h q (List.mem_cons_of_mem _ hq)) (by rw[List.length_set];exact ha)
  . rw[if_neg hv,if_neg hv]
    exact⟨s4,s5,s6,rfl⟩
theorem oO{v:Vl}(ps:List (Nat×Sm)):items v (ps.map dH)=ps.map λp=>Vl.cl (dH p):=pU yG ps
theorem wW(n:Nat){bs:List (Str×Int)}{st:List Int}(hs:st.length=bs.length)(hb:bs.length<=5){pl:Nat}{w:Way}(o:oJ bs.length pl w):call pg (n+16) 2 [.lst (aX bs),w.d,aD st]=.ok (stD (behF bs w st),false,false):=by
 have ch:=uL n hs o.g o.gs
 have v1:=cX 1 true (mK w)
 have v2:=cX 2 true (aZ st)
 have i0:bV (.cl w.d) (.cl (.int 0))=.ok (.cl w.g.d):=eA w.g.d _ w.g.noL
 have i1:bV (.cl w.d) (.cl (.int 1))=.ok (.cl (.tup (w.ps.map dH))):=fZ w.g.d (.tup (w.ps.map dH)) _ (by rw[noL];exact iW _)
 refine aU (F:=f2) rfl rfl (v:=.cl (stD (behF bs w st))) ?_
 show exs pg (call pg (n+15)) [.sh true (.lst (aX bs)),.sh true w.d,.sh true (aD st),.dead,.dead,.dead,.dead] _=_
 unfold behF
 cases hh:w.g.hold st st with
 | false=>
  rw[hh] at ch
  simp only[f2,aI,bT,bK,dE,fO,aB,aC,bB,aO,bE,aL,gS,gZ,v1,v2,aA,i0,mC,mN,aV,ch,bH,iH,Bool.not_false,aH,if_true,cC,eD,bF,if_false,stD]
 | true=>
  rw[hh] at ch
  obtain⟨t4,t5,t6,hl⟩:=uN (n+12) hs hb (.sh true w.d) w.ps st .dead .dead .dead o.ps hs
  have e1:ex pg (call pg (n+15)) [.sh true (.lst (aX bs)),.sh true w.d,.sh true (aD st),.dead,.dead,.dead,.dead] (hdS f2.body)=.next [.sh true (.lst (aX bs)),.sh true w.d,.sh true (aD st),.dead,.dead,.dead,.dead]:=by
   simp only[hdS,f2,bT,bK,dE,fO,aB,aC,bB,aO,bE,aL,gS,gZ,v1,v2,aA,i0,mC,mN,aV,ch,bH,iH,Bool.not_true,aH,bF,if_false]
  have e2:ex pg (call pg (n+15)) [.sh true (.lst (aX bs)),.sh true w.d,.sh true (aD st),.dead,.dead,.dead,.dead] (hdS (drp 1 f2.body))=.next [.sh true (.lst (aX bs)),.sh true w.d,.sh true (aD st),.own false (st.map D.int),.dead,.dead,.dead]:=by
   have hli:biD .list [.cl (aD st)]=.ok ⟨.lst (st.map D.int),true,false,[]⟩:=by
    show R.ok (Vl.mk (.lst (st.map D.int)) true (false&&!noLs (st.map D.int)) (if noLs (st.map D.int)=true then [] else []))=_
    rw[dS];rfl
   simp only[hdS,drp,f2,bM,cO,aB,aC,aO,aL,gS,gZ,v2,aA,hli,aH,aQ,cM,rS,lS,lZ]
  have hw:walk pg (call pg (n+15)) [.sh true (.lst (aX bs)),.sh true w.d,.sh true (aD st),.own false (st.map D.int),.dead,.dead,.dead] (.seq (.idx (.v 1) (.c (.int 1))))=.ok (w.ps.map (λp=>Vl.cl (dH p)),[]):=by
   simp only[eZ,bB,aO,bE,aL,gS,gZ,v1,aA,i1,aV,oO,bW]
  refine(stp e1).trans ((stp e2).trans ?_)
  show exs pg (call pg (n+15)) _ (.cons (.for (.t [4,5]) (.seq (.idx (.v 1) (.c (.int 1)))) aCt) _)=_
  rw[aI,rN,hw,aH]
  show(dJ _ _ _).on _=_
  rw[aQ,hl,if_pos rfl]
  cases putF bs st st w.ps with
  | none=>rfl
  | some r=>
   show exs pg (call pg (n+15)) [.sh true (.lst (aX bs)),.sh true w.d,.sh true (aD st),.own false (r.map D.int),t4,t5,t6] (.cons (.ret (.bi .tuple (.cons (.v 3) .nil))) .nil)=_
   rw[aI,cC,cO,aB,aO]
   simp only[aL,gS,gZ,cQ]
   simp only[aC,aA,rX 3 (dS r),aH,eD]
   rfl
structure cU (h:aR) (st pl:List Int):Prop where
 st:st.length=h.bs.length
 len:pl.length=h.hs.length
 pl:∀(i:Nat) (hi:i<h.hs.length),0<=pl.getD i 0/\pl.getD i 0<=h.hs[i].length
def cK(h:aR)(pl:List Int)(i:Nat):List Way:=(h.hs.getD i []).getD (pl.getD i 0).toNat []
def iJ(h:aR)(pl:List Int)(i k:Nat):Way:=(cK h pl i).getD k ⟨.yes,[],0⟩
def aGV(pl:List Int)(i:Nat)(nx:Nat):Option (List Int)->D
 | none=>.non
 | some r=>.tup [aD r,aD (pl.take i++[(nx:Int)]++pl.drop (i+1))]
def lW(h:aR)(st pl:List Int)(x y:Int):D:=
 if 0<=x/\x<h.hs.length then
  if 0<=y/\y<(cK h pl x.toNat).length then aGV pl x.toNat (iJ h pl x.toNat y.toNat).nx (behF h.bs (iJ h pl x.toNat y.toNat) st) else .non
 else .non
def aF(st pl:List Int):D:=.tup [aD st,aD pl]
def bJ(x y:Int):D:=.tup [.int x,.int y]
theorem cV(st pl:List Int):noL (aF st pl)=true:=mJ (aZ _) (aZ _)
theorem kM(x y:Int):noL (bJ x y)=true:=rfl
theorem dQ(i:Nat)(h:aR):Sl.val i (.sh true h.d)=.ok ⟨h.d,false,true,[]⟩:=rfl
theorem fW(h:aR):bV ⟨h.d,false,true,[]⟩ (.cl (.int 2))=.ok ⟨.lst (h.hs.map aK),false,true,[]⟩:=rfl
theorem sA(h:aR):bV ⟨h.d,false,true,[]⟩ (.cl (.int 0))=.ok ⟨.lst (aX h.bs),false,true,[]⟩:=rfl
theorem uO{h:aR}{i:Nat}(hi:i<h.hs.length):bV ⟨.lst (h.hs.map aK),false,true,[]⟩ (.cl (.int (i:Int)))=.ok ⟨aK h.hs[i],false,true,[]⟩:=by
 have e:(h.hs.map aK)[i]? = some (aK h.hs[i]):=by simp[hi]
 unfold bV
 simp only[aV,cZ (show i<(h.hs.map aK).length by rw[lM];exact hi),e]
 rfl
theorem yL{rows:List (List Way)}{j:Nat}(hj:j<rows.length):bV ⟨aK rows,false,true,[]⟩ (.cl (.int (j:Int)))=.ok ⟨dI rows[j],false,true,[]⟩:=by
 have e:(rows.map dI)[j]? = some (dI rows[j]):=by simp[hj]
 unfold bV aK
 simp only[aV,cZ (show j<(rows.map dI).length by rw[lM];exact hj),e]
 rfl
theorem yM{row:List Way}{k:Nat}(hk:k<row.length):bV ⟨dI row,false,true,[]⟩ (.cl (.int (k:Int)))=.ok (.cl row[k].d):=by
 have e:(row.map Way.d)[k]? = some row[k].d:=by simp[hk]
 unfold bV dI
 simp only[aV,cZ (show k<(row.map Way.d).length by rw[lM];exact hk),e,bX (mK _)]
theorem aCv(n:Nat){rows:List (List Way)}{j:Nat}(hj:j<rows.length):call pg (n+1) 3 [aK rows,.int (j:Int)]=.ok (dI rows[j],false,true):=by
 have hv:Sl.val 0 (.sh true (aK rows))=.ok ⟨aK rows,false,true,[]⟩:=rfl
 have tt:=jR (P:=pg) (cl:=call pg n) (σ:=[.sh true (aK rows),.sh true (.int (j:Int))]) (a:=.v 1) (b:=.bi .len (.cons (.v 0) .nil)) (x:=(j:Int)) (y:=(rows.length:Int)) rfl (by
  simp only[cO,aB,aC,aO,aL,gZ,hv,aA]
  show biD .len [⟨.lst (rows.map dI),false,true,[]⟩]=_
  rw[cR,lM])
 refine aU (F:=f3) rfl rfl (v:=⟨dI rows[j],false,true,[]⟩) ?_
 show exs pg (call pg n) [.sh true (aK rows),.sh true (.int (j:Int))] (.cons (.ret (.ife _ (.idx (.v 0) (.v 1)) _)) .nil)=_
 rw[aI,cC,wK,tt,decide_eq_true (show(0:Int)<=(j:Int) by omega),decide_eq_true (show(j:Int)<(rows.length:Int) by omega)]
 simp only[aA,Bool.and_self,if_true,bB,aO,aL,gS,gZ,hv,aP,yL hj,aH,eD]
theorem yN(n:Nat){rows:List (List Way)}{j:Int}(hj:(rows.length:Int)<=j):call pg (n+1) 3 [aK rows,.int j]=.ok (.lst [],true,false):=by
 have hv:Sl.val 0 (.sh true (aK rows))=.ok ⟨aK rows,false,true,[]⟩:=rfl
 have tt:=jR (P:=pg) (cl:=call pg n) (σ:=[.sh true (aK rows),.sh true (.int j)]) (a:=.v 1) (b:=.bi .len (.cons (.v 0) .nil)) (x:=j) (y:=(rows.length:Int)) rfl (by
  simp only[cO,aB,aC,aO,aL,gZ,hv,aA]
  show biD .len [⟨.lst (rows.map dI),false,true,[]⟩]=_
  rw[cR,lM])
 refine aU (F:=f3) rfl rfl (v:=⟨.lst [],true,false,[]⟩) ?_
 show exs pg (call pg n) [.sh true (aK rows),.sh true (.int j)] (.cons (.ret (.ife _ _ (.lst .nil))) .nil)=_
 rw[aI,cC,wK,tt,decide_eq_false (show ¬ j<(rows.length:Int) by omega),Bool.and_false]
 rfl
theorem aCw(is:List Int)(lo hi:Option Int):cut (is.map D.int) lo hi=(cut is lo hi).map D.int:=by
 unfold cut
 rw[lM,List.map_take,List.map_drop]
theorem aCx(is:List Int)(lo hi:Option Int):eW (.cl (aD is)) lo hi=.ok (.cl (aD (cut is lo hi))):=by
 show R.ok (Vl.mk (.tup (cut (is.map D.int) lo hi)) false (false&&!noLs (is.map D.int)) (if noLs (is.map D.int)=true then [] else []))=_
 rw[dS,aCw];rfl
theorem uP(a b:List Int)(h:a.length+b.length<=100):opD .Add (.cl (aD a)) (.cl (aD b))=.ok (.cl (aD (a++b))):=by
 show R.iff (decide ((a.map D.int).length+(b.map D.int).length<=lim)) (R.ok (Vl.mk (.tup (a.map D.int++b.map D.int)) false false []))=_
 rw[lM,lM,decide_eq_true (show a.length+b.length<=lim by unfold lim;omega),gH,<-List.map_append]
 rfl
theorem oP{P:Pg}{cl:Caller}{σ:Sg}{v t:E}{a b c:E}{pl:List Int}{i:Nat}{nx:Int}(hl:pl.length<=10)(hi:i<pl.length)(h1:ev P cl σ v=.ok (.cl (aD pl)))(h2:ev P cl σ a=.ok (.cl (.int (i:Int))))(h3:ev P cl σ t=.ok (.cl (.int nx))) :
 ev P cl σ (.op .Add (.op .Add (.sli v .nil (.cons a .nil)) (.tup (.cons t .nil))) (.sli v (.cons (.op .Add a (.c (.int 1))) .nil) .nil))=.ok (.cl (aD (pl.take i++[nx]++pl.drop (i+1)))):=by
 have sk:aY (i:Int)=true:=kF (by omega)
 have sk1:aY ((i:Int)+1)=true:=xY (by omega) (by omega)
 have ct:=wU pl i (by omega)
 have cf:=uJ pl (i+1) (by omega)
 have cf:cut pl (some ((i:Int)+1)) none=pl.drop (i+1):=cf
 have a1:=uP (pl.take i) [nx] (by rw[List.length_take];simp only[lC,lN];omega)
 have a2:=uP (pl.take i++[nx]) (pl.drop (i+1)) (by rw[lA,List.length_take,List.length_drop];simp only[lC,lN];omega)
 have t1:Vl.cl (.tup [.int nx])=.cl (aD [nx]):=rfl
 simp only[cD,rK,yD,dD,aB,aC,bE,h1,h2,h3,aA,aV,sk,sk1,gH,aCx,ct,cf,add_int,aGT,t1,a1,a2]
theorem aCy(n:Nat){h:aR}(H:bO h){st pl:List Int}(S:cU h st pl)(x y:Int):call pg (n+17) 4 [h.d,aF st pl,bJ x y]=.ok (lW h st pl x y,false,false):=by
 have v0:=dQ 0 h
 have v1:=cX 1 true (cV st pl)
 have v2:=cX 2 true (kM x y)
 have s0:bV (.cl (bJ x y)) (.cl (.int 0))=.ok (.cl (.int x)):=rfl
 have s1:bV (.cl (bJ x y)) (.cl (.int 1))=.ok (.cl (.int y)):=rfl
 have t0:bV (.cl (aF st pl)) (.cl (.int 0))=.ok (.cl (aD st)):=eA (aD st) _ (aZ st)
 have t1:bV (.cl (aF st pl)) (.cl (.int 1))=.ok (.cl (aD pl)):=fZ (aD st) (aD pl) _ (aZ pl)
 have hm:h.bs.length<=5:=by have:=H.bs.few;omega
 have hpl:pl.length<=10:=by have:=S.len;have:=H.few;omega
 have hlen:∀σ:Sg,σ[0]? = some (.sh true h.d)->ev pg (call pg (n+16)) σ (.bi .len (.cons (.idx (.v 0) (.c (.int 2))) .nil))=.ok (.cl (.int (h.hs.length:Int))):=λσ hσ=>by
  simp only[cO,aB,aC,bB,aO,bE,aL,hσ,v0,aA,fW,cR,lM]
 refine aU (F:=f4) rfl rfl (v:=.cl (lW h st pl x y)) ?_
 show exs pg (call pg (n+16)) [.sh true h.d,.sh true (aF st pl),.sh true (bJ x y),.dead,.dead,.dead,.dead,.dead,.dead] _=_
 have e1:ex pg (call pg (n+16)) [.sh true h.d,.sh true (aF st pl),.sh true (bJ x y),.dead,.dead,.dead,.dead,.dead,.dead] (hdS f4.body)=.next [.sh true h.d,.sh true (aF st pl),.sh true (bJ x y),.sh false (.int x),.dead,.dead,.dead,.dead,.dead]:=by
  simp only[hdS,f4,bM,bB,aO,bE,aL,gS,gZ,v2,aA,s0,aH,bW,aQ,cM,bI,lS,lZ]
 refine(stp e1).trans ?_
 have tt:=jR (P:=pg) (cl:=call pg (n+16)) (σ:=[.sh true h.d,.sh true (aF st pl),.sh true (bJ x y),.sh false (.int x),.dead,.dead,.dead,.dead,.dead]) (a:=.v 3) (b:=.bi .len (.cons (.idx (.v 0) (.c (.int 2))) .nil)) (x:=x) (y:=(h.hs.length:Int)) rfl (hlen _ rfl)
 unfold lW
 by_cases hx:0<=x/\x<h.hs.length
 . rw[if_pos hx]
   obtain⟨i,rfl⟩:∃i:Nat,x=(i:Int):=⟨x.toNat,by omega⟩
   have hi:i<h.hs.length:=by omega
   have hd:(decide (0<=(i:Int))&&decide ((i:Int)<(h.hs.length:Int)))=true:=by rw[decide_eq_true hx.1,decide_eq_true hx.2];rfl
   rw[hd] at tt
   rw[Int.toNat_natCast]
   have ip:bV (.cl (aD pl)) (.cl (.int (i:Int)))=.ok (.cl (.int (pl.getD i 0))):=iU (by rw[S.len];exact hi)
   have ih:=uO hi
   obtain⟨p0,p1⟩:=S.pl i hi
   have e2:ex pg (call pg (n+16)) [.sh true h.d,.sh true (aF st pl),.sh true (bJ i y),.sh false (.int i),.dead,.dead,.dead,.dead,.dead] (hdS (drp 1 f4.body))=.next [.sh true h.d,.sh true (aF st pl),.sh true (bJ i y),.sh false (.int i),.dead,.dead,.dead,.dead,.dead]:=by
    show ex pg (call pg (n+16)) _ (.iff (.nt _) _ _)=_
    rw[bK,dE,tt]
    rfl
   have e3:ex pg (call pg (n+16)) [.sh true h.d,.sh true (aF st pl),.sh true (bJ i y),.sh false (.int i),.dead,.dead,.dead,.dead,.dead] (hdS (drp 2 f4.body))=.next [.sh true h.d,.sh true (aF st pl),.sh true (bJ i y),.sh false (.int i),.sh false (aD st),.dead,.dead,.dead,.dead]:=by
    simp only[hdS,drp,f4,bM,bB,aO,bE,aL,gS,gZ,v1,aA,t0,aH,bW,aQ,cM,bI,lS,lZ]
   have e4:ex pg (call pg (n+16)) [.sh true h.d,.sh true (aF st pl),.sh true (bJ i y),.sh false (.int i),.sh false (aD st),.dead,.dead,.dead,.dead] (hdS (drp 3 f4.body))=.next [.sh true h.d,.sh true (aF st pl),.sh true (bJ i y),.sh false (.int i),.sh false (aD st),.sh false (aD pl),.dead,.dead,.dead]:=by
    simp only[hdS,drp,f4,bM,bB,aO,bE,aL,gS,gZ,v1,aA,t1,aH,bW,aQ,cM,bI,lS,lZ]
   refine(stp e2).trans ((stp e3).trans ((stp e4).trans ?_))
   have hrows:h.hs.getD i []=h.hs[i]:=by rw[List.getD_eq_getElem?_getD,List.getElem?_eq_getElem hi];rfl
   by_cases hj:pl.getD i 0<h.hs[i].length
   . obtain⟨j,ej⟩:∃j:Nat,pl.getD i 0=(j:Int):=⟨(pl.getD i 0).toNat,by omega⟩
     have hj':j<h.hs[i].length:=by omega
     have cr:=aCv (n+15) hj'
     have erow:cK h pl i=h.hs[i][j]:=by
      unfold cK
      rw[hrows,ej,Int.toNat_natCast,List.getD_eq_getElem?_getD,List.getElem?_eq_getElem hj']
      rfl
     rw[ej] at ip
     have e5:ex pg (call pg (n+16)) [.sh true h.d,.sh true (aF st pl),.sh true (bJ i y),.sh false (.int i),.sh false (aD st),.sh false (aD pl),.dead,.dead,.dead] (hdS (drp 4 f4.body))=.next [.sh true h.d,.sh true (aF st pl),.sh true (bJ i y),.sh false (.int i),.sh false (aD st),.sh false (aD pl),.sh true (dI h.hs[i][j]),.dead,.dead]:=by
      simp only[hdS,drp,f4,bM,aM,aB,aC,bB,aO,bE,aL,gS,gZ,v0,aW,aP,aA,fW,ih,ip,mC,mN,aV,cr,aH]
      rfl
     have vr:Sl.val 6 (.sh true (dI h.hs[i][j]))=.ok ⟨dI h.hs[i][j],false,true,[]⟩:=rfl
     have t6:=jR (P:=pg) (cl:=call pg (n+16)) (σ:=[.sh true h.d,.sh true (aF st pl),.sh true (bJ i y),.sh false (.int i),.sh false (aD st),.sh false (aD pl),.sh true (dI h.hs[i][j]),.dead,.dead]) (a:=.idx (.v 2) (.c (.int 1))) (b:=.bi .len (.cons (.v 6) .nil)) (x:=y) (y:=(h.hs[i][j].length:Int)) (by
      simp only[bB,aO,bE,aL,gS,gZ,v2,aA]
      rfl) (by
      simp only[cO,aB,aC,aO,aL,gS,gZ,vr,aA]
      show biD .len [⟨.lst (h.hs[i][j].map Way.d),false,true,[]⟩]=_
      rw[cR,lM])
     refine(stp e5).trans ?_
     rw[erow]
     by_cases hy:0<=y/\y<h.hs[i][j].length
     . rw[if_pos hy]
       obtain⟨k,rfl⟩:∃k:Nat,y=(k:Int):=⟨y.toNat,by omega⟩
       have hk:k<h.hs[i][j].length:=by omega
       have hd2:(decide (0<=(k:Int))&&decide ((k:Int)<(h.hs[i][j].length:Int)))=true:=by rw[decide_eq_true hy.1,decide_eq_true hy.2];rfl
       rw[hd2] at t6
       have ew:iJ h pl i (k:Int).toNat=h.hs[i][j][k]:=by
        unfold iJ
        rw[erow,Int.toNat_natCast,List.getD_eq_getElem?_getD,List.getElem?_eq_getElem hk]
        rfl
       rw[ew]
       have o:oJ h.bs.length (h.hs[i].length+1) h.hs[i][j][k]:=((H.hs _ (List.getElem_mem hi)).all _ (List.getElem_mem hj')).all _ (List.getElem_mem hk)
       have iw:=yM hk
       generalize h.hs[i][j][k]=w at o iw
       have cb:=wW n S.st hm o
       have e6:ex pg (call pg (n+16)) [.sh true h.d,.sh true (aF st pl),.sh true (bJ i k),.sh false (.int i),.sh false (aD st),.sh false (aD pl),.sh true (dI h.hs[i][j]),.dead,.dead] (hdS (drp 5 f4.body))=.next [.sh true h.d,.sh true (aF st pl),.sh true (bJ i k),.sh false (.int i),.sh false (aD st),.sh false (aD pl),.sh true (dI h.hs[i][j]),.dead,.dead]:=by
        show ex pg (call pg (n+16)) _ (.iff (.nt _) _ _)=_
        rw[bK,dE,t6]
        rfl
       have e7:ex pg (call pg (n+16)) [.sh true h.d,.sh true (aF st pl),.sh true (bJ i k),.sh false (.int i),.sh false (aD st),.sh false (aD pl),.sh true (dI h.hs[i][j]),.dead,.dead] (hdS (drp 6 f4.body))=.next [.sh true h.d,.sh true (aF st pl),.sh true (bJ i k),.sh false (.int i),.sh false (aD st),.sh false (aD pl),.sh true (dI h.hs[i][j]),.sh false w.d,.dead]:=by
        simp only[hdS,drp,f4,bM,bB,aO,bE,aL,gS,gZ,vr,v2,aA,s1,iw,aH,bW,aQ,cM,bI,lS,lZ]
       have e8:ex pg (call pg (n+16)) [.sh true h.d,.sh true (aF st pl),.sh true (bJ i k),.sh false (.int i),.sh false (aD st),.sh false (aD pl),.sh true (dI h.hs[i][j]),.sh false w.d,.dead] (hdS (drp 7 f4.body))=.next [.sh true h.d,.sh true (aF st pl),.sh true (bJ i k),.sh false (.int i),.sh false (aD st),.sh false (aD pl),.sh true (dI h.hs[i][j]),.sh false w.d,.sh false (stD (behF h.bs w st))]:=by
        simp only[hdS,drp,f4,bM,aM,aB,aC,bB,aO,bE,aL,gS,gZ,v0,aW,aA,sA,mC,mN,aV,cb,bH,aH,bW,aQ,cM,bI,lS,lZ]
       refine(stp e6).trans ((stp e7).trans ((stp e8).trans ?_))
       cases behF h.bs w st with
       | none=>rfl
       | some r=>
        have hr:exs pg (call pg (n+16)) [.sh true h.d,.sh true (aF st pl),.sh true (bJ i k),.sh false (.int i),.sh false (aD st),.sh false (aD pl),.sh true (dI h.hs[i][j]),.sh false w.d,.sh false (aD r)] (drp 8 f4.body)=.ret (.cl (aGV pl i w.nx (some r))):=by
         have pr:=oP (P:=pg) (cl:=call pg (n+16)) (σ:=[.sh true h.d,.sh true (aF st pl),.sh true (bJ i k),.sh false (.int i),.sh false (aD st),.sh false (aD pl),.sh true (dI h.hs[i][j]),.sh false w.d,.sh false (aD r)]) (v:=.v 5) (t:=.idx (.v 7) (.c (.int 2))) (a:=.v 3) (b:=.v 3) (c:=.v 3) (pl:=pl) (i:=i) (nx:=(w.nx:Int)) hpl (by rw[S.len];exact hi) rfl rfl (by
          simp only[bB,aO,bE,aL,gS,gZ,aW,aA]
          rfl)
         refine(stp (σ':=[.sh true h.d,.sh true (aF st pl),.sh true (bJ i k),.sh false (.int i),.sh false (aD st),.sh false (aD pl),.sh true (dI h.hs[i][j]),.sh false w.d,.sh false (aD r)]) rfl).trans ?_
         show exs pg (call pg (n+16)) _ (.cons (.ret (.tup (.cons (.v 8) (.cons _ .nil)))) .nil)=_
         rw[aI,cC,dD,aB,aB,pr]
         rfl
        exact hr
     . rw[if_neg hy]
       have hd2:(decide (0<=y)&&decide (y<(h.hs[i][j].length:Int)))=false:=by
        cases h:(decide (0<=y)&&decide (y<(h.hs[i][j].length:Int))) with
        | false=>rfl
        | true=>simp only[bA,decide_eq_true_eq] at h;exact absurd h hy
       rw[hd2] at t6
       show exs pg (call pg (n+16)) _ (.cons (.iff (.nt _) _ _) _)=_
       rw[aI,bK,dE,t6]
       rfl
   . have cr:=yN (n+15) (rows:=h.hs[i]) (j:=pl.getD i 0) (by omega)
     have erow:cK h pl i=[]:=by
      unfold cK
      rw[hrows,List.getD_eq_getElem?_getD,List.getElem?_eq_none (by omega)]
      rfl
     rw[erow,if_neg (by intro z;have:=z.2;simp at this;omega)]
     have e5:ex pg (call pg (n+16)) [.sh true h.d,.sh true (aF st pl),.sh true (bJ i y),.sh false (.int i),.sh false (aD st),.sh false (aD pl),.dead,.dead,.dead] (hdS (drp 4 f4.body))=.next [.sh true h.d,.sh true (aF st pl),.sh true (bJ i y),.sh false (.int i),.sh false (aD st),.sh false (aD pl),.own false [],.dead,.dead]:=by
      simp only[hdS,drp,f4,bM,aM,aB,aC,bB,aO,bE,aL,gS,gZ,v0,aW,aP,aA,fW,ih,ip,mC,mN,aV,cr,aH]
      rfl
     have t6:=jR (P:=pg) (cl:=call pg (n+16)) (σ:=[.sh true h.d,.sh true (aF st pl),.sh true (bJ i y),.sh false (.int i),.sh false (aD st),.sh false (aD pl),.own false [],.dead,.dead]) (a:=.idx (.v 2) (.c (.int 1))) (b:=.bi .len (.cons (.v 6) .nil)) (x:=y) (y:=0) (by
      simp only[bB,aO,bE,aL,gS,gZ,v2,aA]
      rfl) rfl
     refine(stp e5).trans ?_
     have hd2:(decide (0<=y)&&decide (y<0))=false:=by
      cases h:(decide (0<=y)&&decide (y<0)) with
      | false=>rfl
      | true=>simp only[bA,decide_eq_true_eq] at h;omega
     rw[hd2] at t6
     show exs pg (call pg (n+16)) _ (.cons (.iff (.nt _) _ _) _)=_
     rw[aI,bK,dE,t6]
     rfl
 . rw[if_neg hx]
   have hd:(decide (0<=x)&&decide (x<(h.hs.length:Int)))=false:=by
    cases h:(decide (0<=x)&&decide (x<(h.hs.length:Int))) with
    | false=>rfl
    | true=>simp only[bA,decide_eq_true_eq] at h;exact absurd h hx
   rw[hd] at tt
   show exs pg (call pg (n+16)) _ (.cons (.iff (.nt _) _ _) _)=_
   rw[aI,bK,dE,tt]
   rfl
abbrev goB:Ss:=match hdS (drp 7 f18.body) with|.for _ _ b=>b|_=>.nil
theorem aCz{p:Nat×Sm}{s0 s1 s2 s3 s4 s5 s6 s7 s8 s9 s10 s11:Sl}:cF [s0,s1,s2,s3,s4,s5,s6,s7,s8,s9,s10,s11] (.cl (dH p)) (.t [10,11])=.ok [s0,s1,s2,s3,s4,s5,s6,s7,s8,s9,.sh false (.int p.1),.sh false p.2.d]:=by
 unfold cF dH
 simp only[aV,lC,lN,if_true,List.zip_cons_cons,List.zip_nil_left,List.foldl_cons,List.foldl_nil,bX p.2.noL,bX (show noL (.int (p.1:Int))=true from rfl),bI,lS,lZ]
theorem aEi{w:Way}{s0 s1 s2 s3 s4 s5 s6 s7 s8 s9 s10 s11:Sl}:cF [s0,s1,s2,s3,s4,s5,s6,s7,s8,s9,s10,s11] (.cl w.d) (.t [6,7,8])=.ok [s0,s1,s2,s3,s4,s5,.sh false w.g.d,.sh false (.tup (w.ps.map dH)),.sh false (.int w.nx),s9,s10,s11]:=by
 have hp:noL (.tup (w.ps.map dH))=true:=by rw[noL];exact iW _
 unfold cF Way.d
 simp only[aV,lC,lN,if_true,List.zip_cons_cons,List.zip_nil_left,List.foldl_cons,List.foldl_nil,bX w.g.noL,bX hp,bX (show noL (.int (w.nx:Int))=true from rfl),bI,lS,lZ]
theorem aAp{st pl:List Int}{s0 s1 s2 s3 s4 s5 s6 s7 s8 s9 s10 s11:Sl}:cF [s0,s1,s2,s3,s4,s5,s6,s7,s8,s9,s10,s11] (.cl (aF st pl)) (.t [3,4])=.ok [s0,s1,s2,.sh false (aD st),.sh false (aD pl),s5,s6,s7,s8,s9,s10,s11]:=by
 unfold cF aF
 simp only[aV,lC,lN,if_true,List.zip_cons_cons,List.zip_nil_left,List.foldl_cons,List.foldl_nil,bX (aZ st),bX (aZ pl),bI,lS,lZ]
theorem aEj(n:Nat){h:aR}{st acc:List Int}(hs:st.length=h.bs.length)(ha:acc.length=h.bs.length)(hb:h.bs.length<=5){p:Nat×Sm}(o:kK h.bs.length p)(s1 s2 s4 s5 s6 s7 s8:Sl) :
 exs pg (call pg (n+3)) [.sh true h.d,s1,s2,.sh false (aD st),s4,s5,s6,s7,s8,.own false (acc.map D.int),.sh false (.int p.1),.sh false p.2.d] goB =
  if 0<=p.2.val st st/\p.2.val st st<=gW h.bs p.1 then .next [.sh true h.d,s1,s2,.sh false (aD st),s4,s5,s6,s7,s8,.own false ((acc.set p.1 (p.2.val st st)).map D.int),.sh false (.int p.1),.sh false p.2.d] else .ret (.cl .non):=by
 have cv:=aAo n hs o.wf o.sz
 generalize p.2.val st st=v at cv
 obtain⟨b,b1,b2,b3⟩:=yK (bs:=h.bs) (k:=p.1) o.box
 have v0:=dQ 0 h
 have hx:ixN acc.length (p.1:Int)=some p.1:=cZ (by rw[ha];exact o.box)
 have hll:acc.length<=lim:=by unfold lim;omega
 have e1:ex pg (call pg (n+3)) [.sh true h.d,s1,s2,.sh false (aD st),s4,s5,s6,s7,s8,.own false (acc.map D.int),.sh false (.int p.1),.sh false p.2.d] (hdS goB)=.next [.sh true h.d,s1,s2,.sh false (aD st),s4,s5,s6,s7,s8,.own false ((acc.set p.1 v).map D.int),.sh false (.int p.1),.sh false p.2.d]:=by
  simp only[goB,hdS,drp,f18,uC,aM,aB,aC,aO,bE,aL,gS,gZ,aW,aP,aA,mC,mN,aV,cv,bH,aH,put,bW,aQ,eO,hx,uM,lM,List.length_set,hll,if_true,jE,Bool.or_false,lS,lZ]
 have ig:bV ⟨.lst ((acc.set p.1 v).map D.int),false,false,[9]⟩ (.cl (.int (p.1:Int)))=.ok (.cl (.int v)):=by
  rw[yE (is:=acc.set p.1 v) rfl (by rw[List.length_set,ha];exact o.box)]
  have:(acc.set p.1 v).getD p.1 0=v:=by simp[ha,o.box]
  rw[this]
 have tt:=aCq (P:=pg) (cl:=call pg (n+3)) (σ:=[.sh true h.d,s1,s2,.sh false (aD st),s4,s5,s6,s7,s8,.own false ((acc.set p.1 v).map D.int),.sh false (.int p.1),.sh false p.2.d]) (a:=.idx (.v 9) (.v 10)) (b:=.idx (.idx (.idx (.v 0) (.c (.int 0))) (.v 10)) (.c (.int 1))) (x:=v) (y:=gW h.bs p.1) (by
  simp only[bB,aO,aL,gS,gZ,cQ,aP,aA,ig]) (by
  simp only[bB,aO,bE,aL,gS,gZ,v0,aP,aA,sA,b2,b3])
 by_cases hv:0<=v/\v<=gW h.bs p.1
 . refine(stp e1).trans ?_
   show exs pg (call pg (n+3)) _ (.cons (.iff (.nt _) _ _) .nil)=_
   have hd:(decide (0<=v)&&decide (v<=gW h.bs p.1))=true:=by rw[decide_eq_true hv.1,decide_eq_true hv.2];rfl
   rw[if_pos hv]
   simp only[aI,bT,bK,dE,tt,aA,hd,Bool.not_true,aH,bF,if_false,fN]
 . have hd:(decide (0<=v)&&decide (v<=gW h.bs p.1))=false:=by
    cases h:(decide (0<=v)&&decide (v<=gW h.bs p.1)) with
    | false=>rfl
    | true=>simp only[bA,decide_eq_true_eq] at h;exact absurd h hv
   refine(stp e1).trans ?_
   show exs pg (call pg (n+3)) _ (.cons (.iff (.nt _) (.cons (.ret (.c .non)) .nil) _) .nil)=_
   rw[if_neg hv]
   simp only[aI,bT,bK,dE,tt,aA,hd,Bool.not_false,aH,if_true,cC,bE,eD]
theorem yO(n:Nat){h:aR}{st:List Int}(hs:st.length=h.bs.length)(hb:h.bs.length<=5)(s1 s2 s4 s5 s6 s7 s8:Sl):∀(ps:List (Nat×Sm)) (acc:List Int) (s10 s11:Sl),(∀p∈ps,kK h.bs.length p)->acc.length=h.bs.length ->
 ∃t10 t11,dJ (λσ x=>O.from σ (cF σ x (.t [10,11])) λσ'=>exs pg (call pg (n+3)) σ' goB) (ps.map λp=>Vl.cl (dH p)) [.sh true h.d,s1,s2,.sh false (aD st),s4,s5,s6,s7,s8,.own false (acc.map D.int),s10,s11] =
  (match putF h.bs st acc ps with|none=>.ret (.cl .non)|some r=>.next [.sh true h.d,s1,s2,.sh false (aD st),s4,s5,s6,s7,s8,.own false (r.map D.int),t10,t11])
 | [],acc,s10,s11,_,_=>⟨s10,s11,rfl⟩
 | p::ps,acc,s10,s11,h',ha=>by
  have o:=h' p List.mem_cons_self
  have tu:=aEj n hs ha hb o s1 s2 s4 s5 s6 s7 s8
  rw[mC,dJ,aCz,aH,tu,putF]
  by_cases hv:0<=p.2.val st st/\p.2.val st st<=gW h.bs p.1
  . rw[if_pos hv,if_pos hv]
    exact yO n hs hb s1 s2 s4 s5 s6 s7 s8 ps (acc.set p.1 (p.2.val st st)) _ _ (λq hq=>h' q (List.mem_cons_of_mem _ hq)) (by rw[List.length_set];exact ha)
  . rw[if_neg hv,if_neg hv]
    exact⟨s10,s11,rfl⟩
theorem aJC{p q:Prop}[Decidable p][Decidable q](h:¬ (p/\q)):(decide p&&decide q)=false:=by
 cases z:(decide p&&decide q) with
 | false=>rfl
 | true=>simp only[bA,decide_eq_true_eq] at z;exact absurd z h
theorem aJD{p q:Prop}[Decidable p][Decidable q](h:p/\q):(decide p&&decide q)=true:=by rw[decide_eq_true h.1,decide_eq_true h.2];rfl
theorem aCA(n:Nat){h:aR}(H:bO h){st pl:List Int}(S:cU h st pl)(x y:Int):call pg (n+16) 18 [h.d,aF st pl,bJ x y]=.ok (lW h st pl x y,false,false):=by
 have v0:=dQ 0 h
 have v1:=cX 1 true (cV st pl)
 have v2:=cX 2 true (kM x y)
 have s0:bV (.cl (bJ x y)) (.cl (.int 0))=.ok (.cl (.int x)):=rfl
 have s1:bV (.cl (bJ x y)) (.cl (.int 1))=.ok (.cl (.int y)):=rfl
 have hm:h.bs.length<=5:=by have:=H.bs.few;omega
 have hpl:pl.length<=10:=by have:=S.len;have:=H.few;omega
 refine aU (F:=f18) rfl rfl (v:=.cl (lW h st pl x y)) ?_
 show exs pg (call pg (n+15)) [.sh true h.d,.sh true (aF st pl),.sh true (bJ x y),.dead,.dead,.dead,.dead,.dead,.dead,.dead,.dead,.dead] _=_
 have e1:ex pg (call pg (n+15)) [.sh true h.d,.sh true (aF st pl),.sh true (bJ x y),.dead,.dead,.dead,.dead,.dead,.dead,.dead,.dead,.dead] (hdS f18.body)=.next [.sh true h.d,.sh true (aF st pl),.sh true (bJ x y),.sh false (aD st),.sh false (aD pl),.dead,.dead,.dead,.dead,.dead,.dead,.dead]:=by
  simp only[hdS,f18,bM,aO,aL,gS,gZ,v1,aH,bW,aQ,aAp]
 refine(stp e1).trans ?_
 have tt:=jR (P:=pg) (cl:=call pg (n+15)) (σ:=[.sh true h.d,.sh true (aF st pl),.sh true (bJ x y),.sh false (aD st),.sh false (aD pl),.dead,.dead,.dead,.dead,.dead,.dead,.dead]) (a:=.idx (.v 2) (.c (.int 0))) (b:=.bi .len (.cons (.v 4) .nil)) (x:=x) (y:=(h.hs.length:Int)) (by
  simp only[bB,aO,bE,aL,gS,gZ,v2,aA];rfl) (by
  simp only[cO,aB,aC,aO,aL,gS,gZ,aW,aA]
  show biD .len [.cl (.tup (pl.map D.int))]=_
  rw[aEa,lM,S.len])
 unfold lW
 by_cases hx:0<=x/\x<h.hs.length
 . rw[if_pos hx]
   rw[aJD hx] at tt
   obtain⟨i,rfl⟩:∃i:Nat,x=(i:Int):=⟨x.toNat,by omega⟩
   have hi:i<h.hs.length:=by omega
   rw[Int.toNat_natCast]
   have ip:bV (.cl (aD pl)) (.cl (.int (i:Int)))=.ok (.cl (.int (pl.getD i 0))):=iU (by rw[S.len];exact hi)
   have ih:=uO hi
   obtain⟨p0,p1⟩:=S.pl i hi
   have e2:ex pg (call pg (n+15)) [.sh true h.d,.sh true (aF st pl),.sh true (bJ i y),.sh false (aD st),.sh false (aD pl),.dead,.dead,.dead,.dead,.dead,.dead,.dead] (hdS (drp 1 f18.body))=.next [.sh true h.d,.sh true (aF st pl),.sh true (bJ i y),.sh false (aD st),.sh false (aD pl),.dead,.dead,.dead,.dead,.dead,.dead,.dead]:=by
    show ex pg (call pg (n+15)) _ (.iff (.nt _) _ _)=_
    rw[bK,dE,tt]
    rfl
   have e3:ex pg (call pg (n+15)) [.sh true h.d,.sh true (aF st pl),.sh true (bJ i y),.sh false (aD st),.sh false (aD pl),.dead,.dead,.dead,.dead,.dead,.dead,.dead] (hdS (drp 2 f18.body))=.next [.sh true h.d,.sh true (aF st pl),.sh true (bJ i y),.sh false (aD st),.sh false (aD pl),.sh true (aK h.hs[i]),.dead,.dead,.dead,.dead,.dead,.dead]:=by
    simp only[hdS,drp,f18,bM,bB,aO,bE,aL,gS,gZ,v0,v2,aA,fW,s0,ih,aH]
    rfl
   refine(stp e2).trans ((stp e3).trans ?_)
   have hrows:h.hs.getD i []=h.hs[i]:=by rw[List.getD_eq_getElem?_getD,List.getElem?_eq_getElem hi];rfl
   have vh:∀k,Sl.val k (.sh true (aK h.hs[i]))=.ok ⟨aK h.hs[i],false,true,[]⟩:=λk=>rfl
   have ge:∀(a b:Int),dM .GtE (.int a) (.int b)=some (decide (b<=a)):=λa b=>rfl
   have lr:biD .len [⟨aK h.hs[i],false,true,[]⟩]=.ok (.cl (.int (h.hs[i].length:Int))):=by
    show biD .len [⟨.lst (h.hs[i].map dI),false,true,[]⟩]=_
    rw[cR,lM]
   have t1:tst pg (call pg (n+15)) [.sh true h.d,.sh true (aF st pl),.sh true (bJ i y),.sh false (aD st),.sh false (aD pl),.sh true (aK h.hs[i]),.dead,.dead,.dead,.dead,.dead,.dead] (.cmp .GtE (.idx (.v 4) (.idx (.v 2) (.c (.int 0)))) (.bi .len (.cons (.v 5) .nil)))=.ok (decide ((h.hs[i].length:Int)<=pl.getD i 0)):=by
    simp only[cA,bB,cO,aB,aC,aO,bE,aL,gS,gZ,aW,v2,vh,aA,s0,ip,lr,aV,ge]
   by_cases hj:pl.getD i 0<h.hs[i].length
   . rw[decide_eq_false (by omega)] at t1
     obtain⟨j,ej⟩:∃j:Nat,pl.getD i 0=(j:Int):=⟨(pl.getD i 0).toNat,by omega⟩
     have hj':j<h.hs[i].length:=by omega
     have erow:cK h pl i=h.hs[i][j]:=by
      unfold cK
      rw[hrows,ej,Int.toNat_natCast,List.getD_eq_getElem?_getD,List.getElem?_eq_getElem hj']
      rfl
     rw[ej] at ip
     have ir:=yL hj'
     have lw:biD .len [⟨dI h.hs[i][j],false,true,[]⟩]=.ok (.cl (.int (h.hs[i][j].length:Int))):=by
      show biD .len [⟨.lst (h.hs[i][j].map Way.d),false,true,[]⟩]=_
      rw[cR,lM]
     have t6:=jR (P:=pg) (cl:=call pg (n+15)) (σ:=[.sh true h.d,.sh true (aF st pl),.sh true (bJ i y),.sh false (aD st),.sh false (aD pl),.sh true (aK h.hs[i]),.dead,.dead,.dead,.dead,.dead,.dead]) (a:=.idx (.v 2) (.c (.int 1))) (b:=.bi .len (.cons (.idx (.v 5) (.idx (.v 4) (.idx (.v 2) (.c (.int 0))))) .nil)) (x:=y) (y:=(h.hs[i][j].length:Int)) (by
      simp only[bB,aO,bE,aL,gS,gZ,v2,aA]
      rfl) (by
      simp only[cO,aB,aC,bB,aO,bE,aL,gS,gZ,aW,v2,vh,aA,s0,ip,ir,lw])
     rw[erow]
     by_cases hy:0<=y/\y<h.hs[i][j].length
     . rw[if_pos hy]
       rw[aJD hy] at t6
       obtain⟨k,rfl⟩:∃k:Nat,y=(k:Int):=⟨y.toNat,by omega⟩
       have hk:k<h.hs[i][j].length:=by omega
       have ew:iJ h pl i (k:Int).toNat=h.hs[i][j][k]:=by
        unfold iJ
        rw[erow,Int.toNat_natCast,List.getD_eq_getElem?_getD,List.getElem?_eq_getElem hk]
        rfl
       rw[ew]
       have o:oJ h.bs.length (h.hs[i].length+1) h.hs[i][j][k]:=((H.hs _ (List.getElem_mem hi)).all _ (List.getElem_mem hj')).all _ (List.getElem_mem hk)
       have iw:=yM hk
       generalize h.hs[i][j][k]=w at o iw
       have e4:ex pg (call pg (n+15)) [.sh true h.d,.sh true (aF st pl),.sh true (bJ i k),.sh false (aD st),.sh false (aD pl),.sh true (aK h.hs[i]),.dead,.dead,.dead,.dead,.dead,.dead] (hdS (drp 3 f18.body))=.next [.sh true h.d,.sh true (aF st pl),.sh true (bJ i k),.sh false (aD st),.sh false (aD pl),.sh true (aK h.hs[i]),.dead,.dead,.dead,.dead,.dead,.dead]:=by
        show ex pg (call pg (n+15)) _ (.iff (.orr _ (.nt _)) _ _)=_
        rw[bK,rM,t1,aA,if_neg bN,dE,t6]
        rfl
       have e5:ex pg (call pg (n+15)) [.sh true h.d,.sh true (aF st pl),.sh true (bJ i k),.sh false (aD st),.sh false (aD pl),.sh true (aK h.hs[i]),.dead,.dead,.dead,.dead,.dead,.dead] (hdS (drp 4 f18.body))=.next [.sh true h.d,.sh true (aF st pl),.sh true (bJ i k),.sh false (aD st),.sh false (aD pl),.sh true (aK h.hs[i]),.sh false w.g.d,.sh false (.tup (w.ps.map dH)),.sh false (.int w.nx),.dead,.dead,.dead]:=by
        simp only[hdS,drp,f18,bM,bB,aO,bE,aL,gS,gZ,aW,v2,vh,aA,s0,s1,ip,ir,iw,aH,bW,aQ,aEi]
       refine(stp e4).trans ((stp e5).trans ?_)
       have ch:=aCs n S.st o.g o.gs
       have tg:tst pg (call pg (n+15)) [.sh true h.d,.sh true (aF st pl),.sh true (bJ i k),.sh false (aD st),.sh false (aD pl),.sh true (aK h.hs[i]),.sh false w.g.d,.sh false (.tup (w.ps.map dH)),.sh false (.int w.nx),.dead,.dead,.dead] (.call 16 (.cons (.v 6) (.cons (.v 3) (.cons (.c .non) .nil))))=.ok (w.g.hold st st):=by
        simp only[fO,aB,aC,aO,bE,aL,gS,gZ,aW,aA,mC,mN,aV,ch,bH,iH]
       unfold behF
       cases hh:w.g.hold st st with
       | false=>
        rw[hh] at tg
        show exs pg (call pg (n+15)) _ (.cons (.iff (.nt _) _ _) _)=_
        rw[aI,bK,dE,tg]
        rfl
       | true=>
        rw[hh] at tg
        have e6:ex pg (call pg (n+15)) [.sh true h.d,.sh true (aF st pl),.sh true (bJ i k),.sh false (aD st),.sh false (aD pl),.sh true (aK h.hs[i]),.sh false w.g.d,.sh false (.tup (w.ps.map dH)),.sh false (.int w.nx),.dead,.dead,.dead] (hdS (drp 5 f18.body))=.next [.sh true h.d,.sh true (aF st pl),.sh true (bJ i k),.sh false (aD st),.sh false (aD pl),.sh true (aK h.hs[i]),.sh false w.g.d,.sh false (.tup (w.ps.map dH)),.sh false (.int w.nx),.dead,.dead,.dead]:=by
         show ex pg (call pg (n+15)) _ (.iff (.nt _) _ _)=_
         rw[bK,dE,tg]
         rfl
        have hli:biD .list [.cl (aD st)]=.ok ⟨.lst (st.map D.int),true,false,[]⟩:=by
         show R.ok (Vl.mk (.lst (st.map D.int)) true (false&&!noLs (st.map D.int)) (if noLs (st.map D.int)=true then [] else []))=_
         rw[dS];rfl
        have e7:ex pg (call pg (n+15)) [.sh true h.d,.sh true (aF st pl),.sh true (bJ i k),.sh false (aD st),.sh false (aD pl),.sh true (aK h.hs[i]),.sh false w.g.d,.sh false (.tup (w.ps.map dH)),.sh false (.int w.nx),.dead,.dead,.dead] (hdS (drp 6 f18.body))=.next [.sh true h.d,.sh true (aF st pl),.sh true (bJ i k),.sh false (aD st),.sh false (aD pl),.sh true (aK h.hs[i]),.sh false w.g.d,.sh false (.tup (w.ps.map dH)),.sh false (.int w.nx),.own false (st.map D.int),.dead,.dead]:=by
         simp only[hdS,drp,f18,bM,cO,aB,aC,aO,aL,gS,gZ,aW,aA,hli,aH,aQ,cM,rS,lS,lZ]
        have hw:walk pg (call pg (n+15)) [.sh true h.d,.sh true (aF st pl),.sh true (bJ i k),.sh false (aD st),.sh false (aD pl),.sh true (aK h.hs[i]),.sh false w.g.d,.sh false (.tup (w.ps.map dH)),.sh false (.int w.nx),.own false (st.map D.int),.dead,.dead] (.seq (.v 7))=.ok (w.ps.map (λp=>Vl.cl (dH p)),[]):=by
         simp only[eZ,aO,aL,gS,gZ,aW,aA,aV,oO,bW]
        obtain⟨t10,t11,hl⟩:=yO (n+12) S.st hm (.sh true (aF st pl)) (.sh true (bJ i k)) (.sh false (aD pl)) (.sh true (aK h.hs[i])) (.sh false w.g.d) (.sh false (.tup (w.ps.map dH))) (.sh false (.int w.nx)) w.ps st .dead .dead o.ps S.st
        refine(stp e6).trans ((stp e7).trans ?_)
        show exs pg (call pg (n+15)) _ (.cons (.for (.t [10,11]) (.seq (.v 7)) goB) _)=_
        rw[aI,rN,hw,aH]
        show(dJ _ _ _).on _=_
        rw[aQ,hl,if_pos rfl]
        cases putF h.bs st st w.ps with
        | none=>rfl
        | some r=>
         have pr:=oP (P:=pg) (cl:=call pg (n+15)) (σ:=[.sh true h.d,.sh true (aF st pl),.sh true (bJ i k),.sh false (aD st),.sh false (aD pl),.sh true (aK h.hs[i]),.sh false w.g.d,.sh false (.tup (w.ps.map dH)),.sh false (.int w.nx),.own false (r.map D.int),t10,t11]) (v:=.v 4) (t:=.v 8) (a:=.idx (.v 2) (.c (.int 0))) (b:=.v 3) (c:=.v 3) (pl:=pl) (i:=i) (nx:=(w.nx:Int)) hpl (by rw[S.len];exact hi) rfl (by
          simp only[bB,aO,bE,aL,gS,gZ,v2,aA]
          rfl) rfl
         simp only[fN]
         have eT:ev pg (call pg (n+15)) [.sh true h.d,.sh true (aF st pl),.sh true (bJ i k),.sh false (aD st),.sh false (aD pl),.sh true (aK h.hs[i]),.sh false w.g.d,.sh false (.tup (w.ps.map dH)),.sh false (.int w.nx),.own false (r.map D.int),t10,t11] (.bi .tuple (.cons (.v 9) .nil))=.ok (.cl (aD r)):=by
          simp only[cO,aB,aC,aO,aL,gS,gZ,cQ,aA,rX 9 (dS r)]
          rfl
         rw[aI,cC,dD,aB,aB,eT,pr]
         simp only[aA,aC,pC,aH,eD,aGV]
     . rw[if_neg hy]
       rw[aJC hy] at t6
       show exs pg (call pg (n+15)) _ (.cons (.iff (.orr _ (.nt _)) _ _) _)=_
       rw[aI,bK,rM,t1,aA,if_neg bN,dE,t6]
       rfl
   . rw[decide_eq_true (by omega)] at t1
     have erow:cK h pl i=[]:=by
      unfold cK
      rw[hrows,List.getD_eq_getElem?_getD,List.getElem?_eq_none (by omega)]
      rfl
     rw[erow,if_neg (by intro z;have:=z.2;simp at this;omega)]
     show exs pg (call pg (n+15)) _ (.cons (.iff (.orr _ (.nt _)) _ _) _)=_
     rw[aI,bK,rM,t1]
     rfl
 . rw[if_neg hx]
   rw[aJC hx] at tt
   show exs pg (call pg (n+15)) _ (.cons (.iff (.nt _) _ _) _)=_
   rw[aI,bK,dE,tt]
   rfl
def LB(n b:Nat)(l:List Int):Prop:=l.length=n/\∀x∈l,0<=x/\x<(b:Int)
def UL(b:Nat):Nat->List (List Int)
 | 0=>[[]]
 | n+1=>(List.range b).flatMap λ(v:Nat)=>(UL b n).map λl=>(v:Int)::l
theorem wX(b:Nat):∀n,(UL b n).length=b ^ n
 | 0=>rfl
 | n+1=>by
  have:∀l:List Nat,(l.flatMap λ(v:Nat)=>(UL b n).map λl=>(v:Int)::l).length=l.length*b ^ n:=λl=>by
   induction l with
   | nil=>simp
   | cons a l ih=>rw[List.flatMap_cons,lA,ih,lM,wX b n,lC,Nat.succ_mul,Nat.add_comm]
  rw[UL,this,List.length_range,Nat.pow_succ,Nat.mul_comm]
theorem wY{b:Nat}:∀{n:Nat} {l:List Int},LB n b l->l∈UL b n
 | 0,l,h=>by rw[List.eq_nil_of_length_eq_zero h.1];exact List.mem_singleton.mpr rfl
 | n+1,[],h=>by cases h.1
 | n+1,x::l,h=>by
  obtain⟨h1,h2⟩:=h
  have hx:=h2 x (by simp)
  have hb:x.toNat<b:=by omega
  refine List.mem_flatMap.mpr ⟨x.toNat,List.mem_range.mpr hb,List.mem_map.mpr ⟨l,wY ⟨by simpa using h1,λy hy=>h2 y (List.mem_cons_of_mem _ hy)⟩,?_⟩⟩
  rw[Int.toNat_of_nonneg hx.1]
theorem uQ{α:Type}[DecidableEq α]:∀(l U:List α),l.Nodup->(∀x∈l,x∈U)->l.length<=U.length
 | [],_,_,_=>Nat.zero_le _
 | a::l,U,hn,h=>by
  obtain⟨h1,h2⟩:=List.nodup_cons.mp hn
  have ha:=h a (by simp)
  have:=uQ l (U.erase a) h2 λx hx=>(List.mem_erase_of_ne (λ(z:x=a)=>h1 (by rw[<-z];exact hx))).mpr (h x (List.mem_cons_of_mem _ hx))
  rw[List.length_erase_of_mem ha] at this
  have:=List.length_pos_of_mem ha
  rw[lC]
  omega
abbrev Sta:=List Int×List Int
structure pD (h:aR) (s:Sta):Prop where
 ok:cU h s.1 s.2
 st:LB h.bs.length 8 s.1
 pl:LB h.hs.length 4 s.2
def US(h:aR):List Sta:=(UL 8 h.bs.length).flatMap λa=>(UL 4 h.hs.length).map λb=>(a,b)
theorem aGW{h:aR}{s:Sta}(g:pD h s):s∈US h:=List.mem_flatMap.mpr ⟨s.1,wY g.st,List.mem_map.mpr ⟨s.2,wY g.pl,rfl⟩⟩
theorem aGX{h:aR}(H:bO h):(US h).length<=262144:=by
 have:∀l:List (List Int),(l.flatMap λa=>(UL 4 h.hs.length).map λb=>(a,b)).length=l.length*4 ^ h.hs.length:=λl=>by
  induction l with
  | nil=>simp
  | cons a l ih=>rw[List.flatMap_cons,lA,ih,lM,wX,lC,Nat.succ_mul,Nat.add_comm]
 unfold US
 rw[this,wX]
 have h1:8 ^ h.bs.length<=8 ^ 4:=Nat.pow_le_pow_right (by decide) H.bs.few
 have h2:4 ^ h.hs.length<=4 ^ 3:=Nat.pow_le_pow_right (by decide) H.few
 exact Nat.le_trans (Nat.mul_le_mul h1 h2) (by decide)
def goneS(h:aR)(s:Sta)(i k:Nat):Option Sta:=
 if k<(cK h s.2 i).length then (behF h.bs (iJ h s.2 i k) s.1).map λr=>(r,s.2.take i++[((iJ h s.2 i k).nx:Int)]++s.2.drop (i+1)) else none
def aCB:Option Sta->D
 | none=>.non
 | some s=>aF s.1 s.2
theorem uR{h:aR}(s:Sta){i:Nat}(hi:i<h.hs.length)(k:Nat):lW h s.1 s.2 (i:Int) (k:Int)=aCB (goneS h s i k):=by
 unfold lW goneS
 rw[if_pos ⟨by omega,by omega⟩]
 simp only[Int.toNat_natCast]
 by_cases hk:k<(cK h s.2 i).length
 . rw[if_pos ⟨by omega,by omega⟩,if_pos hk]
   cases behF h.bs (iJ h s.2 i k) s.1 <;> rfl
 . rw[if_neg (by omega),if_neg hk];rfl
theorem aEk{bs:List (Str×Int)}(o:wL bs)(k:Nat):gW bs k<=7:=by
 unfold gW
 rw[List.getD_eq_getElem?_getD,List.getElem?_map]
 cases e:bs[k]? with
 | none=>decide
 | some b=>exact(o.one b (mG e)).2
theorem yP{bs:List (Str×Int)}(o:wL bs){st:List Int}:∀{ps:List (Nat×Sm)} {acc r:List Int},putF bs st acc ps=some r->LB bs.length 8 acc->LB bs.length 8 r
 | [],acc,r,h,b=>by cases h;exact b
 | p::ps,acc,r,h,b=>by
  rw[putF] at h
  split at h
  . rename_i hc
    refine yP o h ⟨by rw[List.length_set];exact b.1,λx hx=>?_⟩
    rcases List.mem_or_eq_of_mem_set hx with z|z
    . exact b.2 x z
    . have:=aEk o p.1
      rw[z];omega
  . cases h
theorem mem3{l:List Int}{i:Nat}{a x:Int}(h:x∈l.take i++[a]++l.drop (i+1)):x∈l\/x=a:=by
 rcases List.mem_append.mp h with z|z
 . rcases List.mem_append.mp z with z|z
   . exact .inl (List.mem_of_mem_take z)
   . exact .inr (List.mem_singleton.mp z)
 . exact .inl (List.mem_of_mem_drop z)
theorem aJE{l:List Int}{i:Nat}(hi:i<l.length)(a:Int):(l.take i++[a]++l.drop (i+1)).length=l.length:=by
 rw[lA,lA,List.length_take,List.length_drop,List.length_singleton]
 omega
theorem aLn{l:List Int}{i j:Nat}(hi:i<l.length)(a:Int):(l.take i++[a]++l.drop (i+1)).getD j 0=if j=i then a else l.getD j 0:=by
 have e:l.take i++[a]++l.drop (i+1)=l.set i a:=by
  rw[List.set_eq_take_append_cons_drop,if_pos hi,List.append_assoc];rfl
 rw[e,List.getD_eq_getElem?_getD,List.getElem?_set,List.getD_eq_getElem?_getD]
 by_cases hj:i=j
 . rw[if_pos hj,if_pos hj.symm,if_pos hi];rfl
 . rw[if_neg hj,if_neg (Ne.symm hj)]
theorem aCC{h:aR}{s:Sta}(S:cU h s.1 s.2){i:Nat}(hi:i<h.hs.length)(hr:0<(cK h s.2 i).length):∃r∈h.hs[i],cK h s.2 i=r:=by
 have hg:h.hs.getD i []=h.hs[i]:=by rw[List.getD_eq_getElem?_getD,List.getElem?_eq_getElem hi];rfl
 unfold cK at hr ⊢
 rw[hg] at hr ⊢
 rw[List.getD_eq_getElem?_getD] at hr ⊢
 cases e:h.hs[i][(s.2.getD i 0).toNat]? with
 | none=>rw[e] at hr;exact absurd hr (by decide)
 | some r=>exact⟨r,mG e,rfl⟩
theorem pW{h:aR}(H:bO h){s s':Sta}(g:pD h s){i k:Nat}(hi:i<h.hs.length)(e:goneS h s i k=some s'):pD h s':=by
 unfold goneS at e
 split at e
 . rename_i hk
   obtain⟨r,er,rfl⟩:=Option.map_eq_some_iff.mp e
   obtain⟨row,hrow,er2⟩:=aCC g.ok hi (by omega)
   have hw:oJ h.bs.length (h.hs[i].length+1) (iJ h s.2 i k):=by
    have ho:=(H.hs _ (List.getElem_mem hi)).all row hrow
    refine ho.all _ ?_
    unfold iJ
    rw[List.getD_eq_getElem?_getD,List.getElem?_eq_getElem hk]
    show(cK h s.2 i)[k]∈row
    rw[<-er2];exact List.getElem_mem hk
   have hnx:=hw.nx
   have hf:=(H.hs _ (List.getElem_mem hi)).few
   have hl:i<s.2.length:=by rw[g.ok.len];exact hi
   have hst:LB h.bs.length 8 r:=by
    unfold behF at er
    split at er
    . exact yP H.bs.tops er g.st
    . cases er
   refine⟨⟨hst.1,(aJE hl _).trans g.ok.len,λj hj=>?_⟩,hst,(aJE hl _).trans g.ok.len,λx hx=>?_⟩
   . show 0<=(_++_++_:List Int).getD j 0/\(_++_++_:List Int).getD j 0<=_
     rw[aLn hl]
     split
     . rename_i z;subst z;omega
     . exact g.ok.pl j hj
   . rcases mem3 hx with z|z
     . exact g.pl.2 x z
     . rw[z];omega
 . cases e
structure Rw where
 s:Sta
 p:Option (Nat×Nat×Nat)
def Rw.d(r:Rw):D:=.tup [aF r.s.1 r.s.2,(match r.p with|none=>.non|some x=>.int (x.1:Int)),(match r.p with|none=>.non|some x=>bJ (x.2.1:Int) (x.2.2:Int))]
def add1(p i k:Nat)(o:Option Sta)(acc:List Rw):List Rw:=match o with
 | none=>acc
 | some s=>if s∈acc.map (·.s) then acc else acc++[⟨s,some (p,i,k)⟩]
def expK(h:aR)(p:Nat)(s:Sta)(i:Nat)(m:Nat)(acc:List Rw):List Rw:=(List.range m).foldl (λacc k=>add1 p i k (goneS h s i k) acc) acc
def expA(h:aR)(p:Nat)(s:Sta)(m:Nat)(acc:List Rw):List Rw:=(List.range m).foldl (λacc i=>expK h p s i 4 acc) acc
theorem iY(h:aR)(p:Nat)(s:Sta)(i m:Nat)(acc:List Rw):expK h p s i (m+1) acc=add1 p i m (goneS h s i m) (expK h p s i m acc):=by
 unfold expK;rw[List.range_succ,List.foldl_append];rfl
theorem lO(h:aR)(p:Nat)(s:Sta)(m:Nat)(acc:List Rw):expA h p s (m+1) acc=expK h p s m 4 (expA h p s m acc):=by
 unfold expA;rw[List.range_succ,List.foldl_append];rfl
def bfs(h:aR):Nat->Nat->List Rw->List Rw
 | 0,_,acc=>acc
 | n+1,p,acc=>match acc[p]? with
  | some r=>bfs h n (p+1) (expA h p r.s h.hs.length acc)
  | none=>acc
def eK(h:aR):List (List Int):=(bC h.bs).filter λs=>h.bg.hold s s
def zeros(h:aR):List Int:=List.replicate h.hs.length 0
def eQ(h:aR):List Rw:=(eK h).map λs=>⟨(s,zeros h),none⟩
def rowsL(h:aR):List Rw:=bfs h mY 0 (eQ h)
theorem oQ{h:aR}(H:bO h):(bC h.bs).length<=24:=by
 have h1:=(oD H.bs.tops h.bs.length (Nat.le_refl _)).1
 rw[List.take_length] at h1
 have:=H.bs.tops.room
 unfold kG at h1
 omega
theorem pX{h:aR}(H:bO h):(eQ h).length<=24:=by
 unfold eQ eK
 rw[lM]
 exact Nat.le_trans (List.length_filter_le _ _) (oQ H)
structure RI (h:aR) (acc:List Rw):Prop where
 good:∀r∈acc,pD h r.s
 len:(eQ h).length<=acc.length
 nd:((acc.drop (eQ h).length).map (·.s)).Nodup
theorem RI.few{h:aR}(H:bO h){acc:List Rw}(I:RI h acc):acc.length<=300000:=by
 have h1:=uQ _ (US h) I.nd λx hx=>by
  obtain⟨r,hr,rfl⟩:=List.mem_map.mp hx
  exact aGW (I.good r (List.mem_of_mem_drop hr))
 have h2:=aGX H
 have h3:=pX H
 rw[lM,List.length_drop] at h1
 omega
theorem RI.add1{h:aR}{acc:List Rw}(I:RI h acc){p i k:Nat}{o:Option Sta}(ho:∀s,o=some s->pD h s):RI h (add1 p i k o acc):=by
 cases o with
 | none=>exact I
 | some s=>
  unfold K24.add1
  show RI h (if _ then _ else _)
  split
  . exact I
  . rename_i hs
    refine⟨λr hr=>?_,?_,?_⟩
    . rcases List.mem_append.mp hr with z|z
      . exact I.good r z
      . rw[List.mem_singleton.mp z];exact ho s rfl
    . rw[lA];exact Nat.le_trans I.len (Nat.le_add_right _ _)
    . rw[List.drop_append_of_le_length I.len,List.map_append,List.nodup_append]
      refine⟨I.nd,by simp,λa ha b hb=>?_⟩
      have hb:b=s:=by simpa using hb
      obtain⟨r,hr,rfl⟩:=List.mem_map.mp ha
      rw[hb]
      exact λz=>hs (List.mem_map.mpr ⟨r,List.mem_of_mem_drop hr,z⟩)
theorem RI.expK{h:aR}(H:bO h){s:Sta}(g:pD h s)(p:Nat){i:Nat}(hi:i<h.hs.length){acc:List Rw}(I:RI h acc):∀m,RI h (expK h p s i m acc)
 | 0=>I
 | m+1=>by rw[iY];exact(RI.expK H g p hi I m).add1 λs' e=>pW H g hi e
theorem RI.expA{h:aR}(H:bO h){s:Sta}(g:pD h s)(p:Nat){acc:List Rw}(I:RI h acc):∀m,m<=h.hs.length->RI h (expA h p s m acc)
 | 0,_=>I
 | m+1,hm=>by rw[lO];exact(RI.expA H g p I m (by omega)).expK H g p (by omega) 4
theorem uS{bs:List (Str×Int)}(o:wL bs):∀i,i<=bs.length->∀s∈bC (bs.take i),LB i 8 s
 | 0,_,s,hs=>by
  have:s=[]:=by simpa[bC] using hs
  rw[this];exact⟨rfl,λx hx=>by cases hx⟩
 | i+1,hi,s,hs=>by
  rw[fG (show i<bs.length by omega)] at hs
  obtain⟨b,hb,hx⟩:=List.mem_flatMap.mp hs
  obtain⟨v,hv,rfl⟩:=List.mem_map.mp hx
  have g:=uS o i (by omega) b hb
  have t:=(o.one _ (List.getElem_mem (show i<bs.length by omega))).2
  have hv:=List.mem_range.mp hv
  refine⟨by rw[lA,g.1];rfl,λx hx=>?_⟩
  rcases List.mem_append.mp hx with z|z
  . exact g.2 x z
  . rw[List.mem_singleton.mp z];omega
theorem RI.zero{h:aR}(H:bO h):RI h (eQ h) where
 good:=λr hr=>by
  obtain⟨s,hs,rfl⟩:=List.mem_map.mp hr
  have hs:=(List.mem_filter.mp hs).1
  have g:=uS H.bs.tops h.bs.length (Nat.le_refl _) s (by rw[List.take_length];exact hs)
  have hz:∀x∈zeros h,x=0:=λx hx=>List.eq_of_mem_replicate hx
  refine⟨⟨g.1,List.length_replicate,λi hi=>?_⟩,g,List.length_replicate,λx hx=>by rw[hz x hx];decide⟩
  have e:(zeros h).getD i 0=0:=by unfold zeros;rw[List.getD_eq_getElem?_getD,List.getElem?_replicate,if_pos hi];rfl
  show 0<=(zeros h).getD i 0/\(zeros h).getD i 0<=_
  rw[e];omega
 len:=Nat.le_refl _
 nd:=by rw[List.drop_length];exact List.nodup_nil
def kOf(s:Sta):List (List Int):=[s.1,s.2]
theorem aEl{s t:Sta}(h:kOf s=kOf t):s=t:=by
 unfold kOf at h
 simp only[List.cons.injEq,and_true] at h
 exact Prod.ext h.1 h.2
theorem oR:∀l:List Int,kY (l.map D.int)=some l
 | []=>rfl
 | x::l=>by rw[mC,kY,oR l]
theorem jS(s:Sta):kZ (aF s.1 s.2)=some (kOf s):=by
 unfold aF kZ aD
 simp only[pM,oR]
 rfl
structure KR (ks:List (List (List Int)×D)) (acc:List Rw):Prop where
 mem:∀s:Sta,kOf s∈ks.map (·.1)↔s∈acc.map (·.s)
 len:ks.length<=acc.length
abbrev tk(k:List (List Int)):List (List Int)×D:=(k,.bl true)
theorem aAq(ks:List (List (List Int)×D))(k:List (List Int)×D):(gE ks k).map (·.1)=if k.1∈ks.map (·.1) then ks.map (·.1) else ks.map (·.1)++[k.1]:=by
 unfold gE
 split
 . rw[List.map_map]
   refine List.map_congr_left λx _=>?_
   show(if x.1=k.1 then _ else _:List (List Int)×D).1=_
   split <;> rfl
 . rw[List.map_append];rfl
theorem aCD(ks:List (List (List Int)×D))(k:List (List Int)×D):(gE ks k).length<=ks.length+1:=by
 unfold gE
 split
 . rw[lM];omega
 . rw[lA];exact Nat.le_refl _
theorem KR.add{ks:List (List (List Int)×D)}{acc:List Rw}(K:KR ks acc){s:Sta}{x:Option (Nat×Nat×Nat)}:KR (gE ks (tk (kOf s))) (acc++[⟨s,x⟩]) where
 mem:=λt=>by
  rw[aAq,List.map_append,List.mem_append]
  have e:t∈[(⟨s,x⟩:Rw)].map (·.s)↔t=s:=by simp
  rw[e]
  split
  . rename_i hs
    refine⟨λz=>.inl ((K.mem t).mp z),λz=>?_⟩
    rcases z with z|z
    . exact(K.mem t).mpr z
    . rw[z];exact hs
  . rw[List.mem_append,K.mem t,List.mem_singleton]
    exact⟨λz=>z.imp id aEl,λz=>z.imp id λz=>by rw[z]⟩
 len:=by
  rw[lA]
  exact Nat.le_trans (aCD _ _) (Nat.add_le_add K.len (Nat.le_refl _))
theorem KR.dec{ks:List (List (List Int)×D)}{acc:List Rw}(K:KR ks acc)(s:Sta):decide (kOf s∈ks.map (·.1))=decide (s∈acc.map (·.s)):=decide_eq_decide.mpr (K.mem s)
section
variable {P:Pg} {cl:Caller} {σ:Sg}
theorem aCE(a:E)(j:Nat):tst P cl σ (.dnin a j)=(ev P cl σ a >>= λx=>match σ[j]?,kZ x.d with|some (.dct ks),some k=>.ok (!decide (k∈ks.map (·.1)))|_,_=>.bad):=id rfl
theorem yQ(i:Nat)(e:E):ex P cl σ (.dput i e)=O.from σ (ev P cl σ e) λv=>match σ[i]?,kZ v.d with
 | some (.dct ks),some k=>if ks.length<lim then .next (σ.set i (.dct (gE ks (k,.bl true)))) else .bad
 | _,_=>.bad:=id rfl
theorem aGY(c:E)(b:Ss):ex P cl σ (.whl c b)=fJ (λσ=>tst P cl σ c) (λσ=>exs P cl σ b) mY σ:=id rfl
theorem aCF{t:Sg->R Bool}{f:Sg->O}(n:Nat)(h:t σ=.ok false):fJ t f (n+1) σ=.next σ:=by
 show O.from σ (t σ) _=_
 rw[h];rfl
theorem aCG{t:Sg->R Bool}{f:Sg->O}{σ':Sg}(n:Nat)(h:t σ=.ok true)(hf:f σ=.next σ'):fJ t f (n+1) σ=fJ t f n σ':=by
 show O.from σ (t σ) _=_
 rw[h]
 show(match f σ with|.next σ'=>fJ t f n σ'|.cnt σ'=>fJ t f n σ'|.brk σ'=>.next σ'|o=>o)=_
 rw[hf]
end
theorem yR{h:aR}(H:bO h){t:Sg->R Bool}{f:Sg->O}(W:Nat->List Rw->Sg->Prop)(ht:∀p acc σ,W p acc σ->t σ=.ok (decide (p<acc.length)))
 (hf:∀p acc σ (r:Rw),W p acc σ->acc[p]? = some r->RI h acc->∃σ',f σ=.next σ'/\W (p+1) (expA h p r.s h.hs.length acc) σ') :
 ∀(n p:Nat) (acc:List Rw) (σ:Sg),W p acc σ->RI h acc->p<=acc.length->300001<=n+p->∃p' σ',fJ t f n σ=.next σ'/\W p' (bfs h n p acc) σ'/\RI h (bfs h n p acc)
 | 0,p,acc,σ,w,I,hp,hn=>by
  have:=I.few H
  omega
 | n+1,p,acc,σ,w,I,hp,hn=>by
  have e:=ht p acc σ w
  cases q:acc[p]? with
  | none=>
   have hl:acc.length<=p:=List.getElem?_eq_none_iff.mp q
   rw[decide_eq_false (by omega)] at e
   have eb:bfs h (n+1) p acc=acc:=by rw[bfs,q]
   rw[eb]
   exact⟨p,σ,aCF n e,w,I⟩
  | some r=>
   have hl:p<acc.length:=(List.getElem?_eq_some_iff.mp q).1
   rw[decide_eq_true hl] at e
   obtain⟨σ',e',w'⟩:=hf p acc σ r w q I
   have I':=RI.expA H (I.good r (mG q)) p I h.hs.length (Nat.le_refl _)
   have eb:bfs h (n+1) p acc=bfs h n (p+1) (expA h p r.s h.hs.length acc):=by rw[bfs,q]
   rw[eb,aCG n e e']
   refine yR H W ht hf n (p+1) _ σ' w' I' ?_ (by omega)
   have grow:∀(i k:Nat) (o:Option Sta) (acc:List Rw),acc.length<=(add1 p i k o acc).length:=λi k o acc=>by
    cases o with
    | none=>exact Nat.le_refl _
    | some s=>
     unfold K24.add1
     show _<=(if _ then _ else _:List Rw).length
     split
     . exact Nat.le_refl _
     . rw[lA];exact Nat.le_add_right _ _
   have gK:∀(i m:Nat) (acc:List Rw),acc.length<=(expK h p r.s i m acc).length:=λi m acc=>by
    induction m with
    | zero=>exact Nat.le_refl _
    | succ m ih=>rw[iY];exact Nat.le_trans ih (grow _ _ _ _)
   have gA:∀(m:Nat) (acc:List Rw),acc.length<=(expA h p r.s m acc).length:=λm acc=>by
    induction m with
    | zero=>exact Nat.le_refl _
    | succ m ih=>rw[lO];exact Nat.le_trans ih (gK _ _ _)
   exact Nat.le_trans hl (gA _ _)
theorem aCH(v d:D):Vl.sub (.cl v) d=.cl d:=by unfold Vl.sub;split <;> rfl
theorem lP{α:Type}(z:α)(f:α->D):∀(xs:List α) (j:Int),eN j (xs.map f)=(List.range xs.length).map λ(k:Nat)=>.tup [.int (j+(k:Int)),f (xs.getD k z)]
 | [],_=>rfl
 | x::xs,j=>by
  rw[mC,eN,lP z f xs (j+1),lC,List.range_succ_eq_map,mC,List.map_map]
  refine congr (congrArg _ (by simp)) (List.map_congr_left λk _=>?_)
  have:j+1+(k:Int)=j+((k+1:Nat):Int):=by omega
  simp only[Function.comp,this,List.getD_cons_succ]
theorem aCI{ds:List D}(h:noLs ds=true):biD .tuple [⟨.lst ds,true,false,[]⟩]=.ok (.cl (.tup ds)):=by
 show R.ok (Vl.mk (.tup ds) false (false&&!noLs ds) (if noLs ds=true then [] else []))=_
 rw[h];rfl
theorem aAr{h:aR}(H:bO h){s:List Int}(hs:s∈bC h.bs):s.length=h.bs.length:=by
 have:=(oD H.bs.tops h.bs.length (Nat.le_refl _)).2
 rw[List.take_length] at this
 exact this s hs
theorem sB(n:Nat){h:aR}(H:bO h):call pg (n+16) 21 [.lst (aX h.bs),h.bg.d]=.ok (.lst ((eK h).map aD),true,false):=by
 have cs:=aAi (P:=pg) (f:=6) rfl (n+14) H.bs.tops
 have v1:=cX 1 true h.bg.noL
 have hw:walk pg (call pg (n+15)) [.sh true (.lst (aX h.bs)),.sh true h.bg.d] (.seq (.call 6 (.cons (.v 0) .nil)))=.ok ((bC h.bs).map (λs=>Vl.cl (aD s)),[]):=by
  simp only[eZ,aM,aB,aC,aO,aL,gZ,cP,aA,mC,mN,aV,cs,fY,gU]
 have hc:=aCh (P:=pg) (k:=1) (caps:=[1]) (T:=.n 0) (c:=.call 1 (.cons (.v 1) (.cons (.v 0) (.cons (.c .non) .nil)))) (elt:=.v 0) (λs=>Vl.cl (aD s)) aD (λs=>h.bg.hold s s) aZ hw (Nat.le_trans (oQ H) (by decide)) λs hs=>by
  have ch:=uL n (aAr H hs) H.bg.1 H.bg.2
  refine⟨[.sh false (aD s),.sh true h.bg.d],by simp[aQ,cM],?_,?_⟩
  . simp only[fO,aB,aC,aO,bE,aL,gS,gZ,v1,aW,aA,mC,mN,aV,ch,bH,iH]
  . simp only[aO,aL,gZ,aW]
 refine aU (F:=f21) rfl rfl (v:=⟨.lst ((eK h).map aD),true,false,[]⟩) ?_
 show exs pg (call pg (n+15)) [.sh true (.lst (aX h.bs)),.sh true h.bg.d] (.cons (.ret _) .nil)=_
 rw[aI,cC,hc]
 rfl
theorem oT(n:Nat){h:aR}(H:bO h)(s:List Int):call pg (n+1) 22 [h.d,aD s]=.ok (aF s (zeros h),false,false):=by
 have v0:=dQ 0 h
 have v1:=cX 1 true (aZ s)
 have hw:walk pg (call pg n) [.sh true h.d,.sh true (aD s)] (.seq (.idx (.v 0) (.c (.int 2))))=.ok (h.hs.map (λx=>Vl.sub ⟨.lst (h.hs.map aK),false,true,[]⟩ (aK x)),[]):=by
  simp only[eZ,bB,aO,bE,aL,gZ,v0,aA,fW]
  unfold items
  rw[List.map_map]
  rfl
 have hc:=lJ (P:=pg) (k:=1) (caps:=[]) (T:=.n 0) (elt:=.c (.int 0)) (λx=>Vl.sub ⟨.lst (h.hs.map aK),false,true,[]⟩ (aK x)) (λ_=>.int 0) (λ_=>rfl) hw (by have:=H.few;unfold lim;omega) λt ht=>⟨_,rfl,rfl⟩
 have ez:h.hs.map (λ_=>D.int 0)=(zeros h).map D.int:=by
  unfold zeros
  rw[List.map_const',List.map_replicate]
 rw[ez] at hc
 refine aU (F:=f22) rfl rfl (v:=.cl (aF s (zeros h))) ?_
 show exs pg (call pg n) [.sh true h.d,.sh true (aD s)] (.cons (.ret (.tup (.cons (.v 1) (.cons (.bi .tuple (.cons _ .nil)) .nil)))) .nil)=_
 rw[aI,cC,dD,aB,aO]
 simp only[aL,gS,gZ,v1,aA,aB,aC,cO,hc,aCI (dS _),pC,aH,eD]
 rfl
def goG(h:aR)(s:Sta)(i m:Nat):List ((Nat×Nat)×Sta):=(List.range m).filterMap λk=>(goneS h s i k).map λt=>((i,k),t)
def goL(h:aR)(s:Sta)(m:Nat):List ((Nat×Nat)×Sta):=(List.range m).flatMap λi=>goG h s i (cK h s.2 i).length
def goD(g:(Nat×Nat)×Sta):D:=.tup [bJ (g.1.1:Int) (g.1.2:Int),aF g.2.1 g.2.2]
theorem uT(h:aR)(s:Sta)(i m:Nat):goG h s i (m+1)=goG h s i m++((goneS h s i m).map λt=>((i,m),t)).toList:=by
 unfold goG
 rw[List.range_succ,List.filterMap_append]
 congr 1
theorem oU(h:aR)(s:Sta)(m:Nat):goL h s (m+1)=goL h s m++goG h s m (cK h s.2 m).length:=by
 unfold goL
 rw[List.range_succ,List.flatMap_append,List.flatMap_cons,List.flatMap_nil,List.append_nil]
theorem yS(h:aR)(s:Sta)(i m:Nat):(goG h s i m).length<=m:=by
 unfold goG
 exact Nat.le_trans (List.length_filterMap_le _ _) (by rw[List.length_range];exact Nat.le_refl _)
theorem mL{h:aR}(H:bO h){s:Sta}(S:cU h s.1 s.2){i:Nat}(hi:i<h.hs.length):(cK h s.2 i).length<=4:=by
 by_cases hr:0<(cK h s.2 i).length
 . obtain⟨r,h1,h2⟩:=aCC S hi hr
   rw[h2]
   exact((H.hs _ (List.getElem_mem hi)).all r h1).few
 . omega
theorem yT{h:aR}(H:bO h){s:Sta}(S:cU h s.1 s.2):∀m,m<=h.hs.length->(goL h s m).length<=4*m
 | 0,_=>Nat.le_refl _
 | m+1,hm=>by
  rw[oU,lA]
  have h1:=yT H S m (by omega)
  have h2:=yS h s m (cK h s.2 m).length
  have h3:=mL H S (i:=m) (by omega)
  omega
theorem aGZ(g:(Nat×Nat)×Sta):noL (goD g)=true:=mJ (kM _ _) (cV _ _)
abbrev aHa:Ss:=match hdS (drp 1 f24.body) with|.for _ _ b=>b|_=>.nil
abbrev aHb:Ss:=match hdS aHa with|.for _ _ b=>b|_=>.nil
theorem aCJ(n:Nat){h:aR}(H:bO h){s:Sta}(S:cU h s.1 s.2){i:Nat}(hi:i<h.hs.length)(k:Nat){acc:List ((Nat×Nat)×Sta)}(ha:acc.length<=100)(s4 s6:Sl) :
 exs pg (call pg (n+17)) [.sh true h.d,.sh true (aF s.1 s.2),.own false (acc.map goD),.sh false (.int i),s4,.sh false (.int k),s6] aHb =
  .next [.sh true h.d,.sh true (aF s.1 s.2),.own false ((acc++((goneS h s i k).map λt=>((i,k),t)).toList).map goD),.sh false (.int i),s4,.sh false (.int k),.sh false (aCB (goneS h s i k))]:=by
 have cg:=aCy n H S (i:Int) (k:Int)
 rw[uR s hi k] at cg
 have v0:=dQ 0 h
 have v1:=cX 1 true (cV s.1 s.2)
 have e1:ex pg (call pg (n+17)) [.sh true h.d,.sh true (aF s.1 s.2),.own false (acc.map goD),.sh false (.int i),s4,.sh false (.int k),s6] (hdS aHb)=.next [.sh true h.d,.sh true (aF s.1 s.2),.own false (acc.map goD),.sh false (.int i),s4,.sh false (.int k),.sh false (aCB (goneS h s i k))]:=by
  show ex pg (call pg (n+17)) _ (.set (.n 6) (.call 4 (.cons (.v 0) (.cons (.v 1) (.cons (.tup (.cons (.v 3) (.cons (.v 5) .nil))) .nil)))))=_
  simp only[bM,aM,aB,aC,dD,aO,aL,gS,gZ,v0,v1,aW,aA,pC,mC,mN,aV]
  rw[show D.tup [.int (i:Int),.int (k:Int)]=bJ (i:Int) (k:Int) from rfl,cg]
  simp only[aA,bH,aH,bW,aQ,cM,bI,lS,lZ]
 refine(stp e1).trans ?_
 show exs pg (call pg (n+17)) _ (.cons (.iff (.cmp .IsNot (.v 6) (.c .non)) (.cons (.app 2 (.tup (.cons (.tup (.cons (.v 3) (.cons (.v 5) .nil))) (.cons (.v 6) .nil)))) .nil) .nil) .nil)=_
 cases goneS h s i k with
 | none=>
  rw[aI,bK]
  simp only[aCB,cA,aO,bE,aL,gS,gZ,aW,aA,aV]
  show(O.from _ (R.ok false) _).on _=_
  simp only[aH,bF,if_false,bT,fN,Option.map_none,Option.toList_none,List.append_nil]
 | some t=>
  have ll:((acc.map goD)++[goD ((i,k),t)]).length<=lim:=by
   rw[lA,lM];unfold lim;show acc.length+1<=_;omega
  have tg:D.tup [.tup [.int (i:Int),.int (k:Int)],aF t.1 t.2]=goD ((i,k),t):=rfl
  rw[aI,bK]
  simp only[aCB,cA,aO,bE,aL,gS,gZ,aW,aA,aV]
  show(O.from _ (R.ok true) _).on _=_
  simp only[aH,if_true,aI,bT,fC,dD,aB,aC,aO,aL,gS,gZ,aW,aA,pC,put,bW,aQ,eO,aV,tg,ll,jE,Bool.or_false,lS,lZ,fN,Option.map_some,Option.toList_some,List.map_append,mC,mN]
theorem aAs(n:Nat){h:aR}{s:Sta}(S:cU h s.1 s.2){i:Nat}(hi:i<h.hs.length)(s2 s5 s6:Sl) :
 ev pg (call pg (n+1)) [.sh true h.d,.sh true (aF s.1 s.2),s2,.sh false (.int i),.sh true (aK (h.hs.getD i [])),s5,s6] (.bi .len (.cons (.call 3 (.cons (.v 4) (.cons (.idx (.idx (.v 1) (.c (.int 1))) (.v 3)) .nil))) .nil))=.ok (.cl (.int ((cK h s.2 i).length:Int))):=by
 have v1:=cX 1 true (cV s.1 s.2)
 have v4:Sl.val 4 (.sh true (aK (h.hs.getD i [])))=.ok ⟨aK (h.hs.getD i []),false,true,[]⟩:=rfl
 have i1:bV (.cl (aF s.1 s.2)) (.cl (.int 1))=.ok (.cl (aD s.2)):=fZ (aD s.1) (aD s.2) _ (aZ s.2)
 have i2:bV (.cl (aD s.2)) (.cl (.int (i:Int)))=.ok (.cl (.int (s.2.getD i 0))):=iU (by rw[S.len];exact hi)
 have hg:h.hs.getD i []=h.hs[i]:=by rw[List.getD_eq_getElem?_getD,List.getElem?_eq_getElem hi];rfl
 obtain⟨p0,p1⟩:=S.pl i hi
 obtain⟨j,hj⟩:∃j:Nat,s.2.getD i 0=(j:Int):=⟨(s.2.getD i 0).toNat,(Int.toNat_of_nonneg p0).symm⟩
 simp only[cO,aM,aB,aC,bB,aO,bE,aL,gS,gZ,v1,v4,aW,aA,i1,i2,mC,mN,aV]
 unfold cK
 rw[hj,Int.toNat_natCast]
 by_cases hl:j<(h.hs.getD i []).length
 . rw[aCv n hl]
   show biD .len [⟨.lst ((h.hs.getD i [])[j].map Way.d),false,true,[]⟩]=_
   have e:(h.hs.getD i []).getD j []=(h.hs.getD i [])[j]:=by rw[List.getD_eq_getElem?_getD (l:=h.hs.getD i []),List.getElem?_eq_getElem hl];rfl
   rw[cR,lM,e]
 . rw[yN n (by omega)]
   show biD .len [⟨.lst [],true,false,[]⟩]=_
   have e:(h.hs.getD i []).getD j []=[]:=by rw[List.getD_eq_getElem?_getD (l:=h.hs.getD i []),List.getElem?_eq_none (by omega)];rfl
   rw[cR,e]
   rfl
theorem aCK(n:Nat){h:aR}(H:bO h){s:Sta}(S:cU h s.1 s.2){i:Nat}(hi:i<h.hs.length){acc:List ((Nat×Nat)×Sta)}(ha:acc.length<=50)(s5 s6:Sl):∃t5 t6,
 exs pg (call pg (n+17)) [.sh true h.d,.sh true (aF s.1 s.2),.own false (acc.map goD),.sh false (.int i),.sh true (aK (h.hs.getD i [])),s5,s6] aHa =
  .next [.sh true h.d,.sh true (aF s.1 s.2),.own false ((acc++goG h s i (cK h s.2 i).length).map goD),.sh false (.int i),.sh true (aK (h.hs.getD i [])),t5,t6]:=by
 have rl:=aAs (n+16) S hi (.own false (acc.map goD)) s5 s6
 have hf:=mL H S hi
 have hw:=dF rl rfl (n:=(cK h s.2 i).length) (by omega)
 obtain⟨σ',e,hI⟩:=fD (t:=.n 5) (b:=aHb) (λk σ=>∃t5 t6,σ=[.sh true h.d,.sh true (aF s.1 s.2),.own false ((acc++goG h s i k).map goD),.sh false (.int i),.sh true (aK (h.hs.getD i [])),t5,t6]) hw ⟨s5,s6,by unfold goG;simp⟩ (λk hk σ hσ=>by
  obtain⟨t5,t6,rfl⟩:=hσ
  have hk:k<(cK h s.2 i).length:=by simpa using hk
  have gl:=yS h s i k
  have g:=aCJ n H S hi k (acc:=acc++goG h s i k) (by rw[lA];omega) (.sh true (aK (h.hs.getD i []))) t6
  rw[List.append_assoc,<-uT] at g
  exact⟨_,_,by simp,g,_,_,rfl⟩)
 obtain⟨t5,t6,rfl⟩:=hI
 refine⟨t5,t6,(stp e).trans ?_⟩
 simp
theorem oV(n:Nat){h:aR}(H:bO h){s:Sta}(S:cU h s.1 s.2):call pg (n+18) 24 [h.d,aF s.1 s.2]=.ok (.lst ((goL h s h.hs.length).map goD),true,false):=by
 have v0:=dQ 0 h
 have hw:walk pg (call pg (n+17)) [.sh true h.d,.sh true (aF s.1 s.2),.own false [],.dead,.dead,.dead,.dead] (.enum (.idx (.v 0) (.c (.int 2))))=.ok ((List.range h.hs.length).map (λ(k:Nat)=>(⟨.tup [.int (k:Int),aK (h.hs.getD k [])],false,true,[]⟩:Vl)),[]):=by
  have e:=lP [] aK h.hs 0
  have e':(List.range h.hs.length).map (λ(k:Nat)=>D.tup [.int (0+(k:Int)),aK (h.hs.getD k [])])=(List.range h.hs.length).map (λ(k:Nat)=>D.tup [.int (k:Int),aK (h.hs.getD k [])]):=List.map_congr_left λk _=>by rw[Int.zero_add]
  rw[e'] at e
  have hit:items ⟨.lst (h.hs.map aK),false,true,[]⟩ ((List.range h.hs.length).map (λ(k:Nat)=>D.tup [.int (k:Int),aK (h.hs.getD k [])]))=(List.range h.hs.length).map (λ(k:Nat)=>(⟨.tup [.int (k:Int),aK (h.hs.getD k [])],false,true,[]⟩:Vl)):=by
   unfold items
   rw[List.map_map]
   exact List.map_congr_left λk _=>rfl
  simp only[iX,bB,aO,bE,aL,gS,gZ,v0,aA,fW,fS,e,hit]
 obtain⟨σ',e,hI⟩:=fD (t:=.t [3,4]) (b:=aHa) (λi σ=>∃t3 t4 t5 t6,σ=[.sh true h.d,.sh true (aF s.1 s.2),.own false ((goL h s i).map goD),t3,t4,t5,t6]) hw ⟨_,_,_,_,rfl⟩ (λi hi σ hσ=>by
  obtain⟨t3,t4,t5,t6,rfl⟩:=hσ
  have hi:i<h.hs.length:=by simpa using hi
  have gl:=yT H S i (by omega)
  have hf:=H.few
  obtain⟨u5,u6,g⟩:=aCK n H S hi (acc:=goL h s i) (by omega) t5 t6
  rw[<-oU] at g
  refine⟨_,_,?_,g,_,_,_,_,rfl⟩
  simp only[List.getElem_map,List.getElem_range]
  rfl)
 obtain⟨t3,t4,t5,t6,rfl⟩:=hI
 refine aU (F:=f24) rfl rfl (v:=⟨.lst ((goL h s h.hs.length).map goD),true,false,[]⟩) ?_
 show exs pg (call pg (n+17)) [.sh true h.d,.sh true (aF s.1 s.2),.dead,.dead,.dead,.dead,.dead] _=_
 refine(stp (σ':=[.sh true h.d,.sh true (aF s.1 s.2),.own false [],.dead,.dead,.dead,.dead]) rfl).trans ?_
 refine(stp e).trans ?_
 rw[lM,List.length_range]
 rfl
abbrev aAt(p:Nat)(acc:List Rw)(g:(Nat×Nat)×Sta):List Rw:=add1 p g.1.1 g.1.2 (some g.2) acc
theorem uU(h:aR)(s:Sta)(p i:Nat)(acc:List Rw):∀m,(goG h s i m).foldl (aAt p) acc=expK h p s i m acc
 | 0=>rfl
 | m+1=>by
  rw[uT,List.foldl_append,uU h s p i acc m,iY]
  cases goneS h s i m <;> rfl
theorem pY{h:aR}{s:Sta}{p i:Nat}{acc:List Rw}:∀m,expK h p s i ((cK h s.2 i).length+m) acc=expK h p s i (cK h s.2 i).length acc
 | 0=>rfl
 | m+1=>by
  rw[show(cK h s.2 i).length+(m+1)=(cK h s.2 i).length+m+1 from rfl,iY,pY m]
  have e:goneS h s i ((cK h s.2 i).length+m)=none:=by unfold goneS;rw[if_neg (by omega)]
  rw[e];rfl
theorem yU{h:aR}(H:bO h){s:Sta}(S:cU h s.1 s.2)(p:Nat)(acc:List Rw):∀m,m<=h.hs.length->(goL h s m).foldl (aAt p) acc=expA h p s m acc
 | 0,_=>rfl
 | m+1,hm=>by
  rw[oU,List.foldl_append,yU H S p acc m (by omega),uU,lO]
  have hf:=mL H S (i:=m) (by omega)
  have:=pY (h:=h) (s:=s) (p:=p) (i:=m) (acc:=expA h p s m acc) (4-(cK h s.2 m).length)
  rw[show(cK h s.2 m).length+(4-(cK h s.2 m).length)=4 by omega] at this
  exact this.symm
theorem aHc{h:aR}(H:bO h){s:Sta}(g:pD h s){x:(Nat×Nat)×Sta}(hx:x∈goL h s h.hs.length):pD h x.2:=by
 obtain⟨i,hi,hx⟩:=List.mem_flatMap.mp hx
 obtain⟨k,_,hk⟩:=List.mem_filterMap.mp hx
 obtain⟨t,ht,rfl⟩:=Option.map_eq_some_iff.mp hk
 exact pW H g (List.mem_range.mp hi) ht
theorem sC(r:Rw):noL r.d=true:=by
 unfold Rw.d
 simp only[noL,noLs,cV,Bool.true_and,Bool.and_true]
 cases r.p <;> rfl
theorem aCL{h:aR}(H:bO h){P:Pg}{cl:Caller}{acc:List Rw}(I:RI h acc){ks:List (List (List Int)×D)}(K:KR ks acc){p i k:Nat}{t:Sta}{c:E}{e:E}{j:Nat}{σ:Sg}{σ1:List (List (List Int)×D)->List Rw->Sg}
 (hσ:σ=σ1 ks acc) (h1:∀ks acc,(σ1 ks acc)[1]? = some (.own false (acc.map Rw.d))) (h2:∀ks acc,(σ1 ks acc)[2]? = some (.dct ks)) (s1:∀ks acc acc',(σ1 ks acc).set 1 (.own false (acc'.map Rw.d))=σ1 ks acc') (s2:∀ks acc ks',(σ1 ks acc).set 2 (.dct ks')=σ1 ks' acc)
 (hj:∀ks acc,ev P cl (σ1 ks acc) (.v j)=.ok (.cl (aF t.1 t.2))) (he:∀ks acc,ev P cl (σ1 ks acc) e=.ok (.cl (Rw.d ⟨t,some (p,i,k)⟩))) (hc:∀ks acc,tst P cl (σ1 ks acc) c=tst P cl (σ1 ks acc) (.dnin (.v j) 2)) :
 ∃ks',ex P cl σ (.iff c (.cons (.dput 2 (.v j)) (.cons (.app 1 e) .nil)) .nil)=.next (σ1 ks' (add1 p i k (some t) acc))/\KR ks' (add1 p i k (some t) acc):=by
 subst hσ
 have tt:tst P cl (σ1 ks acc) c=.ok (!decide (t∈acc.map (·.s))):=by
  rw[hc,aCE,hj,aA,aV,jS,h2]
  show R.ok (!decide (kOf t∈ks.map (·.1)))=_
  rw[K.dec t]
 have fw:=I.few H
 have kl:=K.len
 rw[bK,tt,aH]
 have ea:K24.add1 p i k (some t) acc=if t∈acc.map (·.s) then acc else acc++[⟨t,some (p,i,k)⟩]:=rfl
 rw[ea]
 by_cases ht:t∈acc.map (·.s)
 . rw[decide_eq_true ht,if_pos ht]
   exact⟨ks,rfl,K⟩
 . rw[decide_eq_false ht,if_neg ht]
   refine⟨gE ks (tk (kOf t)),?_,K.add⟩
   have e1:ex P cl (σ1 ks acc) (.dput 2 (.v j))=.next (σ1 (gE ks (tk (kOf t))) acc):=by
    rw[yQ,hj,aH,aV,jS,h2]
    show(if ks.length<lim then _ else _)=_
    rw[if_pos (by unfold lim;omega),s2]
   have e2:ex P cl (σ1 (gE ks (tk (kOf t))) acc) (.app 1 e)=.next (σ1 (gE ks (tk (kOf t))) (acc++[⟨t,some (p,i,k)⟩])):=by
    rw[fC,he,aH]
    unfold put eO
    simp only[bW,aQ,h1,aV,jE,Bool.or_false]
    rw[if_pos (by rw[lA,lM];unfold lim;show acc.length+1<=_;omega)]
    have:=s1 (gE ks (tk (kOf t))) acc (acc++[⟨t,some (p,i,k)⟩])
    rw[List.map_append] at this
    exact congrArg O.next this
   show exs P cl (σ1 ks acc) (.cons (.dput 2 (.v j)) (.cons (.app 1 e) .nil))=_
   rw[stp e1,stp e2,bT]
abbrev asW:Ss:=match hdS (drp 4 f23.body) with|.whl _ b=>b|_=>.nil
abbrev asB:Ss:=match hdS asW with|.for _ _ b=>b|_=>.nil
abbrev asS(h:aR)(p:Nat)(t3 t4 t6:Sl)(ks:List (List (List Int)×D))(acc:List Rw):Sg:=[.sh true h.d,.own false (acc.map Rw.d),.dct ks,t3,t4,.sh false (.int p),t6]
theorem aJF{s0 s1 s2 s3 s4 s5 s6:Sl}(g:(Nat×Nat)×Sta):cF [s0,s1,s2,s3,s4,s5,s6] (.cl (goD g)) (.t [6,4])=.ok [s0,s1,s2,s3,.sh false (aF g.2.1 g.2.2),s5,.sh false (bJ (g.1.1:Int) (g.1.2:Int))]:=by
 unfold cF goD
 simp only[aV,lC,lN,if_true,List.zip_cons_cons,List.zip_nil_left,List.foldl_cons,List.foldl_nil,bX (kM _ _),bX (cV _ _),bI,lS,lZ]
theorem aEm(n:Nat){h:aR}(H:bO h){p:Nat}{acc:List Rw}(I:RI h acc){ks:List (List (List Int)×D)}(K:KR ks acc){r:Rw}(hr:acc[p]? = some r)(t3 t4 t6:Sl):∃ks' u4 u6,
 exs pg (call pg (n+18)) (asS h p t3 t4 t6 ks acc) asW=.next (asS h (p+1) t3 u4 u6 ks' (expA h p r.s h.hs.length acc))/\KR ks' (expA h p r.s h.hs.length acc):=by
 have hp:p<acc.length:=(List.getElem?_eq_some_iff.mp hr).1
 have g:=I.good r (mG hr)
 have cg:=oV n H g.ok
 have v0:=dQ 0 h
 have fw:=I.few H
 have ix:bV ⟨.lst (acc.map Rw.d),false,false,[1]⟩ (.cl (.int (p:Int)))=.ok (.cl r.d):=by
  have e:(acc.map Rw.d)[p]? = some r.d:=by rw[List.getElem?_map,hr];rfl
  unfold bV
  simp only[aV,cZ (show p<(acc.map Rw.d).length by rw[lM];exact hp),e,bX (sC r)]
 have i0:bV (.cl r.d) (.cl (.int 0))=.ok (.cl (aF r.s.1 r.s.2)):=eA _ _ (cV _ _)
 have hw:walk pg (call pg (n+18)) (asS h p t3 t4 t6 ks acc) (.seq (.call 24 (.cons (.v 0) (.cons (.idx (.idx (.v 1) (.v 5)) (.c (.int 0))) .nil))))=.ok ((goL h r.s h.hs.length).map (λg=>Vl.cl (goD g)),[]):=by
  have hit:items ⟨.lst ((goL h r.s h.hs.length).map goD),true,false,[]⟩ ((goL h r.s h.hs.length).map goD)=(goL h r.s h.hs.length).map (λg=>Vl.cl (goD g)):=by
   unfold items
   rw[List.map_map]
   exact List.map_congr_left λg _=>bX (aGZ g)
  simp only[eZ,aM,aB,aC,bB,aO,bE,aL,gS,gZ,v0,cQ,aW,aA,ix,i0,mC,mN,aV,cg,fY,hit]
 obtain⟨σ',e,hI⟩:=fD (t:=.t [6,4]) (b:=asB) (λj σ=>∃ks' u4 u6,σ=asS h p t3 u4 u6 ks' (((goL h r.s h.hs.length).take j).foldl (aAt p) acc)/\KR ks' (((goL h r.s h.hs.length).take j).foldl (aAt p) acc)/\RI h (((goL h r.s h.hs.length).take j).foldl (aAt p) acc)) hw ⟨ks,t4,t6,rfl,K,I⟩ (λj hj σ hσ=>by
  obtain⟨ks',u4,u6,rfl,K',I'⟩:=hσ
  have hj:j<(goL h r.s h.hs.length).length:=by simpa using hj
  have hg:=aHc H g (List.getElem_mem hj)
  rw[List.take_succ_eq_append_getElem hj,List.foldl_append,List.foldl_cons,List.foldl_nil]
  simp only[List.getElem_map]
  generalize ((goL h r.s h.hs.length).take j).foldl (aAt p) acc=a at K' I'
  generalize (goL h r.s h.hs.length)[j]=x at hg
  obtain⟨ks2,e2,K2⟩:=aCL H (P:=pg) (cl:=call pg (n+18)) I' K' (p:=p) (i:=x.1.1) (k:=x.1.2) (t:=x.2) (c:=.dnin (.v 4) 2) (e:=.tup (.cons (.v 4) (.cons (.v 5) (.cons (.v 6) .nil)))) (j:=4) (σ1:=asS h p t3 (.sh false (aF x.2.1 x.2.2)) (.sh false (bJ (x.1.1:Int) (x.1.2:Int)))) rfl (λ_ _=>rfl) (λ_ _=>rfl) (λ_ _ _=>rfl) (λ_ _ _=>rfl) (λ_ _=>rfl) (λ_ _=>rfl) (λ_ _=>rfl)
  exact⟨_,_,aJF x,(stp e2).trans (bT ..),ks2,_,_,rfl,K2,I'.add1 λs hs=>by cases hs;exact hg⟩)
 obtain⟨ks',u4,u6,rfl,K',_⟩:=hI
 rw[lM,List.take_length,yU H g.ok p acc _ (Nat.le_refl _)] at e K'
 refine⟨ks',u4,u6,(stp e).trans ?_,K'⟩
 have e5:∀σ:Sg,σ[5]? = some (.sh false (.int (p:Int)))->ex pg (call pg (n+18)) σ (.set (.n 5) (.op .Add (.v 5) (.c (.int 1))))=.next (σ.set 5 (.sh false (.int ((p+1:Nat):Int)))):=λσ hs=>by
  simp only[bM,cD,aO,bE,aL,hs,aW,aA,add_int,aH,bW,aQ,cM,bI]
  rfl
 exact(stp (e5 _ rfl)).trans (bT ..)
theorem aLo(h:aR):bV ⟨h.d,false,true,[]⟩ (.cl (.int 1))=.ok (.cl h.bg.d):=by
 show R.ok (Vl.sub ⟨h.d,false,true,[]⟩ h.bg.d)=_
 rw[bX h.bg.noL]
abbrev aJG:Ss:=match hdS (drp 2 f23.body) with|.for _ _ b=>b|_=>.nil
theorem wZ(h:aR){i:Nat}(hi:i<(eK h).length):(eQ h).take (i+1)=(eQ h).take i++[⟨((eK h)[i],zeros h),none⟩]:=by
 unfold eQ
 rw[List.take_succ_eq_append_getElem (by rw[lM];exact hi),List.getElem_map]
theorem jF(n:Nat){h:aR}(H:bO h):call pg (n+19) 23 [h.d]=.ok (.lst ((rowsL h).map Rw.d),true,false):=by
 have v0:=dQ 0 h
 have cs:=sB (n+2) H
 have fw:=pX H
 have sl:(eK h).length=(eQ h).length:=by unfold eQ;rw[lM]
 have hw:walk pg (call pg (n+18)) [.sh true h.d,.own false [],.dct [],.dead,.dead,.dead,.dead] (.seq (.call 21 (.cons (.idx (.v 0) (.c (.int 0))) (.cons (.idx (.v 0) (.c (.int 1))) .nil))))=.ok ((eK h).map (λs=>Vl.cl (aD s)),[]):=by
  simp only[eZ,aM,aB,aC,bB,aO,bE,aL,gZ,v0,aA,sA,aLo,mC,mN,aV,cs,fY,gU]
 obtain⟨σ',e,hI⟩:=fD (t:=.n 3) (b:=aJG) (λj σ=>∃ks u3 u4,σ=[.sh true h.d,.own false (((eQ h).take j).map Rw.d),.dct ks,u3,u4,.dead,.dead]/\KR ks ((eQ h).take j)) hw ⟨[],.dead,.dead,rfl,⟨λs=>by simp,Nat.le_refl _⟩⟩ (λj hj σ hσ=>by
  obtain⟨ks,u3,u4,rfl,K⟩:=hσ
  have hj:j<(eK h).length:=by simpa using hj
  simp only[List.getElem_map]
  have cf:=oT (n+17) H (eK h)[j]
  have kl:=K.len
  have tl:((eQ h).take j).length<=24:=Nat.le_trans (by rw[List.length_take];exact Nat.min_le_right _ _) fw
  rw[wZ h hj]
  generalize (eK h)[j]=s at cf
  generalize (eQ h).take j=a at K kl tl
  have e1:ex pg (call pg (n+18)) [.sh true h.d,.own false (a.map Rw.d),.dct ks,.sh false (aD s),u4,.dead,.dead] (hdS aJG)=.next [.sh true h.d,.own false (a.map Rw.d),.dct ks,.sh false (aD s),.sh false (aF s (zeros h)),.dead,.dead]:=by
   show ex pg (call pg (n+18)) _ (.set (.n 4) (.call 22 (.cons (.v 0) (.cons (.v 3) .nil))))=_
   simp only[bM,aM,aB,aC,aO,aL,gS,gZ,v0,aW,aA,mC,mN,aV,cf,bH,aH,bW,aQ,cM,bI,lS,lZ]
  have e2:ex pg (call pg (n+18)) [.sh true h.d,.own false (a.map Rw.d),.dct ks,.sh false (aD s),.sh false (aF s (zeros h)),.dead,.dead] (.dput 2 (.v 4))=.next [.sh true h.d,.own false (a.map Rw.d),.dct (gE ks (tk (kOf (s,zeros h)))),.sh false (aD s),.sh false (aF s (zeros h)),.dead,.dead]:=by
   rw[yQ,aO]
   show(match some (Sl.dct ks),kZ (aF (s,zeros h).1 (s,zeros h).2) with|some (.dct ks),some k=>_|_,_=>_)=_
   rw[jS]
   show(if ks.length<lim then _ else _)=_
   rw[if_pos (by unfold lim;omega)]
   rfl
  have ll:(a.map Rw.d++[Rw.d ⟨(s,zeros h),none⟩]).length<=lim:=by rw[lA,lM];unfold lim;show a.length+1<=_;omega
  have e3:ex pg (call pg (n+18)) [.sh true h.d,.own false (a.map Rw.d),.dct (gE ks (tk (kOf (s,zeros h)))),.sh false (aD s),.sh false (aF s (zeros h)),.dead,.dead] (.app 1 (.tup (.cons (.v 4) (.cons (.c .non) (.cons (.c .non) .nil)))))=.next [.sh true h.d,.own false ((a++[(⟨(s,zeros h),none⟩:Rw)]).map Rw.d),.dct (gE ks (tk (kOf (s,zeros h)))),.sh false (aD s),.sh false (aF s (zeros h)),.dead,.dead]:=by
   simp only[fC,dD,aB,aC,aO,bE,aL,gS,gZ,aW,aA,aH]
   rw[show jD [.cl (aF s (zeros h)),.cl .non,.cl .non]=.cl (Rw.d ⟨(s,zeros h),none⟩) from rfl]
   unfold put eO
   simp only[bW,aQ,gS,gZ,aV,jE,Bool.or_false,ll,if_true,lS,lZ,List.map_append,mC,mN]
  exact⟨_,_,rfl,(stp e1).trans ((stp e2).trans ((stp e3).trans (bT ..))),_,_,_,rfl,K.add⟩)
 obtain⟨ks,u3,u4,rfl,K⟩:=hI
 rw[lM,sl,List.take_length] at e K
 have tw:∀p acc σ,(∃ks t4 t6,σ=asS h p u3 t4 t6 ks acc/\KR ks acc)->tst pg (call pg (n+18)) σ (.cmp .Lt (.v 5) (.bi .len (.cons (.v 1) .nil)))=.ok (decide (p<acc.length)):=λp acc σ hσ=>by
  obtain⟨ks,t4,t6,rfl,_⟩:=hσ
  have hd:decide ((p:Int)<(acc.length:Int))=decide (p<acc.length):=decide_eq_decide.mpr (by omega)
  simp only[cA,cO,aB,aC,aO,aL,gS,gZ,aW,cQ,aA,cR,lM,aV,lI,hd]
 obtain⟨p',σ2,ew,⟨ks2,v4,v6,rfl,_⟩,_⟩:=yR H (t:=λσ=>tst pg (call pg (n+18)) σ (.cmp .Lt (.v 5) (.bi .len (.cons (.v 1) .nil)))) (f:=λσ=>exs pg (call pg (n+18)) σ asW) (λp acc σ=>∃ks t4 t6,σ=asS h p u3 t4 t6 ks acc/\KR ks acc) tw (λp acc σ r hσ hr I=>by
  obtain⟨ks,t4,t6,rfl,K⟩:=hσ
  obtain⟨ks',v4,v6,g,K'⟩:=aEm n H I K hr u3 t4 t6
  exact⟨_,g,ks',v4,v6,rfl,K'⟩) mY 0 (eQ h) (asS h 0 u3 u4 .dead ks (eQ h)) ⟨ks,u4,.dead,rfl,K⟩ (RI.zero H) (Nat.zero_le _) (by decide)
 refine aU (F:=f23) rfl rfl (v:=⟨.lst ((rowsL h).map Rw.d),true,false,[]⟩) ?_
 show exs pg (call pg (n+18)) [.sh true h.d,.dead,.dead,.dead,.dead,.dead,.dead] _=_
 refine(stp (σ':=[.sh true h.d,.own false [],.dead,.dead,.dead,.dead,.dead]) rfl).trans ?_
 refine(stp (σ':=[.sh true h.d,.own false [],.dct [],.dead,.dead,.dead,.dead]) rfl).trans ?_
 refine(stp e).trans ?_
 refine(stp (σ':=asS h 0 u3 u4 .dead ks (eQ h)) rfl).trans ?_
 refine(stp (σ':=asS h p' u3 v4 v6 ks2 (rowsL h)) ?_).trans rfl
 rw[aGY]
 exact ew
theorem aJH(v:Vl)(d:D):(Vl.sub v d).d=d:=by unfold Vl.sub;split <;> rfl
theorem aAu(n:Nat)(i:Int):call pg (n+1) 20 [.int i,.int i]=.ok (.bl true,false,false):=by
 refine aU (F:=f20) rfl rfl (v:=.cl (.bl true)) ?_
 have e:eqD (.int i) (.int i)=some true:=by rw[dG];simp
 show exs pg (call pg n) [.sh true (.int i),.sh true (.int i),.dead] _=_
 have an1:ev pg (call pg n) [.sh true (.int i),.sh true (.int i),.dead] (.an (.isi (.v 0) [.tInt]) (.an (.nt (.isi (.v 0) [.tBool])) (.cmp .Eq (.v 0) (.v 1))))=.ok (.cl (.bl true)):=by
  refine uH (x:=true) (y:=true) rfl (uH (x:=true) (y:=true) rfl ?_)
  simp only[jQ,aO,aL,gS,gZ,aP,aA,aV,dU,e]
 refine(stp (σ':=[.sh true (.int i),.sh true (.int i),.dead]) rfl).trans ?_
 show exs pg (call pg n) _ (.cons (.iff (.isi (.v 1) [.tInt]) (.cons (.ret _) .nil) .nil) _)=_
 have t1:tst pg (call pg n) [.sh true (.int i),.sh true (.int i),.dead] (.isi (.v 1) [.tInt])=.ok true:=rfl
 rw[aI,bK,t1,aH,if_pos rfl,aI,cC,an1]
 rfl
theorem pZ(n:Nat){ds:List D}(hl:ds.length<=1000000)(h:∀d∈ds,call pg (n+1) 20 [d,d]=.ok (.bl true,false,false)):call pg (n+2) 20 [.lst ds,.lst ds]=.ok (.bl true,false,false):=by
 have hlen:∀(s2:Sl),ev pg (call pg (n+1)) [.sh true (.lst ds),.sh true (.lst ds),s2] (.bi .len (.cons (.v 1) .nil))=.ok (.cl (.int (ds.length:Int))):=λs2=>by
  simp only[cO,aB,aC,aO,aL,gS,gZ,cP,aA,cR]
 have hlen0:∀(s2:Sl),ev pg (call pg (n+1)) [.sh true (.lst ds),.sh true (.lst ds),s2] (.bi .len (.cons (.v 0) .nil))=.ok (.cl (.int (ds.length:Int))):=λs2=>by
  simp only[cO,aB,aC,aO,aL,gS,gZ,cP,aA,cR]
 have hw:=dF (P:=pg) (cl:=call pg (n+1)) (σ:=[.sh true (.lst ds),.sh true (.lst ds),.dead]) (hlen .dead) rfl (n:=ds.length) hl
 obtain⟨σ',e,hI⟩:=fD (t:=.n 2) (b:=match hdS (drp 6 f20.body) with|.for _ _ b=>b|_=>.nil) (λi σ=>∃s2,σ=[.sh true (.lst ds),.sh true (.lst ds),s2]) hw ⟨_,rfl⟩ (λi hi σ hσ=>by
  obtain⟨s2,rfl⟩:=hσ
  have hi':i<ds.length:=by simpa using hi
  have h2:=h ds[i] (List.getElem_mem hi')
  have ix:bV ⟨.lst ds,false,true,[]⟩ (.cl (.int (i:Int)))=.ok (Vl.sub ⟨.lst ds,false,true,[]⟩ ds[i]):=by
   unfold bV
   simp only[aV,cZ hi',List.getElem?_eq_getElem hi']
  refine⟨[.sh true (.lst ds),.sh true (.lst ds),.sh false (.int i)],[.sh true (.lst ds),.sh true (.lst ds),.sh false (.int i)],by simp,?_,_,rfl⟩
  simp only[hdS,drp,f20,aI,bT,bK,dE,fO,aB,aC,bB,aO,aL,gS,gZ,cP,aP,aA,ix,mC,mN,aJH,h2,bH,iH,Bool.not_true,aH,bF,if_false,fN])
 obtain⟨s2,rfl⟩:=hI
 have tt:∀{E1:E} {B:Ss},tst pg (call pg (n+1)) [.sh true (.lst ds),.sh true (.lst ds),.dead] E1=.ok false->ex pg (call pg (n+1)) [.sh true (.lst ds),.sh true (.lst ds),.dead] (.iff E1 B .nil)=.next [.sh true (.lst ds),.sh true (.lst ds),.dead]:=λh=>by rw[bK,h];rfl
 refine aU (F:=f20) rfl rfl (v:=.cl (.bl true)) ?_
 show exs pg (call pg (n+1)) [.sh true (.lst ds),.sh true (.lst ds),.dead] _=_
 refine(stp (tt ?_)).trans ((stp (tt ?_)).trans ((stp (tt ?_)).trans ((stp (tt ?_)).trans ((stp (tt ?_)).trans ((stp (tt ?_)).trans ((stp e).trans rfl))))))
 . rfl
 . rfl
 . rfl
 . rfl
 . rfl
 . rw[cA,hlen0,hlen]
   simp only[aA,aV,aGR,dG,beq_self_eq_true,Option.map_some,Bool.not_true]
theorem kN(n:Nat){is:List Int}(h:is.length<=1000000):call pg (n+2) 20 [.lst (is.map D.int),.lst (is.map D.int)]=.ok (.bl true,false,false):=
 pZ n (by rw[lM];exact h) λd hd=>by
  obtain⟨i,_,rfl⟩:=List.mem_map.mp hd
  exact aAu n i
def endB(h:aR)(s:Sta):Bool:=(h.hs.zip s.2).all λt=>t.2==(t.1.length:Int)
def qB(h:aR):List Int:=h.hs.map λx=>(x.length:Int)
theorem yV{α:Type}(f:α->Int):∀(as:List α) (bs:List Int),as.length=bs.length->((as.zip bs).all λt=>t.2==f t.1)=(bs==as.map f)
 | [],[],_=>rfl
 | [],_::_,h=>by cases h
 | _::_,[],h=>by cases h
 | a::as,b::bs,h=>by
  rw[List.zip_cons_cons,List.all_cons,yV f as bs (Nat.succ.inj h),mC,List.cons_beq_cons]
theorem aEn{h:aR}{s:Sta}(S:cU h s.1 s.2):endB h s=(s.2==qB h):=yV (λx:List (List Way)=>(x.length:Int)) h.hs s.2 S.len.symm
theorem uV{α:Type}(p:α->Bool):∀ts:List α,cW (ts.map λt=>D.bl (p t))=some (ts.map p)
 | []=>rfl
 | t::ts=>by rw[mC,cW,uV p ts];rfl
theorem aHd{α:Type}(p:α->Bool)(ts:List α):biD .all [⟨.lst (ts.map λt=>D.bl (p t)),true,false,[]⟩]=.ok (.cl (.bl (ts.all p))):=by
 show(match cW (ts.map λt=>D.bl (p t)) with|some bs=>R.ok (Vl.cl (.bl (bs.all id)))|none=>.bad)=_
 rw[uV]
 show R.ok (Vl.cl (.bl ((ts.map p).all id)))=_
 rw[List.all_map]
 rfl
theorem qC(n:Nat){h:aR}(H:bO h){s:Sta}(S:cU h s.1 s.2):call pg (n+1) 26 [h.d,aF s.1 s.2]=.ok (.bl (endB h s),false,false):=by
 have v0:=dQ 0 h
 have v1:=cX 1 true (cV s.1 s.2)
 have i1:bV (.cl (aF s.1 s.2)) (.cl (.int 1))=.ok (.cl (aD s.2)):=fZ (aD s.1) (aD s.2) _ (aZ s.2)
 have few:=H.few
 have hl:=S.len
 have e0:h.hs.map aK=(h.hs.zip s.2).map λt=>aK t.1:=by
  have:=List.map_fst_zip (l₁:=h.hs) (l₂:=s.2) (by omega)
  conv=>lhs;rw[<-this]
  rw[List.map_map]
  rfl
 have e1:s.2.map D.int=(h.hs.zip s.2).map λt=>D.int t.2:=by
  have:=List.map_snd_zip (l₁:=h.hs) (l₂:=s.2) (by omega)
  conv=>lhs;rw[<-this]
  rw[List.map_map]
  rfl
 have hw:walk pg (call pg n) [.sh true h.d,.sh true (aF s.1 s.2)] (.zip (.idx (.v 0) (.c (.int 2))) (.idx (.v 1) (.c (.int 1))))=.ok ((h.hs.zip s.2).map (λt=>(⟨.tup [aK t.1,.int t.2],false,true,[]⟩:Vl)),[]):=by
  have z:hX (h.hs.map aK) (s.2.map D.int)=(h.hs.zip s.2).map λt=>.tup [aK t.1,.int t.2]:=by rw[e0,e1];exact uF (λt=>aK t.1) (λt=>D.int t.2) (h.hs.zip s.2)
  have sd:fS (aD s.2)=some (s.2.map D.int):=rfl
  have sh:fS (.lst (h.hs.map aK))=some (h.hs.map aK):=rfl
  simp only[aCe,bB,aO,bE,aL,gS,gZ,v0,v1,aA,fW,i1,aV,sd,sh,z,bW,List.append_nil]
  unfold items
  rw[List.map_map]
  rfl
 have hc:=lJ (P:=pg) (cl:=call pg n) (k:=2) (caps:=[]) (T:=.t [0,1]) (elt:=.cmp .Eq (.v 1) (.bi .len (.cons (.v 0) .nil))) (λt:List (List Way)×Int=>(⟨.tup [aK t.1,.int t.2],false,true,[]⟩:Vl)) (λt=>.bl (t.2==(t.1.length:Int))) (λ_=>rfl) hw (by rw[List.length_zip];unfold lim;omega) λt ht=>⟨[.sh true (aK t.1),.sh false (.int t.2)],rfl,by
  have v:Sl.val 0 (.sh true (aK t.1))=.ok ⟨aK t.1,false,true,[]⟩:=rfl
  have l:biD .len [⟨aK t.1,false,true,[]⟩]=.ok (.cl (.int (t.1.length:Int))):=by
   unfold aK
   rw[cR,lM]
  simp only[jQ,cO,aB,aC,aO,aL,gS,gZ,v,aW,aA,l,aV,dU,dG]⟩
 refine aU (F:=f26) rfl rfl (v:=.cl (.bl (endB h s))) ?_
 show exs pg (call pg n) [.sh true h.d,.sh true (aF s.1 s.2)] (.cons (.ret (.bi .all (.cons _ .nil))) .nil)=_
 rw[aI,cC,cO,aB,hc]
 simp only[aA,aC,aHd]
 rfl
def noG(h:aR)(s:Sta):Bool:=(goL h s h.hs.length).isEmpty
def gB(h:aR)(s:Sta):Bool:=!endB h s&&noG h s
theorem uW(n:Nat){h:aR}(H:bO h){s:Sta}(S:cU h s.1 s.2):call pg (n+19) 27 [h.d,aF s.1 s.2]=.ok (.bl (gB h s),false,false):=by
 have v0:=dQ 0 h
 have v1:=cX 1 true (cV s.1 s.2)
 have ce:=qC (n+17) H S
 have cg:=oV n H S
 have q:∀l:List ((Nat×Nat)×Sta),eqD (.int ((l.map goD).length:Int)) (.int 0)=some l.isEmpty:=λl=>by
  rw[dG,lM]
  cases l with
  | nil=>rfl
  | cons a l=>
   rw[List.isEmpty_cons,lC]
   exact congrArg some (beq_eq_false_iff_ne.mpr (by omega))
 have a1:ev pg (call pg (n+18)) [.sh true h.d,.sh true (aF s.1 s.2)] (.nt (.call 26 (.cons (.v 0) (.cons (.v 1) .nil))))=.ok (.cl (.bl !endB h s)):=by
  simp only[aEH,aM,aB,aC,aO,aL,gS,gZ,v0,v1,aA,mC,mN,aV,ce,bH,iH]
 have a2:ev pg (call pg (n+18)) [.sh true h.d,.sh true (aF s.1 s.2)] (.cmp .Eq (.bi .len (.cons (.call 24 (.cons (.v 0) (.cons (.v 1) .nil))) .nil)) (.c (.int 0)))=.ok (.cl (.bl (noG h s))):=by
  simp only[jQ,cO,aM,aB,aC,aO,bE,aL,gS,gZ,v0,v1,aA,mC,mN,aV,cg,fY,cR,dU,q]
  rfl
 refine aU (F:=f27) rfl rfl (v:=.cl (.bl (gB h s))) ?_
 show exs pg (call pg (n+18)) [.sh true h.d,.sh true (aF s.1 s.2)] (.cons (.ret (.an _ _)) .nil)=_
 rw[aI,cC,uH a1 a2]
 rfl
theorem aJI{f:Sg->Vl->O}{v:Vl}(I:Sg->Prop):∀(xs:List Vl) (b:Nat->Bool) (σ:Sg),I σ->(∀(i:Nat) (h:i<xs.length) (σ:Sg),I σ->(b i=true/\f σ xs[i]=.ret v)\/(b i=false/\∃σ',f σ xs[i]=.next σ'/\I σ')) ->
 ((List.range xs.length).any b=true/\dJ f xs σ=.ret v)\/((List.range xs.length).any b=false/\∃σ',dJ f xs σ=.next σ'/\I σ')
 | [],b,σ,h0,_=>.inr ⟨rfl,σ,rfl,h0⟩
 | x::xs,b,σ,h0,hs=>by
  have ea:(List.range (x::xs).length).any b=(b 0||(List.range xs.length).any λi=>b (i+1)):=by
   rw[lC,List.range_succ_eq_map,List.any_cons,List.any_map]
   rfl
  rw[ea]
  rcases hs 0 (Nat.succ_pos _) σ h0 with⟨e1,e2⟩|⟨e1,σ',e2,h1⟩
  . have e2:f σ x=.ret v:=e2
    rw[e1]
    refine .inl ⟨rfl,?_⟩
    unfold dJ
    rw[e2]
  . have e2:f σ x=.next σ':=e2
    have ef:dJ f (x::xs) σ=dJ f xs σ':=by
     rw[dJ,e2]
    rw[e1,ef]
    exact aJI I xs (λi=>b (i+1)) σ' h1 λi h σ hI=>hs (i+1) (Nat.succ_lt_succ h) σ hI
theorem yW{P:Pg}{cl:Caller}{σ:Sg}{t:T}{it:It}{bd:Ss}{xs:List Vl}{v:Vl}(I:Sg->Prop)(b:Nat->Bool)(hw:walk P cl σ it=.ok (xs,[]))(h0:I σ)
 (hs:∀(i:Nat) (h:i<xs.length) (σ:Sg),I σ->∃σ1,cF σ xs[i] t=.ok σ1/\((b i=true/\exs P cl σ1 bd=.ret v)\/(b i=false/\∃σ',exs P cl σ1 bd=.next σ'/\I σ'))) :
 ((List.range xs.length).any b=true/\ex P cl σ (.for t it bd)=.ret v)\/((List.range xs.length).any b=false/\∃σ',ex P cl σ (.for t it bd)=.next σ'/\I σ'):=by
 rw[rN,hw]
 exact aJI I xs b σ h0 λi h σ hI=>by
  obtain⟨σ1,e1,e2⟩:=hs i h σ hI
  show(b i=true/\O.from σ (cF σ xs[i] t) _=_)\/(b i=false/\∃σ',O.from σ (cF σ xs[i] t) _=_/\_)
  rw[e1]
  exact e2
abbrev ngB:Ss:=match hdS f28.body with|.for _ _ b=>b|_=>.nil
abbrev ngC:Ss:=match hdS ngB with|.for _ _ b=>b|_=>.nil
abbrev ngS(h:aR)(s:Sta)(s2 s3:Sl):Sg:=[.sh true h.d,.sh true (aF s.1 s.2),s2,s3]
theorem ng_turn(n:Nat){h:aR}(H:bO h){s:Sta}(S:cU h s.1 s.2){i:Nat}(hi:i<h.hs.length)(k:Nat) :
 ((goneS h s i k).isSome=true/\exs pg (call pg (n+16)) (ngS h s (.sh false (.int (i:Int))) (.sh false (.int (k:Int)))) ngC=.ret (.cl (.bl false))) \/
 ((goneS h s i k).isSome=false/\exs pg (call pg (n+16)) (ngS h s (.sh false (.int (i:Int))) (.sh false (.int (k:Int)))) ngC=.next (ngS h s (.sh false (.int (i:Int))) (.sh false (.int (k:Int))))):=by
 have cg:=aCA n H S (i:Int) (k:Int)
 rw[uR s hi k] at cg
 have v0:=dQ 0 h
 have v1:=cX 1 true (cV s.1 s.2)
 have tt:∀o,goneS h s i k=o->tst pg (call pg (n+16)) (ngS h s (.sh false (.int (i:Int))) (.sh false (.int (k:Int)))) (.cmp .IsNot (.call 18 (.cons (.v 0) (.cons (.v 1) (.cons (.tup (.cons (.v 2) (.cons (.v 3) .nil))) .nil)))) (.c .non))=.ok o.isSome:=λo eo=>by
  rw[eo] at cg
  simp only[cA,aM,aB,aC,dD,aO,bE,aL,gS,gZ,v0,v1,aW,aA,pC,mC,mN,aV]
  rw[show D.tup [.int (i:Int),.int (k:Int)]=bJ (i:Int) (k:Int) from rfl,cg]
  cases o <;> rfl
 show(_/\exs pg (call pg (n+16)) _ (.cons (.iff _ (.cons (.ret (.c (.bl false))) .nil) .nil) .nil)=_)\/(_/\exs pg (call pg (n+16)) _ (.cons (.iff _ (.cons (.ret (.c (.bl false))) .nil) .nil) .nil)=_)
 cases ho:goneS h s i k with
 | none=>exact .inr ⟨rfl,(stp (eL (tt _ ho))).trans (bT ..)⟩
 | some t=>exact .inl ⟨rfl,fQ (tt _ ho) (eI rfl)⟩
def uX(h:aR)(s:Sta):Bool:=(List.range h.hs.length).any λi=>(List.range 4).any λk=>(goneS h s i k).isSome
theorem sD(n:Nat){h:aR}(H:bO h){s:Sta}(S:cU h s.1 s.2):call pg (n+17) 28 [h.d,aF s.1 s.2]=.ok (.bl !uX h s,false,false):=by
 have v0:=dQ 0 h
 have few:=H.few
 have hl:∀s2 s3,ev pg (call pg (n+16)) (ngS h s s2 s3) (.bi .len (.cons (.idx (.v 0) (.c (.int 2))) .nil))=.ok (.cl (.int (h.hs.length:Int))):=λs2 s3=>by
  simp only[cO,aB,aC,bB,aO,bE,aL,gZ,v0,aA,fW,cR,lM]
 have hw:=dF (hl .dead .dead) rfl (n:=h.hs.length) (by omega)
 have go:=yW (P:=pg) (cl:=call pg (n+16)) (t:=.n 2) (bd:=ngB) (v:=.cl (.bl false)) (λσ=>∃s2 s3,σ=ngS h s s2 s3) (λi=>(List.range 4).any λk=>(goneS h s i k).isSome) hw ⟨_,_,rfl⟩ (λi hi σ hσ=>by
  obtain⟨s2,s3,rfl⟩:=hσ
  have hi:i<h.hs.length:=by simpa using hi
  refine⟨ngS h s (.sh false (.int (i:Int))) s3,by simp,?_⟩
  have hw2:=dF (P:=pg) (cl:=call pg (n+16)) (σ:=ngS h s (.sh false (.int (i:Int))) s3) (a:=.c (.int 4)) (bE ..) rfl (n:=4) (by decide)
  have go2:=yW (P:=pg) (cl:=call pg (n+16)) (t:=.n 3) (bd:=ngC) (v:=.cl (.bl false)) (λσ=>∃s3,σ=ngS h s (.sh false (.int (i:Int))) s3) (λk=>(goneS h s i k).isSome) hw2 ⟨_,rfl⟩ (λk hk σ hσ=>by
   obtain⟨s3,rfl⟩:=hσ
   refine⟨ngS h s (.sh false (.int (i:Int))) (.sh false (.int (k:Int))),by simp,?_⟩
   rcases ng_turn n H S hi k with⟨a,b⟩|⟨a,b⟩
   . exact .inl ⟨a,b⟩
   . exact .inr ⟨a,_,b,_,rfl⟩)
  rw[lM,List.length_range] at go2
  show(_/\exs pg (call pg (n+16)) _ (.cons (.for (.n 3) (.rng (.c (.int 0)) (.c (.int 4))) ngC) .nil)=_)\/(_/\∃σ',exs pg (call pg (n+16)) _ (.cons (.for (.n 3) (.rng (.c (.int 0)) (.c (.int 4))) ngC) .nil)=_/\_)
  rcases go2 with⟨a,b⟩|⟨a,σ',b,s3',rfl⟩
  . exact .inl ⟨a,by rw[aI,b];rfl⟩
  . exact .inr ⟨a,_,(stp b).trans (bT ..),_,_,rfl⟩)
 rw[lM,List.length_range] at go
 refine aU (F:=f28) rfl rfl (v:=.cl (.bl !uX h s)) ?_
 show exs pg (call pg (n+16)) (ngS h s .dead .dead) (.cons (.for (.n 2) _ ngB) (.cons (.ret (.c (.bl true))) .nil))=_
 rcases go with⟨a,b⟩|⟨a,σ',b,_⟩
 . have:uX h s=true:=a
   rw[aI,b,this];rfl
 . have:uX h s=false:=a
   rw[stp b,this]
   rfl
theorem aHe{h:aR}(H:bO h){s:Sta}(S:cU h s.1 s.2):noG h s=!uX h s:=by
 have key:noG h s=true↔uX h s=false:=by
  unfold noG uX
  rw[List.isEmpty_iff,List.any_eq_false]
  constructor
  . intro e i hi
    rw[Bool.not_eq_true,List.any_eq_false]
    intro k _ hk
    obtain⟨t,ht⟩:=Option.isSome_iff_exists.mp hk
    have hk2:k<(cK h s.2 i).length:=by
     unfold goneS at ht
     split at ht
     . assumption
     . cases ht
    have:((i,k),t)∈goL h s h.hs.length:=List.mem_flatMap.mpr ⟨i,hi,List.mem_filterMap.mpr ⟨k,List.mem_range.mpr hk2,by rw[ht];rfl⟩⟩
    rw[e] at this
    cases this
  . intro e
    rw[List.eq_nil_iff_forall_not_mem]
    intro x hx
    obtain⟨i,hi,hx⟩:=List.mem_flatMap.mp hx
    obtain⟨k,hk,hx⟩:=List.mem_filterMap.mp hx
    obtain⟨t,ht,_⟩:=Option.map_eq_some_iff.mp hx
    have h4:=mL H S (List.mem_range.mp hi)
    have hk:=List.mem_range.mp hk
    have:=e i hi
    rw[Bool.not_eq_true,List.any_eq_false] at this
    exact this k (List.mem_range.mpr (by omega)) (by rw[ht];rfl)
 cases hb:uX h s with
 | false=>exact key.mpr hb
 | true=>
  cases hn:noG h s with
  | false=>rfl
  | true=>rw[key.mp hn] at hb;cases hb
theorem aCM{h:aR}(H:bO h):∀(n p:Nat) (acc:List Rw),RI h acc->RI h (bfs h n p acc)
 | 0,_,_,I=>I
 | n+1,p,acc,I=>by
  rw[bfs]
  cases q:acc[p]? with
  | none=>exact I
  | some r=>exact aCM H n _ _ (RI.expA H (I.good r (mG q)) p I _ (Nat.le_refl _))
theorem yX{h:aR}(H:bO h):RI h (rowsL h):=aCM H mY 0 _ (RI.zero H)
def rwZ:Rw:=⟨([],[]),none⟩
theorem qD{v:Vl}(rs:List Rw):items v (eN 0 (rs.map Rw.d))=(List.range rs.length).map λ(k:Nat)=>Vl.cl (.tup [.int (k:Int),(rs.getD k rwZ).d]):=by
 rw[lP rwZ Rw.d rs 0]
 unfold items
 rw[List.map_map]
 refine List.map_congr_left λk _=>?_
 show Vl.sub v (.tup [.int (0+(k:Int)),(rs.getD k rwZ).d])=_
 rw[Int.zero_add,bX (mJ rfl (sC _))]
theorem aCN(r:Rw):bV (.cl r.d) (.cl (.int 0))=.ok (.cl (aF r.s.1 r.s.2)):=eA _ _ (cV _ _)
theorem aCO{rs:List Rw}{j:Nat}(hj:j<rs.length):rs[j]? = some (rs.getD j rwZ):=by rw[List.getD_eq_getElem?_getD,List.getElem?_eq_getElem hj];rfl
def jB(rs:List Rw)(p:Sta->Bool)(m:Nat):List Int:=((List.range m).filter λk=>p (rs.getD k rwZ).s).map λ(k:Nat)=>(k:Int)
theorem qF(rs:List Rw)(p:Sta->Bool)(m:Nat):jB rs p (m+1)=if p (rs.getD m rwZ).s then jB rs p m++[(m:Int)] else jB rs p m:=by
 unfold jB
 rw[List.range_succ,List.filter_append,List.map_append]
 by_cases hp:p (rs.getD m rwZ).s=true
 . rw[if_pos hp,List.filter_cons_of_pos (p:=λk=>p (rs.getD k rwZ).s) hp];rfl
 . rw[if_neg hp,List.filter_cons_of_neg (p:=λk=>p (rs.getD k rwZ).s) hp]
   exact List.append_nil _
theorem kO(rs:List Rw)(p:Sta->Bool)(m:Nat):(jB rs p m).length<=m:=by
 unfold jB
 rw[lM]
 exact Nat.le_trans (List.length_filter_le _ _) (by rw[List.length_range];exact Nat.le_refl _)
theorem uY(n:Nat){h:aR}(H:bO h)(f g:Nat)(p:Sta->Bool)(hF:pg.fns[f]? = some ⟨1,1,.cons (.ret (.comp 2 [0] (.t [0,1]) (.enum (.call 23 (.cons (.v 0) .nil))) (.cons (.call g (.cons (.v 2) (.cons (.idx (.v 1) (.c (.int 0))) .nil))) .nil) (.v 0))) .nil⟩)
 (hp:∀s:Sta,cU h s.1 s.2->call pg (n+19) g [h.d,aF s.1 s.2]=.ok (.bl (p s),false,false)):call pg (n+20) f [h.d]=.ok (.lst ((jB (rowsL h) p (rowsL h).length).map D.int),true,false):=by
 have v0:=dQ 0 h
 have v2:=dQ 2 h
 have I:=yX H
 have fw:=I.few H
 have ca:=jF n H
 have hw:walk pg (call pg (n+19)) [.sh true h.d] (.enum (.call 23 (.cons (.v 0) .nil)))=.ok ((List.range (rowsL h).length).map (λ(k:Nat)=>Vl.cl (.tup [.int (k:Int),((rowsL h).getD k rwZ).d])),[]):=by
  simp only[iX,aM,aB,aC,aO,aL,gZ,v0,aA,mC,mN,aV,ca,fY,fS,qD]
 have hc:=aCh (P:=pg) (cl:=call pg (n+19)) (k:=2) (caps:=[0]) (T:=.t [0,1]) (c:=.call g (.cons (.v 2) (.cons (.idx (.v 1) (.c (.int 0))) .nil))) (elt:=.v 0) (λ(k:Nat)=>Vl.cl (.tup [.int (k:Int),((rowsL h).getD k rwZ).d])) (λ(k:Nat)=>.int (k:Int)) (λk=>p ((rowsL h).getD k rwZ).s) (λ_=>rfl) hw (by rw[List.length_range];exact Nat.le_trans fw (by decide)) λk hk=>by
  have hk:=List.mem_range.mp hk
  have gd:=I.good _ (mG (aCO hk))
  have cp:=hp _ gd.ok
  refine⟨[.sh false (.int (k:Int)),.sh false ((rowsL h).getD k rwZ).d,.sh true h.d],yC rfl (sC _),?_,rfl⟩
  simp only[fO,aB,aC,bB,aO,bE,aL,gS,gZ,v2,aW,aA,aCN,mC,mN,aV,cp,bH,iH]
 have ed:(((List.range (rowsL h).length).filter λk=>p ((rowsL h).getD k rwZ).s).map λ(k:Nat)=>D.int (k:Int))=(jB (rowsL h) p (rowsL h).length).map D.int:=by
  unfold jB
  rw[List.map_map]
  rfl
 rw[ed] at hc
 refine aU hF rfl (v:=⟨.lst ((jB (rowsL h) p (rowsL h).length).map D.int),true,false,[]⟩) ?_
 show exs pg (call pg (n+19)) [.sh true h.d] (.cons (.ret _) .nil)=_
 rw[aI,cC,hc]
 rfl
theorem qG(n:Nat):∀as bs:List Int,fR (n+1) (as.map D.int) (bs.map D.int)=some (as==bs)
 | [],[]=>rfl
 | [],_::_=>rfl
 | _::_,[]=>rfl
 | a::as,b::bs=>by
  rw[mC,mC,fR,aDY,qG n as bs,List.cons_beq_cons]
theorem aCP(a b:List Int):eqD (aD a) (aD b)=some (a==b):=by
 show eqF (118+1+1) (.tup (a.map D.int)) (.tup (b.map D.int))=_
 rw[aDZ]
 exact qG 118 a b
abbrev lwB:Ss:=match hdS (drp 4 f19.body) with|.for _ _ b=>b|_=>.nil
abbrev lwS(ns:List Int)(h:aR)(ds es:List Int)(s5 s6:Sl):Sg:=[.sh true (.lst (ns.map D.int)),.sh false h.d,.sh false (aD (qB h)),.own false (ds.map D.int),.own false (es.map D.int),s5,s6,.dead]
theorem aJJ(k:Int){d:D}(hd:noL d=true){s0 s1 s2 s3 s4 s5 s6 s7:Sl}:cF [s0,s1,s2,s3,s4,s5,s6,s7] (.cl (.tup [.int k,d])) (.t [5,6])=.ok [s0,s1,s2,s3,s4,.sh false (.int k),.sh false d,s7]:=by
 have hi:noL (.int k)=true:=rfl
 unfold cF
 simp only[aV,lC,lN,if_true,List.zip_cons_cons,List.zip_nil_left,List.foldl_cons,List.foldl_nil,bX hd,bX hi,bI,lS,lZ]
theorem aEo(n:Nat)(ns:List Int){h:aR}(H:bO h){r:Rw}(g:pD h r.s)(k:Nat){ds es:List Int}(ld:ds.length<=300000)(le:es.length<=300000) :
 exs pg (call pg (n+17)) (lwS ns h ds es (.sh false (.int (k:Int))) (.sh false r.d)) lwB=.next (lwS ns h (if endB h r.s then ds++[(k:Int)] else ds) (if gB h r.s then es++[(k:Int)] else es) (.sh false (.int (k:Int))) (.sh false r.d)):=by
 have cn:=sD n H g.ok
 rw[<-aHe H g.ok] at cn
 have i1:bV (.cl (aF r.s.1 r.s.2)) (.cl (.int 1))=.ok (.cl (aD r.s.2)):=fZ (aD r.s.1) (aD r.s.2) _ (aZ _)
 have q:=aCP r.s.2 (qB h)
 rw[<-aEn g.ok] at q
 have ll:∀l:List Int,l.length<=300000->(l.map D.int++[D.int (k:Int)]).length<=lim:=λl hl=>by
  rw[lA,lM];unfold lim;show l.length+1<=_;omega
 have ld:=ll ds ld
 have le:=ll es le
 have t1:tst pg (call pg (n+17)) (lwS ns h ds es (.sh false (.int (k:Int))) (.sh false r.d)) (.cmp .Eq (.idx (.idx (.v 6) (.c (.int 0))) (.c (.int 1))) (.v 2))=.ok (endB h r.s):=by
  simp only[cA,bB,aO,bE,aL,gS,gZ,aW,aA,aCN,i1,aV,dU,q]
 have t2:tst pg (call pg (n+17)) (lwS ns h ds es (.sh false (.int (k:Int))) (.sh false r.d)) (.call 28 (.cons (.v 1) (.cons (.idx (.v 6) (.c (.int 0))) .nil)))=.ok (noG h r.s):=by
  simp only[fO,aB,aC,bB,aO,bE,aL,gS,gZ,aW,aA,aCN,mC,mN,aV,cn,bH,iH]
 have ap3:ex pg (call pg (n+17)) (lwS ns h ds es (.sh false (.int (k:Int))) (.sh false r.d)) (.app 3 (.v 5))=.next (lwS ns h (ds++[(k:Int)]) es (.sh false (.int (k:Int))) (.sh false r.d)):=by
  simp only[fC,aO,aL,gS,gZ,aW,aH,put,bW,aQ,eO,aV,ld,if_true,jE,Bool.or_false,lS,lZ]
  show _=O.next [_,_,_,Sl.own false ((ds++[(k:Int)]).map D.int),_,_,_,_]
  rw[List.map_append]
  rfl
 have ap4:ex pg (call pg (n+17)) (lwS ns h ds es (.sh false (.int (k:Int))) (.sh false r.d)) (.app 4 (.v 5))=.next (lwS ns h ds (es++[(k:Int)]) (.sh false (.int (k:Int))) (.sh false r.d)):=by
  simp only[fC,aO,aL,gS,gZ,aW,aH,put,bW,aQ,eO,aV,le,if_true,jE,Bool.or_false,lS,lZ]
  show _=O.next [_,_,_,_,Sl.own false ((es++[(k:Int)]).map D.int),_,_,_]
  rw[List.map_append]
  rfl
 show exs pg (call pg (n+17)) _ (.cons (.iff _ (.cons (.app 3 (.v 5)) .nil) (.cons (.iff _ (.cons (.app 4 (.v 5)) .nil) .nil) .nil)) .nil)=_
 unfold gB
 rw[aI,bK,t1,aH]
 cases endB h r.s with
 | true=>
  show(exs pg (call pg (n+17)) _ (.cons (.app 3 (.v 5)) .nil)).on _=_
  rw[stp ap3]
  rfl
 | false=>
  show(exs pg (call pg (n+17)) _ (.cons (.iff _ (.cons (.app 4 (.v 5)) .nil) .nil) .nil)).on _=_
  rw[aI,bK,t2,aH]
  cases noG h r.s with
  | true=>
   show((exs pg (call pg (n+17)) _ (.cons (.app 4 (.v 5)) .nil)).on _).on _=_
   rw[stp ap4]
   rfl
  | false=>rfl
theorem pure(ns:List Int)(_:ns.length<=63):∃fr pa,call pg 60 19 [.lst (ns.map D.int)]=.ok (.bl true,fr,pa):=by
 refine⟨false,false,?_⟩
 obtain⟨h,H,ch⟩:=aAn 50 ns
 have cal:=jF 40 H
 have I:=yX H
 have fw:=I.few H
 have cend:=uY 39 H 17 26 (endB h) rfl λs S=>qC 57 H S
 have cstk:=uY 39 H 25 27 (gB h) rfl λs S=>uW 39 H S
 have few:=H.few
 generalize rowsL h=rs at cal I fw cend cstk
 have le:=kO rs (endB h) rs.length
 have ls:=kO rs (gB h) rs.length
 generalize hE:jB rs (endB h) rs.length=E at cend le
 generalize hS:jB rs (gB h) rs.length=Sk at cstk ls
 have aE:=kN 56 (is:=E) (by omega)
 have aS:=kN 56 (is:=Sk) (by omega)
 have aE2:=kN 57 (is:=E) (by omega)
 have aS2:=kN 57 (is:=Sk) (by omega)
 have aT:=pZ 57 (ds:=[.lst (E.map D.int),.lst (Sk.map D.int)]) (show 2<=1000000 by decide) λd hd=>by
  rcases List.mem_cons.mp hd with rfl|hd
  . exact aE
  . rw[List.mem_singleton.mp hd];exact aS
 have hw0:walk pg (call pg 59) [.sh true (.lst (ns.map D.int)),.sh false h.d,.dead,.dead,.dead,.dead,.dead,.dead] (.seq (.idx (.v 1) (.c (.int 2))))=.ok (h.hs.map (λx=>Vl.cl (aK x)),[]):=by
  have i2:bV (.cl h.d) (.cl (.int 2))=.ok (.cl (.lst (h.hs.map aK))):=by
   show R.ok (Vl.sub (.cl _) _)=_
   rw[aCH]
  simp only[eZ,bB,aO,bE,aL,gS,gZ,aW,aA,i2]
  show R.ok (items (.cl _) (h.hs.map aK),[])=_
  unfold items
  rw[List.map_map]
  exact congrArg (λl=>R.ok (l,[])) (List.map_congr_left λx _=>aCH _ _)
 have hc:=lJ (P:=pg) (cl:=call pg 59) (k:=1) (caps:=[]) (T:=.n 0) (elt:=.bi .len (.cons (.v 0) .nil)) (λx=>Vl.cl (aK x)) (λx:List (List Way)=>.int (x.length:Int)) (λ_=>rfl) hw0 (by unfold lim;omega) λx hx=>⟨[.sh false (aK x)],rfl,by
  have l:biD .len [.cl (aK x)]=.ok (.cl (.int (x.length:Int))):=by
   unfold aK
   rw[aCg,lM]
  simp only[cO,aB,aC,aO,aL,gZ,aW,aA,l]⟩
 have eg:h.hs.map (λx=>D.int (x.length:Int))=(qB h).map D.int:=by unfold qB;rw[List.map_map];rfl
 rw[eg] at hc
 have hw:walk pg (call pg 59) (lwS ns h [] [] .dead .dead) (.enum (.call 23 (.cons (.v 1) .nil)))=.ok ((List.range rs.length).map (λ(k:Nat)=>Vl.cl (.tup [.int (k:Int),(rs.getD k rwZ).d])),[]):=by
  simp only[iX,aM,aB,aC,aO,aL,gS,gZ,aW,aA,mC,mN,aV,cal,fY,fS,qD]
 obtain⟨σ',e5,hI⟩:=fD (t:=.t [5,6]) (b:=lwB) (λj σ=>∃s5 s6,mX [s5,s6]=true/\σ=lwS ns h (jB rs (endB h) j) (jB rs (gB h) j) s5 s6) hw ⟨.dead,.dead,rfl,rfl⟩ (λj hj σ hσ=>by
  obtain⟨s5,s6,_,rfl⟩:=hσ
  have hj:j<rs.length:=by simpa using hj
  have gd:=I.good _ (mG (aCO hj))
  have l1:=kO rs (endB h) j
  have l2:=kO rs (gB h) j
  have tn:=aEo 42 ns H gd j (ds:=jB rs (endB h) j) (es:=jB rs (gB h) j) (by omega) (by omega)
  rw[<-qF,<-qF] at tn
  simp only[List.getElem_map,List.getElem_range]
  exact⟨_,_,aJJ _ (sC _),tn,_,_,rfl,rfl⟩)
 obtain⟨s5,s6,np,rfl⟩:=hI
 rw[lM,List.length_range,hE,hS] at e5
 have np':mX (lwS ns h E Sk s5 s6)=true:=by
  unfold mX at np ⊢
  simp only[List.all_cons,List.all_nil,Bool.and_true,Bool.true_and] at np ⊢
  exact np
 let S0:Sl:=.sh true (.lst (ns.map D.int))
 let S1:Sl:=.sh false h.d
 let S2:Sl:=.sh false (aD (qB h))
 let S3:Sl:=.own false (E.map D.int)
 let S4:Sl:=.own false (Sk.map D.int)
 have cE:∀s7:Sl,ev pg (call pg 59) [S0,S1,S2,S3,S4,s5,s6,s7] (.call 17 (.cons (.v 1) .nil))=.ok ⟨.lst (E.map D.int),true,false,[]⟩:=λs7=>by
  simp only[S1,aM,aB,aC,aO,aL,gS,gZ,aW,aA,mC,mN,aV,cend,fY]
 have cS:∀s7:Sl,ev pg (call pg 59) [S0,S1,S2,S3,S4,s5,s6,s7] (.call 25 (.cons (.v 1) .nil))=.ok ⟨.lst (Sk.map D.int),true,false,[]⟩:=λs7=>by
  simp only[S1,aM,aB,aC,aO,aL,gS,gZ,aW,aA,mC,mN,aV,cstk,fY]
 have fr:∀l:List Int,frD ⟨.lst (l.map D.int),true,false,[]⟩=some (l.map D.int):=λl=>by
  show(if noLs (l.map D.int)=true then _ else _)=_
  rw[if_pos (dS l)]
 refine aU (F:=f19) rfl rfl (v:=.cl (.bl true)) ?_
 show exs pg (call pg 59) [S0,.dead,.dead,.dead,.dead,.dead,.dead,.dead] _=_
 refine(stp (σ':=[S0,S1,.dead,.dead,.dead,.dead,.dead,.dead]) ?_).trans ?_
 . simp only[S0,bM,aM,aB,aC,aO,bE,aL,gZ,cP,aA,mC,mN,aV,ch,bH,aH,bW,aQ,cM,bI,lS,lZ]
   rfl
 refine(stp (σ':=[S0,S1,S2,.dead,.dead,.dead,.dead,.dead]) ?_).trans ?_
 . show ex pg (call pg 59) _ (.set (.n 2) (.bi .tuple (.cons _ .nil)))=_
   rw[bM,cO,aB,hc,aA,aC,aA,aA,aCI (dS _)]
   rfl
 refine(stp (σ':=[S0,S1,S2,.own false [],.dead,.dead,.dead,.dead]) rfl).trans ?_
 refine(stp (σ':=lwS ns h [] [] .dead .dead) rfl).trans ?_
 refine(stp e5).trans ?_
 refine(stp (σ':=[S0,S1,S2,S3,S4,s5,s6,.par (E.map D.int) (Sk.map D.int)]) ?_).trans ?_
 . show O.from _ (ev pg (call pg 59) [S0,S1,S2,S3,S4,s5,s6,.dead] (.call 17 (.cons (.v 1) .nil))) (λx=>O.from _ (ev pg (call pg 59) [S0,S1,S2,S3,S4,s5,s6,.dead] (.call 25 (.cons (.v 1) .nil))) λy=>_)=_
   rw[cE,aH,cS,aH,fr,fr,np']
   rfl
 refine(stp (σ':=[S0,S1,S2,S3,S4,s5,s6,.par (E.map D.int) (Sk.map D.int)]) ?_).trans ?_
 . show ex pg (call pg 59) _ (.iff (.nt (.callP 20 7 (.cons (.lst (.cons (.v 3) (.cons (.v 4) .nil))) .nil))) _ .nil)=_
   have t:tst pg (call pg 59) [S0,S1,S2,S3,S4,s5,s6,.par (E.map D.int) (Sk.map D.int)] (.callP 20 7 (.cons (.lst (.cons (.v 3) (.cons (.v 4) .nil))) .nil))=.ok true:=by
    show(evs pg (call pg 59) [S0,S1,S2,S3,S4,s5,s6,.par (E.map D.int) (Sk.map D.int)] (.cons (.lst (.cons (.v 3) (.cons (.v 4) .nil))) .nil) >>= λvs=>call pg 59 20 (.lst [.lst (E.map D.int),.lst (Sk.map D.int)]::vs.map (·.d)) >>= λr=>jI r >>= λx=>eV x)=_
    simp only[S3,S4,aB,aC,gR,aO,aL,gS,gZ,cQ,aA]
    show(call pg 59 20 [.lst [.lst (E.map D.int),.lst (Sk.map D.int)],.lst [.lst (E.map D.int),.lst (Sk.map D.int)]] >>= λr=>jI r >>= λx=>eV x)=_
    rw[aT]
    rfl
   rw[bK,dE,t]
   rfl
 have ap:ex pg (call pg 59) [S0,S1,S2,S3,S4,s5,s6,.par (E.map D.int) (Sk.map D.int)] (.appP 7 false (.c (.int 0)))=.next [S0,S1,S2,S3,S4,s5,s6,.par (E.map D.int++[.int 0]) (Sk.map D.int)]:=by
  show(if (E.map D.int).length<lim/\(Sk.map D.int).length<lim then O.next _ else .bad)=_
  rw[if_pos (by rw[lM,lM];unfold lim;omega)]
  rfl
 refine(stp ap).trans ?_
 refine(stp (σ':=[S0,S1,S2,S3,S4,s5,s6,.par (E.map D.int++[.int 0]) []]) rfl).trans ?_
 show exs pg (call pg 59) _ (.cons (.ret (.an (.call 20 (.cons (.call 25 (.cons (.v 1) .nil)) (.cons (.v 4) .nil))) (.call 20 (.cons (.call 17 (.cons (.v 1) .nil)) (.cons (.v 3) .nil))))) .nil)=_
 have a1:ev pg (call pg 59) [S0,S1,S2,S3,S4,s5,s6,.par (E.map D.int++[.int 0]) []] (.call 20 (.cons (.call 25 (.cons (.v 1) .nil)) (.cons (.v 4) .nil)))=.ok (.cl (.bl true)):=by
  rw[aM,aB,cS]
  simp only[S4,aB,aC,aO,aL,gS,gZ,cQ,aA,mC,mN,aS2,bH]
 have a2:ev pg (call pg 59) [S0,S1,S2,S3,S4,s5,s6,.par (E.map D.int++[.int 0]) []] (.call 20 (.cons (.call 17 (.cons (.v 1) .nil)) (.cons (.v 3) .nil)))=.ok (.cl (.bl true)):=by
  rw[aM,aB,cE]
  simp only[S3,aB,aC,aO,aL,gS,gZ,cQ,aA,mC,mN,aE2,bH]
 rw[aI,cC,uH a1 a2]
 rfl
end K24
end
noncomputable section
set_option maxRecDepth 100000
set_option maxHeartbeats 0
namespace K24
open PySem PySem.W L2 Hp Hh
def ix:List (Nat×List Str):=(3,["one", "ahead", "behind", "word", "left", "right"]) ::
 (4,["cond", "ahead", "behind", "word", "left", "right"]) ::
 (10,["boxes", "way", "stand", "held", "box", "one", "amount"]) ::
 (11,["hand", "place"]) ::
 (16,["house", "state", "step", "hand", "stand", "places", "row", "way", "further"]) ::
 (25,["_law_script", "_law_k"]) ::
 (1,["boxes", "found", "name", "top", "longer", "begun"]) ::
 (27,["_law_cell", "_law_k"]) ::
 (28,["_law_cell", "_law_most", "_law_some", "_law_tops", "_law_letters", "_law_base", "_law_at"]) ::
 (29,["_law_cell", "_law_k", "_law_many", "_law_after", "_law_deep", "_law_way_here", "_law_one"]) ::
 (30,["_law_cell", "_law_k", "_law_many", "_law_after", "_law_deep", "_law_way_here", "_law_one"]) ::
 (31,["_law_cell", "_law_many", "_law_places", "_law_puts", "_law_k", "_law_way_here", "_law_some", "_law_guard"]) ::
 (32,["_law_script", "_law_at", "_law_many", "_law_rows", "_law_hand_here", "_law_k", "_law_cells_here", "_law_some"]) ::
 (33,["_law_cell", "_law_many", "_law_way_here", "_law_box"]) ::
 (34,["_law_script", "_law_most", "_law_great", "_law_boxes_here", "_law_many", "_law_begin", "_law_hands", "_law_promises", "_law_notes", "_law_k", "_law_at", "_law_cell", "_law_some", "_law_place"]) ::
 (35,["_law_one", "_law_ahead", "_law_after", "_law_left"]) ::
 (36,["_law_cond_here", "_law_ahead", "_law_after", "_law_left", "_law_right"]) ::
 (20,["house"]) ::
 (38,["_law_house_here", "_law_state", "_law_step", "_law_stand", "_law_places", "_law_rows", "_law_guard", "_law_puts", "_law_goal", "_law_found", "_law_box", "_law_one"]) ::
 (42,["_law_script", "_law_house_here", "_law_goal", "_law_done", "_law_held", "_law_k", "_law_row", "_law_first"]) ::
 (40,["_law_found", "_law_due", "_law_k"]) ::
 (5,["boxes", "cond"]) ::
 (17,["house", "start"]) ::
 (18,["house", "rows", "known", "start", "state", "parent", "step"]) ::
 (19,["house", "state", "found", "number", "hand", "way", "further"]) ::
 (21,["house"]) ::
 (22,["house", "state"]) ::
 (23,["house", "state"]) ::
 (41,["_law_house_here", "_law_state", "_law_hand_here", "_law_number"])::[]
def cns:List (Str×D):=[("GUARD",(.int 0)),("PUTS",(.int 1)),("NEXT",(.int 2)),("BOXES",(.int 0)),("BEGIN",(.int 1)),("HANDS",(.int 2))]
abbrev pw:=PySem.Challenge.pw_handpromise_k24_ends_and_stuck
theorem chk:iE ⟨[],[],(ix.map (mE pw)).map (·.x),cns,[],true,[]⟩ pg.fns (ix.map (mE pw))=true:=by decide +kernel
theorem tw0:(pw.main.body.length != 0)=true:=by k_qdec
theorem lft:LeftO pw (xX pw) (aCc pw) (λ_=>true) (λs=>kE pw cns s.heap) (λ_=>nZ pw) 100000:=aGI (by kernel_rfl) rfl (λ_=>by kernel_rfl) λw os=>by
 have _:=tw0;unfold pw;rw[PySem.W.Fast.te17359021992344102103];kernel_rfl
end K24
end
noncomputable section
open PySem PySem.W PyProof.Rows Hh
set_option maxRecDepth 100000 in
set_option maxHeartbeats 0 in
theorem PySem.Challenge.cw_handpromise_k24_ends_and_stuck_holds : PySem.Challenge.rw_handpromise_k24_ends_and_stuck.Holds := by
 w_on; o_law; rename_i said
 refine aGM (l := PySem.Challenge.rw_handpromise_k24_ends_and_stuck) (k := 59) (f := 19) (x := "_law_script") (sl := ["_law_house_here", "_law_goal", "_law_done", "_law_held", "_law_k", "_law_row", "_law_first"]) said K24.lft (by kernel_rfl) (by kernel_rfl) rfl rfl (by decide +kernel) ⟨rfl, rfl, rfl, rfl, rfl, by decide +kernel⟩ ?hw rfl rfl (by decide +kernel) (by decide +kernel) K24.chk ⟨rfl, rfl, by decide, by decide⟩ (by kernel_rfl) rfl K24.pure
 w_witness2
end
