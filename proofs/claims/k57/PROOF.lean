import PyProof.Rows.All
import Wide.All
import OpenK.AllK
import Wide.FinOn
import Lean
import PyProof.EqAt
import PyProof.EqKinds
import PyProof.TupleCall
import PyProof.TupleKey
import PyProof.DictRoadsH
import PyProof.Rows.TupTab
import PyProof.AttrMissHeap
import KE.KDictOf
import PyProof.FactsAll.tuple_2
import PyProof.NeKinds
import PySem.Syntax
import PySem.Builtin.Str.Common
import PyProof.ReprReads
import PyProof.StrLaws
import PyProof.ReprRoads
import PyProof.FitsInt
import KE.KIsAll
import PyProof.DictTable
import PyProof.Rows.SetFrom
import PyProof.SetRoads
import PyProof.ZipIter
import PyProof.StrWalks
import PyProof.EnumFor
import PyProof.EnumStmt
import PyProof.ListNew
import PySem.Challenge.RW_handpromise_k57_the_first_break
set_option genSizeOf false
set_option genInjectivity false
set_option bootstrap.genMatcherCode false
set_option Elab.async false
set_option linter.all false
theorem nf{p:Prop}(h:false=true):p:=absurd h Bool.false_ne_true
def gS:=@List.getElem?_cons_succ.{0}
def gZ:=@List.getElem?_cons_zero.{0}
def lS:=@List.set_cons_succ.{0}
def lZ:=@List.set_cons_zero.{0}
def bF:=@Bool.false_eq_true
def lC:=@List.length_cons.{0}
def lN:=@List.length_nil.{0}
def lA:=@List.length_append.{0}
def mC:=@List.map_cons.{0,0}
def mN:=@List.map_nil.{0,0}
def lM:=@List.length_map.{0,0}
def mG:=@List.mem_of_getElem?.{0}
def bN:=@Bool.false_ne_true
def bA:=@Bool.and_eq_true
noncomputable section
set_option maxRecDepth 100000
namespace L2
open PySem PySem.Spec PyProof.Rows
abbrev Key:=Sum Int Str
def aGn:Key->Value->Bool
 | .inl k,v=>Value.isInt k v
 | .inr x,v=>Value.isStrOf x v
def aMr(w:World):Key->Int
 | .inl k=>hashInt k
 | .inr x=>hashStr w x
theorem keyIs_shape:∀{k:Key} {v:Value},aGn k v=true->(∃i t,k=Sum.inl i/\v=Value.int i t)\/(∃x t,k=Sum.inr x/\v=Value.str x t)
 | .inl i,v,h=>by
  obtain⟨t,e⟩:=Value.isInt_shape (k:=i) (v:=v) h
  exact .inl ⟨i,t,rfl,e⟩
 | .inr x,v,h=>by
  obtain⟨t,e⟩:=Value.isStrOf_shape (x:=x) (v:=v) h
  exact .inr ⟨x,t,rfl,e⟩
theorem aGQ(a b:Int):decide ((Sum.inl a:Key)=Sum.inl b)=(a==b):=by
 by_cases e:a=b
 . subst e;simp
 . have h:¬ (Sum.inl a:Key)=Sum.inl b:=λq=>e (Sum.inl.inj q)
   rw[decide_eq_false h]
   exact(beq_eq_false_iff_ne.mpr e).symm
theorem aGR(a b:Str):decide ((Sum.inr a:Key)=Sum.inr b)=decide (a=b):=by
 by_cases e:a=b
 . subst e;simp
 . have h:¬ (Sum.inr a:Key)=Sum.inr b:=λq=>e (Sum.inr.inj q)
   rw[decide_eq_false h,decide_eq_false e]
theorem aGS(a:Int)(b:Str):decide ((Sum.inl a:Key)=Sum.inr b)=false:=decide_eq_false (λq=>nomatch q)
theorem aGT(a:Str)(b:Int):decide ((Sum.inr a:Key)=Sum.inl b)=false:=decide_eq_false (λq=>nomatch q)
def iQ(prog:Program)(w:World):PySem.KeyKind prog w Key where
 is:=aGn
 hash:=aMr w
 inj:=λv a b ha hb=>by
  rcases keyIs_shape ha with⟨i,t,rfl,rfl⟩|⟨x,t,rfl,rfl⟩
  . rcases keyIs_shape hb with⟨j,u,rfl,e⟩|⟨y,u,rfl,e⟩
    . injection e with e1 _;rw[e1]
    . exact nomatch e
  . rcases keyIs_shape hb with⟨j,u,rfl,e⟩|⟨y,u,rfl,e⟩
    . exact nomatch e
    . injection e with e1 _;rw[e1]
 byValue:=λk v h=>by
  rcases keyIs_shape h with⟨i,t,rfl,rfl⟩|⟨x,t,rfl,rfl⟩ <;> rfl
 pyHash:=λhv h=>by
  rcases keyIs_shape hv with⟨i,t,rfl,rfl⟩|⟨x,t,rfl,rfl⟩
  . exact wpAny_pyHash_int h
  . exact wpAny_pyHash_str h
 eqBool:=λhu hv h=>by
  rcases keyIs_shape hu with⟨i,t,rfl,rfl⟩|⟨x,t,rfl,rfl⟩
  . rcases keyIs_shape hv with⟨j,u,rfl,rfl⟩|⟨y,u,rfl,rfl⟩
    . rw[aGQ] at h;exact wpAny_eqBool_int h
    . rw[aGS] at h;exact SeqAt.EqAt.int_str i t y u _ _ _ _ h
  . rcases keyIs_shape hv with⟨j,u,rfl,rfl⟩|⟨y,u,rfl,rfl⟩
    . rw[aGT] at h;exact SeqAt.EqAt.str_int x t j u _ _ _ _ h
    . rw[aGR] at h;exact wpAny_eqBool_str h
 «strs»:=λk x t v h=>by
  rcases keyIs_shape h with⟨i,u,rfl,e⟩|⟨y,u,rfl,e⟩
  . exact nomatch e
  . injection e with e1 _
    subst e1
    cases v <;> rfl
end L2
namespace L2
open PySem PySem.Spec PyProof.Rows
inductive V where
 | non|bl (b:Bool)|int (i:Int)|str (x:Str)|byt (b:Array UInt8)|flt (b:UInt64)|ref (a:Addr)|ty (n:String)
 deriving DecidableEq
def cA:V->Value->Prop
 | .non,u=>u=Value.none
 | .bl b,u=>u=Value.bool b
 | .int i,u=>∃t,u=Value.int i t
 | .str x,u=>∃t,u=Value.str x t
 | .byt b,u=>∃t,u=Value.bytes b t
 | .flt b,u=>∃t,u=Value.float b t
 | .ref a,u=>u=Value.ref a
 | .ty n,u=>u=Value.type n
abbrev aY:List V->List Value->Prop:=Paired cA
theorem aY.length{xs:List V}{us:List Value}(r:aY xs us):xs.length=us.length:=Paired.length r
theorem aY.get:∀{xs:List V} {us:List Value} {i:Nat} {x:V},aY xs us->xs[i]? = some x->∃u,us[i]? = some u/\cA x u
 | _,_,_,_,.nil,e=>by simp at e
 | _,_,0,_,.cons r _,e=>by simp at e;subst e;exact⟨_,rfl,r⟩
 | _,_,i+1,x,.cons _ t,e=>by
  obtain⟨u,h1,h2⟩:=aY.get (i:=i) (x:=x) t (by simpa using e)
  exact⟨u,by simpa using h1,h2⟩
theorem aY.set{x:V}{u:Value}(r:cA x u):∀{xs:List V} {us:List Value} (i:Nat),aY xs us->aY (xs.set i x) (us.set i u)
 | _,_,_,.nil=>.nil
 | _,_,0,.cons _ t=>.cons r t
 | _,_,i+1,.cons q t=>.cons q (aY.set r i t)
theorem aY.append:∀{xs ys:List V} {us ws:List Value},aY xs us->aY ys ws->aY (xs++ys) (us++ws)
 | _,_,_,_,.nil,s=>s
 | _,_,_,_,.cons r t,s=>.cons r (aY.append t s)
theorem aY.take:∀{xs:List V} {us:List Value} (n:Nat),aY xs us->aY (xs.take n) (us.take n)
 | _,_,0,_=>.nil
 | _,_,_+1,.nil=>.nil
 | _,_,n+1,.cons r t=>.cons r (aY.take n t)
theorem aY.drop:∀{xs:List V} {us:List Value} (n:Nat),aY xs us->aY (xs.drop n) (us.drop n)
 | _,_,0,r=>r
 | _,_,_+1,.nil=>.nil
 | _,_,n+1,.cons _ t=>aY.drop n t
def aJh:Option V->Option Value->Prop
 | some v,some u=>cA v u
 | none,none=>True
 | _,_=>False
def KV{κ:Type}:List (κ×V)->List (κ×Value)->Prop:=Paired λ(p:κ×V) (q:κ×Value)=>p.1=q.1/\cA p.2 q.2
def kV:Key->V
 | .inl i=>.int i
 | .inr x=>.str x
inductive HO where
 | lst (xs:List V)
 | tup (xs:List V)
 | dK (kvs:List (Key×V))|dT (kvs:List (List Key×V))
 | set (S:Int->Bool) (n:Nat)
 | ins (C dx:Addr) (fs:List (Str×V))
 | own (x:Addr)
 | xd (fs:List (Str×V))
 | met (f x:Addr)
 | rng (lo hi:Int)
 | frz (o:Obj) (u:HO)
 | tbl (ps:Array Value)
 | ext (φ:Heap->Prop)
abbrev Hp:=Addr->Option HO
def upd(H:Hp)(a:Addr)(o:HO):Hp:=λb=>if b=a then some o else H b
theorem bW{H:Hp}{a:Addr}{o:HO}:upd H a o a=some o:=by unfold upd;rw[if_pos rfl]
theorem aP{H:Hp}{a b:Addr}{o:HO}(h:b≠a):upd H a o b=H b:=by unfold upd;rw[if_neg h]
theorem bR{H:Hp}{a b:Addr}{o:HO}(h:H a=some o)(h':H b=none):a≠b:=by
 intro e;subst e;rw[h] at h';cases h'
section
variable (P:Program) (w:World)
def eK(H:Hp)(h:Heap)(a:Addr):HO->Prop
 | .lst xs=>xs.length<=sizeLine/\∃(its:List Value) (n:Nat),aY xs its/\h.get? a=some { cls:=.type "list",data:=.seq its.toArray n }
 | .tup xs=>xs.length<=sizeLine/\∃its:List Value,aY xs its/\IsTup h a its.toArray
 | .dK kvs=>kvs.length<=sizeLine/\(a==sysModules)=false/\∃vs,KV kvs vs/\h.DictOf (iQ P w) a vs
 | .dT kvs=>kvs.length<=sizeLine/\(a==sysModules)=false/\∃xs:List (List Key×Addr×Value),
  Paired (λ(p:List Key×V) (q:List Key×Addr×Value)=>p.1=q.1/\H q.2.1=some (.tup (p.1.map kV))/\cA p.2 q.2.2) kvs xs /\
  ∃o es ep,h.get? a=some o/\o.ExactDict/\o.data=.dict es ep/\es.toList=xs.map (entryOfKey (tupleKind (iQ P w)))/\(xs.map (·.1)).Nodup
 | .set S n=>h.SetOf (intKind P w) a S n
 | .ins C dx fs=>H dx=some (.own a)/\fs.length<=1000/\dx≠a/\h.get? a=some (PySem.W.instObj C dx) /\
  ∃mA,h.Ns1 dx mA/\(∀f,aJh (fs.lookup f) (mA f))/\PySem.Within mA (fs.map (·.1))
 | .own _=>∃o,h.get? a=some o
 | .xd fs=>∃mA,h.Ns1 a mA/\∀f,aJh (fs.lookup f) (mA f)
 | .rng lo hi=>∃t u v,h.get? a=some { cls:=.type "range",data:=.fields #[.int lo t,.int hi u,.int 1 v] }
 | .frz o u=>h.get? a=some o/\eK H h a u
 | .tbl ps=>h.get? a=some { cls:=.none,data:=.fields ps }
 | .met f x=>h.get? a=some (PySem.W.methodObj (.ref f) (.ref x))
 | .ext φ=>φ h/\(∃o,h.get? a=some o)/\∀h1 h2:Heap,φ h1->(∀o,h1.get? a=some o->h2.get? a=some o)->φ h2
def HOk(H:Hp)(h:Heap):Prop:=∀a o,H a=some o->eK P w H h a o
end
section
variable {P:Program} {w:World} {H H':Hp} {h h':Heap} {a:Addr} {o:HO}
theorem eK.lt(x:eK P w H h a o):a<h.objs.size:=by
 cases o with
 | lst xs=>obtain⟨_,_,_,_,e⟩:=x;exact Heap.lt_size e
 | tup xs=>obtain⟨_,_,_,p⟩:=x;exact p.lt
 | dK kvs=>obtain⟨_,_,_,_,o,_,_,e,_⟩:=x;exact Heap.lt_size e
 | dT kvs=>obtain⟨_,_,_,_,o,_,_,e,_⟩:=x;exact Heap.lt_size e
 | set S n=>obtain⟨o,_,_,_,e,_⟩:=x;exact Heap.lt_size e
 | ins C dx fs=>obtain⟨_,_,_,e,_⟩:=x;exact Heap.lt_size e
 | own y=>obtain⟨_,e⟩:=x;exact Heap.lt_size e
 | xd fs=>obtain⟨_,⟨_,_,_,e,_⟩,_⟩:=x;exact Heap.lt_size e
 | rng lo hi=>obtain⟨_,_,_,e⟩:=x;exact Heap.lt_size e
 | frz ob u=>obtain⟨e,_⟩:=x;exact Heap.lt_size e
 | tbl ps=>exact Heap.lt_size (show h.get? a=some _ from x)
 | met f y=>exact Heap.lt_size (show h.get? a=some _ from x)
 | ext φ=>obtain⟨_,⟨_,e⟩,_⟩:=x;exact Heap.lt_size e
theorem Paired.mapP{α β:Type}{F G:α->β->Prop}:∀{l₁:List α} {l₂:List β},Paired F l₁ l₂->(∀a b,F a b->G a b)->Paired G l₁ l₂
 | _,_,.nil,_=>.nil
 | _,_,.cons r t,f=>.cons (f _ _ r) (Paired.mapP t f)
theorem eK.stay(x:eK P w H h a o)(k:∀b u,(b=a\/H b=some (.own a))->h.get? b=some u->h'.get? b=some u)
 (ho:∀b,H b=some (.own a)->H' b=some (.own a)) (ht:∀b xs,H b=some (.tup xs)->H' b=some (.tup xs)):eK P w H' h' a o:=by
 induction o with
 | lst xs=>obtain⟨z,its,n,r,e⟩:=x;exact⟨z,its,n,r,k _ _ (.inl rfl) e⟩
 | tup xs=>obtain⟨z,its,r,ob,e,c⟩:=x;exact⟨z,its,r,ob,k _ _ (.inl rfl) e,c⟩
 | dK kvs=>obtain⟨z,y,vs,r,ob,es,ep,e,c⟩:=x;exact⟨z,y,vs,r,ob,es,ep,k _ _ (.inl rfl) e,c⟩
 | dT kvs=>
  obtain⟨z,y,xs,r,ob,es,ep,e,c⟩:=x
  exact⟨z,y,xs,Paired.mapP r λp q z=>⟨z.1,ht _ _ z.2.1,z.2.2⟩,ob,es,ep,k _ _ (.inl rfl) e,c⟩
 | set S n=>obtain⟨ob,es,ep,t,e,c⟩:=x;exact⟨ob,es,ep,t,k _ _ (.inl rfl) e,c⟩
 | ins C dx fs=>
  obtain⟨d,z,ne,e,mA,⟨od,es,ep,e2,c⟩,r⟩:=x
  exact⟨ho _ d,z,ne,k _ _ (.inl rfl) e,mA,⟨od,es,ep,k _ _ (.inr d) e2,c⟩,r⟩
 | own y=>obtain⟨ob,e⟩:=x;exact⟨ob,k _ _ (.inl rfl) e⟩
 | xd fs=>obtain⟨mA,⟨od,es,ep,e,c⟩,r⟩:=x;exact⟨mA,⟨od,es,ep,k _ _ (.inl rfl) e,c⟩,r⟩
 | rng lo hi=>obtain⟨t,u,v,e⟩:=x;exact⟨t,u,v,k _ _ (.inl rfl) e⟩
 | frz ob u ih=>obtain⟨e,q⟩:=x;exact⟨k _ _ (.inl rfl) e,ih q⟩
 | tbl ps=>
  have e:h.get? a=some { cls:=.none,data:=.fields ps }:=x
  show h'.get? a=some { cls:=.none,data:=.fields ps }
  exact k a _ (.inl rfl) e
 | met f y=>
  have e:h.get? a=some (PySem.W.methodObj (.ref f) (.ref y)):=x
  show h'.get? a=some (PySem.W.methodObj (.ref f) (.ref y))
  exact k a _ (.inl rfl) e
 | ext φ=>obtain⟨p,⟨o,e⟩,st⟩:=x;exact⟨st _ _ p λo q=>k _ _ (.inl rfl) q,⟨o,k _ _ (.inl rfl) e⟩,st⟩
theorem HOk.lt(x:HOk P w H h)(e:H a=some o):a<h.objs.size:=(x a o e).lt
theorem HOk.fresh(x:HOk P w H h)(e:h.objs.size<=a):H a=none:=by
 cases q:H a with
 | none=>rfl
 | some u=>exact absurd (Nat.lt_of_lt_of_le (x.lt q) e) (Nat.lt_irrefl _)
theorem HOk.kept(x:HOk P w H h)(k:∀b u,h.get? b=some u->h'.get? b=some u):HOk P w H h':=λa o e=>
 (x a o e).stay (λb u _ q=>k b u q) (λ_ q=>q) λ_ _ q=>q
theorem HOk.laid(x:HOk P w H h)(k:∀b u,h.get? b=some u->h'.get? b=some u)(hp:h.objs.size<=a)(new:eK P w (upd H a o) h' a o):HOk P w (upd H a o) h':=λb u e=>by
 have hn:=x.fresh hp
 by_cases hb:b=a
 . subst hb;rw[bW] at e;cases e;exact new
 . rw[aP hb] at e
   exact(x b u e).stay (λc v _ q=>k c v q) (λc q=>by rw[aP (bR q hn)];exact q) λc xs q=>by rw[aP (bR q hn)];exact q
end
def Rd(H:Hp)(a:Addr)(u:HO):Prop:=H a=some u\/∃o,H a=some (.frz o u)
theorem Rd.ok{P:Program}{w:World}{H:Hp}{h:Heap}{a:Addr}{u:HO}(r:Rd H a u)(x:HOk P w H h):eK P w H h a u:=by
 rcases r with r|⟨o,r⟩
 . exact x a u r
 . obtain⟨_,q⟩:=x a _ r
   exact q
def Mut:Option HO->Prop
 | some (.lst _)=>True
 | some (.dK _)=>True
 | some (.dT _)=>True
 | some (.set _ _)=>True
 | some (.ins _ _ _)=>True
 | some (.ext _)=>True
 | _=>False
section
variable {P:Program} {w:World} {H:Hp} {h h':Heap} {x e:Addr} {o':HO}
theorem HOk.write(ok:HOk P w H h)(mu:Mut (H x))(he:e=x\/H e=some (.own x))(k:∀b u,b≠e->h.get? b=some u->h'.get? b=some u)(heo:∃u,h'.get? e=some u)
 (new:eK P w (upd H x o') h' x o'):HOk P w (upd H x o') h':=λb u q=>by
 have nown:∀c y,H c=some (.own y)->c≠x:=λc y r z=>by subst z;rw[r] at mu;exact mu
 have ntup:∀c xs,H c=some (.tup xs)->c≠x:=λc xs r z=>by subst z;rw[r] at mu;exact mu
 by_cases hb:b=x
 . subst hb;rw[bW] at q;cases q;exact new
 . rw[aP hb] at q
   by_cases hbe:b=e
   . have q':H b=some (.own x):=by
      rcases he with z|z
      . exact absurd (hbe.trans z) hb
      . rw[hbe];exact z
     rw[q] at q';cases q'
     obtain⟨v,hv⟩:=heo
     exact⟨v,by rw[hbe];exact hv⟩
   . refine(ok b u q).stay (λc v hc r=>k c v ?_ r) (λc r=>by rw[aP (nown c b r)];exact r) λc xs r=>by rw[aP (ntup c xs r)];exact r
     rcases hc with rfl|hc
     . exact hbe
     . rintro rfl
       rcases he with z|z
       . exact nown c b hc z
       . rw[hc] at z;cases z;exact hb rfl
end
structure Un (fs ex:List Addr) (H H':Hp) (h h':Heap):Prop where
 keep:∀b o,h.get? b=some o->H b=none->b∉fs->b∉ex->h'.get? b=some o
 slot:∀b o,h.get? b=some o->H b=none->b∈fs->b∉ex->∃sl,h'.get? b=some { o with slots:=sl }
 free:∀b o,h.get? b=some o->H b=none->b∉ex->H' b=none
 there:∀b o,h.get? b=some o->b∉ex->∃o',h'.get? b=some o'
 tups:∀b xs,H b=some (.tup xs)->H' b=some (.tup xs)
 frzs:∀b o u,H b=some (.frz o u)->H' b=some (.frz o u)
 tbls:∀b ps,H b=some (.tbl ps)->∃more,H' b=some (.tbl (ps++more))
section
variable {fs fs' ex ex':List Addr} {H H1 H2:Hp} {h h1 h2 h':Heap} {a x e:Addr} {o:HO}
theorem Un.any(u:Un fs ex H H1 h h1){b:Addr}{ob:Obj}(q:h.get? b=some ob)(n:H b=none)(hx:b∉ex):∃sl,h1.get? b=some { ob with slots:=sl }:=by
 by_cases hb:b∈fs
 . exact u.slot b ob q n hb hx
 . exact⟨ob.slots,u.keep b ob q n hb hx⟩
theorem Un.kept(k:∀b u,h.get? b=some u->h'.get? b=some u):Un fs ex H H h h':=
 ⟨λb ob q _ _ _=>k b ob q,λb ob q _ _ _=>⟨ob.slots,k b ob q⟩,λ_ _ _ n _=>n,λb ob q _=>⟨ob,k b ob q⟩,λ_ _ q=>q,λ_ _ _ q=>q,λ_ ps q=>⟨#[],by rw[q];simp⟩⟩
theorem Un.refl:Un fs ex H H h h:=Un.kept λ_ _ q=>q
theorem Un.laid(k:∀b u,h.get? b=some u->h'.get? b=some u)(hp:h.objs.size<=a)(hn:H a=none):Un fs ex H (upd H a o) h h' where
 keep:=λb u q _ _ _=>k b u q
 slot:=λb u q _ _ _=>⟨u.slots,k b u q⟩
 free:=λb u q n _=>by rw[aP (Nat.ne_of_lt (Nat.lt_of_lt_of_le (Heap.lt_size q) hp))];exact n
 there:=λb u q _=>⟨u,k b u q⟩
 tups:=λb xs q=>by rw[aP (bR q hn)];exact q
 frzs:=λb u xs q=>by rw[aP (bR q hn)];exact q
 tbls:=λb ps q=>⟨#[],by rw[aP (bR q hn),q];simp⟩
theorem Un.write(mu:Mut (H x))(he:e=x\/H e=some (.own x))(k:∀b u,b≠e->h.get? b=some u->h'.get? b=some u)(heo:∃u,h'.get? e=some u):Un fs ex H (upd H x o) h h':=by
 have hx:∀b,H b=none->b≠x:=λb n z=>by subst z;rw[n] at mu;exact mu
 have hb:∀b,H b=none->b≠e:=λb n z=>by
  subst z
  rcases he with r|r
  . exact hx b n r
  . rw[n] at r;cases r
 have hm:∀b u,H b=some u->¬ Mut (some u)->b≠x:=λb u q nm z=>by subst z;rw[q] at mu;exact nm mu
 refine⟨λb u q n _ _=>k b u (hb b n) q,λb u q n _ _=>⟨u.slots,k b u (hb b n) q⟩,λb u q n _=>by rw[aP (hx b n)];exact n,λb u q _=>?_,
  λb xs q=>by rw[aP (hm b _ q λz=>z)];exact q,λb u xs q=>by rw[aP (hm b _ q λz=>z)];exact q,λb ps q=>⟨#[],by rw[aP (hm b _ q λz=>z),q];simp⟩⟩
 by_cases hbe:b=e
 . subst hbe;exact heo
 . exact⟨u,k b u hbe q⟩
end
def trk(h:Heap)(H:Hp):List Addr:=(List.range h.objs.size).filter λa=>(H a).isSome
def sA(h:Heap)(H:Hp):Heap:=PySem.W.hideAll h (trk h H)
theorem aBc(h:Heap)(H:Hp):(sA h H).objs.size=h.objs.size:=PySem.W.hideAll_size _ _
theorem aCd{h:Heap}{H:Hp}{b:Addr}{o:Obj}(e:h.get? b=some o)(n:H b=none):(sA h H).get? b=some o:=
 PySem.W.hideAll_get _ e λhm=>by
  have q:(H b).isSome=true:=(List.mem_filter.mp hm).2
  rw[n] at q;simp at q
theorem aEL{h:Heap}{H:Hp}{b:Addr}{o:Obj}(e:(sA h H).get? b=some o):h.get? b=some o/\H b=none:=by
 have e':h.get? b=some o:=PySem.W.of_hideAll (trk h H) e
 refine⟨e',?_⟩
 cases q:H b with
 | none=>rfl
 | some x=>
  have hm:b∈trk h H:=List.mem_filter.mpr ⟨List.mem_range.mpr (Heap.lt_size e'),by simp[q]⟩
  have z:(sA h H).get? b=none:=PySem.W.hideAll_none (trk h H) hm
  rw[z] at e;cases e
def aEM(g h:Heap)(L:Addr):List (Addr×Obj):=(List.range h.objs.size).filterMap λa=>if a=L\/(g.get? a).isSome=true then none else (h.get? a).map λo=>(a,o)
def rest(g h:Heap)(L d:Addr):List (Addr×Obj):=(aEM g h L).filter λp=>decide (p.1≠d)
end L2
namespace L2
open PySem PySem.Spec PyProof.Rows
structure Mod (K:PySem.W.Frag) (mg:Str->Option Value) (base:Heap):Prop where
 kin:K.In base
 glob:base.Ns mainGlobals mg
 blt:∃mb,base.Ns builtinsNs mb/\∀x:Str,x ≠ "__name__" -> mb x=bootBuiltins x
 nolimit:base.NoLimit
set_option genInjectivity true in
structure Cx where
 prog:Program
 w:World
 K:PySem.W.Frag
 mg:Str->Option Value
 base:Heap
 A:Around
 N:List Str
 s₀:Shared
 H₀:Hp
 env:Env
 outer:List Env
 stack:List Env
 ex:List Addr
 fn:Str->Bool
 calm:Bool
 pn:List (Addr×Obj)
 xe:Value->Shared->Prop
def frs(l:List Env):List Addr:=l.filterMap (·.frame)
abbrev Cx.fs(X:Cx):List Addr:=frs X.outer
def Vis(sc:Scope)(x:Str):Prop:=sc.names.lookup x=some .local\/sc.names.lookup x=some .cell\/sc.names.lookup x=some .free
def Loc(sc:Scope)(x:Str):Prop:=sc.names.lookup x=some .local\/sc.names.lookup x=some .cell
def aMs(env:Env)(h:Heap)(m:Str->Option Value)(x:Str)(u:Value):Prop:=
 (env.kindOf x=some .local/\m x=some u)\/((env.kindOf x=some .cell\/env.kindOf x=some .free)/\∃c,env.cells.lookup x=some c/\h.IsCell c (some u))
structure Cx.Ok (X:Cx):Prop where
 mod:Mod X.K X.mg X.base
 kind:X.env.scope.kind=.function
 glob:X.env.globals=mainGlobals
 blt:X.env.builtins=builtinsNs
 above:X.s₀.heap.objs.size<=X.env.locals
 inj:∀x y c,X.env.cells.lookup x=some c->X.env.cells.lookup y=some c->x=y
 has:∀x,(X.env.kindOf x=some .cell\/X.env.kindOf x=some .free)->∃c,X.env.cells.lookup x=some c
 cab:∀x c,X.fn x=true->X.env.cells.lookup x=some c->X.s₀.heap.objs.size<=c
 hd:X.calm=true->X.A.handled=none
 frames:X.A.frames=some X.stack
 stk:X.stack=X.outer\/(X.stack=X.env::X.outer/\X.env.frame=some X.env.locals)
 exf:∀b∈X.ex,b≠X.env.locals/\∀x c,X.env.cells.lookup x=some c->c≠b
 bs:∀b o,X.base.get? b=some o->X.s₀.heap.get? b=some o/\X.H₀ b=none
 bsz:X.base.objs.size<=X.s₀.heap.objs.size
 noex:∀b o,X.base.get? b=some o->b∉X.ex
 exfs:∀b∈X.ex,b∉X.fs
 funs:X.s₀.heap.FunFrames X.base X.outer
 frf:∀b∈X.fs,X.H₀ b=none
structure Inv (X:Cx) (pins:List (Addr×Obj)) (σ:List (Option V)) (H:Hp) (s:Shared):Prop where
 ok:X.Ok
 os:s.os=X.s₀.os
 bare:AllBare s.gens
 base:Un X.fs X.ex X.H₀ H X.s₀.heap s.heap
 loc:∃m,s.heap.Ns X.env.locals m/\∀(i:Nat) (x:Str) (v:V),X.N[i]? = some x->σ[i]? = some (some v)->Vis X.env.scope x->∃u,cA v u/\aMs X.env s.heap m x u
 cell:∀x c,X.env.cells.lookup x=some c->∃v,s.heap.IsCell c v
 free:H X.env.locals=none
 freeC:∀x c,X.env.cells.lookup x=some c->H c=none
 pin:∀p∈X.pn++pins,s.heap.get? p.1=some p.2/\H p.1=none/\p.1≠X.env.locals/\p.1∉X.fs/\∀v,p.2.data≠.cell v
 hok:HOk X.prog X.w H s.heap
 len:σ.length=X.N.length
section
variable {X:Cx} {pins:List (Addr×Obj)} {σ:List (Option V)} {H H':Hp} {s:Shared} {h':Heap}
theorem Cx.Ok.nofr(ok:X.Ok){b:Addr}{o:Obj}(e:X.base.get? b=some o):b∉X.fs:=λhb=>by
 have:=(ok.funs.mem hb).1
 rw[e] at this;cases this
theorem Inv.bs(I:Inv X pins σ H s):∀b o,X.base.get? b=some o->s.heap.get? b=some o/\H b=none:=λb o e=>
 ⟨I.base.keep b o (I.ok.bs b o e).1 (I.ok.bs b o e).2 (I.ok.nofr e) (I.ok.noex b o e),I.base.free b o (I.ok.bs b o e).1 (I.ok.bs b o e).2 (I.ok.noex b o e)⟩
theorem Inv.bk(I:Inv X pins σ H s):∀b o,X.base.get? b=some o->s.heap.get? b=some o:=λb o e=>(I.bs b o e).1
theorem Inv.mod(I:Inv X pins σ H s):Mod X.K X.mg X.base:=I.ok.mod
theorem Inv.kIn(I:Inv X pins σ H s):X.K.In s.heap:=I.ok.mod.kin.keeps I.bk
theorem Inv.lt(I:Inv X pins σ H s):X.env.locals<s.heap.objs.size:=let ⟨_,hn,_⟩:=I.loc;hn.lt
theorem Inv.sz(I:Inv X pins σ H s):X.s₀.heap.objs.size<=s.heap.objs.size:=Nat.le_trans I.ok.above (Nat.le_of_lt I.lt)
theorem Inv.nofs(I:Inv X pins σ H s){a:Addr}(h:s.heap.objs.size<=a):a∉X.fs:=λhb=>by
 obtain⟨_,o,ho,_⟩:=I.ok.funs.mem hb
 exact absurd (Nat.lt_of_lt_of_le (Heap.lt_size ho) (Nat.le_trans I.sz h)) (Nat.lt_irrefl _)
theorem Inv.cne(I:Inv X pins σ H s):∀x c,X.env.cells.lookup x=some c->c≠X.env.locals:=λx c e z=>by
 obtain⟨v,o,ho,hd⟩:=I.cell x c e
 obtain⟨m,⟨o',es,ep,ho',hd',_⟩,_⟩:=I.loc
 rw[z,ho'] at ho;cases ho;rw[hd'] at hd;cases hd
theorem Inv.funs(I:Inv X pins σ H s):s.heap.FunFrames X.base X.outer:=by
 have all:∀(l:List Env),(∀b∈frs l,b∈X.fs)->X.s₀.heap.FunFrames X.base l->s.heap.FunFrames X.base l:=by
  intro l
  induction l with
  | nil=>intro _ _;trivial
  | cons env r ih=>
   intro hs hl
   obtain⟨hk,⟨L,o,hf,hn,ho,hd⟩,hr⟩:=hl
   have hL:L∈X.fs:=hs L (by unfold frs;rw[List.filterMap_cons,hf];exact List.mem_cons_self)
   obtain⟨sl,e⟩:=I.base.slot L o ho (I.ok.frf L hL) hL λz=>I.ok.exfs L z hL
   exact⟨hk,⟨L,_,hf,hn,e,hd⟩,ih (λb hb=>hs b (by unfold frs;rw[List.filterMap_cons,hf];exact List.mem_cons_of_mem _ hb)) hr⟩
 exact all X.outer (λ_ hb=>hb) I.ok.funs
theorem Inv.stack(I:Inv X pins σ H s):s.heap.FunFrames X.base X.stack:=by
 rcases I.ok.stk with e|⟨e,hf⟩
 . rw[e];exact I.funs
 . rw[e]
   obtain⟨m,hn,_⟩:=I.loc
   refine .cons (by rw[I.ok.kind];decide) hf hn ?_ I.funs
   exact Heap.get?_none_of_le (Nat.le_trans I.ok.bsz I.ok.above)
theorem Inv.stkSub(I:Inv X pins σ H s):∀b∈frs X.stack,b∈X.env.locals::X.fs:=λb hb=>by
 rcases I.ok.stk with e|⟨e,hf⟩
 . rw[e] at hb;exact List.mem_cons_of_mem _ hb
 . rw[e] at hb
   unfold frs at hb
   rw[List.filterMap_cons,hf] at hb
   exact hb
theorem Inv.stkFree(I:Inv X pins σ H s):∀b∈frs X.stack,H b=none:=λb hb=>by
 rcases List.mem_cons.mp (I.stkSub b hb) with e|hb
 . rw[e];exact I.free
 . obtain⟨_,o,ho,_⟩:=I.ok.funs.mem hb
   exact I.base.free b o ho (I.ok.frf b hb) λz=>I.ok.exfs b z hb
theorem Inv.step{g':Array GenState}{t':Nat}{d':Drawn}{ch:List Addr}(I:Inv X pins σ H s)
 (hch:∀b∈ch,(b∈X.ex\/X.s₀.heap.objs.size<=b)/\b≠X.env.locals/\(∀x c,X.env.cells.lookup x=some c->c≠b)/\∀p∈X.pn++pins,p.1≠b)
 (keep:∀b o,b≠X.env.locals->b∉X.fs->b∉ch->s.heap.get? b=some o->H b=none->h'.get? b=some o)
 (slot:∀b o,b≠X.env.locals->b∈X.fs->b∉ch->s.heap.get? b=some o->H b=none->∃sl,h'.get? b=some { o with slots:=sl }) (free:∀b o,b∉ch->s.heap.get? b=some o->H b=none->H' b=none)
 (there:∀b o,b∉ch->s.heap.get? b=some o->∃o',h'.get? b=some o')
 (tups:∀b xs,H b=some (.tup xs)->H' b=some (.tup xs)) (frzs:∀b o u,H b=some (.frz o u)->H' b=some (.frz o u)) (tbls:∀b ps,H b=some (.tbl ps)->∃more,H' b=some (.tbl (ps++more)))
 (ns:∀m,s.heap.Ns X.env.locals m->h'.Ns X.env.locals m) (hok:HOk X.prog X.w H' h') (hg:AllBare g') :
 Inv X pins σ H' { s with heap:=h',gens:=g',drawn:=d',toks:=t' }:=by
 have neL:∀b o,X.s₀.heap.get? b=some o->b≠X.env.locals:=λb o e=>Nat.ne_of_lt (Nat.lt_of_lt_of_le (Heap.lt_size e) I.ok.above)
 have neC:∀b o,X.s₀.heap.get? b=some o->b∉X.ex->b∉ch:=λb o e hx hb=>by
  rcases(hch b hb).1 with z|z
  . exact hx z
  . exact absurd (Nat.lt_of_lt_of_le (Heap.lt_size e) z) (Nat.lt_irrefl _)
 have cellK:∀x c,X.env.cells.lookup x=some c->∀v,s.heap.IsCell c v->h'.IsCell c v:=λx c e v ⟨o,ho,hd⟩=>by
  have nch:c∉ch:=λz=>(hch c z).2.2.1 x c e rfl
  by_cases hc:c∈X.fs
  . obtain⟨sl,q⟩:=slot c o (I.cne x c e) hc nch ho (I.freeC x c e)
    exact⟨_,q,hd⟩
  . exact⟨o,keep c o (I.cne x c e) hc nch ho (I.freeC x c e),hd⟩
 refine⟨I.ok,I.os,hg,⟨λb o e n hb hx=>?_,λb o e n hb hx=>?_,λb o e n hx=>?_,λb o e hx=>?_,λb xs e=>tups b xs (I.base.tups b xs e),λb o xs e=>frzs b o xs (I.base.frzs b o xs e),λb ps e=>?_⟩,?_,λx c e=>?_,?_,λx c e=>?_,λp hp=>?_,hok,I.len⟩
 . exact keep b o (neL b o e) hb (neC b o e hx) (I.base.keep b o e n hb hx) (I.base.free b o e n hx)
 . obtain⟨sl,e1⟩:=I.base.slot b o e n hb hx
   obtain⟨sl',e2⟩:=slot b _ (neL b o e) hb (neC b o e hx) e1 (I.base.free b o e n hx)
   exact⟨sl',e2⟩
 . obtain⟨o',e1⟩:=I.base.there b o e hx
   exact free b o' (neC b o e hx) e1 (I.base.free b o e n hx)
 . obtain⟨o',e1⟩:=I.base.there b o e hx
   exact there b o' (neC b o e hx) e1
 . obtain⟨m1,e1⟩:=I.base.tbls b ps e
   obtain⟨m2,e2⟩:=tbls b _ e1
   exact⟨m1++m2,by rw[e2,Array.append_assoc]⟩
 . obtain⟨m,hn,hl⟩:=I.loc
   refine⟨m,ns m hn,λi x v e1 e2 e3=>?_⟩
   obtain⟨u,r,l⟩:=hl i x v e1 e2 e3
   refine⟨u,r,?_⟩
   rcases l with l|⟨k,c,e,z⟩
   . exact .inl l
   . exact .inr ⟨k,c,e,cellK x c e _ z⟩
 . obtain⟨v,z⟩:=I.cell x c e
   exact⟨v,cellK x c e v z⟩
 . obtain⟨m,⟨o,_,_,ho,_⟩,_⟩:=I.loc
   exact free _ o (λz=>(hch _ z).2.1 rfl) ho I.free
 . obtain⟨v,o,ho,hd⟩:=I.cell x c e
   exact free c o (λz=>(hch c z).2.2.1 x c e rfl) ho (I.freeC x c e)
 . obtain⟨e,n,ne,nf,d⟩:=I.pin p hp
   have nch:p.1∉ch:=λz=>(hch p.1 z).2.2.2 p hp rfl
   exact⟨keep p.1 p.2 ne nf nch e n,free p.1 p.2 nch e n,ne,nf,d⟩
theorem Inv.un{t':Nat}(I:Inv X pins σ H s)(u:Un X.fs [] H H' s.heap h')(hok:HOk X.prog X.w H' h'):Inv X pins σ H' { s with heap:=h',toks:=t' }:=by
 obtain⟨m,⟨o,es,ep,ho,r⟩,_⟩:=id I.loc
 obtain⟨sl,hL⟩:=u.any ho I.free (by simp)
 exact I.step (g':=s.gens) (d':=s.drawn) (ch:=[]) (λ_ z=>nomatch z) (λb o _ hb _ e n=>u.keep b o e n hb (by simp)) (λb o _ hb _ e n=>u.slot b o e n hb (by simp)) (λb o _ e n=>u.free b o e n (by simp)) (λb o _ e=>u.there b o e (by simp)) u.tups u.frzs u.tbls (λm' hm=>by
  obtain⟨o',es',ep',ho',r'⟩:=hm
  rw[ho] at ho';cases ho'
  exact⟨_,es',ep',hL,r'⟩) hok I.bare
theorem Inv.call{g':Array GenState}{t':Nat}{d':Drawn}{ch:List Addr}(I:Inv X pins σ H s)(u:Un (frs X.stack) ch H H' s.heap h')(hok:HOk X.prog X.w H' h')(hg:AllBare g')
 (hch:∀b∈ch,(b∈X.ex\/X.s₀.heap.objs.size<=b)/\b≠X.env.locals/\(∀x c,X.env.cells.lookup x=some c->c≠b)/\∀p∈X.pn++pins,p.1≠b) :
 Inv X pins σ H' { s with heap:=h',gens:=g',drawn:=d',toks:=t' }:=by
 obtain⟨m,⟨o,es,ep,ho,r⟩,_⟩:=id I.loc
 obtain⟨sl,hL⟩:=u.any ho I.free λz=>(hch _ z).2.1 rfl
 exact I.step (ch:=ch) hch (λb o hL hb hc e n=>u.keep b o e n (λz=>(List.mem_cons.mp (I.stkSub b z)).elim hL hb) hc) (λb o _ _ hc e n=>u.any e n hc) (λb o hc e n=>u.free b o e n hc) (λb o hc e=>u.there b o e hc) u.tups u.frzs u.tbls (λm' hm=>by
  obtain⟨o',es',ep',ho',r'⟩:=hm
  rw[ho] at ho';cases ho'
  exact⟨_,es',ep',hL,r'⟩) hok hg
theorem Inv.turned{t':Nat}{it:Addr}(I:Inv X pins σ H s)(k:∀b o,b≠it->s.heap.get? b=some o->h'.get? b=some o)(hn:H it=none)(hL:it≠X.env.locals)
 (h1:it∈X.ex\/X.s₀.heap.objs.size<=it) (h2:∀x c,X.env.cells.lookup x=some c->c≠it) (h3:∀p∈X.pn++pins,p.1≠it):Inv X pins σ H { s with heap:=h',toks:=t' }:=by
 have nit:∀b u,H b=some u->b≠it:=λb u e z=>by rw[z,hn] at e;cases e
 refine I.step (g':=s.gens) (d':=s.drawn) (ch:=[it]) (λb hb=>?_) (λb o _ _ hc e _=>k b o (λz=>hc (by simp[z])) e) (λb o _ _ hc e _=>⟨o.slots,k b o (λz=>hc (by simp[z])) e⟩) (λ_ _ _ _ n=>n)
  (λb o hc e=>⟨o,k b o (λz=>hc (by simp[z])) e⟩) (λ_ _ e=>e) (λ_ _ _ e=>e) (λb ps e=>⟨#[],by rw[e];simp⟩) (λm hm=>?_) (λb u e=>?_) I.bare
 . have e:b=it:=by simpa using hb
   subst e
   exact⟨h1,hL,h2,h3⟩
 . obtain⟨o,es,ep,ho,r⟩:=hm
   exact⟨o,es,ep,k _ o (Ne.symm hL) ho,r⟩
 . refine(I.hok b u e).stay (λc v hc q=>k c v ?_ q) (λ_ q=>q) λ_ _ q=>q
   rcases hc with z|z
   . rw[z];exact nit b u e
   . exact nit c _ z
theorem Inv.tok(I:Inv X pins σ H s)(t:Nat):Inv X pins σ H { s with toks:=t }:=I.un (h':=s.heap) (t':=t) Un.refl I.hok
theorem Inv.kept{t':Nat}(I:Inv X pins σ H s)(k:∀b u,s.heap.get? b=some u->h'.get? b=some u):Inv X pins σ H { s with heap:=h',toks:=t' }:=I.un (Un.kept k) (I.hok.kept k)
theorem Inv.laid{a:Addr}{o:HO}{t':Nat}(I:Inv X pins σ H s)(k:∀b u,s.heap.get? b=some u->h'.get? b=some u)(hp:s.heap.objs.size<=a)(new:eK X.prog X.w (upd H a o) h' a o) :
 Inv X pins σ (upd H a o) { s with heap:=h',toks:=t' }:=I.un (Un.laid k hp (I.hok.fresh hp)) (I.hok.laid k hp new)
theorem Inv.write{x e:Addr}{o:HO}{t':Nat}(I:Inv X pins σ H s)(mu:Mut (H x))(he:e=x\/H e=some (.own x))(k:∀b u,b≠e->s.heap.get? b=some u->h'.get? b=some u)(heo:∃u,h'.get? e=some u)
 (new:eK X.prog X.w (upd H x o) h' x o):Inv X pins σ (upd H x o) { s with heap:=h',toks:=t' }:=I.un (Un.write mu he k heo) (I.hok.write mu he k heo new)
theorem Inv.pins_of{pins':List (Addr×Obj)}(I:Inv X pins σ H s)(h:∀p∈pins',s.heap.get? p.1=some p.2/\H p.1=none/\p.1≠X.env.locals/\p.1∉X.fs/\∀v,p.2.data≠.cell v):Inv X pins' σ H s:=
 ⟨I.ok,I.os,I.bare,I.base,I.loc,I.cell,I.free,I.freeC,λp hp=>(List.mem_append.mp hp).elim (λz=>I.pin p (List.mem_append_left _ z)) (h p),I.hok,I.len⟩
theorem uP{N:List Str}(hN:N.Nodup){i j:Nat}{x:Str}(a:N[i]? = some x)(b:N[j]? = some x):i=j:=by
 obtain⟨h1,e1⟩:=List.getElem?_eq_some_iff.mp a
 obtain⟨h2,e2⟩:=List.getElem?_eq_some_iff.mp b
 exact(List.getElem_inj hN).mp (e1.trans e2.symm)
theorem qP{M:Model}{A:Around}{E:Value->Shared->Prop}{i:Nat}{x:Str}{v:V}{u:Value}{Q:Unit->Shared->Prop}(I:Inv X pins σ H s)(hN:X.N.Nodup)(hi:X.N[i]? = some x)(hx:Loc X.env.scope x)(r:cA v u)
 (h:∀s',Inv X pins (σ.set i (some v)) H s'->(∃a,Heap.SameBut a s.heap s'.heap/\(a=X.env.locals\/X.env.cells.lookup x=some a))->Q () s') (hf:X.fn x=true\/X.env.scope.names.lookup x=some .local:=by first|exact .inl rfl|exact .inr rfl|assumption):wpAny M A (storeName X.env x u) Q E s:=by
 obtain⟨m,hn,hl⟩:=id I.loc
 have hcls:(X.env.scope.kind==.class||(X.env.scope.kind==.module&&X.env.locals != X.env.globals))=false:=by rw[I.ok.kind];rfl
 have hiσ:i<σ.length:=by rw[I.len];exact(List.getElem?_eq_some_iff.mp hi).1
 have cne:=I.cne
 have tracked:∀{a:Addr} {h':Heap},(∃o,s.heap.get? a=some o/\H a=none)->Heap.SameBut a s.heap h'->HOk X.prog X.w H h':=λ{a h'} ha hs b ob e=>by
  obtain⟨_,_,hfree⟩:=ha
  refine(I.hok b ob e).stay (λc w' hc q=>(hs.2 c ?_).trans q) (λ_ q=>q) λ_ _ q=>q
  rintro rfl
  rcases hc with rfl|hc
  . rw[hfree] at e;cases e
  . rw[hfree] at hc;cases hc
 rcases hx with hk|hk
 . refine wpAny_storeName_local hk hn (λh' hn' hs=>?_) hcls
   obtain⟨oL,_,_,hoL,_⟩:=id hn
   refine h _ ⟨I.ok,I.os,I.bare,⟨λb o e n hb hx=>?_,λb o e n hb hx=>?_,I.base.free,λb o e hx=>?_,I.base.tups,I.base.frzs,I.base.tbls⟩,⟨_,hn',λj y v' e1 e2 e3=>?_⟩,λy c e=>?_,I.free,I.freeC,λp hp=>?_,tracked ⟨oL,hoL,I.free⟩ hs,by simpa using I.len⟩ ⟨_,hs,.inl rfl⟩
   . exact(hs.2 b (Nat.ne_of_lt (Nat.lt_of_lt_of_le (Heap.lt_size e) I.ok.above))).trans (I.base.keep b o e n hb hx)
   . obtain⟨sl,e1⟩:=I.base.slot b o e n hb hx
     exact⟨sl,(hs.2 b (Nat.ne_of_lt (Nat.lt_of_lt_of_le (Heap.lt_size e) I.ok.above))).trans e1⟩
   . obtain⟨o',e1⟩:=I.base.there b o e hx
     exact⟨o',(hs.2 b (Nat.ne_of_lt (Nat.lt_of_lt_of_le (Heap.lt_size e) I.ok.above))).trans e1⟩
   . by_cases hj:j=i
     . subst hj
       rw[hi] at e1;cases e1
       rw[List.getElem?_set_self hiσ] at e2
       cases e2
       exact⟨u,r,.inl ⟨hk,by simp⟩⟩
     . rw[List.getElem?_set_ne (Ne.symm hj)] at e2
       obtain⟨u',r',q⟩:=hl j y v' e1 e2 e3
       refine⟨u',r',?_⟩
       rcases q with⟨k,e⟩|⟨k,c,e,z⟩
       . refine .inl ⟨k,?_⟩
         have:y≠x:=λe=>hj (uP hN e1 (e▸hi))
         simp[this,e]
       . exact .inr ⟨k,c,e,z.sameBut hs (cne y c e)⟩
   . obtain⟨w',z⟩:=I.cell y c e
     exact⟨w',z.sameBut hs (cne y c e)⟩
   . obtain⟨e,n,ne,nf,d⟩:=I.pin p hp
     exact⟨(hs.2 p.1 ne).trans e,n,ne,nf,d⟩
 . have hfn:X.fn x=true:=by
    rcases hf with z|z
    . exact z
    . rw[z] at hk;cases hk
   obtain⟨c,hc⟩:=I.ok.has x (.inl hk)
   obtain⟨w',z⟩:=I.cell x c hc
   refine wpAny_storeName_cell I.ok.kind hk hc z (λh' hc' hs=>?_)
   obtain⟨oc,hoc,hocd⟩:=id z
   refine h { s with heap:=h' } ⟨I.ok,I.os,I.bare,⟨λb o e n hb hx=>?_,λb o e n hb hx=>?_,I.base.free,λb o e hx=>?_,I.base.tups,I.base.frzs,I.base.tbls⟩,⟨m,hn.sameBut hs (Ne.symm (cne x c hc)),λj y v' e1 e2 e3=>?_⟩,λy c' e=>?_,I.free,I.freeC,λp hp=>?_,tracked ⟨oc,hoc,I.freeC x c hc⟩ hs,by simpa using I.len⟩ ⟨c,hs,.inr hc⟩
   . exact(hs.2 b (Nat.ne_of_lt (Nat.lt_of_lt_of_le (Heap.lt_size e) (I.ok.cab x c hfn hc)))).trans (I.base.keep b o e n hb hx)
   . obtain⟨sl,e1⟩:=I.base.slot b o e n hb hx
     exact⟨sl,(hs.2 b (Nat.ne_of_lt (Nat.lt_of_lt_of_le (Heap.lt_size e) (I.ok.cab x c hfn hc)))).trans e1⟩
   . obtain⟨o',e1⟩:=I.base.there b o e hx
     exact⟨o',(hs.2 b (Nat.ne_of_lt (Nat.lt_of_lt_of_le (Heap.lt_size e) (I.ok.cab x c hfn hc)))).trans e1⟩
   . by_cases hj:j=i
     . subst hj
       rw[hi] at e1;cases e1
       rw[List.getElem?_set_self hiσ] at e2
       cases e2
       exact⟨u,r,.inr ⟨.inl hk,c,hc,hc'⟩⟩
     . rw[List.getElem?_set_ne (Ne.symm hj)] at e2
       obtain⟨u',r',q⟩:=hl j y v' e1 e2 e3
       refine⟨u',r',?_⟩
       rcases q with q|⟨k,c',e,z'⟩
       . exact .inl q
       . refine .inr ⟨k,c',e,z'.sameBut hs ?_⟩
         rintro rfl
         exact hj (uP hN e1 (I.ok.inj _ _ _ e hc▸hi))
   . by_cases hcc:c'=c
     . subst hcc;exact⟨_,hc'⟩
     . obtain⟨w2,z2⟩:=I.cell y c' e
       exact⟨w2,z2.sameBut hs hcc⟩
   . obtain⟨e,n,ne,nf,d⟩:=I.pin p hp
     refine⟨(hs.2 p.1 ?_).trans e,n,ne,nf,d⟩
     intro q
     rw[q,hoc] at e
     have q':oc=p.2:=Option.some.inj e
     exact d w' (by rw[<-q'];exact hocd)
theorem uQ{M:Model}{A:Around}{E:Value->Shared->Prop}{i:Nat}{x:Str}{v:V}{u:Value}{Q:Unit->Shared->Prop}(I:Inv X pins σ H s)(hN:X.N.Nodup)(hi:X.N[i]? = some x)(hx:Loc X.env.scope x)(r:cA v u)
 (h:∀s',Inv X pins (σ.set i (some v)) H s'->Q () s') (hf:X.fn x=true\/X.env.scope.names.lookup x=some .local:=by first|exact .inl rfl|exact .inr rfl|assumption):wpAny M A (storeName X.env x u) Q E s:=
 qP I hN hi hx r (λs' I' _=>h s' I') hf
theorem Inv.call'{s':Shared}{ch:List Addr}(I:Inv X pins σ H s)(ho:s'.os=s.os)(u:Un (frs X.stack) ch H H' s.heap s'.heap)(hok:HOk X.prog X.w H' s'.heap)(hg:AllBare s'.gens)
 (hch:∀b∈ch,(b∈X.ex\/X.s₀.heap.objs.size<=b)/\b≠X.env.locals/\(∀x c,X.env.cells.lookup x=some c->c≠b)/\∀p∈X.pn++pins,p.1≠b):Inv X pins σ H' s':=by
 obtain⟨h',g',d',t',o'⟩:=s'
 have e:o'=s.os:=ho
 subst e
 exact I.call (g':=g') (t':=t') (d':=d') u hok hg hch
end
abbrev XK:=Value->Option Addr->Hp->Prop
abbrev St:=List (Option V)
abbrev VK:=V->Hp->Prop
abbrev TE:=St->Hp->VK->Prop
abbrev TT:=St->Hp->(Bool->Hp->Prop)->Prop
abbrev TA:=St->Hp->(List V->Hp->Prop)->Prop
structure Ends where
 nx:St->Hp->Prop
 rt:VK
 bk:St->Hp->Prop:=λ_ _=>False
 ct:St->Hp->Prop:=λ_ _=>False
abbrev TS:=Ends->St->Hp->Prop
def EP(X:Cx)(pins:List (Addr×Obj))(σ:St)(Q:VK)(u:Value)(s':Shared):Prop:=∃v H',Inv X pins σ H' s'/\cA v u/\Q v H'
def TP(X:Cx)(pins:List (Addr×Obj))(σ:St)(Q:Bool->Hp->Prop)(b:Bool)(s':Shared):Prop:=∃H',Inv X pins σ H' s'/\Q b H'
def AP(X:Cx)(pins:List (Addr×Obj))(σ:St)(Q:List V->Hp->Prop)(us:List Value)(s':Shared):Prop:=∃vs H',Inv X pins σ H' s'/\aY vs us/\Q vs H'
def SP(X:Cx)(pins:List (Addr×Obj))(D:Ends)(f:Flow)(s':Shared):Prop:=
 match f with
 | .next=>∃σ' H',Inv X pins σ' H' s'/\D.nx σ' H'
 | .brk=>∃σ' H',Inv X pins σ' H' s'/\D.bk σ' H'
 | .cont=>∃σ' H',Inv X pins σ' H' s'/\D.ct σ' H'
 | .ret u=>∃v σ' H',Inv X pins σ' H' s'/\cA v u/\D.rt v H'
def PE(X:Cx)(e:Expr)(t:TE):Prop:=
 ∀(pins:List (Addr×Obj)) (s:Shared) (σ:St) (H:Hp) (Q:VK),Inv X pins σ H s->t σ H Q->wpAny (model X.prog X.w) X.A (eval e X.env) (EP X pins σ Q) X.xe s
def PT(X:Cx)(e:Expr)(t:TT):Prop:=
 ∀(pins:List (Addr×Obj)) (s:Shared) (σ:St) (H:Hp) (Q:Bool->Hp->Prop),Inv X pins σ H s->t σ H Q->wpAny (model X.prog X.w) X.A (isTrue e X.env (eval e X.env)) (TP X pins σ Q) X.xe s
def PW(X:Cx)(e:Expr)(t:TT):Prop:=
 ∀(whole:Sem Value) (pins:List (Addr×Obj)) (s:Shared) (σ:St) (H:Hp) (Q:Bool->Hp->Prop),Inv X pins σ H s->t σ H Q->wpAny (model X.prog X.w) X.A (isTrue e X.env whole) (TP X pins σ Q) X.xe s
theorem PW.pt{X:Cx}{e:Expr}{t:TT}(h:PW X e t):PT X e t:=h _
def PA(X:Cx)(es:List Expr)(t:TA):Prop:=
 ∀(pos:Pos) (pins:List (Addr×Obj)) (s:Shared) (σ:St) (H:Hp) (Q:List V->Hp->Prop),Inv X pins σ H s->t σ H Q->wpAny (model X.prog X.w) X.A (spliced (backTo pos (starEach es X.env))) (AP X pins σ Q) X.xe s
def PS(X:Cx)(st:Stmt)(t:TS):Prop:=
 ∀(pins:List (Addr×Obj)) (s:Shared) (σ:St) (H:Hp) (D:Ends),Inv X pins σ H s->t D σ H->wpAny (model X.prog X.w) X.A (exec st X.env) (SP X pins D) X.xe s
def PSs(X:Cx)(st:List Stmt)(t:TS):Prop:=
 ∀(pins:List (Addr×Obj)) (s:Shared) (σ:St) (H:Hp) (D:Ends),Inv X pins σ H s->t D σ H->wpAny (model X.prog X.w) X.A (execs st X.env) (SP X pins D) X.xe s
theorem thn{α:Type}{t:Sem α}{Q Q':α->Shared->Prop}{M:Model}{A:Around}{E:Value->Shared->Prop}{s:Shared}(h:wpAny M A t Q E s)(hQ:∀a s,Q a s->Q' a s):wpAny M A t Q' E s:=wpAny_mono h hQ λ_ _ x=>x
end L2
namespace L2
open PySem PySem.Spec PyProof.Rows
section
variable {X:Cx}
def aBd(i:Nat):TE:=λσ H Q=>∃v,σ[i]? = some (some v)/\Q v H
def tC(v:V):TE:=λ_ H Q=>Q v H
theorem hU{i:Nat}{x:Str}{pos:Pos}(hN:X.N[i]? = some x)(hv:Vis X.env.scope x)(hd:(x==("__debug__" : Str))=false:=by decide)(hcd:(x==("__classdict__" : Str))=false:=by decide):PE X (.Name x pos) (aBd i):=by
 intro pins s σ H Q I h
 obtain⟨v,e,h⟩:=h
 obtain⟨m,hn,hl⟩:=I.loc
 obtain⟨u,r,l⟩:=hl i x v hN e hv
 have fin:EP X pins σ Q u s:=⟨v,H,I,r,h⟩
 rcases l with⟨hk,hm⟩|⟨hk,c,hc,hcell⟩
 . exact wpAny_Name (wpAny_loadName_local I.ok.kind hk hn hm fin) hd
 . rcases hk with hk|hk
   . exact wpAny_Name (wpAny_loadName_cell I.ok.kind hk hc hcell fin) hd
   . exact wpAny_Name (wpAny_loadName_free I.ok.kind hk hc hcell fin hcd) hd
theorem aCe{i j pos}:PE X (.Constant (.int i) j pos) (tC (.int i)):=λ_ _ _ H _ I h=>wpAny_Constant_int ⟨.int i,H,I.tok _,⟨_,rfl⟩,h⟩
theorem aJi{b j pos}:PE X (.Constant (.bool b) j pos) (tC (.bl b)):=λ_ _ _ H _ I h=>Constant_bool ⟨.bl b,H,I,rfl,h⟩
theorem aGU{j pos}:PE X (.Constant .none j pos) (tC .non):=λ_ _ _ H _ I h=>Constant_none ⟨.non,H,I,rfl,h⟩
theorem aGV{x j pos}:PE X (.Constant (.str x) j pos) (tC (.str x)):=λ_ _ _ H _ I h=>Calls.Constant_str ⟨.str x,H,I.tok _,⟨_,rfl⟩,h⟩
def Gl(X:Cx)(x:Str):Prop:=X.env.kindOf x=some .globalImplicit
theorem sB{E:Value->Shared->Prop}{pins:List (Addr×Obj)}{s:Shared}{σ:St}{H:Hp}{x:Str}{u:Value}{pos:Pos}{Q:Value->Shared->Prop}(I:Inv X pins σ H s)(hg:Gl X x)(hm:X.mg x=some u)(h:Q u s)
 (hd:(x==("__debug__" : Str))=false:=by decide):wpAny (model X.prog X.w) X.A (eval (.Name x pos) X.env) Q E s:=
 Calls.Name_function_global I.ok.kind hg (Calls.loadGlobal_global (by rw[I.ok.glob];exact I.mod.glob.keeps I.bk) hm h) hd
theorem jS{E:Value->Shared->Prop}{pins:List (Addr×Obj)}{s:Shared}{σ:St}{H:Hp}{x:Str}{u:Value}{pos:Pos}{Q:Value->Shared->Prop}(I:Inv X pins σ H s)(hg:Gl X x)(hm:X.mg x=none)(hv:bootBuiltins x=some u)(h:Q u s)
 (hn:x ≠ "__name__" := by decide) (hd:(x==("__debug__" : Str))=false:=by decide):wpAny (model X.prog X.w) X.A (eval (.Name x pos) X.env) Q E s:=by
 obtain⟨mb,h1,h2⟩:=I.mod.blt
 exact Calls.Name_function_global I.ok.kind hg (Calls.loadGlobal_builtin (by rw[I.ok.glob];exact I.mod.glob.keeps I.bk) hm (by rw[I.ok.blt];exact h1.keeps I.bk) ((h2 x hn).trans hv) h) hd
theorem aEN{x:Str}{v:V}{u:Value}{pos:Pos}(hg:Gl X x)(hm:X.mg x=some u)(r:cA v u)(hd:(x==("__debug__" : Str))=false:=by decide):PE X (.Name x pos) (tC v):=
 λ_ _ _ H _ I h=>sB I hg hm ⟨v,H,I,r,h⟩ hd
variable {a b:Expr} {ta tb:TE} {pos:Pos}
variable {tA tB':TT} {rest:List Expr}
def aMt(t u:TT):TT:=λσ H Q=>t σ H λc H1=>if c=true then u σ H1 Q else Q false H1
def tOr(t u:TT):TT:=λσ H Q=>t σ H λc H1=>if c=true then Q true H1 else u σ H1 Q
def aMu(t:TT):TT:=λσ H Q=>t σ H λc H1=>Q (!c) H1
theorem aEO(ha:PT X a tA):PW X (.BoolOp .And [a] pos) tA:=by
 intro wh pins s σ H Q I h
 refine isTrue_and (thn (ha pins s σ H Q I h) λc s1 e=>?_)
 cases c with
 | true=>exact isTrue_and_nil e
 | false=>exact e
theorem aGW(ha:PT X a tA):PW X (.BoolOp .Or [a] pos) tA:=by
 intro wh pins s σ H Q I h
 refine isTrue_or (thn (ha pins s σ H Q I h) λc s1 e=>?_)
 cases c with
 | false=>exact isTrue_or_nil e
 | true=>exact e
theorem aGX(ha:PT X a tA)(hb:PW X (.BoolOp .And (b::rest) pos) tB'):PW X (.BoolOp .And (a::b::rest) pos) (aMt tA tB'):=by
 intro wh pins s σ H Q I h
 refine isTrue_and (thn (ha pins s σ H _ I h) λc s1 ⟨H1,I1,q1⟩=>?_)
 cases c with
 | true=>exact hb wh pins s1 σ H1 Q I1 q1
 | false=>exact⟨H1,I1,q1⟩
theorem aJj(ha:PT X a tA)(hb:PW X (.BoolOp .Or (b::rest) pos) tB'):PW X (.BoolOp .Or (a::b::rest) pos) (tOr tA tB'):=by
 intro wh pins s σ H Q I h
 refine isTrue_or (thn (ha pins s σ H _ I h) λc s1 ⟨H1,I1,q1⟩=>?_)
 cases c with
 | true=>exact⟨H1,I1,q1⟩
 | false=>exact hb wh pins s1 σ H1 Q I1 q1
theorem aGY(ha:PT X a tA):PT X (.UnaryOp .Not a pos) (aMu tA):=by
 intro pins s σ H Q I h
 exact isTrue_not (ha pins s σ H (λc H1=>Q (!c) H1) I h)
def aJk(ta tb:TE):TE:=λσ H Q=>ta σ H λx H1=>∃c,x=.bl c/\if c=true then tb σ H1 Q else Q (.bl false) H1
def aMv(ta tb:TE):TE:=λσ H Q=>ta σ H λx H1=>∃c,x=.bl c/\if c=true then Q (.bl true) H1 else tb σ H1 Q
theorem aCf{op}{t:TE}(h:PE X a t):PE X (.BoolOp op [a] pos) t:=λpins s σ H Q I hw=>BoolOp_one (h pins s σ H Q I hw)
theorem aGZ(ha:PE X a ta)(hb:PE X (.BoolOp .And (b::rest) pos) tb):PE X (.BoolOp .And (a::b::rest) pos) (aJk ta tb):=by
 intro pins s σ H Q I h
 refine BoolOp_and (thn (ha pins s σ H _ I h) λv s1 ⟨x,H1,I1,r1,q1⟩=>?_)
 obtain⟨c,rfl,q1⟩:=q1
 cases r1
 refine wpAny_truthy_bool ?_
 cases c with
 | true=>exact hb pins s1 σ H1 Q I1 q1
 | false=>exact⟨.bl false,H1,I1,rfl,q1⟩
theorem aJl(ha:PE X a ta)(hb:PE X (.BoolOp .Or (b::rest) pos) tb):PE X (.BoolOp .Or (a::b::rest) pos) (aMv ta tb):=by
 intro pins s σ H Q I h
 refine BoolOp_or (thn (ha pins s σ H _ I h) λv s1 ⟨x,H1,I1,r1,q1⟩=>?_)
 obtain⟨c,rfl,q1⟩:=q1
 cases r1
 refine wpAny_truthy_bool ?_
 cases c with
 | false=>exact hb pins s1 σ H1 Q I1 q1
 | true=>exact⟨.bl true,H1,I1,rfl,q1⟩
def tIf(t:TT)(ta tb:TE):TE:=λσ H Q=>t σ H λc H1=>if c=true then ta σ H1 Q else tb σ H1 Q
theorem aCg{c:Expr}(hc:PT X c tA)(ha:PE X a ta)(hb:PE X b tb):PE X (.IfExp c a b pos) (tIf tA ta tb):=by
 intro pins s σ H Q I h
 refine wpAny_IfExp (thn (hc pins s σ H _ I h) λd s1 ⟨H1,I1,q1⟩=>?_)
 cases d with
 | true=>exact ha pins s1 σ H1 Q I1 q1
 | false=>exact hb pins s1 σ H1 Q I1 q1
end
end L2
namespace L2
open PySem PySem.Spec PyProof.Rows
def SqL(K:PySem.W.Frag)(H:Hp)(a:Addr)(xs:List V):Prop:=
 Rd H a (.lst xs) \/
  ∃(o:Obj) (its:Array Value) (n:Nat),K.lookup a=some o/\o.cls=.type "list" /\ o.dict=none/\o.data=.seq its n/\its.size<=sizeLine/\aY xs its.toList
def SqT(K:PySem.W.Frag)(H:Hp)(a:Addr)(xs:List V):Prop:=
 Rd H a (.tup xs) \/
  ∃(o:Obj) (its:Array Value) (n:Nat),K.lookup a=some o/\o.cls=.type "tuple" /\ o.data=.seq its n/\its.size<=sizeLine/\aY xs its.toList
def aMw:Value->Option V
 | .none=>some .non
 | .bool b=>some (.bl b)
 | .int i _=>some (.int i)
 | .str x _=>some (.str x)
 | .bytes b _=>some (.byt b)
 | .float b _=>some (.flt b)
 | .ref a=>some (.ref a)
 | .type n=>some (.ty n)
 | _=>none
theorem cA.abs{x:V}{u:Value}(r:cA x u):aMw u=some x:=by
 cases x with
 | non=>cases r;rfl
 | bl _=>cases r;rfl
 | int _=>obtain⟨t,rfl⟩:=r;rfl
 | str _=>obtain⟨t,rfl⟩:=r;rfl
 | byt _=>obtain⟨t,rfl⟩:=r;rfl
 | flt _=>obtain⟨t,rfl⟩:=r;rfl
 | ref _=>cases r;rfl
 | ty _=>cases r;rfl
theorem cA.inj{x y:V}{u:Value}(r:cA x u)(q:cA y u):x=y:=Option.some.inj (r.abs.symm.trans q.abs)
theorem aY.inj:∀{xs ys:List V} {us:List Value},aY xs us->aY ys us->xs=ys
 | _,_,_,.nil,.nil=>rfl
 | _,_,_,.cons r t,.cons r' t'=>by rw[r.inj r',aY.inj t t']
section
variable {X:Cx} {pins:List (Addr×Obj)} {σ:St} {H:Hp} {s:Shared} {a:Addr} {xs ys:List V}
theorem SqL.of{K:PySem.W.Frag}(h:H a=some (.lst xs)):SqL K H a xs:=.inl (.inl h)
theorem SqT.of{K:PySem.W.Frag}(h:H a=some (.tup xs)):SqT K H a xs:=.inl (.inl h)
theorem Inv.list(I:Inv X pins σ H s)(h:SqL X.K H a xs):∃its:List Value,aY xs its/\PlainL s.heap a its.toArray/\xs.length<=sizeLine:=by
 rcases h with h|⟨o,its,n,hk,hc,hd,hs,hz,r⟩
 . obtain⟨z,its,n,r,e⟩:=h.ok I.hok
   exact⟨its,r,⟨_,n,e,rfl,rfl,rfl⟩,z⟩
 . refine⟨its.toList,r,⟨o,n,I.kIn a o hk,hc,hd,by simpa using hs⟩,?_⟩
   have e:=r.length
   simp only[Array.length_toList] at e
   omega
theorem Inv.tuple(I:Inv X pins σ H s)(h:SqT X.K H a xs):∃its:List Value,aY xs its/\IsTup s.heap a its.toArray/\xs.length<=sizeLine:=by
 rcases h with h|⟨o,its,n,hk,hc,hs,hz,r⟩
 . obtain⟨z,its,r,p⟩:=h.ok I.hok
   exact⟨its,r,p,z⟩
 . refine⟨its.toList,r,⟨o,I.kIn a o hk,hc,n,by simpa using hs⟩,?_⟩
   have e:=r.length
   simp only[Array.length_toList] at e
   omega
theorem Inv.list_inj(I:Inv X pins σ H s)(h:SqL X.K H a xs)(h':SqL X.K H a ys):xs=ys:=by
 obtain⟨its,r,⟨o,n,e,_,_,d⟩,_⟩:=I.list h
 obtain⟨its',r',⟨o',n',e',_,_,d'⟩,_⟩:=I.list h'
 rw[e] at e';cases e'
 rw[d] at d'
 injection d' with d1 _
 have:its=its':=by simpa using congrArg Array.toList d1
 subst this
 exact r.inj r'
theorem Inv.tuple_inj(I:Inv X pins σ H s)(h:SqT X.K H a xs)(h':SqT X.K H a ys):xs=ys:=by
 obtain⟨its,r,⟨o,e,_,n,d⟩,_⟩:=I.tuple h
 obtain⟨its',r',⟨o',e',_,n',d'⟩,_⟩:=I.tuple h'
 rw[e] at e';cases e'
 rw[d] at d'
 injection d' with d1 _
 have:its=its':=by simpa using congrArg Array.toList d1
 subst this
 exact r.inj r'
end
abbrev Cx.wish(X:Cx)(E:Value->Shared->Prop):Cx:={ X with xe:=E }
abbrev Cx.nox(X:Cx):Cx:=X.wish λ_ _=>False
theorem Cx.Ok.wish{X:Cx}(ok:X.Ok)(E:Value->Shared->Prop):(X.wish E).Ok:=
 ⟨ok.mod,ok.kind,ok.glob,ok.blt,ok.above,ok.inj,ok.has,ok.cab,ok.hd,ok.frames,ok.stk,ok.exf,ok.bs,ok.bsz,ok.noex,ok.exfs,ok.funs,ok.frf⟩
theorem Cx.Ok.unwish{X:Cx}{E:Value->Shared->Prop}(ok:(X.wish E).Ok):X.Ok:=
 ⟨ok.mod,ok.kind,ok.glob,ok.blt,ok.above,ok.inj,ok.has,ok.cab,ok.hd,ok.frames,ok.stk,ok.exf,ok.bs,ok.bsz,ok.noex,ok.exfs,ok.funs,ok.frf⟩
section
variable {X:Cx} {pins:List (Addr×Obj)} {σ:St} {H:Hp} {s:Shared} {E:Value->Shared->Prop}
theorem Inv.wish(I:Inv X pins σ H s)(E:Value->Shared->Prop):Inv (X.wish E) pins σ H s:=⟨I.ok.wish E,I.os,I.bare,I.base,I.loc,I.cell,I.free,I.freeC,I.pin,I.hok,I.len⟩
theorem Inv.unwish(I:Inv (X.wish E) pins σ H s):Inv X pins σ H s:=⟨I.ok.unwish,I.os,I.bare,I.base,I.loc,I.cell,I.free,I.freeC,I.pin,I.hok,I.len⟩
theorem SP.unwish{D:Ends}{f:Flow}{s':Shared}(h:SP (X.wish E) pins D f s'):SP X pins D f s':=by
 cases f with
 | next=>obtain⟨σ',H',I,q⟩:=h;exact⟨σ',H',I.unwish,q⟩
 | brk=>obtain⟨σ',H',I,q⟩:=h;exact⟨σ',H',I.unwish,q⟩
 | cont=>obtain⟨σ',H',I,q⟩:=h;exact⟨σ',H',I.unwish,q⟩
 | ret u=>obtain⟨v,σ',H',I,r,q⟩:=h;exact⟨v,σ',H',I.unwish,r,q⟩
theorem PSs.nox{st:List Stmt}{t:TS}(h:PSs X.nox st t):PSs X st t:=λpins s σ H D I hw=>
 wpAny_mono (h pins s σ H D (I.wish _) hw) (λ_ _ q=>q.unwish) λ_ _ z=>False.elim z
end
section
variable {X:Cx} {st:Stmt} {rest:List Stmt} {t u:TS} {e:Expr} {te:TE} {pos:Pos}
def aGo:TS:=λD σ H=>D.nx σ H
def aMx(t u:TS):TS:=λD σ H=>t { D with nx:=u D } σ H
theorem aEP:PSs X [] aGo:=λ_ _ σ H _ I h=>wpAny_execs_nil ⟨σ,H,I,h⟩
theorem aCh(h1:PS X st t)(h2:PSs X rest u):PSs X (st::rest) (aMx t u):=by
 intro pins s σ H D I h
 refine wpAny_execs_cons (thn (h1 pins s σ H { D with nx:=u D } I h) λf s1 q=>?_)
 cases f with
 | next=>
  obtain⟨σ',H',I',q⟩:=q
  exact h2 pins s1 σ' H' D I' q
 | ret v=>exact q
 | brk=>exact q
 | cont=>exact q
def aHa:TS:=λD σ H=>D.bk σ H
def aJm:TS:=λD σ H=>D.ct σ H
theorem aEQ:PS X (.Pass pos) aGo:=λ_ _ σ H _ I h=>wpAny_Pass ⟨σ,H,I,h⟩
theorem aCi:PS X (.Break pos) aHa:=λ_ _ σ H _ I h=>wpAny_Break ⟨σ,H,I,h⟩
theorem uR:PS X (.Continue pos) aJm:=λ_ _ σ H _ I h=>wpAny_Continue ⟨σ,H,I,h⟩
theorem Inv.quiet{pins:List (Addr×Obj)}{σ:St}{H:Hp}{s:Shared}(I:Inv X pins σ H s):interactive X.env=false:=by simp[interactive,I.ok.kind]
def aJn(te:TE):TS:=λD σ H=>te σ H λ_ H1=>D.nx σ H1
theorem kI(he:PE X e te)(hs:swapsWith e none pos.line X.env=pure false:=by rfl):PS X (.Expr e pos) (aJn te):=by
 intro pins s σ H D I h
 exact wpAny_Expr_any (thn (he pins s σ H _ I h) λv s1 ⟨x,H1,I1,r1,q1⟩=>⟨σ,H1,I1,q1⟩) I.quiet hs
def aMy(te:TE):TS:=λD σ H=>te σ H D.rt
theorem aCj(he:PE X e te):PS X (.Return (some e) pos) (aMy te):=by
 intro pins s σ H D I h
 exact wpAny_Return_some (thn (he pins s σ H _ I h) λv s1 ⟨x,H1,I1,r1,q1⟩=>⟨x,σ,H1,I1,r1,q1⟩)
def aJo:TS:=λD _ H=>D.rt .non H
theorem aER:PS X (.Return none pos) aJo:=λ_ _ σ H _ I h=>wpAny_Return_none ⟨.non,σ,H,I,rfl,h⟩
def aMz(c:TT)(t u:TS):TS:=λD σ H=>c σ H λb H1=>if b=true then t D σ H1 else u D σ H1
theorem aJp{c:Expr}{a b:List Stmt}{tc:TT}(hc:PT X c tc)(ha:PSs X a t)(hb:PSs X b u):PS X (.If c a b pos) (aMz tc t u):=by
 intro pins s σ H D I h
 refine wpAny_If (thn (hc pins s σ H _ I h) λd s1 ⟨H1,I1,q1⟩=>?_)
 cases d with
 | true=>exact ha pins s1 σ H1 D I1 q1
 | false=>exact hb pins s1 σ H1 D I1 q1
def aHb:TS:=λ_ _ _=>False
theorem aCk:PS X st aHb:=λ_ _ _ _ _ _ h=>h.elim
end
abbrev TG:=V->St->Hp->(St->Hp->Prop)->Prop
abbrev TGs:=List V->St->Hp->(St->Hp->Prop)->Prop
def PG(X:Cx)(target:Expr)(t:TG):Prop:=
 ∀(pins:List (Addr×Obj)) (s:Shared) (σ:St) (H:Hp) (v:V) (u:Value) (Q:St->Hp->Prop),Inv X pins σ H s->cA v u->t v σ H Q ->
  wpAny (model X.prog X.w) X.A (assign target X.env u) (λ_ s'=>∃σ' H',Inv X pins σ' H' s'/\Q σ' H') X.xe s
def PGs(X:Cx)(ts:List Expr)(t:TGs):Prop:=
 ∀(pins:List (Addr×Obj)) (s:Shared) (σ:St) (H:Hp) (vs:List V) (us:List Value) (Q:St->Hp->Prop),Inv X pins σ H s->aY vs us->t vs σ H Q ->
  wpAny (model X.prog X.w) X.A (assignInOrder ((assignEach ts X.env).map (·.2)) us) (λ_ s'=>∃σ' H',Inv X pins σ' H' s'/\Q σ' H') X.xe s
abbrev aHc:=V->V->V->Hp->(Hp->Prop)->Prop
def aHd(X:Cx)(t:aHc):Prop:=
 ∀(pins:List (Addr×Obj)) (s:Shared) (σ:St) (H:Hp) (o i v:V) (ov iv u:Value) (Q:Hp->Prop),Inv X pins σ H s->cA o ov->cA i iv->cA v u->t o i v H Q ->
  wpAny (model X.prog X.w) X.A (setItem ov iv u) (λ_ s'=>∃H',Inv X pins σ H' s'/\Q H') X.xe s
section
variable {X:Cx} {pos:Pos}
def qQ(i:Nat):TG:=λv σ H Q=>Q (σ.set i (some v)) H
theorem aAa{i:Nat}{x:Str}(hN:X.N.Nodup)(hi:X.N[i]? = some x)(hx:Loc X.env.scope x)(hf:X.fn x=true\/X.env.scope.names.lookup x=some .local:=by first|exact .inl rfl|exact .inr rfl|assumption):PG X (.Name x pos) (qQ i):=by
 intro pins s σ H v u Q I r h
 exact wpAny_assign_Name (uQ I hN hi hx r (λs' I'=>⟨_,H,I',h⟩) hf)
def aJq:TGs:=λvs σ H Q=>vs=[]/\Q σ H
def aGp(t:TG)(u:TGs):TGs:=λvs σ H Q=>∃v r,vs=v::r/\t v σ H λσ' H'=>u r σ' H' Q
theorem aES:PGs X [] aJq:=by
 intro pins s σ H vs us Q I r h
 obtain⟨e,h⟩:=h
 subst e
 cases r
 exact assignInOrder_nil ⟨σ,H,I,h⟩
theorem aCl{e:Expr}{es:List Expr}{t:TG}{u:TGs}(h1:PG X e t)(h2:PGs X es u)
 (hs:(assignEach (e::es) X.env).map (·.2)=assign e X.env::(assignEach es X.env).map (·.2):=by rfl):PGs X (e::es) (aGp t u):=by
 intro pins s σ H vs us Q I r h
 obtain⟨v,vr,e1,h⟩:=h
 subst e1
 cases r with
 | cons r rr=>
  rw[hs]
  refine assignInOrder_cons (thn (h1 pins s σ H _ _ _ I r h) λ_ s1 ⟨σ1,H1,I1,q1⟩=>?_)
  exact h2 pins s1 σ1 H1 _ _ Q I1 rr q1
def aJr(K:PySem.W.Frag)(n:Nat)(t:TGs):TG:=λv σ H Q=>∃a xs,v=.ref a/\SqT K H a xs/\xs.length=n/\t xs σ H Q
theorem aHe{es:List Expr}{k:Nat}{t:TGs}{n:Nat}(hc:X.calm=true)(h:PGs X es t)
 (hn:(assignEach es X.env).length=n:=by rfl) (hst:(assignEach es X.env).findIdx? (·.1)=none:=by rfl):PG X (.Tuple es k pos) (aJr X.K n t):=by
 intro pins s σ H v u Q I r hw
 obtain⟨a,xs,e1,hq,hl,hw⟩:=hw
 subst e1
 cases r
 obtain⟨its,rv,ht,hz⟩:=I.tuple hq
 refine assign_Tuple_tuple (I.ok.hd hc) ht (by simp[hn,<-hl,rv.length]) hst λh' hx=>?_
 have I1:Inv X pins σ H { s with heap:=h' }:=I.kept (t':=s.toks) λb o e=>hx b o (Nat.ne_of_lt (Heap.lt_size e)) e
 exact h pins _ σ H xs _ Q I1 (by simpa using rv) hw
def aMA(to ti:TE)(t:aHc):TG:=λv σ H Q=>to σ H λo H1=>ti σ H1 λi H2=>t o i v H2 λH3=>Q σ H3
theorem aCm{o i:Expr}{to ti:TE}{t:aHc}(ho:PE X o to)(hi:PE X i ti)(hs:aHd X t)
 (ha:∀v,assign (.Subscript o i pos) X.env v=(do
  let ov<-holding [v] (eval o X.env)
  let iv<-holding [v,ov] (eval i X.env)
  standAt pos
  holding [v,ov,iv] (setItem ov iv v)
  release [v,ov,iv] []):=by intro _;rfl):PG X (.Subscript o i pos) (aMA to ti t):=by
 intro pins s σ H v u Q I r h
 rw[ha]
 refine wpAny_bind (wpAny_holding (thn (ho pins s σ H _ I h) λov s1 ⟨x,H1,I1,r1,q1⟩=>?_))
 refine wpAny_bind (wpAny_holding (thn (hi pins s1 σ H1 _ I1 q1) λiv s2 ⟨y,H2,I2,r2,q2⟩=>?_))
 refine wpAny_bind (wpAny_standAt (wpAny_bind (wpAny_holding (thn (hs pins s2 σ H2 x y v ov iv u _ I2 r1 r2 r q2) λ_ s3 ⟨H3,I3,q3⟩=>?_))))
 exact wpAny_release ⟨σ,H3,I3,q3⟩
def aHf(te:TE)(g:TG):TS:=λD σ H=>te σ H λx H1=>g x σ H1 D.nx
theorem xN{tg e:Expr}{te:TE}{g:TG}(he:PE X e te)(hg:PG X tg g)(hs:swapsWithSole [tg] e pos.line X.env=pure false:=by rfl)(hw:swappedStores [tg] e X.env=pure none:=by rfl)
 (h1:(assignEach [tg] X.env).map (·.2)=[assign tg X.env]:=by rfl):PS X (.Assign [tg] e pos) (aHf te g):=by
 intro pins s σ H D I h
 refine wpAny_Assign_stores (thn (he pins s σ H _ I h) λv s1 ⟨x,H1,I1,r1,q1⟩=>?_) hs hw
 rw[h1]
 exact thn (hg pins s1 σ H1 x v _ I1 r1 q1) λ_ s2 q=>q
theorem lJ{i:Nat}{x:Str}{e:Expr}{te:TE}{pos':Pos}(hN:X.N.Nodup)(hi:X.N[i]? = some x)(hx:Loc X.env.scope x)(he:PE X e te)(hs:swapsWith e (some (.Name x pos')) pos.line X.env=pure false:=by rfl)(hf:X.fn x=true\/X.env.scope.names.lookup x=some .local:=by first|exact .inl rfl|exact .inr rfl|assumption) :
 PS X (.Assign [.Name x pos'] e pos) (aHf te (qQ i)):=by
 intro pins s σ H D I h
 refine wpAny_Assign_Name (thn (he pins s σ H _ I h) λv s1 ⟨y,H1,I1,r1,q1⟩=>?_) hs
 exact uQ I1 hN hi hx r1 (λs2 I2=>⟨_,H1,I2,q1⟩) hf
end
section
variable {X:Cx} {pos:Pos}
def aHg(c:TT)(tb:TS):TS:=λD σ H=>∃W:Nat->St->Hp->Prop,(∃m,W m σ H)/\∀m σ H,W m σ H ->
 c σ H λb H1=>if b=true then ∃N:St->Hp->Prop,(∀σ' H',N σ' H'->∃m',m'<m/\W m' σ' H')/\tb { D with nx:=N,ct:=N,bk:=D.nx } σ H1 else D.nx σ H1
theorem aCn{c:Expr}{body:List Stmt}{tc:TT}{tb:TS}(hp:PassesOwn (model X.prog X.w) X.A X.env X.xe)(hc:PT X c tc)(hb:PSs X body tb):PS X (.While c body [] pos) (aHg tc tb):=by
 intro pins s σ H D I h
 obtain⟨W,⟨m0,w0⟩,turn⟩:=h
 refine wpAny_While (codeAny_whileLoop (λn s'=>∃σ' H',Inv X pins σ' H' s'/\W n σ' H') ?_ m0 ⟨σ,H,I,w0⟩)
 rintro n s1 ⟨σ1,H1,I1,w1⟩
 refine wpAny_passesOwn hp (thn (hc pins s1 σ1 H1 _ I1 (turn n σ1 H1 w1)) λb s2 ⟨H2,I2,q2⟩=>?_)
 cases b with
 | true=>
  obtain⟨N,hN,q2⟩:=q2
  rw[if_pos rfl]
  refine wpAny_passesOwn hp (thn (hb pins s2 σ1 H2 _ I2 q2) λf s3 q3=>?_)
  cases f with
  | next=>
   obtain⟨σ3,H3,I3,n3⟩:=q3
   obtain⟨m',hm,w3⟩:=hN σ3 H3 n3
   exact⟨m',hm,σ3,H3,I3,w3⟩
  | cont=>
   obtain⟨σ3,H3,I3,n3⟩:=q3
   obtain⟨m',hm,w3⟩:=hN σ3 H3 n3
   exact⟨m',hm,σ3,H3,I3,w3⟩
  | brk=>exact q3
  | ret v=>exact q3
 | false=>
  rw[if_neg Bool.false_ne_true]
  exact wpAny_execs_nil ⟨σ1,H2,I2,q2⟩
end
structure It where
 go:Nat->Hp->Prop
 yld:Nat->Hp->V->Hp->Prop
 stop:Nat->Hp->Prop
def kJ(X:Cx)(pins:List (Addr×Obj))(H:Hp)(b:Addr):Prop:=
 H b=none/\b≠X.env.locals/\b∉X.fs/\(b∈X.ex\/X.s₀.heap.objs.size<=b)/\(∀x c,X.env.cells.lookup x=some c->c≠b)/\∀p∈X.pn++pins,p.1≠b
theorem Inv.fpOk{X:Cx}{pins:List (Addr×Obj)}{σ:St}{H H':Hp}{s:Shared}{b:Addr}(I:Inv X pins σ H s)(hb:s.heap.objs.size<=b)(hn:H' b=none):kJ X pins H' b:=by
 refine⟨hn,Nat.ne_of_gt (Nat.lt_of_lt_of_le I.lt hb),I.nofs hb,.inr (Nat.le_trans I.sz hb),λx c e z=>?_,λp hp z=>?_⟩
 . obtain⟨v,q⟩:=I.cell x c e
   exact absurd (Nat.lt_of_lt_of_le q.lt (by rw[z];exact hb)) (Nat.lt_irrefl _)
 . exact absurd (Nat.lt_of_lt_of_le (Heap.lt_size (I.pin p hp).1) (by rw[z];exact hb)) (Nat.lt_irrefl _)
structure xO (P:Program) (w:World) (K:PySem.W.Frag) (tg:Expr) (J:It) (fp:List Addr) (it:Addr) (tn:Nat->Heap->Prop):Prop where
 mem:it∈fp
 obj:∀i h,tn i h->∀b∈fp,∃o,h.get? b=some o/\∀v,o.data≠.cell v
 keep:∀i h h',tn i h->(∀b∈fp,∀o,h.get? b=some o->h'.get? b=some o)->tn i h'
 item:∀(X:Cx),X.prog=P->X.w=w->X.K=K->X.calm=true->∀(i:Nat) (pins:List (Addr×Obj)) (s:Shared) (σ:St) (H:Hp) (E:Value->Shared->Prop),Inv X pins σ H s->(∀b∈fp,kJ X pins H b)->tn i s.heap->J.go i H ->
  wpAny (model P w) X.A (pyNext (.ref it)) (λr s1=>∃u,r=some u /\
   wpAny (model P w) X.A (letOwnedTupleGo tg (.ref it) u) (λ_ s2=>∃x H',Inv X pins σ H' s2/\cA x u/\J.yld i H x H'/\tn (i+1) s2.heap/\∀b∈fp,H' b=none) E s1) E s
 done:∀(X:Cx),X.prog=P->X.w=w->X.K=K->X.calm=true->∀(i:Nat) (pins:List (Addr×Obj)) (s:Shared) (σ:St) (H:Hp) (E:Value->Shared->Prop),Inv X pins σ H s->(∀b∈fp,kJ X pins H b)->tn i s.heap->J.stop i H ->
  wpAny (model P w) X.A (pyNext (.ref it)) (λr s1=>r=none/\Inv X pins σ H s1) E s
 self:∀(A:Around) (i:Nat) (s:Shared) (Q:Value->Shared->Prop) (E:Value->Shared->Prop),tn i s.heap->Q (.ref it) s->wpAny (model P w) A (pyIter (.ref it)) Q E s
abbrev TI:=St->Hp->(It->Hp->Prop)->Prop
def PIE(X:Cx)(pins:List (Addr×Obj))(σ:St)(tg:Expr)(R:It->Hp->Prop)(itv:Value)(s2:Shared):Prop:=
 ∃(it:Addr) (fp:List Addr) (tn:Nat->Heap->Prop) (J:It) (H':Hp),itv=.ref it/\Inv X pins σ H' s2/\xO X.prog X.w X.K tg J fp it tn/\tn 0 s2.heap/\(∀b∈fp,kJ X pins H' b)/\R J H'
def PI(X:Cx)(tg iter:Expr)(wi:TI):Prop:=
 ∀(pins:List (Addr×Obj)) (s:Shared) (σ:St) (H:Hp) (R:It->Hp->Prop),Inv X pins σ H s->wi σ H R ->
  wpAny (model X.prog X.w) X.A (eval iter X.env) (λv s1=>wpAny (model X.prog X.w) X.A (pyIter v) (PIE X pins σ tg R) X.xe s1) X.xe s
theorem nP{M:Model}{A:Around}{E:Value->Shared->Prop}{s:Shared}{tg:Expr}{it:Addr}{u:Value}{o:Obj}{n:String}{vs:Array Value}{Q:Unit->Shared->Prop}(ho:s.heap.get? it=some o)(hc:o.cls=.type n)(hd:o.data=.fields vs)
 (hn:["enumerate", "zip", "dict_itemiterator", "dict_reverseitemiterator", "odict_iterator", "itertools.zip_longest", "itertools.pairwise"].contains n=false) (hQ:Q () s):wpAny M A (letOwnedTupleGo tg (.ref it) u) Q E s:=by
 unfold letOwnedTupleGo
 cases tg <;> first
  | exact wpAny_pure hQ
  | (cases u <;> first
   | exact wpAny_pure hQ
   | (refine wpAny_bind (wpAny_load ho ?_)
      rw[hc,hd]
      show wpAny M A (if (["enumerate", "zip", "dict_itemiterator", "dict_reverseitemiterator", "odict_iterator", "itertools.zip_longest", "itertools.pairwise"].contains n&&vs[0]?==some (rawInt _))=true then _ else _) Q E s
      rw[if_neg (by intro h;rw[hn,Bool.false_and] at h;cases h)]
      exact wpAny_pure hQ))
def Itl(K:PySem.W.Frag)(a:Addr):It:=
 ⟨λi H=>∃xs x,SqL K H a xs/\xs[i]? = some x,λi H x H'=>H'=H/\∀xs,SqL K H a xs->xs[i]? = some x,λi H=>∃xs,SqL K H a xs/\xs.length<=i⟩
def Itt(K:PySem.W.Frag)(a:Addr):It:=
 ⟨λi H=>∃xs x,SqT K H a xs/\xs[i]? = some x,λi H x H'=>H'=H/\∀xs,SqT K H a xs->xs[i]? = some x,λi H=>∃xs,SqT K H a xs/\xs.length<=i⟩
def Itr(lo:Int)(n:Nat):It:=⟨λi _=>i<n,λi H x H'=>H'=H/\x=.int (lo+i),λi _=>n<=i⟩
theorem aBe{P:Program}{w:World}{K:PySem.W.Frag}{tg:Expr}(a it:Addr):xO P w K tg (Itl K a) [it] it (λi h=>h.IsListIter it a i) where
 mem:=by simp
 obj:=λi h st b hb=>by
  have e:b=it:=by simpa using hb
  subst e
  obtain⟨o,e,c,d⟩:=st
  exact⟨o,e,λv z=>by rw[d] at z;cases z⟩
 keep:=λi h h' st k=>st.at λo e=>k it (by simp) o e
 item:=by
  intro X hP hw hK hc i pins s σ H E I hf st hg
  subst hP hw hK
  obtain⟨xs,x,hq,hx⟩:=hg
  obtain⟨its,rv,p,hz⟩:=I.list hq
  obtain⟨u,hu,ru⟩:=rv.get hx
  obtain⟨f0,f1,f2,f3,f4,f5⟩:=hf it (by simp)
  refine wpAny_pyNext_list_item st p.isList (x:=u) (by simpa using hu) λh' st' sb=>?_
  have I1:Inv X pins σ H { s with heap:=h' }:=I.turned (t':=s.toks) (λb o hb e=>(sb.2 b hb).trans e) f0 f1 f3 f4 f5
  obtain⟨o,e,c,d⟩:=id st'
  exact⟨u,rfl,nP (s:={ s with heap:=h' }) e c d (by decide) ⟨x,H,I1,ru,⟨rfl,λys hy=>by rw[I.list_inj hy hq];exact hx⟩,st',λb hb=>(hf b hb).1⟩⟩
 done:=by
  intro X hP hw hK hc i pins s σ H E I hf st hg
  subst hP hw hK
  obtain⟨xs,hq,hx⟩:=hg
  obtain⟨its,rv,p,hz⟩:=I.list hq
  obtain⟨f0,f1,f2,f3,f4,f5⟩:=hf it (by simp)
  have hl:=rv.length
  exact wpAny_pyNext_list_end (I.ok.hd hc) st p.isList (by simp;omega) λh' eb=>⟨rfl,I.turned (t':=s.toks) (λb o hb e=>eb b o hb e) f0 f1 f3 f4 f5⟩
 self:=λ_ _ _ _ _ st h=>wpAny_pyIter_listiter st h
theorem xP{P:Program}{w:World}{K:PySem.W.Frag}{tg:Expr}(a it:Addr):xO P w K tg (Itt K a) [it] it (λi h=>h.IsTupleIter it a i) where
 mem:=by simp
 obj:=λi h st b hb=>by
  have e:b=it:=by simpa using hb
  subst e
  obtain⟨o,e,c,d⟩:=st
  exact⟨o,e,λv z=>by rw[d] at z;cases z⟩
 keep:=λi h h' st k=>st.at λo e=>k it (by simp) o e
 item:=by
  intro X hP hw hK hc i pins s σ H E I hf st hg
  subst hP hw hK
  obtain⟨xs,x,hq,hx⟩:=hg
  obtain⟨its,rv,p,hz⟩:=I.tuple hq
  obtain⟨u,hu,ru⟩:=rv.get hx
  obtain⟨f0,f1,f2,f3,f4,f5⟩:=hf it (by simp)
  refine wpAny_pyNext_tuple_item st (show s.heap.IsTuple a its.toArray from p) (x:=u) (by simpa using hu) λh' st' sb=>?_
  have I1:Inv X pins σ H { s with heap:=h' }:=I.turned (t':=s.toks) (λb o hb e=>(sb.2 b hb).trans e) f0 f1 f3 f4 f5
  obtain⟨o,e,c,d⟩:=id st'
  exact⟨u,rfl,nP (s:={ s with heap:=h' }) e c d (by decide) ⟨x,H,I1,ru,⟨rfl,λys hy=>by rw[I.tuple_inj hy hq];exact hx⟩,st',λb hb=>(hf b hb).1⟩⟩
 done:=by
  intro X hP hw hK hc i pins s σ H E I hf st hg
  subst hP hw hK
  obtain⟨xs,hq,hx⟩:=hg
  obtain⟨its,rv,p,hz⟩:=I.tuple hq
  obtain⟨f0,f1,f2,f3,f4,f5⟩:=hf it (by simp)
  have hl:=rv.length
  exact wpAny_pyNext_tuple_end (I.ok.hd hc) st (show s.heap.IsTuple a its.toArray from p) (by simp;omega) λh' eb=>⟨rfl,I.turned (t':=s.toks) (λb o hb e=>eb b o hb e) f0 f1 f3 f4 f5⟩
 self:=λ_ _ _ _ _ st h=>wpAny_pyIter_tupleiter st h
theorem xQ{P:Program}{w:World}{K:PySem.W.Frag}{tg:Expr}(it:Addr)(lo:Int)(n:Nat):xO P w K tg (Itr lo n) [it] it (λi h=>IsRangeIter h it (lo+(i:Nat)*1) ((n:Int)-(i:Nat)) 1) where
 mem:=by simp
 obj:=λi h st b hb=>by
  have e:b=it:=by simpa using hb
  subst e
  exact⟨_,st,λv z=>by
   have z':Data.fields _=Data.cell v:=z
   cases z'⟩
 keep:=λi h h' st k=>k it (by simp) _ st
 item:=by
  intro X hP hw hK hc i pins s σ H E I hf st hg
  subst hP hw hK
  obtain⟨f0,f1,f2,f3,f4,f5⟩:=hf it (by simp)
  have W:=Walks.range (prog:=X.prog) (w:=X.w) (I.ok.hd hc) it lo 1 n
  refine W.item i s _ _ hg st λv h' tk hv st' kk=>?_
  obtain⟨t,rfl⟩:=hv
  have I1:Inv X pins σ H { s with heap:=h',toks:=tk }:=I.turned (λb o hb e=>kk b o (by simpa using hb) e) f0 f1 f3 f4 f5
  refine⟨_,rfl,nP (s:={ s with heap:=h',toks:=tk }) (n:= "range_iterator") st' rfl rfl (by decide) ⟨.int (lo+i),H,I1,⟨t,?_⟩,⟨rfl,rfl⟩,st',λb hb=>(hf b hb).1⟩⟩
  rw[Int.mul_one]
 done:=by
  intro X hP hw hK hc i pins s σ H E I hf st hg
  subst hP hw hK
  obtain⟨f0,f1,f2,f3,f4,f5⟩:=hf it (by simp)
  exact wpAny_pyNext_range_end (I.ok.hd hc) st (by have:n<=i:=hg;omega) λh' eb=>⟨rfl,I.turned (t':=s.toks) (λb o hb e=>eb b o hb e) f0 f1 f3 f4 f5⟩
 self:=λ_ _ _ _ _ st h=>wpAny_pyIter_rangeiter st h
end L2
namespace L2
open PySem PySem.Spec PyProof.Rows
section
variable {X:Cx} {tg:Expr}
theorem uS{pins:List (Addr×Obj)}{σ:St}{H:Hp}{s:Shared}{R:It->Hp->Prop}{E:Value->Shared->Prop}{lo hi:Int}{t u v:Tok}{tk:Nat}(I:Inv X pins σ H s)(h1:-(2 ^ 62)<=lo)(h2:lo<2 ^ 62)(h3:-(2 ^ 62)<=hi)(h4:hi<2 ^ 62)
 (q:R (Itr lo (hi-lo).toNat) H):wpAny (model X.prog X.w) X.A (pyIter (.ref s.heap.objs.size)) (PIE X pins σ tg R) E { s with heap:=s.heap.push { cls:=.type "range",data:=.fields #[.int lo t,.int hi u,.int 1 v] },toks:=tk }:=by
 refine wpAny_pyIter_range (IsRange.new ..) (small_one h1 h2 h3 h4) ?_
 have I1:Inv X pins σ H { s with heap:=s.heap.push { cls:=.type "range",data:=.fields #[.int lo t,.int hi u,.int 1 v] },toks:=tk }:=I.kept λb o e=>Heap.get?_push_of_some _ e
 refine⟨(s.heap.push { cls:=.type "range",data:=.fields #[.int lo t,.int hi u,.int 1 v] }).objs.size,[(s.heap.push { cls:=.type "range",data:=.fields #[.int lo t,.int hi u,.int 1 v] }).objs.size],_,_,H,rfl,
  I1.kept (t':=tk) λb o e=>Heap.get?_push_of_some _ e,xQ _ lo (hi-lo).toNat,?_,λb hb=>?_,q⟩
 . have e1:lo+((0:Nat):Int)*1=lo:=by simp
   have e2:(((hi-lo).toNat:Nat):Int)-((0:Nat):Int)=Builtin.Range.rangeSize lo hi 1:=by rw[rangeSize_one];split <;> omega
   show IsRangeIter _ _ (lo+((0:Nat):Int)*1) ((((hi-lo).toNat:Nat):Int)-((0:Nat):Int)) 1
   rw[e1,e2]
   exact Heap.get?_push_size _ rfl
 . have e:b=(s.heap.push { cls:=.type "range",data:=.fields #[.int lo t,.int hi u,.int 1 v] }).objs.size:=by simpa using hb
   subst e
   exact I1.fpOk (Nat.le_refl _) (I1.hok.fresh (Nat.le_refl _))
def aJs(ta:TA):TI:=λσ H R=>ta σ H λvs H1=>∃j:Int,vs=[.int j]/\-(2 ^ 62)<=j/\j<2 ^ 62/\R (Itr 0 j.toNat) H1
def aJt(ta:TA):TI:=λσ H R=>ta σ H λvs H1=>∃i j:Int,vs=[.int i,.int j]/\(-(2 ^ 62)<=i/\i<2 ^ 62/\-(2 ^ 62)<=j/\j<2 ^ 62)/\R (Itr i (j-i).toNat) H1
theorem aBf{a:Expr}{ta:TA}{p pos:Pos}(hg:Gl X "range")(hm:X.mg "range" = none)(ha:PA X [a] ta)(hs:starEach [a] X.env=[(false,eval a X.env)]:=by rfl):PI X tg (.Call (.Name "range" p) [a] [] pos) (aJs ta):=by
 intro pins s σ H R I h
 refine Call_ (jS I hg hm boot_range (PyProof.Rows.callWith_type1 (thn (ha pos pins s σ H _ I h) λus s1 ⟨vs,H1,I1,r1,q1⟩=>?_) hs rfl))
 obtain⟨j,e,q1,q2,q⟩:=q1
 subst e
 cases r1 with
 | cons r rr=>
  cases rr
  obtain⟨t,rfl⟩:=r
  exact call_range_1 (uS I1 (by omega) (by omega) q1 q2 (by simpa using q))
theorem aBg{a b:Expr}{ta:TA}{p pos:Pos}(hg:Gl X "range")(hm:X.mg "range" = none)(ha:PA X [a,b] ta)(hs:starEach [a,b] X.env=[(false,eval a X.env),(false,eval b X.env)]:=by rfl)(hs2:starEach [b] X.env=[(false,eval b X.env)]:=by rfl) :
 PI X tg (.Call (.Name "range" p) [a,b] [] pos) (aJt ta):=by
 intro pins s σ H R I h
 refine Call_ (jS I hg hm boot_range (PyProof.Rows.callWith_type1 (thn (ha pos pins s σ H _ I h) λus s1 ⟨vs,H1,I1,r1,q1⟩=>?_) (by rw[hs,hs2]) (by rw[hs2];rfl)))
 obtain⟨i,j,e,⟨q1,q2,q3,q4⟩,q⟩:=q1
 subst e
 cases r1 with
 | cons r rr=>
  cases rr with
  | cons r' rr=>
   cases rr
   obtain⟨t,rfl⟩:=r
   obtain⟨t',rfl⟩:=r'
   exact call_range_2 (uS I1 q1 q2 q3 q4 q)
def aMB(wi:TI)(g:TG)(tb:TS):TS:=λD σ H=>wi σ H λJ H1=>∃W:Nat->Nat->St->Hp->Prop,(∃m,W 0 m σ H1)/\∀i m σ H,W i m σ H ->
 (J.stop i H/\D.nx σ H)\/(J.go i H/\∃N:St->Hp->Prop,(∀σ' H',N σ' H'->∃m',m'<m/\W (i+1) m' σ' H')/\∀x H',J.yld i H x H'->g x σ H' λσ2 H2=>tb { D with nx:=N,ct:=N,bk:=D.nx } σ2 H2)
def nQ(fp:List Addr)(h:Heap):List (Addr×Obj):=fp.filterMap λb=>(h.get? b).map λo=>(b,o)
theorem gH{fp:List Addr}{h:Heap}{b:Addr}{o:Obj}(hb:b∈fp)(e:h.get? b=some o):(b,o)∈nQ fp h:=List.mem_filterMap.mpr ⟨b,hb,by rw[e];rfl⟩
theorem aBh{fp:List Addr}{h:Heap}{p:Addr×Obj}(hp:p∈nQ fp h):p.1∈fp/\h.get? p.1=some p.2:=by
 obtain⟨b,hb,e⟩:=List.mem_filterMap.mp hp
 cases q:h.get? b with
 | none=>rw[q] at e;cases e
 | some o=>
  rw[q] at e
  have e':(b,o)=p:=Option.some.inj e
  subst e'
  exact⟨hb,q⟩
theorem Inv.pinned{pins:List (Addr×Obj)}{σ:St}{H:Hp}{s:Shared}{fp:List Addr}(I:Inv X pins σ H s)(hf:∀b∈fp,kJ X pins H b)(ho:∀b∈fp,∃o,s.heap.get? b=some o/\∀v,o.data≠.cell v):Inv X (pins++nQ fp s.heap) σ H s:=
 I.pins_of λp hp=>(List.mem_append.mp hp).elim (λz=>I.pin p (List.mem_append_right _ z)) λz=>by
  obtain⟨hb,e⟩:=aBh z
  obtain⟨f0,f1,f2,_⟩:=hf p.1 hb
  obtain⟨o,e',d⟩:=ho p.1 hb
  rw[e] at e';cases e'
  exact⟨e,f0,f1,f2,d⟩
theorem Inv.unpinned{pins pl:List (Addr×Obj)}{σ:St}{H:Hp}{s:Shared}(I:Inv X (pins++pl) σ H s):Inv X pins σ H s:=I.pins_of λp hp=>I.pin p (List.mem_append_right _ (List.mem_append_left _ hp))
theorem aHh{iter:Expr}{body:List Stmt}{wi:TI}{g:TG}{tb:TS}{pos:Pos}(hp:PassesOwn (model X.prog X.w) X.A X.env X.xe)(hc:X.calm=true)(hi:PI X tg iter wi)(hg:PG X tg g)(hb:PSs X body tb)
 (hs:∀x,foldedSetIterable iter X.env x=pure x:=by intro _;rfl):PS X (.For tg iter body [] pos) (aMB wi g tb):=by
 intro pins s σ H D I h
 refine wpAny_For (thn (hi pins s σ H _ I h) λv s1 h1=>thn h1 λitv s2 h2=>?_) hs
 obtain⟨it,fp,tn,J,H2,e,I2,T,st2,f2,W,⟨m0,w0⟩,turn⟩:=h2
 subst e
 have stat:∀{H':Hp},(∀b∈fp,H' b=none)->∀b∈fp,kJ X pins H' b:=λhn b hb=>⟨hn b hb,(f2 b hb).2⟩
 refine codeAny_forLoop_any (λn s'=>∃i σ' H',Inv X pins σ' H' s'/\tn i s'.heap/\(∀b∈fp,H' b=none)/\W i n σ' H') ?_ m0 ⟨0,σ,H2,I2,st2,λb hb=>(f2 b hb).1,w0⟩
 rintro n s3 ⟨i,σ3,H3,I3,st3,fr3,w3⟩
 rcases turn i n σ3 H3 w3 with⟨stop,qn⟩|⟨go,N,hN,step⟩
 . refine wpAny_passesOwn hp (thn (T.done X rfl rfl rfl hc i pins s3 σ3 H3 X.xe I3 (stat fr3) st3 stop) λr s4 ⟨hr,I4⟩=>?_)
   subst hr
   exact wpAny_execs_nil ⟨σ3,H3,I4,qn⟩
 . refine wpAny_passesOwn hp (thn (T.item X rfl rfl rfl hc i pins s3 σ3 H3 X.xe I3 (stat fr3) st3 go) λr s4 ⟨u,hr,h4⟩=>?_)
   subst hr
   refine wpAny_passesOwn hp (thn h4 λ_ s5 ⟨x,H5,I5,r5,y5,st5,fr5⟩=>?_)
   have I5':=I5.pinned (stat fr5) (T.obj _ _ st5)
   refine wpAny_passesOwn hp (thn (hg _ s5 σ3 H5 x u _ I5' r5 (step x H5 y5)) λ_ s6 ⟨σ6,H6,I6,q6⟩=>?_)
   refine wpAny_passesOwn hp (thn (hb _ s6 σ6 H6 _ I6 q6) λf s7 q7=>?_)
   have again:∀{σ7:St} {H7:Hp},Inv X (pins++nQ fp s5.heap) σ7 H7 s7->N σ7 H7->∃m,m<n/\∃i σ' H',Inv X pins σ' H' s7/\tn i s7.heap/\(∀b∈fp,H' b=none)/\W i m σ' H':=λ{σ7 H7} I7 n7=>by
    obtain⟨m',hm,w7⟩:=hN σ7 H7 n7
    refine⟨m',hm,i+1,σ7,H7,I7.unpinned,T.keep _ _ _ st5 λb hb o e=>(I7.pin (b,o) (List.mem_append_right _ (List.mem_append_right _ (gH hb e)))).1,λb hb=>?_,w7⟩
    obtain⟨o,e,d⟩:=T.obj _ _ st5 b hb
    exact(I7.pin (b,o) (List.mem_append_right _ (List.mem_append_right _ (gH hb e)))).2.1
   cases f with
   | next=>obtain⟨σ7,H7,I7,n7⟩:=q7;exact again I7 n7
   | cont=>obtain⟨σ7,H7,I7,n7⟩:=q7;exact again I7 n7
   | brk=>obtain⟨σ7,H7,I7,q7⟩:=q7;exact⟨σ7,H7,I7.unpinned,q7⟩
   | ret v=>obtain⟨x7,σ7,H7,I7,r7,q7⟩:=q7;exact⟨x7,σ7,H7,I7.unpinned,r7,q7⟩
end
end L2
namespace L2
open PySem PySem.Spec PyProof.Rows
abbrev R2:=V->V->Hp->VK->Prop
def OpR(X:Cx)(f:Value->Value->Sem Value)(r:R2):Prop:=
 ∀(pins:List (Addr×Obj)) (s:Shared) (σ:St) (H:Hp) (x y:V) (v u:Value) (Q:VK),Inv X pins σ H s->cA x v->cA y u->r x y H Q ->
  wpAny (model X.prog X.w) X.A (f v u) (EP X pins σ Q) X.xe s
def UnR(X:Cx)(f:Value->Sem Value)(r:V->Hp->VK->Prop):Prop:=
 ∀(pins:List (Addr×Obj)) (s:Shared) (σ:St) (H:Hp) (x:V) (v:Value) (Q:VK),Inv X pins σ H s->cA x v->r x H Q ->
  wpAny (model X.prog X.w) X.A (f v) (EP X pins σ Q) X.xe s
def fM(X:Cx)(f:Value)(r:List V->Hp->VK->Prop):Prop:=
 ∀(pins:List (Addr×Obj)) (s:Shared) (σ:St) (H:Hp) (xs:List V) (us:List Value) (Q:VK),Inv X pins σ H s->aY xs us->r xs H Q ->
  wpAny (model X.prog X.w) X.A (call f us) (EP X pins σ Q) X.xe s
def aMC(X:Cx)(r:V->Hp->(Bool->Hp->Prop)->Prop):Prop:=
 ∀(pins:List (Addr×Obj)) (s:Shared) (σ:St) (H:Hp) (x:V) (v:Value) (Q:Bool->Hp->Prop),Inv X pins σ H s->cA x v->r x H Q ->
  wpAny (model X.prog X.w) X.A (truthy v) (TP X pins σ Q) X.xe s
def tOp(r:R2)(ta tb:TE):TE:=λσ H Q=>ta σ H λx H1=>tb σ H1 λy H2=>r x y H2 Q
def tUn(r:V->Hp->VK->Prop)(ta:TE):TE:=λσ H Q=>ta σ H λx H1=>r x H1 Q
def rI(C:Int->Int->Prop)(g:Int->Int->V):R2:=λx y H Q=>∃i j,x=.int i/\y=.int j/\C i j/\Q (g i j) H
def rI0(g:Int->Int->V):R2:=λx y H Q=>∃i j,x=.int i/\y=.int j/\Q (g i j) H
def rU(g:Int->V):V->Hp->VK->Prop:=λx H Q=>∃i,x=.int i/\Q (g i) H
section
variable {X:Cx} {a b c:Expr} {ta tb tc:TE} {pos:Pos}
theorem aJu(ha:PE X a ta)(hb:PE X b tb){pins:List (Addr×Obj)}{s:Shared}{σ:St}{H:Hp}{R:V->V->Hp->Prop}(I:Inv X pins σ H s)
 (h:ta σ H λx H1=>tb σ H1 λy H2=>R x y H2) {Q:Value->Shared->Prop} {f:Value->Value->Sem Value}
 (hf:∀v u s2 x y H2,Inv X pins σ H2 s2->cA x v->cA y u->R x y H2->wpAny (model X.prog X.w) X.A (f v u) Q X.xe s2) :
 wpAny (model X.prog X.w) X.A (eval a X.env) (λv s₁=>wpAny (model X.prog X.w) X.A (eval b X.env) (λu s₂=>wpAny (model X.prog X.w) X.A (f v u) Q X.xe s₂) X.xe s₁) X.xe s:=by
 refine thn (ha pins s σ H _ I h) λv s1 ⟨x,H1,I1,r1,q1⟩=>?_
 refine thn (hb pins s1 σ H1 _ I1 q1) λu s2 ⟨y,H2,I2,r2,q2⟩=>?_
 exact hf v u s2 x y H2 I2 r1 r2 q2
theorem aJv{op:UnaryOp}{r:V->Hp->VK->Prop}(ho:UnR X (unaryOp op) r)(ha:PE X a ta):PE X (.UnaryOp op a pos) (tUn r ta):=by
 intro pins s σ H Q I h
 exact UnaryOp_ (thn (ha pins s σ H _ I h) λv s1 ⟨x,H1,I1,r1,q1⟩=>ho pins s1 σ H1 x v Q I1 r1 q1)
theorem opI{f:Value->Value->Sem Value}{C:Int->Int->Prop}{g:Int->Int->Int}
 (rule:∀(i j:Int) (t u:Tok) (s:Shared) (Q:Value->Shared->Prop) (E:Value->Shared->Prop),C i j->Q (.int (g i j) s.toks) { s with toks:=s.toks+1 }->wpAny (model X.prog X.w) X.A (f (.int i t) (.int j u)) Q E s) :
 OpR X f (rI C λi j=>.int (g i j)):=by
 intro pins s σ H x y v u Q I rx ry h
 obtain⟨i,j,rfl,rfl,hc,q⟩:=h
 obtain⟨t,rfl⟩:=rx
 obtain⟨t',rfl⟩:=ry
 exact rule i j t t' s _ _ hc ⟨.int (g i j),H,I.tok _,⟨_,rfl⟩,q⟩
theorem aJw{f:Value->Value->Sem Value}{g:Int->Int->Int}
 (rule:∀(i j:Int) (t u:Tok) (s:Shared) (Q:Value->Shared->Prop) (E:Value->Shared->Prop),Q (.int (g i j) s.toks) { s with toks:=s.toks+1 }->wpAny (model X.prog X.w) X.A (f (.int i t) (.int j u)) Q E s) :
 OpR X f (rI0 λi j=>.int (g i j)):=by
 intro pins s σ H x y v u Q I rx ry h
 obtain⟨i,j,rfl,rfl,q⟩:=h
 obtain⟨t,rfl⟩:=rx
 obtain⟨t',rfl⟩:=ry
 exact rule i j t t' s _ _ ⟨.int (g i j),H,I.tok _,⟨_,rfl⟩,q⟩
theorem aET{f:Value->Value->Sem Value}{g:Int->Int->Bool}
 (rule:∀(i j:Int) (t u:Tok) (s:Shared) (Q:Value->Shared->Prop) (E:Value->Shared->Prop),Q (.bool (g i j)) s->wpAny (model X.prog X.w) X.A (f (.int i t) (.int j u)) Q E s) :
 OpR X f (rI0 λi j=>.bl (g i j)):=by
 intro pins s σ H x y v u Q I rx ry h
 obtain⟨i,j,rfl,rfl,q⟩:=h
 obtain⟨t,rfl⟩:=rx
 obtain⟨t',rfl⟩:=ry
 exact rule i j t t' s _ _ ⟨.bl (g i j),H,I,rfl,q⟩
def aMD(i j:Int):Prop:=0<j/\j<1073741824
def aME(i j:Int):Prop:=0<=j/\j<=1000000/\i.natAbs<2 ^ 64
def aHi(i j:Int):Prop:=(-(2 ^ 64)<i/\i<2 ^ 64)\/(-(2 ^ 64)<j/\j<2 ^ 64)
theorem aHi.ok{i j:Int}(h:aHi i j):IntMulOk i j:=by
 rcases h with⟨h1,h2⟩|⟨h1,h2⟩
 . exact .of_left (intBits_le_64 h1 h2)
 . exact .of_right (intBits_le_64 h1 h2)
theorem aHj:OpR X (binaryOp .Add) (rI0 λi j=>.int (i+j)):=aJw λ_ _ _ _ _ _ _ q=>add_int q
theorem aHk:OpR X (binaryOp .Sub) (rI0 λi j=>.int (i-j)):=aJw λ_ _ _ _ _ _ _ q=>sub_int q
theorem aHl:OpR X (binaryOp .Mult) (rI aHi λi j=>.int (i*j)):=opI λ_ _ _ _ _ _ _ hc q=>mul_int q hc.ok
theorem aEU:OpR X (binaryOp .FloorDiv) (rI aMD λi j=>.int (i / j)):=opI λi j _ _ _ _ _ hc q=>by
 have h1:(0:Int)<j:=hc.1
 have h2:j<1073741824:=hc.2
 exact floordiv_int (by omega) (by rw[Int.fdiv_eq_ediv_of_nonneg i (by omega)];exact q) (.inl (PyProof.noPylong_small (by omega)))
theorem aHm:OpR X (binaryOp .Mod) (rI (λ_ j=>0<j) λi j=>.int (i % j)):=opI λi j _ _ _ _ _ hc q=>by
 have h1:(0:Int)<j:=hc
 exact mod_int' (by omega) (by rw[Int.fmod_eq_emod_of_nonneg i (by omega)];exact q)
theorem aHn:OpR X (binaryOp .Pow) (rI aME λi j=>.int (i ^ j.toNat)):=opI λ_ _ _ _ _ _ _ hc q=>pow_int_small hc.1 hc.2.1 hc.2.2 q
theorem unI{f:Value->Sem Value}{g:Int->Int}
 (rule:∀(i:Int) (t:Tok) (s:Shared) (Q:Value->Shared->Prop) (E:Value->Shared->Prop),Q (.int (g i) s.toks) { s with toks:=s.toks+1 }->wpAny (model X.prog X.w) X.A (f (.int i t)) Q E s) :
 UnR X f (rU λi=>.int (g i)):=by
 intro pins s σ H x v Q I rx h
 obtain⟨i,rfl,q⟩:=h
 obtain⟨t,rfl⟩:=rx
 exact rule i t s _ _ ⟨.int (g i),H,I.tok _,⟨_,rfl⟩,q⟩
theorem aHo:UnR X (unaryOp .USub) (rU λi=>.int (-i)):=unI λ_ _ _ _ _ q=>neg_int q
end
section
variable {X:Cx} {a b c:Expr} {ta tb tc:TE} {pos:Pos}
theorem xR{pins:List (Addr×Obj)}{σ:St}{H:Hp}{s:Shared}{Q:VK}{k k':Bool}(I:Inv X pins σ H s)(q:Q (.bl k) H)(e:k=k'):EP X pins σ Q (.bool k') s:=by
 subst e
 exact⟨.bl k,H,I,rfl,q⟩
theorem aJx:OpR X (compareOp .Lt) (rI0 λi j=>.bl (decide (i<j))):=aET λ_ _ _ _ _ _ _ q=>lt_int q
theorem aJy:OpR X (compareOp .LtE) (rI0 λi j=>.bl (decide (i<=j))):=aET λ_ _ _ _ _ _ _ q=>le_int q
theorem aJz:OpR X (compareOp .Gt) (rI0 λi j=>.bl (decide (j<i))):=aET λ_ _ _ _ _ _ _ q=>gt_int q
theorem aJA:OpR X (compareOp .GtE) (rI0 λi j=>.bl (decide (j<=i))):=aET λ_ _ _ _ _ _ _ q=>ge_int q
theorem aBi:OpR X (compareOp .In) (λx y H Q=>∃i j,x=.str i/\y=.str j/\Q (.bl (!(Builtin.Str.occurrences j i 0 j.length 1).isEmpty)) H):=by
 intro pins s σ H x y v u Q I rx ry h
 obtain⟨i,j,rfl,rfl,q⟩:=h
 obtain⟨t,rfl⟩:=rx
 obtain⟨t',rfl⟩:=ry
 exact in_str (xR I q rfl)
theorem aHp:OpR X (compareOp .Is) (λx y H Q=>y=.non/\Q (.bl (decide (x=.non))) H):=by
 intro pins s σ H x y v u Q I rx ry h
 obtain⟨rfl,q⟩:=h
 cases ry
 refine is_none_gen (xR I q ?_)
 cases x <;> first
  | (cases rx;rfl)
  | (obtain⟨t,rfl⟩:=rx;rfl)
theorem sC:OpR X (compareOp .IsNot) (λx y H Q=>y=.non/\Q (.bl (!decide (x=.non))) H):=by
 intro pins s σ H x y v u Q I rx ry h
 obtain⟨rfl,q⟩:=h
 cases ry
 refine isnot_none_gen (xR I q ?_)
 cases x <;> first
  | (cases rx;rfl)
  | (obtain⟨t,rfl⟩:=rx;rfl)
theorem sF{op:CmpOp}{r:R2}(ho:OpR X (compareOp op) r)(ha:PE X a ta)(hb:PE X b tb)(hm:behindInMarks op b=false):PE X (.Compare a [op] [b] pos) (tOp r ta tb):=by
 intro pins s σ H Q I h
 exact wpAny_Compare1 (aJu ha hb I h λv u s2 x y H2 I2 rx ry q=>ho pins s2 σ H2 x y v u Q I2 rx ry q) hm
def aGq(t:TE):TT:=λσ H Q=>t σ H λx H'=>∃k,x=.bl k/\Q k H'
theorem sG{op:CmpOp}{r:R2}(ho:OpR X (compareOp op) r)(ha:PE X a ta)(hb:PE X b tb)(hm:behindInMarks op b=false):PT X (.Compare a [op] [b] pos) (aGq (tOp r ta tb)):=by
 intro pins s σ H Q I h
 refine wpAny_isTrue_Compare1 (thn (ha pins s σ H _ I h) λv s1 ⟨x,H1,I1,r1,q1⟩=>thn (hb pins s1 σ H1 _ I1 q1) λu s2 ⟨y,H2,I2,r2,q2⟩=>
  thn (ho pins s2 σ H2 x y v u _ I2 r1 r2 q2) λc s3 ⟨z,H3,I3,r3,k,e,q3⟩=>?_) hm
 subst e
 cases r3
 exact wpAny_truthy_bool ⟨H3,I3,q3⟩
def aCo(r r':R2)(ta tb tc:TE):TE:=λσ H Q=>ta σ H λx H1=>tb σ H1 λy H2=>r x y H2 λz H3=>∃k,z=.bl k /\
 (if k=true then tc σ H3 λw' H4=>r' y w' H4 Q else Q (.bl false) H3)
theorem aCp{op op':CmpOp}{r r':R2}(ho:OpR X (compareOp op) r)(ho':OpR X (compareOp op') r')(ha:PE X a ta)(hb:PE X b tb)(hc:PE X c tc)
 (hm:lastMarks [op,op'] [b,c]=false:=by with_unfolding_all rfl):PE X (.Compare a [op,op'] [b,c] pos) (aCo r r' ta tb tc):=by
 intro pins s σ H Q I h
 refine Compare_chain (thn (ha pins s σ H _ I h) λv s1 ⟨x,H1,I1,r1,q1⟩=>chain_link (thn (hb pins s1 σ H1 _ I1 q1) λu s2 ⟨y,H2,I2,r2,q2⟩=>
  thn (ho pins s2 σ H2 x y v u _ I2 r1 r2 q2) λd s3 ⟨z,H3,I3,r3,k,e,q3⟩=>?_)) hm
 subst e
 cases r3
 refine wpAny_truthy_bool ?_
 cases k with
 | false=>exact ite_ff ⟨.bl false,H3,I3,rfl,q3⟩
 | true=>exact ite_tt (chain_last (thn (hc pins s3 σ H3 _ I3 q3) λw' s4 ⟨z',H4,I4,r4,q4⟩=>ho' pins s4 σ H4 y z' u w' Q I4 r2 r4 q4))
theorem aCq{op op':CmpOp}{r r':R2}(ho:OpR X (compareOp op) r)(ho':OpR X (compareOp op') r')(ha:PE X a ta)(hb:PE X b tb)(hc:PE X c tc)
 (hm:lastMarks [op,op'] [b,c]=false:=by with_unfolding_all rfl):PT X (.Compare a [op,op'] [b,c] pos) (aGq (aCo r r' ta tb tc)):=by
 intro pins s σ H Q I h
 refine isTrue_chain (thn (ha pins s σ H _ I h) λv s1 ⟨x,H1,I1,r1,q1⟩=>test_link (thn (hb pins s1 σ H1 _ I1 q1) λu s2 ⟨y,H2,I2,r2,q2⟩=>
  thn (ho pins s2 σ H2 x y v u _ I2 r1 r2 q2) λd s3 ⟨z,H3,I3,r3,k,e,q3⟩=>?_)) hm
 subst e
 cases r3
 refine wpAny_truthy_bool ?_
 cases k with
 | false=>
  obtain⟨k',e',q'⟩:=q3
  cases e'
  exact ite_ff ⟨H3,I3,q'⟩
 | true=>
  refine ite_tt (test_last (thn (hc pins s3 σ H3 _ I3 q3) λw' s4 ⟨z',H4,I4,r4,q4⟩=>thn (ho' pins s4 σ H4 y z' u w' _ I4 r2 r4 q4) λd' s5 ⟨z2,H5,I5,r5,k2,e2,q5⟩=>?_))
  subst e2
  cases r5
  exact wpAny_truthy_bool ⟨H5,I5,q5⟩
def aEV(K:PySem.W.Frag)(x:V)(H:Hp)(k:Bool):Prop:=
 match x with
 | .non=>k=false
 | .bl b=>k=b
 | .int i=>k=(i != 0)
 | .str y=>y.length<=sizeLine/\k=((y.length:Int) != 0)
 | .byt y=>y.size<=sizeLine/\k=((y.size:Int) != 0)
 | .ref p=>(∃xs,SqL K H p xs/\k=!xs.isEmpty)\/(∃xs,SqT K H p xs/\k=!xs.isEmpty)\/∃kvs,H p=some (.dK kvs)/\k=!kvs.isEmpty
 | _=>False
theorem xS{κ:Type}{kvs:List (κ×V)}{vs:List (κ×Value)}(r:KV kvs vs):(!vs.isEmpty)=!kvs.isEmpty:=by
 cases r <;> rfl
theorem nR{xs:List V}{its:List Value}(r:aY xs its):(!its.toArray.isEmpty)=!xs.isEmpty:=by
 cases r <;> simp
theorem jT:(sizeLine:Nat)<2 ^ 63:=by rw[sizeLine_eq];decide
theorem aCr:aMC X (λx H Q=>∃k,aEV X.K x H k/\Q k H):=by
 intro pins s σ H x v Q I rx h
 obtain⟨k,e,q⟩:=h
 have hl:=jT
 have hs:sizeLine=16777216:=sizeLine_eq
 cases x with
 | non=>
  cases rx
  have e':k=false:=e
  subst e'
  exact truthy_none ⟨H,I,q⟩
 | bl b=>
  cases rx
  have e':k=b:=e
  subst e'
  exact wpAny_truthy_bool ⟨H,I,q⟩
 | int i=>
  obtain⟨t,rfl⟩:=rx
  have e':k=(i != 0):=e
  subst e'
  exact PySem.P.truthy_int ⟨H,I,q⟩
 | str y=>
  obtain⟨t,rfl⟩:=rx
  obtain⟨hy,e'⟩:y.length<=sizeLine/\k=((y.length:Int) != 0):=e
  subst e'
  exact PySem.P.truthy_str (by omega) ⟨H,I.tok _,q⟩
 | byt y=>
  obtain⟨t,rfl⟩:=rx
  obtain⟨hy,e'⟩:y.size<=sizeLine/\k=((y.size:Int) != 0):=e
  subst e'
  exact PySem.W.truthy_bytes (by omega) ⟨H,I.tok _,q⟩
 | ref p=>
  cases rx
  have e':(∃xs,SqL X.K H p xs/\k=!xs.isEmpty)\/(∃xs,SqT X.K H p xs/\k=!xs.isEmpty)\/∃kvs,H p=some (.dK kvs)/\k=!kvs.isEmpty:=e
  rcases e' with⟨xs,hx,e'⟩|⟨xs,hx,e'⟩|⟨kvs,hx,e'⟩
  . subst e'
    obtain⟨its,r,pl,hz⟩:=I.list hx
    have hlen:=r.length
    exact wpAny_truthy_list pl.isList (by simp only[List.size_toArray];omega) ⟨H,I.tok _,by rw[nR r];exact q⟩
  . subst e'
    obtain⟨its,r,pl,hz⟩:=I.tuple hx
    have hlen:=r.length
    exact truthy_tuple pl (by simp only[List.size_toArray];omega) ⟨H,I.tok _,by rw[nR r];exact q⟩
  . subst e'
    obtain⟨hz,hS,vs,r,m⟩:kvs.length<=sizeLine/\(p==sysModules)=false/\∃vs,KV kvs vs/\s.heap.DictOf (iQ X.prog X.w) p vs:=I.hok p _ hx
    have hlen:kvs.length=vs.length:=Paired.length r
    exact wpAny_truthy_dict hS m (by omega) ⟨H,I.tok _,by rw[xS r];exact q⟩
 | _=>exact(show False from e).elim
theorem aCs(ha:PE X a ta)(he:∀whole,isTrue a X.env whole=(do let v<-whole;standAt a.pos;holding [v] (truthy v))) :
 PT X a (λσ H Q=>ta σ H λx H'=>∃k,aEV X.K x H' k/\Q k H'):=by
 intro pins s σ H Q I h
 exact isTrue_plain (thn (ha pins s σ H _ I h) λv s1 ⟨x,H1,I1,r1,q1⟩=>aCr pins s1 σ H1 x v Q I1 r1 q1) (he _)
theorem xT:OpR X (binaryOp .Add) (λx y H Q=>∃i j,x=.str i/\y=.str j/\i.length+j.length<=sizeLine/\Q (.str (i++j)) H):=by
 intro pins s σ H x y v u Q I rx ry h
 obtain⟨i,j,rfl,rfl,hz,q⟩:=h
 obtain⟨t,rfl⟩:=rx
 obtain⟨t',rfl⟩:=ry
 exact add_str (λt' tk=>⟨.str (i++j),H,I.tok _,⟨_,rfl⟩,q⟩) hz
theorem nS{x:V}{us:List Value}(r:aY [x] us):∃u,us=[u]/\cA x u:=by
 cases r with
 | cons r1 r2=>cases r2;exact⟨_,rfl,r1⟩
theorem aBj:fM X (.type "int") (λxs H Q=>(∃i,xs=[.int i]/\Q (.int i) H)\/∃k,xs=[.bl k]/\Q (.int (if k then 1 else 0)) H):=by
 intro pins s σ H xs us Q I r h
 rcases h with⟨i,rfl,q⟩|⟨k,rfl,q⟩
 . obtain⟨u,rfl,t,rfl⟩:=nS r
   exact call_int_int ⟨.int i,H,I,⟨_,rfl⟩,q⟩
 . obtain⟨u,rfl,r1⟩:=nS r
   cases r1
   exact call_int_bool ⟨.int (if k then 1 else 0),H,I.tok _,⟨_,rfl⟩,q⟩
end
end L2
namespace L2
open PySem PySem.Spec PyProof.Rows
section
variable {prog:Program} {w:World} {A:Around} {E:Value->Shared->Prop} {s:Shared} {K:PySem.W.Frag} {x dx C f:Addr} {mA:Str->Option Value} {name:Str} {v:Value}
end
def sH(f:Str)(v:V):List (Str×V)->List (Str×V)
 | []=>[(f,v)]
 | (g,x)::r=>if g=f then (g,v)::r else (g,x)::sH f v r
section
variable {P:Program} {w:World} {H H':Hp} {h h':Heap} {a C dx:Addr} {fs fs':List (Str×V)}
end
section
variable {X:Cx} {pins:List (Addr×Obj)} {σ:St} {H:Hp} {s:Shared} {a C dx:Addr} {fs:List (Str×V)} {f:Str} {v:V} {A:Around} {E:Value->Shared->Prop}
end
section
variable {X:Cx} {o e value:Expr} {f:Str} {pos pos' tpos:Pos} {ta tv:TE}
end
section
variable {X:Cx} {pins:List (Addr×Obj)} {σ:St} {H:Hp} {s:Shared} {A:Around} {E:Value->Shared->Prop} {Q:Value->Shared->Prop} {c:Value} {b:Bool}
end
end L2
namespace L2
open PySem PySem.Spec PyProof.Rows
structure jU (k:Nat) (A:Around):Prop where
 hd:A.handled=none
 gd:A.guards=some []
 dp:A.depth+3*k+5<recursionLimit
 un:A.units+16*k+200<cLine
theorem jU.deeper{k:Nat}{A:Around}(r:jU (k+1) A)(env:Env):jU k (A.deeper env):=
 ⟨r.hd,r.gd,by have:=r.dp;show A.depth+1+3*k+5<_;omega,by have:=r.un;show A.units+3+16*k+200<_;omega⟩
theorem jU.depth{k:Nat}{A:Around}(r:jU k A):A.depth<recursionLimit:=by have:=r.dp;omega
def aJB:TA:=λ_ H Q=>Q [] H
def aJC(ta:TE)(tr:TA):TA:=λσ H Q=>ta σ H λx H1=>tr σ H1 λxs H2=>Q (x::xs) H2
section
variable {X:Cx} {e:Expr} {es:List Expr} {te:TE} {t:TA} {pos:Pos}
theorem nT:PA X [] aJB:=λ_ _ _ _ H Q I h=>Calls.spliced_nil ⟨[],H,I,.nil,h⟩
theorem iR(ha:PE X e te)(hr:PA X es t)(hs:starEach (e::es) X.env=(false,eval e X.env)::starEach es X.env:=by rfl):PA X (e::es) (aJC te t):=by
 intro pos pins s σ H Q I h
 rw[hs]
 show wpAny _ _ (spliced ((false,eval e X.env)::backTo pos (starEach es X.env))) _ _ s
 refine Calls.spliced_cons (thn (ha pins s σ H _ I h) λu s1 ⟨x,H1,I1,r1,q1⟩=>?_)
 exact thn (hr pos pins s1 σ H1 _ I1 q1) λus s2 ⟨xs,H2,I2,r2,q2⟩=>⟨x::xs,H2,I2,.cons r1 r2,q2⟩
def aMF(t:TA):TE:=λσ H Q=>t σ H λxs H1=>xs.length<=sizeLine/\∀p,H1 p=none->Q (.ref p) (upd H1 p (.tup xs))
def aMG(t:TA):TE:=λσ H Q=>t σ H λxs H1=>xs.length<=sizeLine/\∀p,H1 p=none->Q (.ref p) (upd H1 p (.lst xs))
theorem aHq{x1}(h:PA X es t):PE X (.Tuple es x1 pos) (aMF t):=by
 intro pins s σ H Q I hq
 refine wpAny_Tuple_spliced (thn (h pos pins s σ H _ I hq) λus s1 ⟨xs,H1,I1,r,z,q⟩=>⟨by rw[<-r.length];exact z,?_⟩)
 have hf:H1 s1.heap.objs.size=none:=I1.hok.fresh (Nat.le_refl _)
 refine⟨.ref s1.heap.objs.size,upd H1 s1.heap.objs.size (.tup xs),I1.laid (t':=s1.toks) (λb u e=>Heap.get?_push_of_some _ e) (Nat.le_refl _) ?_,rfl,q _ hf⟩
 exact⟨z,us,r,⟨_,Heap.get?_push_size _ rfl,rfl,_,rfl⟩⟩
theorem aHr(h:PA X es t):PE X (.List es pos) (aMG t):=by
 intro pins s σ H Q I hq
 refine wpAny_List_spliced (thn (h pos pins s σ H _ I hq) λus s1 ⟨xs,H1,I1,r,z,q⟩=>⟨by rw[<-r.length];exact z,?_⟩)
 have hf:H1 s1.heap.objs.size=none:=I1.hok.fresh (Nat.le_refl _)
 refine⟨.ref s1.heap.objs.size,upd H1 s1.heap.objs.size (.lst xs),I1.laid (t':=s1.toks) (λb u e=>Heap.get?_push_of_some _ e) (Nat.le_refl _) ?_,rfl,q _ hf⟩
 exact⟨z,us,0,r,Heap.get?_push_size _ rfl⟩
end
abbrev Sp:=List V->Hp->VK->XK->Prop
abbrev CXT:=List Env->Hp->Shared->XK->Value->Shared->Prop
structure aEW (P:Program) (w:World) (K:PySem.W.Frag) (mg:Str->Option Value) (base:Heap) (A:Around) (outer:List Env) (s:Shared) (H:Hp):Prop where
 frames:A.frames=some outer
 mod:Mod K mg base
 bs:∀b o,base.get? b=some o->s.heap.get? b=some o/\H b=none
 bsz:base.objs.size<=s.heap.objs.size
 funs:s.heap.FunFrames base outer
 frf:∀b∈frs outer,H b=none
 hok:HOk P w H s.heap
 bare:AllBare s.gens
def CE(outer:List Env)(P:Program)(w:World)(H:Hp)(s:Shared)(Q:VK)(u:Value)(s':Shared):Prop:=
 ∃v H',s'.os=s.os/\AllBare s'.gens/\Un (frs outer) [] H H' s.heap s'.heap/\HOk P w H' s'.heap/\cA v u/\Q v H'
def CR(CX:CXT)(outer:List Env)(P:Program)(w:World)(H:Hp)(s:Shared)(Q:VK)(E:XK)(r:Result)(s':Shared):Prop:=
 match r with
 | .ok (.ret u)=>CE outer P w H s Q u s'
 | .ok _=>False
 | .error e=>CX outer H s E e s'
structure nA (P:Program) (w:World) (K:PySem.W.Frag) (mg:Str->Option Value) (base:Heap) (CX:CXT) (k:Nat) (f:Addr) (fd:FuncData) (ps:List Str) (sp:Sp):Prop where
 len:∀vs H Q E,sp vs H Q E->vs.length=ps.length
 run:∀(A:Around) (outer:List Env) (s:Shared) (H:Hp) (args:Args) (us:List Value) (vs:List V) (Q:VK) (E:XK),jU k A->aEW P w K mg base A outer s H->BindsTo s fd args (ps.zip us)->aY vs us->sp vs H Q E ->
  codeAny (model P w) A (.call (.ref f) args) (CR CX outer P w H s Q E) s
section
variable {X:Cx} {pins:List (Addr×Obj)} {σ:St} {H:Hp} {s s':Shared}
theorem Inv.env0(I:Inv X pins σ H s):aEW X.prog X.w X.K X.mg X.base X.A X.stack s H:=
 ⟨I.ok.frames,I.ok.mod,I.bs,Nat.le_trans I.ok.bsz I.sz,I.stack,I.stkFree,I.hok,I.bare⟩
theorem Inv.after{Q:VK}{u:Value}(I:Inv X pins σ H s)(h:CE X.stack X.prog X.w H s Q u s'):EP X pins σ Q u s':=by
 obtain⟨v,H',os,bare,un,hok,r,q⟩:=h
 obtain⟨hh,g,d,t,os'⟩:=s'
 obtain rfl:os'=s.os:=os
 exact⟨v,H',I.call (h':=hh) (g':=g) (d':=d) (t':=t) (ch:=[]) un hok bare (λb z=>absurd z (by simp)),r,q⟩
end
def aGr(sp:Sp)(dvs:List V)(E:XK)(t:TA):TE:=λσ H Q=>t σ H λvs H1=>sp (vs++dvs) H1 Q E
def jP(K:PySem.W.Frag)(fd:FuncData)(ps:List Str)(ds:List Value):Prop:=
 ∀(s:Shared) (us:List Value),K.In s.heap->(us++ds).length=ps.length->BindsTo s fd ⟨us,[]⟩ (ps.zip (us++ds))
theorem jP.all{K:PySem.W.Frag}{fd:FuncData}{ps:List Str}(h:∀us:List Value,us.length=ps.length->bindArgs fd ⟨us,[]⟩=pure (ps.zip us)):jP K fd ps []:=λs us _ hl=>by
 rw[List.append_nil] at hl ⊢
 exact .of_eq (h us hl)
def sJ(CX:CXT)(X:Cx)(E:XK):Prop:=∀(pins:List (Addr×Obj)) (σ:St) (H:Hp) (s:Shared) (e:Value) (s':Shared),Inv X pins σ H s->CX X.stack H s E e s'->X.xe e s'
section
variable {X:Cx} {CX:CXT} {k:Nat} {f C:Addr} {fd:FuncData} {ps:List Str} {sp:Sp} {dvs:List V} {ds:List Value} {E:XK} {x m:Str} {p pos apos:Pos} {e o:Expr} {es:List Expr} {ta:TE} {t:TA}
theorem aCt{pins:List (Addr×Obj)}{σ:St}{H:Hp}{s:Shared}{Q:VK}{us:List Value}{vs:List V}(F:nA X.prog X.w X.K X.mg X.base CX k f fd ps sp)(hr:jU k X.A)(hb:jP X.K fd ps ds)(hd:aY dvs ds)(hx:sJ CX X E)
 (I:Inv X pins σ H s) (r:aY vs us) (h:sp (vs++dvs) H Q E):wpAny (model X.prog X.w) X.A (call (.ref f) us) (EP X pins σ Q) X.xe s:=by
 have r2:aY (vs++dvs) (us++ds):=r.append hd
 have hl:(us++ds).length=ps.length:=by rw[<-r2.length];exact F.len _ _ _ _ h
 refine wpAny_call (codeAny_mono (F.run X.A X.stack s H ⟨us,[]⟩ (us++ds) (vs++dvs) Q E hr I.env0 (hb s us I.kIn hl) r2 h) λr s' hq=>?_)
 cases r with
 | error e=>exact hx pins σ H s e s' I hq
 | ok fl=>
  cases fl with
  | ret u=>exact I.after hq
  | next=>exact False.elim hq
  | brk=>exact False.elim hq
  | cont=>exact False.elim hq
theorem sK(F:nA X.prog X.w X.K X.mg X.base CX k f fd ps sp)(hr:jU k X.A)(hg:Gl X x)(hm:X.mg x=some (.ref f))(hk:PySem.W.keepIn X.K (.ref f)=true)(hb:jP X.K fd ps ds)(hd:aY dvs ds)(hx:sJ CX X E)
 (ha:PA X (e::es) t) (hdb:(x==("__debug__" : Str))=false:=by decide) (he:starEach (e::es) X.env=(false,eval e X.env)::starEach es X.env:=by rfl) (hpl:(backTo pos (starEach es X.env)).any (·.1)=false:=by rfl) :
 PE X (.Call (.Name x p) (e::es) [] pos) (aGr sp dvs E t):=by
 intro pins s σ H Q I h
 refine wpAny_Call_Name_kw (sB I hg hm ?_ hdb)
 refine PySem.W.callWith_K (h₀:=X.base) I.ok.mod.kin hk (thn (ha pos pins s σ H _ I h) λus s1 ⟨vs,H1,I1,r,q⟩=>⟨I1.kIn,?_⟩) he hpl
 exact aCt F hr hb hd hx I1 r q
theorem aCu(F:nA X.prog X.w X.K X.mg X.base CX k f fd ps sp)(hr:jU k X.A)(hg:Gl X x)(hm:X.mg x=some (.ref f))(hk:PySem.W.keepIn X.K (.ref f)=true)(hb:jP X.K fd ps ds)(hd:aY dvs ds)(hx:sJ CX X E)
 (hdb:(x==("__debug__" : Str))=false:=by decide):PE X (.Call (.Name x p) [] [] pos) (aGr sp dvs E aJB):=by
 intro pins s σ H Q I h
 refine wpAny_Call_Name_kw (sB I hg hm ?_ hdb)
 exact PySem.W.callWith_K0 I.kIn hk (aCt (us:=[]) F hr hb hd hx I .nil h)
end
section
variable {X:Cx} {CX:CXT} {k:Nat} {f C:Addr} {fd:FuncData} {ps ks:List Str} {sp:Sp} {E:XK} {x m:Str} {p pos apos kpos:Pos} {e o:Expr} {es:List Expr} {kws:List Keyword} {te ta:TE} {t tk:TA} {nm:Option Str}
variable {g:List Value->List Value->List Value} {gV:List V->List V->List V}
end
structure nG (N P:List Str) (sc:Scope):Prop where
 kind:sc.kind=.function
 co:sc.isCoroutine=false
 gen:sc.isGenerator=false
 nd:N.Nodup
 pre:N.take P.length=P
 par:∀x∈P,sc.names.lookup x=some .local\/sc.names.lookup x=some .cell
 nofree:∀y∈sc.names,y.2≠.free
theorem qR{kindOf:Str->Option NameKind}{x:Str}:∀{binds:List (Str×Value)} {m:Str->Option Value},(∀v,(x,v)∉binds)->bindL kindOf binds m x=m x
 | [],_,_=>rfl
 | (n,v)::r,m,h=>by
  unfold bindL
  rw[qR λw hw=>h w (List.mem_cons_of_mem _ hw)]
  split
  . have:x≠n:=by rintro rfl;exact h v List.mem_cons_self
    simp[this]
  . rfl
theorem qS{kindOf:Str->Option NameKind}{x:Str}:∀{binds:List (Str×Value)} {m:Str->Option Value},(∀v,(x,v)∉binds)->bindC kindOf binds m x=m x
 | [],_,_=>rfl
 | (n,v)::r,m,h=>by
  unfold bindC
  rw[qS λw hw=>h w (List.mem_cons_of_mem _ hw)]
  split
  . rfl
  . have:x≠n:=by rintro rfl;exact h v List.mem_cons_self
    simp[this]
theorem qT{kindOf:Str->Option NameKind}{x:Str}{v:Value}:∀{P:List Str} {vs:List Value} {i:Nat} {m:Str->Option Value},P.Nodup->P[i]? = some x->vs[i]? = some v->kindOf x=some .local ->
 bindL kindOf (P.zip vs) m x=some v
 | [],_,_,_,_,h,_,_=>by simp at h
 | _::_,[],_,_,_,_,h,_=>by simp at h
 | p::P,w::vs,0,m,nd,h1,h2,hk=>by
  simp at h1 h2;subst h1;subst h2
  show bindL kindOf ((p,w)::P.zip vs) m p=_
  unfold bindL
  rw[qR λv hv=>(List.nodup_cons.mp nd).1 (List.of_mem_zip hv).1,if_pos hk]
  simp
 | p::P,w::vs,i+1,m,nd,h1,h2,hk=>by
  show bindL kindOf ((p,w)::P.zip vs) m x=_
  unfold bindL
  exact qT (i:=i) (List.nodup_cons.mp nd).2 (by simpa using h1) (by simpa using h2) hk
theorem qU{kindOf:Str->Option NameKind}{x:Str}{v:Value}:∀{P:List Str} {vs:List Value} {i:Nat} {m:Str->Option Value},P.Nodup->P[i]? = some x->vs[i]? = some v->kindOf x≠some .local ->
 bindC kindOf (P.zip vs) m x=some v
 | [],_,_,_,_,h,_,_=>by simp at h
 | _::_,[],_,_,_,_,h,_=>by simp at h
 | p::P,w::vs,0,m,nd,h1,h2,hk=>by
  simp at h1 h2;subst h1;subst h2
  show bindC kindOf ((p,w)::P.zip vs) m p=_
  unfold bindC
  rw[qS λv hv=>(List.nodup_cons.mp nd).1 (List.of_mem_zip hv).1,if_neg hk]
  simp
 | p::P,w::vs,i+1,m,nd,h1,h2,hk=>by
  show bindC kindOf ((p,w)::P.zip vs) m x=_
  unfold bindC
  exact qU (i:=i) (List.nodup_cons.mp nd).2 (by simpa using h1) (by simpa using h2) hk
def start(N:List Str)(vs:List V):St:=vs.map some++List.replicate (N.length-vs.length) none
def xU(CX:CXT)(P:Program)(w:World)(K:PySem.W.Frag)(mg:Str->Option Value)(base:Heap)(N:List Str)(qual:Str)(scope:Scope)(f:Addr)(cd:Value)(A:Around)(outer:List Env)(s:Shared)(H:Hp)(E:XK):Cx where
 prog:=P
 w:=w
 K:=K
 mg:=mg
 base:=base
 A:=A.deeper (envOfC qual scope s.heap.objs.size f cd)
 N:=N
 s₀:=s
 H₀:=H
 env:=envOfC qual scope s.heap.objs.size f cd
 outer:=outer
 stack:=envOfC qual scope s.heap.objs.size f cd::outer
 ex:=[]
 calm:=true
 fn:=λ_=>true
 pn:=[]
 xe:=λe s'=>wpAny (model P w) (A.deeper (envOfC qual scope s.heap.objs.size f cd)) (leaving (envOfC qual scope s.heap.objs.size f cd) e) (λ_ s''=>CX outer H s E e s'') (λe' s''=>CX outer H s E e' s'') s'
theorem uT{sc:Scope}{n:Nat}{x:Str}(h:sc.names.lookup x=some .cell):∃c,(cellsFrom n sc.names []).lookup x=some c:=by
 have q:=PySem.W.cellsFrom_some sc.names n [] (.inl h)
 exact Option.isSome_iff_exists.mp q
theorem aBk{CX:CXT}{P:Program}{w:World}{K:PySem.W.Frag}{mg:Str->Option Value}{base:Heap}{N ps:List Str}{qual:Str}{scope:Scope}{f:Addr}{cd:Value}{A:Around}{outer:List Env}{s s1:Shared}{H:Hp}{E:XK}{us:List Value}{vs:List V}
 (S:nG N ps scope) (hd:A.handled=none) (e0:aEW P w K mg base A outer s H) (hl:vs.length=ps.length) (r:aY vs us)
 (x:InCallC s s.heap.objs.size (bindL (envOfC qual scope s.heap.objs.size f cd).kindOf (ps.zip us) λ_=>none) (cellsFrom (s.heap.objs.size+1) scope.names []) (bindC (envOfC qual scope s.heap.objs.size f cd).kindOf (ps.zip us) λ_=>none) s1) :
 Inv (xU CX P w K mg base N qual scope f cd A outer s H E) [] (start N vs) H s1:=by
 have hpl:ps.length<=N.length:=by have:=congrArg List.length S.pre;rw[List.length_take] at this;omega
 obtain⟨h1,tk,rfl,hk⟩:=x.done
 have noA:∀b:Addr,b∉(xU CX P w K mg base N qual scope f cd A outer s H E).ex:=λb z=>absurd (show b∈([]:List Addr) from z) (by simp)
 refine⟨⟨e0.mod,S.kind,rfl,rfl,Nat.le_refl _,λy z c h1 h2=>?_,λy hy=>?_,λy c _ h=>?_,λ_=>hd,Around.frames_deeper e0.frames,.inr ⟨rfl,rfl⟩,λb z=>absurd z (noA b),e0.bs,e0.bsz,λb _ _=>noA b,λb z=>absurd z (noA b),e0.funs,e0.frf⟩,
  rfl,e0.bare,Un.kept hk,⟨_,x.toInCall.ns,λi y v h1 h2 h3=>?_⟩,λy c h=>⟨_,x.cell y c h⟩,e0.hok.fresh (Nat.le_refl _),λy c h=>?_,λp hp=>absurd (show p∈([]:List (Addr×Obj)) from hp) (by simp),e0.hok.kept hk,?_⟩
 . exact name_of_addr x.apart (PySem.mem_of_lookup h1) (PySem.mem_of_lookup h2)
 . have hy:scope.names.lookup y=some .cell\/scope.names.lookup y=some .free:=hy
   rcases hy with hy|hy
   . exact uT hy
   . exact absurd rfl (S.nofree _ (PySem.mem_of_lookup hy))
 . exact Nat.le_of_lt (x.above y c (PySem.mem_of_lookup h))
 . have hi:i<vs.length:=by
    unfold start at h2
    by_cases hi:i<vs.length
    . exact hi
    . rw[List.getElem?_append_right (by simpa using hi)] at h2
      rw[List.getElem?_replicate] at h2
      split at h2 <;> cases h2
   have ha:vs[i]? = some v:=by
    unfold start at h2
    rw[List.getElem?_append_left (by simpa using hi),List.getElem?_map] at h2
    cases e:vs[i]? with
    | none=>rw[e] at h2;cases h2
    | some a=>rw[e] at h2;cases h2;rfl
   obtain⟨u,hu,rv⟩:=r.get ha
   have hp:ps[i]? = some y:=by
    rw[<-S.pre,List.getElem?_take_of_lt (by omega)];exact h1
   have ndP:ps.Nodup:=by rw[<-S.pre];exact S.nd.sublist (List.take_sublist _ _)
   refine⟨u,rv,?_⟩
   rcases S.par y (List.mem_of_getElem? hp) with k|k
   . exact .inl ⟨k,qT ndP hp hu k⟩
   . obtain⟨c,e⟩:=uT (n:=s.heap.objs.size+1) k
     refine .inr ⟨.inl k,c,e,?_⟩
     have q:=x.cell y c e
     rw[qU ndP hp hu (by show scope.names.lookup y≠_;rw[k];decide)] at q
     exact q
 . exact e0.hok.fresh (Nat.le_of_lt (x.above y c (PySem.mem_of_lookup h)))
 . unfold start
   show _=N.length
   rw[List.length_append,List.length_map,List.length_replicate]
   omega
theorem aJD{CX:CXT}{P:Program}{w:World}{K:PySem.W.Frag}{mg:Str->Option Value}{base:Heap}{k:Nat}{f:Addr}{name qual:Str}{params:Arguments}{body:List Stmt}{scope:Scope}{dV kV doc pm cdv ct oc:Value}{an od:Option Addr}
 {osl:Array (Option Value)} {N ps:List Str} {sp:Sp} (lk:K.lookup f=some ⟨oc,od,.func (PySem.W.fnOf name qual params body scope dV kV doc pm an cdv ct),osl⟩) (hcd:PySem.W.codeIn K cdv qual=true) (S:nG N ps scope)
 (len:∀vs H Q E,sp vs H Q E->vs.length=ps.length)
 (hbody:∀(A:Around) (outer:List Env) (s:Shared) (H:Hp) (vs:List V) (Q:VK) (E:XK),jU k (A.deeper (envOfC qual scope s.heap.objs.size f cdv))->sp vs H Q E ->
  ∃t,PSs (xU CX P w K mg base N qual scope f cdv A outer s H E) body t/\t { nx:=λ_ H'=>Q .non H',rt:=Q } (start N vs) H) :
 nA P w K mg base CX (k+1) f (PySem.W.fnOf name qual params body scope dV kV doc pm an cdv ct) ps sp:=by
 refine⟨len,λA outer s H args us vs Q E hr e0 hb r hsp=>?_⟩
 have hl:=len _ _ _ _ hsp
 have KX:K.In s.heap:=e0.mod.kin.keeps λb o e=>(e0.bs b o e).1
 have lim:s.heap.NoLimit:=e0.mod.nolimit.keeps λb o e=>(e0.bs b o e).1
 have hkind:∀y∈ps.zip us,scope.names.lookup y.1=some .local\/(scope.names.lookup y.1=some .cell/\((cellsFrom (s.heap.objs.size+1) scope.names []).lookup y.1).isSome=true):=λ⟨n,v⟩ hy=>by
  rcases S.par n (List.of_mem_zip hy).1 with q|q
  . exact .inl q
  . exact .inr ⟨q,PySem.W.cellsFrom_some _ _ _ (.inl q)⟩
 refine codeAny_call_function hr.depth (KX _ _ lk) rfl S.co S.gen rfl (PySem.W.codeRec_of KX hcd) (hb _ _ _ _ ?_)
 refine wpAny_newFunctionEnv_cells S.kind hkind λenv he s1 x=>?_
 subst he
 refine⟨lim.keeps x.toInCall.keep,codeAny_func ?_⟩
 obtain⟨t,ht,hq⟩:=hbody A outer s H vs Q E (hr.deeper _) hsp
 have I:Inv (xU CX P w K mg base N qual scope f cdv A outer s H E) [] (start N vs) H s1:=aBk S hr.hd e0 hl r x
 refine wpAny_mono (ht [] s1 (start N vs) H _ I hq) (λfl s' hs=>?_) λe s' hs=>hs
 have fin:∀{σ':St} {H':Hp} {v:V} {u:Value},Inv (xU CX P w K mg base N qual scope f cdv A outer s H E) [] σ' H' s'->cA v u->Q v H'->CE outer P w H s Q u s':=
  λ{σ' H' v u} J rv q=>⟨v,H',J.os,J.bare,J.base,J.hok,rv,q⟩
 cases fl with
 | ret u=>
  obtain⟨v,σ',H',J,rv,q⟩:=hs
  exact fin J rv q
 | next=>
  obtain⟨σ',H',J,q⟩:=hs
  exact fin (v:=V.non) (u:=Value.none) J rfl q
 | brk=>
  obtain⟨_,_,_,q⟩:=hs
  exact False.elim q
 | cont=>
  obtain⟨_,_,_,q⟩:=hs
  exact False.elim q
end L2
namespace L2
open PySem PySem.Spec PyProof.Rows
section
variable {X:Cx} {x:Str} {p pos:Pos} {e:Expr} {es:List Expr} {t:TA} {id T:String} {r:List V->Hp->VK->Prop}
def tCB(r:List V->Hp->VK->Prop)(t:TA):TE:=λσ H Q=>t σ H λvs H1=>r vs H1 Q
theorem uU(hc:fM X (.builtin id) r)(hg:Gl X x)(hm:X.mg x=none)(hv:bootBuiltins x=some (.builtin id))(ha:PA X (e::es) t)(hn:x ≠ "__name__" := by decide)(hdb:(x==("__debug__" : Str))=false:=by decide)
 (he:starEach (e::es) X.env=(false,eval e X.env)::starEach es X.env:=by rfl) (hpl:(backTo pos (starEach es X.env)).any (·.1)=false:=by rfl):PE X (.Call (.Name x p) (e::es) [] pos) (tCB r t):=by
 intro pins s σ H Q I h
 refine wpAny_Call_Name_kw (jS I hg hm hv ?_ hn hdb)
 exact PyProof.Rows.callWith_builtin1 (thn (ha pos pins s σ H _ I h) λus s1 ⟨vs,H1,I1,r1,q1⟩=>hc pins s1 σ H1 vs us Q I1 r1 q1) he hpl
theorem iS(hc:fM X (.type T) r)(hg:Gl X x)(hm:X.mg x=none)(hv:bootBuiltins x=some (.type T))(ha:PA X (e::es) t)(hn:x ≠ "__name__" := by decide)(hdb:(x==("__debug__" : Str))=false:=by decide)
 (he:starEach (e::es) X.env=(false,eval e X.env)::starEach es X.env:=by rfl) (hpl:(backTo pos (starEach es X.env)).any (·.1)=false:=by rfl):PE X (.Call (.Name x p) (e::es) [] pos) (tCB r t):=by
 intro pins s σ H Q I h
 refine wpAny_Call_Name_kw (jS I hg hm hv ?_ hn hdb)
 exact PyProof.Rows.callWith_type1 (thn (ha pos pins s σ H _ I h) λus s1 ⟨vs,H1,I1,r1,q1⟩=>hc pins s1 σ H1 vs us Q I1 r1 q1) he hpl
end
end L2
namespace HT
open PySem PyProof.Rows
section
open PySem.SeqAt
open PySem.AutoSeq1 (wpAny_loadPart')
open PySem.MeetsSeq PySem.MeetsSeq2 PySem.MeetsSeq3
end
section
variable {prog:Program} {w:World} {A:Around} {E:Value->Shared->Prop} {s:Shared}
theorem cat_tup{t b:Addr}{vs ws:List Value}{Q:Value->Shared->Prop}(ht:IsTup s.heap t vs.toArray)(hb:IsTup s.heap b ws.toArray)(hv:vs≠[])
 (h1:ws=[]->Q (.ref t) s) (h2:ws≠[]->Q (.ref s.heap.objs.size) { s with heap:=s.heap.push { cls:=.type "tuple",data:=.seq (vs++ws).toArray } })
 (hsz:vs.length+ws.length<=sizeLine):wpAny (model prog w) A (binaryOp .Add (.ref t) (.ref b)) Q E s:=by
 obtain⟨⟨cls,dd,data,sl⟩,ho,hc,n,hd⟩:=id ht
 obtain⟨⟨cls2,dd2,data2,sl2⟩,ho2,hc2,n2,hd2⟩:=id hb
 simp only at hc hd hc2 hd2
 subst hc hd hc2 hd2
 have e:vs.toArray++ws.toArray=(vs++ws).toArray:=by simp
 by_cases hw:ws=[]
 . exact concat_meets ⟨_,ho,rfl⟩ ⟨_,ho2,rfl⟩ noFill_tuple_add seq_tuple_add PySem.F.slot_tuple_add PySem.F.entry_tuple_add (PySem.F.args_tuple_add_2 _ _)
    (tuple_addW1 t b vs.toArray ws.toArray n n2 dd dd2 sl sl2 (by simpa using hv) (by simp[hw])) ⟨ho,ho2,h1 hw⟩
 . refine concat_meets ⟨_,ho,rfl⟩ ⟨_,ho2,rfl⟩ noFill_tuple_add seq_tuple_add PySem.F.slot_tuple_add PySem.F.entry_tuple_add (PySem.F.args_tuple_add_2 _ _)
    (tuple_addW2 t b vs.toArray ws.toArray n n2 dd dd2 sl sl2 (by simpa using hv) (by simpa using hw) (by rw[List.size_toArray,List.size_toArray];exact hsz)) ⟨ho,ho2,?_⟩
   rw[e]
   exact h2 hw
def sIx(n d:Nat):Option Int->Nat
 | none=>d
 | some v=>if v<0 then (v+(n:Int)).toNat else min v.toNat n
theorem aHs(n d:Nat)(hd:d<=n)(o:Option Int):sIx n d o<=n:=by
 cases o with
 | none=>exact hd
 | some v=>
  show(if v<0 then (v+(n:Int)).toNat else min v.toNat n)<=n
  by_cases hv:v<0
  . rw[if_pos hv];omega
  . rw[if_neg hv];exact Nat.min_le_right _ _
theorem aAb(v:Int)(n d:Nat):(if v<0 then max (v+(n:Int)) 0 else min v (n:Int))=((sIx n d (some v):Nat):Int):=by
 show(if v<0 then max (v+(n:Int)) 0 else min v (n:Int))=(((if v<0 then (v+(n:Int)).toNat else min v.toNat n):Nat):Int)
 by_cases hv:v<0
 . simp only[if_pos hv];omega
 . simp only[if_neg hv];omega
theorem xV(lo hi:Option Int)(n:Nat):Builtin.Slice.sliceAdjust lo hi 1 (n:Int)=(((sIx n 0 lo:Nat):Int),((sIx n n hi:Nat):Int)):=by
 have h1:¬ ((1:Int)<0):=by omega
 unfold Builtin.Slice.sliceAdjust
 simp only[h1,if_false]
 refine Prod.ext ?_ ?_
 . cases lo with
   | none=>rfl
   | some v=>exact aAb v n 0
 . cases hi with
   | none=>rfl
   | some v=>exact aAb v n n
theorem xW(i j:Nat):Builtin.Slice.slicePlaces (i:Int) (j:Int) 1=j-i:=by
 unfold Builtin.Slice.slicePlaces
 have h1:(1:Int)>0:=by omega
 simp only[h1,if_true,Int.ediv_one]
 split <;> omega
theorem nU{v:Value}{o:Option Int}{Q:Option Int->Shared->Prop}(p:IsPart v o)(h:Q o s):wpAny (model prog w) A (Builtin.Slice.slicePartIndex v) Q E s:=by
 cases p with
 | none=>exact slicePart_none h
 | int i t=>exact slicePart_int h
theorem sliceApplied_gen{sl:Addr}{vl vu:Value}{lo hi:Option Int}{n:Nat}{Q:Int×Int×Nat->Shared->Prop}(hs:s.heap.IsSliceOf sl vl vu .none)(pl:IsPart vl lo)(pu:IsPart vu hi)
 (h:Q (((sIx n 0 lo:Nat):Int),1,sIx n n hi-sIx n 0 lo) s):wpAny (model prog w) A (Builtin.Slice.sliceApplied (.ref sl) (pure (n:Int))) Q E s:=by
 obtain⟨os,hos,hcs,hds⟩:=id hs
 unfold Builtin.Slice.sliceApplied Builtin.Slice.sliceFields
 refine wpAny_bind (wpAny_bind (wpAny_field hos hds (x:=vl) rfl (wpAny_bind (wpAny_field hos hds (x:=vu) rfl (wpAny_bind (wpAny_field hos hds (x:=.none) rfl (wpAny_pure ?_)))))))
 refine wpAny_bind (slicePart_none ?_)
 show wpAny _ _ (if ((1:Int)==0)=true then _ else _) _ _ s
 rw[if_neg (by decide)]
 refine wpAny_bind (nU pl (wpAny_bind (nU pu (wpAny_bind (wpAny_pure ?_)))))
 show wpAny _ _ (match Builtin.Slice.sliceAdjust lo hi 1 (n:Int) with|(lo,hi)=>pure (lo,(1:Int),Builtin.Slice.slicePlaces lo hi 1)) _ _ s
 rw[xV lo hi n]
 show wpAny _ _ (pure (((sIx n 0 lo:Nat):Int),(1:Int),Builtin.Slice.slicePlaces ((sIx n 0 lo:Nat):Int) ((sIx n n hi:Nat):Int) 1)) _ _ s
 rw[xW]
 exact wpAny_pure h
theorem aCv(xs:Array Value)(i k:Nat):((List.range k).filterMap λ(m:Nat)=>xs[((i:Int)+(m:Int)*1).toNat]?).toArray=((xs.toList.drop i).take k).toArray:=by
 have e:(λ(m:Nat)=>xs[((i:Int)+(m:Int)*1).toNat]?)=λm=>xs[i+m]? := by
  funext m
  have:((i:Int)+(m:Int)*1).toNat=i+m:=by omega
  rw[this]
 rw[e]
 have:=pick_run xs i k
 rw[List.filterMap_map] at this
 have e2:((λx=>xs[x]?)∘λx=>i+x)=λm=>xs[i+m]? := rfl
 rw[e2] at this
 rw[this]
theorem getItem_tuple_cut{t sl:Addr}{items:Array Value}{vl vu:Value}{lo hi:Option Int}{Q:Value->Shared->Prop}(ht:IsTup s.heap t items)(hs:s.heap.IsSliceOf sl vl vu .none)(pl:IsPart vl lo)(pu:IsPart vu hi)
 (hw:¬ (sIx items.size 0 lo=0/\sIx items.size items.size hi=items.size))
 (h:Q (.ref s.heap.objs.size) { s with heap:=s.heap.push { cls:=.type "tuple",data:=.seq ((items.toList.drop (sIx items.size 0 lo)).take (sIx items.size items.size hi-sIx items.size 0 lo)).toArray } })
 (hsz:items.size<=sizeLine):wpAny (model prog w) A (getItem (.ref t) (.ref sl)) Q E s:=by
 have htake:sizeOk (.seq ((items.toList.drop (sIx items.size 0 lo)).take (sIx items.size items.size hi-sIx items.size 0 lo)).toArray):=by
  show((items.toList.drop (sIx items.size 0 lo)).take (sIx items.size items.size hi-sIx items.size 0 lo)).toArray.size<=sizeLine
  rw[List.size_toArray,List.length_take,List.length_drop,Array.length_toList]
  omega
 have hj:sIx items.size items.size hi<=items.size:=aHs _ _ (Nat.le_refl _) hi
 obtain⟨os,hos,hcs,hds⟩:=id hs
 have hTs:s.TypeIs (.ref sl) "slice" := ⟨os,hos,hcs⟩
 unfold getItem
 try with_reducible refine wpAny_holding ?_
 first|refine wpAny_bind (wpAny_pure ?_)|skip
 refine wpAny_bind (wpAny_sequenceKey ht.typeIs (by decide) ?_)
 refine wpAny_bind (wpAny_callSpecial?_slot (name:=Str.ofString "__getitem__") ht.typeIs PyProof.Rows.slot_tuple_getitem
  (wpAny_call_entry PyProof.Rows.slot_tuple_getitem ht.typeIs entry_tuple_getitem ?_ (args_tuple_getitem _ _)))
 show wpAny _ _ (Builtin.Tuple.tupleItemsOf (.ref t) >>= _) _ _ s
 refine wpAny_bind (tupleItemsOf_ ht ?_)
 refine wpAny_bind (wpAny_typeOf hTs ?_)
 rw[if_pos (by decide)]
 refine wpAny_bind (sliceApplied_gen hs pl pu ?_)
 have hno:¬ ((((sIx items.size 0 lo:Nat):Int)==0&&(1:Int)==1&&(sIx items.size items.size hi-sIx items.size 0 lo)==items.size)=true):=by
  intro q
  rw[Bool.and_eq_true,Bool.and_eq_true] at q
  have q1:((sIx items.size 0 lo:Nat):Int)=0:=eq_of_beq q.1.1
  have q2:sIx items.size items.size hi-sIx items.size 0 lo=items.size:=eq_of_beq q.2
  exact hw ⟨by omega,by omega⟩
 show wpAny _ _ (if (((sIx items.size 0 lo:Nat):Int)==0&&(1:Int)==1&&(sIx items.size items.size hi-sIx items.size 0 lo)==items.size)=true then _ else _) _ _ s
 rw[if_neg hno,aCv]
 first
  | exact wpAny_bind (m:=Builtin.Tuple.tupleExact _) (wpAny_newObj_type (wpAny_pure ⟨_,rfl,wpAny_pure h⟩) htake)
  | exact wpAny_bind (m:=Builtin.Tuple.tupleExact _) (wpAny_newObj_type (wpAny_bind (wpAny_pure (wpAny_pure ⟨_,rfl,wpAny_pure h⟩))) htake)
  | exact wpAny_bind (wpAny_bind (m:=Builtin.Tuple.tupleExact _) (wpAny_newObj_type (wpAny_pure (wpAny_pure ⟨_,rfl,wpAny_pure h⟩)) htake))
  | exact wpAny_bind (wpAny_bind (m:=Builtin.Tuple.tupleExact _) (wpAny_newObj_type (wpAny_pure ⟨_,rfl,wpAny_pure h⟩) htake))
end
end HT
namespace L2
open PySem PySem.Spec PyProof.Rows
abbrev TO:=St->Hp->(Option Int->Hp->Prop)->Prop
def PO(X:Cx)(e:Option Expr)(t:TO):Prop:=
 ∀(pins:List (Addr×Obj)) (s:Shared) (σ:St) (H:Hp) (Q:Option Int->Hp->Prop),Inv X pins σ H s->t σ H Q ->
  wpAny (model X.prog X.w) X.A (evalPart e X.env) (λu s'=>∃o H',Inv X pins σ H' s'/\IsPart u o/\Q o H') X.xe s
def aEX:TO:=λ_ H Q=>Q none H
def aJE(t:TE):TO:=λσ H Q=>t σ H λx H1=>∃i,x=.int i/\Q (some i) H1
section
variable {X:Cx} {e:Expr} {te:TE} {lo hi:Option Expr} {tl th:TO} {pos p2:Pos}
theorem aEY:PO X none aEX:=by
 intro pins s σ H Q I h
 rw[evalPart_none]
 exact wpAny_pure ⟨none,H,I,.none,h⟩
theorem aEZ(h:PE X e te):PO X (some e) (aJE te):=by
 intro pins s σ H Q I hw
 rw[evalPart_some]
 refine thn (h pins s σ H _ I hw) λu s1 ⟨x,H1,I1,r1,q1⟩=>?_
 obtain⟨i,rfl,q⟩:=q1
 obtain⟨t,rfl⟩:=r1
 exact⟨some i,H1,I1,.int i t,q⟩
def SlR(X:Cx)(r:V->Option Int->Option Int->Hp->VK->Prop):Prop:=
 ∀(pins:List (Addr×Obj)) (s:Shared) (σ:St) (H:Hp) (x:V) (v vl vu:Value) (lo hi:Option Int) (sl:Addr) (Q:VK),Inv X pins σ H s->cA x v->s.heap.IsSliceOf sl vl vu .none->IsPart vl lo->IsPart vu hi->r x lo hi H Q ->
  ∃T id,typeLookup (.type T) "__getitem__" = pure (some (.builtin id))/\s.TypeIs v T/\wpAny (model X.prog X.w) X.A (getItem v (.ref sl)) (EP X pins σ Q) X.xe s
theorem SlR.or{r r':V->Option Int->Option Int->Hp->VK->Prop}(h:SlR X r)(h':SlR X r'):SlR X (λx lo hi H Q=>r x lo hi H Q\/r' x lo hi H Q):=by
 intro pins s σ H x v vl vu lo hi sl Q I rx hs pl pu q
 rcases q with q|q
 . exact h pins s σ H x v vl vu lo hi sl Q I rx hs pl pu q
 . exact h' pins s σ H x v vl vu lo hi sl Q I rx hs pl pu q
def tSl(r:V->Option Int->Option Int->Hp->VK->Prop)(te:TE)(tl th:TO):TE:=λσ H Q=>te σ H λx H1=>tl σ H1 λl H2=>th σ H2 λu H3=>r x l u H3 Q
theorem aCw{r:V->Option Int->Option Int->Hp->VK->Prop}(hr:SlR X r)(he:PE X e te)(hl:PO X lo tl)(hu:PO X hi th):PE X (.Subscript e (.Slice lo hi none p2) pos) (tSl r te tl th):=by
 intro pins s σ H Q I h
 refine Subscript_ (thn (he pins s σ H _ I h) λv s1 ⟨x,H1,I1,r1,q1⟩=>?_)
 refine wpAny_Slice (thn (hl pins s1 σ H1 _ I1 q1) λvl s2 ⟨l,H2,I2,pl,q2⟩=>thn (hu pins s2 σ H2 _ I2 q2) λvu s3 ⟨u,H3,I3,pu,q3⟩=>?_)
 rw[evalPart_none]
 refine wpAny_pure ?_
 have I4:Inv X pins σ H3 { s3 with heap:=s3.heap.push { cls:=.type "slice",data:=.fields #[vl,vu,.none] } }:=I3.kept (t':=s3.toks) λb ob q=>Heap.get?_push_of_some _ q
 obtain⟨T,id,hT,ht,hg⟩:=hr pins { s3 with heap:=s3.heap.push { cls:=.type "slice",data:=.fields #[vl,vu,.none] } } σ H3 x v vl vu l u s3.heap.objs.size Q I4 r1 (Heap.IsSliceOf.new ..) pl pu q3
 show wpAny (model X.prog X.w) X.A (subscriptTail e (.Slice lo hi none p2) v (.ref s3.heap.objs.size)) (EP X pins σ Q) X.xe { s3 with heap:=s3.heap.push { cls:=.type "slice",data:=.fields #[vl,vu,.none] } }
 exact tail_any (ops:=[.ref s3.heap.objs.size,v]) ht hT hg (by with_unfolding_all rfl)
def uV(xs:List V)(lo hi:Option Int):List V:=(xs.drop (HT.sIx xs.length 0 lo)).take (HT.sIx xs.length xs.length hi-HT.sIx xs.length 0 lo)
theorem mO(xs:List V)(lo hi:Option Int):(uV xs lo hi).length<=xs.length:=by
 unfold uV
 rw[List.length_take,List.length_drop]
 omega
def aCx(K:PySem.W.Frag):V->Option Int->Option Int->Hp->VK->Prop:=λx lo hi H Q=>∃a xs,x=.ref a/\SqT K H a xs /\
 ¬ (HT.sIx xs.length 0 lo=0/\HT.sIx xs.length xs.length hi=xs.length)/\∀p,H p=none->Q (.ref p) (upd H p (.tup (uV xs lo hi)))
theorem aHt:SlR X (aCx X.K):=by
 intro pins s σ H x v vl vu lo hi sl Q I rx hs pl pu h
 obtain⟨a,xs,rfl,hx,hw,q⟩:=h
 cases rx
 obtain⟨its,r,ht,hz⟩:=I.tuple hx
 have hlen:its.toArray.size=xs.length:=by rw[List.size_toArray];exact r.length.symm
 refine⟨"tuple",_,PyProof.Rows.slot_tuple_getitem.lookup,ht.typeIs,?_⟩
 refine HT.getItem_tuple_cut ht hs pl pu (by rw[hlen];exact hw) ?_ (by rw[hlen];exact hz)
 rw[hlen]
 refine⟨.ref s.heap.objs.size,_,I.laid (t':=s.toks) (o:=.tup (uV xs lo hi)) (λb ob q=>Heap.get?_push_of_some _ q) (Nat.le_refl _) ?_,rfl,q _ (I.hok.fresh (Nat.le_refl _))⟩
 exact⟨Nat.le_trans (mO xs lo hi) hz,_,(r.drop (HT.sIx xs.length 0 lo)).take (HT.sIx xs.length xs.length hi-HT.sIx xs.length 0 lo),IsTup.new _ _⟩
def aJF(K:PySem.W.Frag):R2:=λx y H Q=>∃a b xs ys,x=.ref a/\y=.ref b/\SqT K H a xs/\SqT K H b ys/\xs≠[]/\xs.length+ys.length<=sizeLine /\
 (ys=[]->Q (.ref a) H)/\(ys≠[]->∀p,H p=none->Q (.ref p) (upd H p (.tup (xs++ys))))
theorem aY.nil_iff{xs:List V}{us:List Value}(r:aY xs us):us=[]↔xs=[]:=by
 cases r with
 | nil=>simp
 | cons _ _=>simp
theorem aFa:OpR X (binaryOp .Add) (aJF X.K):=by
 intro pins s σ H x y v u Q I rx ry h
 obtain⟨a,b,xs,ys,rfl,rfl,ha,hb,hx,hz,q1,q2⟩:=h
 cases rx
 cases ry
 obtain⟨its,r1,p1,_⟩:=I.tuple ha
 obtain⟨its2,r2,p2,_⟩:=I.tuple hb
 refine HT.cat_tup p1 p2 (λz=>hx (r1.nil_iff.mp z)) (λz=>⟨.ref a,H,I,rfl,q1 (r2.nil_iff.mp z)⟩) (λz=>?_) (by rw[<-r1.length,<-r2.length];exact hz)
 refine⟨.ref s.heap.objs.size,_,I.laid (t':=s.toks) (o:=.tup (xs++ys)) (λb ob q=>Heap.get?_push_of_some _ q) (Nat.le_refl _) ?_,rfl,q2 (λw=>z (r2.nil_iff.mpr w)) _ (I.hok.fresh (Nat.le_refl _))⟩
 exact⟨by rw[List.length_append];exact hz,_,r1.append r2,IsTup.new _ _⟩
end
end L2
namespace L2
open PySem PySem.Spec PyProof.Rows
def ixN(n:Nat)(i:Int):Option Nat:=if 0<=i then (if i<n then some i.toNat else none) else if -(n:Int)<=i then some (i+n).toNat else none
def atI{α:Type}(xs:List α)(i:Int):Option α:=(ixN xs.length i).bind λj=>xs[j]?
theorem aAc{n:Nat}{i:Int}{j:Nat}(h:ixN n i=some j):seqIndex? i n=some j/\j<n/\-(n:Int)<=i/\i<n:=by
 unfold ixN at h
 by_cases h0:0<=i
 . rw[if_pos h0] at h
   by_cases h1:i<n
   . rw[if_pos h1] at h
     have e:i.toNat=j:=Option.some.inj h
     exact⟨by rw[seqIndex_of h0 h1,e],by omega,by omega,h1⟩
   . rw[if_neg h1] at h;cases h
 . rw[if_neg h0] at h
   by_cases h1:-(n:Int)<=i
   . rw[if_pos h1] at h
     have e:(i+n).toNat=j:=Option.some.inj h
     exact⟨by rw[seqIndex_neg (by omega) h1,e],by omega,h1,by omega⟩
   . rw[if_neg h1] at h;cases h
theorem sL{α:Type}{xs:List α}{i:Int}{v:α}(h:atI xs i=some v):∃j,seqIndex? i xs.length=some j/\xs[j]? = some v/\j<xs.length/\-(xs.length:Int)<=i/\i<xs.length:=by
 unfold atI at h
 cases e:ixN xs.length i with
 | none=>rw[e] at h;cases h
 | some j=>
  rw[e] at h
  obtain⟨h1,h2,h3,h4⟩:=aAc e
  exact⟨j,h1,h,h2,h3,h4⟩
def aAd(b:Expr):Prop:=∀o i,subscripted b false o i=operate [o,i] (getItem o i)
def IxR(X:Cx)(r:R2):Prop:=
 ∀(value slice:Expr) (pins:List (Addr×Obj)) (s:Shared) (σ:St) (H:Hp) (x y:V) (v u:Value) (Q:VK),Inv X pins σ H s->cA x v->cA y u->r x y H Q ->
  subscripted slice false v u=operate [v,u] (getItem v u)->wpAny (model X.prog X.w) X.A (subscriptTail value slice v u) (EP X pins σ Q) X.xe s
def MtR(X:Cx)(id:String)(r:V->List V->Hp->VK->Prop):Prop:=
 ∀(pins:List (Addr×Obj)) (s:Shared) (σ:St) (H:Hp) (x:V) (xs:List V) (v:Value) (us:List Value) (Q:VK),Inv X pins σ H s->cA x v->aY xs us->r x xs H Q ->
  wpAny (model X.prog X.w) X.A (call (.builtin id) (v::us)) (EP X pins σ Q) X.xe s
section
variable {X:Cx} {a b:Expr} {ta tb:TE} {pos:Pos}
theorem IxR.or{r r':R2}(h:IxR X r)(h':IxR X r'):IxR X (λx y H Q=>r x y H Q\/r' x y H Q):=by
 intro value slice pins s σ H x y v u Q I rx ry q hs
 rcases q with q|q
 . exact h value slice pins s σ H x y v u Q I rx ry q hs
 . exact h' value slice pins s σ H x y v u Q I rx ry q hs
theorem aGs{r:R2}(hr:IxR X r)(ha:PE X a ta)(hb:PE X b tb)(hs:aAd b):PE X (.Subscript a b pos) (tOp r ta tb):=by
 intro pins s σ H Q I h
 exact Subscript_ (aJu ha hb I h λv u s2 x y H2 I2 rx ry q=>hr a b pins s2 σ H2 x y v u Q I2 rx ry q (hs _ _))
def aJG(K:PySem.W.Frag):R2:=λx y H Q=>∃p xs i v,x=.ref p/\y=.int i/\SqL K H p xs/\atI xs i=some v/\Q v H
def aJH(K:PySem.W.Frag):R2:=λx y H Q=>∃p xs i v,x=.ref p/\y=.int i/\SqT K H p xs/\atI xs i=some v/\Q v H
def aJI:R2:=λx y H Q=>∃z i c,x=.str z/\y=.int i/\z.length<=sizeLine/\atI z.cps.toList i=some c/\Q (.str ⟨#[c]⟩) H
theorem aFb:IxR X (aJG X.K):=by
 intro value slice pins s σ H x y v u Q I rx ry h hs
 obtain⟨p,xs,i,z,rfl,rfl,hq,he,q⟩:=h
 cases rx
 obtain⟨t,rfl⟩:=ry
 obtain⟨its,r,pl,hz⟩:=I.list hq
 obtain⟨j,h1,h2,h3,h4,h5⟩:=sL he
 obtain⟨w,ew,rw'⟩:=r.get h2
 have hl:=r.length
 have hn:=jT
 have fin:EP X pins σ Q w s:=⟨z,H,I,rw',q⟩
 by_cases h0:0<=i
 . have hj:i.toNat=j:=by
    rw[seqIndex_of h0 h5] at h1
    exact Option.some.inj h1
   exact item_listR pl.isList h0 (by omega) (by rw[hj];simpa using ew) fin hs
 . have hj:(i+(its.toArray.size:Int)).toNat=j:=by
    rw[seqIndex_neg (by omega) h4] at h1
    rw[List.size_toArray,<-hl]
    exact Option.some.inj h1
   exact subscriptTail_builtinR (x:=w) pl.isList.typeIs slot_list_getitem.lookup
    (wpAny_getItem_list_neg (Q:=λr s'=>r=w/\EP X pins σ Q r s') pl.isList (by omega) (by rw[List.size_toArray] <;> omega) (by omega) (by rw[hj];simpa using ew) ⟨rfl,fin⟩) hs
theorem aCy:IxR X (aJH X.K):=by
 intro value slice pins s σ H x y v u Q I rx ry h hs
 obtain⟨p,xs,i,z,rfl,rfl,hq,he,q⟩:=h
 cases rx
 obtain⟨t,rfl⟩:=ry
 obtain⟨its,r,pl,hz⟩:=I.tuple hq
 obtain⟨j,h1,h2,h3,h4,h5⟩:=sL he
 obtain⟨w,ew,rw'⟩:=r.get h2
 have hl:=r.length
 have hn:=jT
 have fin:EP X pins σ Q w s:=⟨z,H,I,rw',q⟩
 exact subscriptTail_builtinR (x:=w) pl.typeIs slot_tuple_getitem.lookup
  (getItem_tuple (j:=j) (Q:=λr s'=>r=w/\EP X pins σ Q r s') pl (by omega) (by omega) (by rw[List.size_toArray,<-hl];exact h1) (by simpa using ew) ⟨rfl,fin⟩) hs
theorem aHu:IxR X aJI:=by
 intro value slice pins s σ H x y v u Q I rx ry h hs
 obtain⟨z,i,c,rfl,rfl,hz,he,q⟩:=h
 obtain⟨t,rfl⟩:=rx
 obtain⟨t',rfl⟩:=ry
 obtain⟨j,h1,h2,h3,h4,h5⟩:=sL he
 have hl:z.cps.toList.length=z.length:=by simp[Str.length]
 rw[hl] at h1 h4 h5
 have hn:=jT
 exact tail_any (typeIs_str s z t) slot_str_getitem.lookup (getItem_str (c:=c) (by
  have e1:decide (i < -(2 ^ 63:Int))=false:=decide_eq_false (by omega)
  have e2:decide (i ≥ 2 ^ 63)=false:=decide_eq_false (by omega)
  rw[e1,e2,Bool.or_false]) (by rw[h1];simpa using h2) ⟨.str ⟨#[c]⟩,H,I.tok _,⟨_,rfl⟩,q⟩) hs
def rIx(K:PySem.W.Frag):R2:=λx y H Q=>aJG K x y H Q\/aJH K x y H Q\/aJI x y H Q
theorem aHv:IxR X (rIx X.K):=aFb.or (aCy.or aHu)
theorem xX(its:List Value)(n j:Nat)(u:Value):Obj.mapSeq (·.setIfInBounds j u) { cls:=.type "list",data:=.seq its.toArray n }={ cls:=.type "list",data:=.seq (its.set j u).toArray n }:=by
 simp[Obj.mapSeq]
theorem Inv.lst{pins:List (Addr×Obj)}{σ:St}{H:Hp}{s:Shared}{p:Addr}{xs:List V}(I:Inv X pins σ H s)(h:H p=some (.lst xs)) :
 ∃(its:List Value) (n:Nat),aY xs its/\s.heap.get? p=some { cls:=.type "list",data:=.seq its.toArray n }/\xs.length<=sizeLine:=by
 obtain⟨z,its,n,r,e⟩:=I.hok p _ h
 exact⟨its,n,r,e,z⟩
theorem Inv.lstUpd{pins:List (Addr×Obj)}{σ:St}{H:Hp}{s:Shared}{p:Addr}{xs ys:List V}{its its':List Value}{n n':Nat}{f:Obj->Obj}(I:Inv X pins σ H s)(h:H p=some (.lst xs))
 (ho:s.heap.get? p=some { cls:=.type "list",data:=.seq its.toArray n }) (hf:f { cls:=.type "list",data:=.seq its.toArray n }={ cls:=.type "list",data:=.seq its'.toArray n' }) (r:aY ys its') (hz:ys.length<=sizeLine) (t:Nat) :
 Inv X pins σ (upd H p (.lst ys)) { s with heap:=s.heap.update p f,toks:=t }:=by
 have e:(s.heap.update p f).get? p=some { cls:=.type "list",data:=.seq its'.toArray n' }:=by
  rw[Heap.get?_update_self f ho (by rw[hf] <;> rfl),hf]
 refine I.write (x:=p) (e:=p) (by rw[h];trivial) (.inl rfl) (λb u hb q=>(Heap.get?_update_other _ _ (Ne.symm hb)).trans q) ⟨_,e⟩ ?_
 exact⟨hz,its',n',r,e⟩
def aJJ:V->V->V->Hp->(Hp->Prop)->Prop:=λo i v H Q=>∃p xs k j,o=.ref p/\i=.int k/\H p=some (.lst xs)/\ixN xs.length k=some j/\Q (upd H p (.lst (xs.set j v)))
theorem aCz:aHd X aJJ:=by
 intro pins s σ H o i v ov iv u Q I ro ri rv h
 obtain⟨p,xs,k,j,rfl,rfl,hp,hj,q⟩:=h
 cases ro
 obtain⟨t,rfl⟩:=ri
 obtain⟨its,n,r,ho,hz⟩:=I.lst hp
 obtain⟨h1,h2,h3,h4⟩:=aAc hj
 have hl:=r.length
 have hn:=jT
 have I':Inv X pins σ (upd H p (.lst (xs.set j v))) { s with heap:=s.heap.update p (Obj.mapSeq (·.setIfInBounds j u)) }:=
  I.lstUpd hp ho (xX its n j u) (r.set rv j) (by rw[List.length_set];exact hz) s.toks
 by_cases h0:0<=k
 . have hk:k.toNat=j:=by
    rw[seqIndex_of h0 h4] at h1
    exact Option.some.inj h1
   exact PySem.W.ki_setAt ho h0 (by omega) (by rw[List.size_toArray,<-hl];exact h4) (by rw[hk];exact⟨_,I',q⟩)
 . have hk:(k+(its.toArray.size:Int)).toNat=j:=by
    rw[seqIndex_neg (by omega) h3] at h1
    rw[List.size_toArray,<-hl]
    exact Option.some.inj h1
   exact PySem.W.ki_setBack ho (by omega) (by rw[List.size_toArray,<-hl];exact h3) (by omega) (by rw[hk];exact⟨_,I',q⟩)
theorem sM(lo hi:Option Int)(n:Nat):(sliceBounds lo hi none n).1=((HT.sIx n 0 lo:Nat):Int)/\(sliceBounds lo hi none n).2.1=((HT.sIx n n hi:Nat):Int)/\(sliceBounds lo hi none n).2.2=1:=by
 refine⟨?_,?_,rfl⟩
 . cases lo with
   | none=>simp[sliceBounds,HT.sIx]
   | some i=>
    simp only[sliceBounds,HT.sIx,Option.getD_none,show(1:Int)>0 by decide,if_true]
    by_cases h:i<0
    . simp only[h,if_true] <;> omega
    . simp only[h,if_false] <;> omega
 . cases hi with
   | none=>simp[sliceBounds,HT.sIx]
   | some i=>
    simp only[sliceBounds,HT.sIx,Option.getD_none,show(1:Int)>0 by decide,if_true]
    by_cases h:i<0
    . simp only[h,if_true] <;> omega
    . simp only[h,if_false] <;> omega
theorem qH(its:List Value)(lo hi:Option Int):slicePick its.toArray lo hi none=((its.drop (HT.sIx its.length 0 lo)).take (HT.sIx its.length its.length hi-HT.sIx its.length 0 lo)).toArray:=by
 obtain⟨h1,h2,h3⟩:=sM lo hi its.toArray.size
 unfold slicePick
 rw[h1,h2,h3]
 simp only[sliceRange_one,pick_run,List.size_toArray] <;> rfl
def aCA(K:PySem.W.Frag):V->Option Int->Option Int->Hp->VK->Prop:=λx lo hi H Q=>∃a xs,x=.ref a/\SqL K H a xs/\∀p,H p=none->Q (.ref p) (upd H p (.lst (uV xs lo hi)))
theorem aFc:SlR X (aCA X.K):=by
 intro pins s σ H x v vl vu lo hi sl Q I rx hs pl pu h
 obtain⟨a,xs,rfl,hx,q⟩:=h
 cases rx
 obtain⟨its,r,ht,hz⟩:=I.list hx
 have hlen:=r.length
 refine⟨"list",_,slot_list_getitem.lookup,ht.isList.typeIs,?_⟩
 refine wpAny_getItem_list_slice ht.isList hs pl pu .none (by simp) ?_ (by rw[List.size_toArray] <;> omega)
 rw[qH,<-hlen]
 refine⟨.ref s.heap.objs.size,_,I.laid (t':=s.toks) (o:=.lst (uV xs lo hi)) (λb ob q=>Heap.get?_push_of_some _ q) (Nat.le_refl _) ?_,rfl,q _ (I.hok.fresh (Nat.le_refl _))⟩
 exact⟨Nat.le_trans (mO xs lo hi) hz,_,0,(r.drop (HT.sIx xs.length 0 lo)).take (HT.sIx xs.length xs.length hi-HT.sIx xs.length 0 lo),Heap.get?_push_size _ rfl⟩
theorem sN:OpR X (compareOp .NotIn) (λx y H Q=>∃i j,x=.str i/\y=.str j/\Q (.bl (!(!(Builtin.Str.occurrences j i 0 j.length 1).isEmpty))) H):=by
 intro pins s σ H x y v u Q I rx ry h
 obtain⟨i,j,rfl,rfl,q⟩:=h
 obtain⟨t,rfl⟩:=rx
 obtain⟨t',rfl⟩:=ry
 exact notIn_str ⟨.bl _,H,I,rfl,q⟩
theorem sO:fM X (.builtin "len") (λxs H Q=>∃p ys,xs=[.ref p]/\(SqL X.K H p ys\/SqT X.K H p ys)/\Q (.int ys.length) H):=by
 intro pins s σ H xs us Q I r h
 obtain⟨p,ys,rfl,hq,q⟩:=h
 obtain⟨u,rfl,rx⟩:=nS r
 cases rx
 have hn:=jT
 rcases hq with hq|hq
 . obtain⟨its,r',pl,hz⟩:=I.list hq
   have hlen:=r'.length
   exact Calls.call_len_list pl.isList (by simp only[List.size_toArray] <;> omega) ⟨.int ys.length,H,I.tok _,⟨s.toks+1,by rw[List.size_toArray,hlen]⟩,q⟩
 . obtain⟨its,r',pl,hz⟩:=I.tuple hq
   have hlen:=r'.length
   exact len_tuple pl (by simp only[List.size_toArray] <;> omega) ⟨.int ys.length,H,I.tok _,⟨s.toks+1,by rw[List.size_toArray,hlen]⟩,q⟩
theorem sP:fM X (.builtin "len") (λxs H Q=>∃z,xs=[.str z]/\z.length<=sizeLine/\Q (.int z.length) H):=by
 intro pins s σ H xs us Q I r h
 obtain⟨z,rfl,hz,q⟩:=h
 obtain⟨u,rfl,t,rfl⟩:=nS r
 have hn:=jT
 exact len_str (by omega) ⟨.int z.length,H,I.tok _,⟨_,rfl⟩,q⟩
theorem fM.or{f:Value}{r r':List V->Hp->VK->Prop}(h:fM X f r)(h':fM X f r'):fM X f (λxs H Q=>r xs H Q\/r' xs H Q):=by
 intro pins s σ H xs us Q I rs q
 rcases q with q|q
 . exact h pins s σ H xs us Q I rs q
 . exact h' pins s σ H xs us Q I rs q
theorem sQ:fM X (.type "list") (λxs H Q=>∃p ys,xs=[.ref p]/\(SqL X.K H p ys\/SqT X.K H p ys)/\∀l,H l=none->Q (.ref l) (upd H l (.lst ys))):=by
 intro pins s σ H xs us Q I r h
 obtain⟨p,ys,rfl,hq,q⟩:=h
 obtain⟨u,rfl,rx⟩:=nS r
 cases rx
 have fin:∀(its:List Value),aY ys its->ys.length<=sizeLine->∀(h':Heap) (c':Nat),(∀b o',s.heap.get? b=some o'->h'.get? b=some o') ->
  h'.get? s.heap.objs.size=some { cls:=.type "list",dict:=none,data:=.seq its.toArray c',slots:=#[] }->EP X pins σ Q (.ref s.heap.objs.size) { s with heap:=h' }:=λits r' hz h' c' kp e=>
  ⟨.ref s.heap.objs.size,_,I.laid (t':=s.toks) kp (Nat.le_refl _) (show eK X.prog X.w _ h' _ (.lst ys) from⟨hz,its,c',r',e⟩),rfl,q _ (I.hok.fresh (Nat.le_refl _))⟩
 rcases hq with hq|hq
 . obtain⟨its,r',pl,hz⟩:=I.list hq
   have hlen:=r'.length
   obtain⟨o,ho,hc,n,hd⟩:=pl.isList
   exact call_list_seq p (.inl rfl) ho hc hd (λh' c' kp e=>fin its r' hz h' c' kp e) (by simp only[List.size_toArray] <;> omega)
 . obtain⟨its,r',pl,hz⟩:=I.tuple hq
   have hlen:=r'.length
   obtain⟨o,ho,hc,n,hd⟩:=pl
   exact call_list_seq p (.inr rfl) ho hc hd (λh' c' kp e=>fin its r' hz h' c' kp e) (by simp only[List.size_toArray] <;> omega)
theorem qJ:fM X (.type "tuple") (λxs H Q=>∃p ys,xs=[.ref p]/\((SqL X.K H p ys/\∀l,H l=none->Q (.ref l) (upd H l (.tup ys)))\/(SqT X.K H p ys/\Q (.ref p) H))):=by
 intro pins s σ H xs us Q I r h
 obtain⟨p,ys,rfl,h⟩:=h
 obtain⟨u,rfl,rx⟩:=nS r
 cases rx
 rcases h with⟨hq,q⟩|⟨hq,q⟩
 . obtain⟨its,r',pl,hz⟩:=I.list hq
   have hlen:=r'.length
   refine call_tuple_list pl.isList (λh' kp=>?_) (by simp only[List.size_toArray] <;> omega)
   have I1:Inv X pins σ H { s with heap:=h' }:=I.kept (t':=s.toks) kp
   have I2:Inv X pins σ (upd H h'.objs.size (.tup ys)) { s with heap:=h'.push { cls:=.type "tuple",data:=.seq its.toArray } }:=
    I1.laid (t':=s.toks) (λb o e=>Heap.get?_push_of_some _ e) (Nat.le_refl _) (show eK X.prog X.w _ _ _ (.tup ys) from⟨hz,its,r',IsTup.new _ _⟩)
   exact⟨.ref h'.objs.size,_,I2,rfl,q _ (I1.hok.fresh (Nat.le_refl _))⟩
 . obtain⟨its,r',pl,hz⟩:=I.tuple hq
   exact call_tuple_same pl ⟨.ref p,H,I,rfl,q⟩
def tyV(K:PySem.W.Frag)(T:String)(x:V)(H:Hp):Prop:=match x with
 | .str _=>T = "str"
 | .int _=>T = "int"
 | .ref p=>(T = "list" /\ ∃xs,SqL K H p xs)\/(T = "tuple" /\ ∃o,K.lookup p=some o/\o.cls=.type "tuple" /\ o.dict=none) \/
  (T = "dict" /\ ((∃kvs,H p=some (.dK kvs))\/∃kvs,H p=some (.dT kvs)))\/(T = "set" /\ ∃S n,H p=some (.set S n))
 | _=>False
theorem aCB{pins:List (Addr×Obj)}{σ:St}{H:Hp}{s:Shared}{T:String}{x:V}{v:Value}(I:Inv X pins σ H s)(r:cA x v)(ty:tyV X.K T x H) :
 s.TypeIs v T/\∀a,v=.ref a->∃ob,s.heap.get? a=some ob/\ob.dict=none:=by
 cases x with
 | str z=>
  obtain⟨t,rfl⟩:=r
  cases(show T = "str" from ty)
  exact⟨typeIs_str s z t,λ_ e=>nomatch e⟩
 | int i=>
  obtain⟨t,rfl⟩:=r
  cases(show T = "int" from ty)
  exact⟨typeIs_int s i t,λ_ e=>nomatch e⟩
 | ref p=>
  cases r
  rcases ty with⟨rfl,xs,hq⟩|⟨rfl,o,hk,hc,hd⟩|⟨rfl,hk⟩|⟨rfl,S,n,hk⟩
  . obtain⟨its,_,pl,_⟩:=I.list hq
    refine⟨pl.isList.typeIs,λa e=>?_⟩
    cases e
    obtain⟨o,n,e,c,hd,_⟩:=pl
    exact⟨o,e,hd⟩
  . refine⟨⟨o,I.kIn p o hk,hc⟩,λa e=>?_⟩
    cases e
    exact⟨o,I.kIn _ o hk,hd⟩
  . have z:∃o,s.heap.get? p=some o/\o.ExactDict:=by
     rcases hk with⟨kvs,hk⟩|⟨kvs,hk⟩
     . obtain⟨_,_,_,_,o,_,_,e,ex,_⟩:=I.hok p _ hk
       exact⟨o,e,ex⟩
     . obtain⟨_,_,_,_,o,_,_,e,ex,_⟩:=I.hok p _ hk
       exact⟨o,e,ex⟩
    obtain⟨o,e,ex⟩:=z
    refine⟨⟨o,e,ex.1⟩,λa e2=>?_⟩
    cases e2
    exact⟨o,e,ex.2.1⟩
  . obtain⟨o,_,_,_,e,ex,_⟩:=I.hok p _ hk
    refine⟨⟨o,e,ex.1⟩,λa e2=>?_⟩
    cases e2
    exact⟨o,e,ex.2.1⟩
 | _=>exact False.elim ty
def aMH(K:PySem.W.Frag)(T:String)(r:V->List V->Hp->VK->Prop)(to:TE):TE:=λσ H Q=>to σ H λx H1=>tyV K T x H1/\r x [] H1 Q
def tBM(K:PySem.W.Frag)(T:String)(r:V->List V->Hp->VK->Prop)(to:TE)(t:TA):TE:=λσ H Q=>to σ H λx H1=>tyV K T x H1/\t σ H1 λxs H2=>r x xs H2 Q
variable {o e:Expr} {es:List Expr} {to:TE} {t:TA} {name:Str} {apos cpos:Pos} {T id:String} {r:V->List V->Hp->VK->Prop}
theorem aHw(pa:PlainAttrs T)(slot:Slot T name id)(hty:typeOf (.builtin id)=pure (.type "method_descriptor"))(hm:MtR X id r)(ho:PE X o to)
 (hbase:attributeBase o name X.env (eval o X.env)=eval o X.env:=by rfl) (hline:(apos.endLine==cpos.line)=true:=by rfl):PE X (.Call (.Attribute o name apos) [] [] cpos) (aMH X.K T r to):=by
 intro pins s σ H Q I h
 refine wpAny_Call_method0_late hbase hline (thn (ho pins s σ H _ I h) λv s1 ⟨x,H1,I1,r1,ty,q1⟩=>?_)
 obtain⟨h1,h2⟩:=aCB I1 r1 ty
 exact⟨T,id,pa,slot,hty,h1,h2,Calls.callWith_builtin rfl (PySem.evalArgs_none (hm pins s1 σ H1 x [] v [] Q I1 r1 .nil q1))⟩
theorem aAe(pa:PlainAttrs T)(slot:Slot T name id)(hty:typeOf (.builtin id)=pure (.type "method_descriptor"))(hm:MtR X id r)(ho:PE X o to)(ha:PA X (e::es) t)
 (hbase:attributeBase o name X.env (eval o X.env)=eval o X.env:=by rfl)
 (hfew:((backTo cpos (starEach (e::es) X.env)).all (λx=>!x.1)&&(backToKw cpos (keywordEach [] X.env)).all (λx=>x.1.isSome)
  && decide ((e::es).length+([]:List Keyword).length+(if ([]:List Keyword).isEmpty then 0 else 1)<30))=true:=by rfl)
 (hline:(apos.endLine==cpos.line)=true:=by rfl) (hs:starEach (e::es) X.env=(false,eval e X.env)::starEach es X.env:=by rfl) (hplain:(backTo cpos (starEach es X.env)).any (·.1)=false:=by rfl) :
 PE X (.Call (.Attribute o name apos) (e::es) [] cpos) (tBM X.K T r to t):=by
 intro pins s σ H Q I h
 refine wpAny_Call_method_late hbase hfew hline rfl (thn (ho pins s σ H _ I h) λv s1 ⟨x,H1,I1,r1,ty,q1⟩=>?_)
 obtain⟨h1,h2⟩:=aCB I1 r1 ty
 refine⟨T,id,pa,slot,hty,h1,h2,?_⟩
 have hA:=ha cpos pins s1 σ H1 _ I1 q1
 rw[hs] at hA ⊢
 refine Calls.callWith_builtin (by show(false||(backTo cpos (starEach es X.env)).any (·.1))=false;rw[hplain] <;> rfl) (Calls.evalArgs_plain ?_)
 exact thn hA λus s2 ⟨vs,H2,I2,r2,q2⟩=>hm pins s2 σ H2 x vs v us Q I2 r1 r2 q2
end
end L2
namespace L2
open PySem PySem.Spec PyProof.Rows
def MtM(X:Cx)(id:String)(r:V->List V->Hp->VK->Prop):Prop:=
 ∀(pins:List (Addr×Obj)) (s:Shared) (σ:St) (H:Hp) (x:V) (xs:List V) (v:Value) (us:List Value) (Q:VK),Inv X pins σ H s->cA x v->aY xs us->r x xs H Q ->
  wpAny (model X.prog X.w) X.A (call (.builtin id) (v::us)) (EP X pins σ Q) X.xe s
theorem aY.one:∀{x:V} {us:List Value},aY [x] us->∃u,us=[u]/\cA x u:=by
 intro x us h
 cases h with|cons r t=>cases t;exact⟨_,rfl,r⟩
theorem aY.zero:∀{us:List Value},aY [] us->us=[]
 | _,.nil=>rfl
theorem aY.eraseIdx:∀{xs:List V} {us:List Value} (i:Nat),aY xs us->aY (xs.eraseIdx i) (us.eraseIdx i)
 | _,_,_,.nil=>.nil
 | _,_,0,.cons _ t=>t
 | _,_,i+1,.cons r t=>.cons r (aY.eraseIdx i t)
theorem aY.reverse{xs:List V}{us:List Value}(h:aY xs us):aY xs.reverse us.reverse:=by
 induction h with
 | nil=>exact .nil
 | cons r t ih=>rw[List.reverse_cons,List.reverse_cons];exact aY.append ih (.cons r .nil)
theorem aY.rep{xs:List V}{us:List Value}(h:aY xs us):∀k:Nat,aY (List.replicate k xs).flatten (List.replicate k us).flatten
 | 0=>.nil
 | k+1=>by
  rw[List.replicate_succ,List.replicate_succ,List.flatten_cons,List.flatten_cons]
  exact aY.append h (aY.rep h k)
theorem lK(its:List Value):∀(k:Nat) (acc:List Value),
 List.foldl (λx1 x2=>x1++x2) acc.toArray (List.replicate k its.toArray)=(acc++(List.replicate k its).flatten).toArray
 | 0,acc=>by simp
 | k+1,acc=>by
  have e:acc.toArray++its.toArray=(acc++its).toArray:=by simp
  have e2:(acc++its)++(List.replicate k its).flatten=acc++(List.replicate (k+1) its).flatten:=by
   rw[List.replicate_succ,List.flatten_cons,List.append_assoc]
  rw[<-e2,<-lK its k (acc++its),<-e,List.replicate_succ,List.foldl_cons]
section
variable {X:Cx} {pins:List (Addr×Obj)} {σ:St} {H:Hp} {s:Shared} {l b:Addr} {xs ys zs:List V}
theorem Inv.lset{its its':List Value}{n:Nat}{f:Array Value->Array Value}{t':Nat}(I:Inv X pins σ H s)(hH:H l=some (.lst xs))
 (e:s.heap.get? l=some { cls:=.type "list",data:=.seq its.toArray n }) (hf:f its.toArray=its'.toArray) (hv:aY ys its') (hz:ys.length<=sizeLine) :
 Inv X pins σ (upd H l (.lst ys)) { s with heap:=s.heap.update l (Obj.mapSeq f),toks:=t' }:=by
 have q:=PySem.IsL.update e f
 rw[hf] at q
 refine I.write (x:=l) (e:=l) (by rw[hH];exact trivial) (.inl rfl) (λb' u hb hu=>(Heap.get?_update_other s.heap (Obj.mapSeq f) (Ne.symm hb)).trans hu) ⟨_,q⟩ ?_
 exact⟨hz,its',_,hv,q⟩
theorem Inv.lnew{its:List Value}{t':Nat}(I:Inv X pins σ H s)(hv:aY ys its)(hz:ys.length<=sizeLine) :
 Inv X pins σ (upd H s.heap.objs.size (.lst ys)) { s with heap:=s.heap.push { cls:=.type "list",data:=.seq its.toArray },toks:=t' }:=
 I.laid (λ_ _ q=>Heap.get?_push_of_some _ q) (Nat.le_refl _) ⟨hz,its,0,hv,Heap.get?_push_size _ rfl⟩
theorem Inv.fresh(I:Inv X pins σ H s):H s.heap.objs.size=none:=I.hok.fresh (Nat.le_refl _)
theorem Inv.lstM(I:Inv X pins σ H s)(hH:H l=some (.lst xs)):xs.length<=sizeLine/\∃(its:List Value) (n:Nat),aY xs its/\xs.length=its.length/\s.heap.get? l=some { cls:=.type "list",data:=.seq its.toArray n }:=by
 obtain⟨z,its,n,r,e⟩:=I.hok l _ hH
 exact⟨z,its,n,r,r.length,e⟩
theorem uW{n:Nat}(h:n<=sizeLine):Builtin.List.listTooLong n=false:=by
 unfold Builtin.List.listTooLong
 exact decide_eq_false (by omega)
end
section
variable {X:Cx}
def aFd:V->List V->Hp->VK->Prop:=λx vs H Q=>∃l xs y,x=.ref l/\vs=[y]/\H l=some (.lst xs)/\xs.length<sizeLine/\Q .non (upd H l (.lst (xs++[y])))
theorem qV:MtM X "list.append" aFd:=by
 intro pins s σ H x vs v us Q I rx rv h
 obtain⟨l,xs,y,rfl,rfl,hH,hz,q⟩:=h
 cases rx
 obtain⟨u,rfl,ru⟩:=rv.one
 obtain⟨z,its,n,r,hl,e⟩:=I.lstM hH
 refine call_meets F.slot_list_append ⟨_,e,rfl⟩ F.entry_list_append (F.args_list_append_2 _ _) (PySem.list_append l its.toArray n u (by rw[List.size_toArray];omega)) ⟨e,?_⟩
 refine⟨.non,_,I.lset (its':=its++[u]) hH e (by simp) (r.append (.cons ru .nil)) ?_,rfl,q⟩
 rw[List.length_append,List.length_singleton]
 omega
def aFe:V->List V->Hp->VK->Prop:=λx vs H Q=>∃l b xs zs,x=.ref l/\vs=[.ref b]/\H l=some (.lst xs)/\H b=some (.lst zs)/\xs.length+zs.length<=sizeLine/\Q .non (upd H l (.lst (xs++zs)))
theorem aBl:MtM X "list.extend" aFe:=by
 intro pins s σ H x vs v us Q I rx rv h
 obtain⟨l,b,xs,zs,rfl,rfl,hH,hB,hz,q⟩:=h
 cases rx
 obtain⟨u,rfl,ru⟩:=rv.one
 cases ru
 obtain⟨z,its,n,r,hl,e⟩:=I.lstM hH
 obtain⟨z2,its2,n2,r2,hl2,e2⟩:=I.lstM hB
 have hsz:its.toArray.size+its2.toArray.size<=sizeLine:=by rw[List.size_toArray,List.size_toArray];omega
 have hlong:¬ (!its.toArray.isEmpty&&Builtin.List.listTooLong (its.toArray.size+its2.toArray.size))=true:=by
  rw[uW hsz,Bool.and_false]
  exact Bool.false_ne_true
 refine call_meets F.slot_list_extend ⟨_,e,rfl⟩ F.entry_list_extend (F.args_list_extend_2 _ _)
  (AutoSeq1.list_extend_list_list_0 l its.toArray n b its2.toArray n2 hlong (by rw[List.size_toArray];omega) (by omega)) ⟨e,e2,?_⟩
 refine⟨.non,_,I.lset (its':=its++its2) hH e (by simp) (r.append r2) ?_,rfl,q⟩
 rw[List.length_append]
 omega
def aCC:V->List V->Hp->VK->Prop:=λx vs H Q=>∃l xs,x=.ref l/\vs=[]/\H l=some (.lst xs)/\Q .non (upd H l (.lst xs.reverse))
theorem xY:MtM X "list.reverse" aCC:=by
 intro pins s σ H x vs v us Q I rx rv h
 obtain⟨l,xs,rfl,rfl,hH,q⟩:=h
 cases rx
 have hus:=rv.zero
 subst hus
 obtain⟨z,its,n,r,hl,e⟩:=I.lstM hH
 refine call_meets F.slot_list_reverse ⟨_,e,rfl⟩ F.entry_list_reverse (F.args_list_reverse_1 _) (AutoSeq1.list_reverse_list_0 l its.toArray n (by rw[List.size_toArray];omega)) ⟨e,?_⟩
 refine⟨.non,_,I.lset (its':=its.reverse) hH e (by simp) r.reverse ?_,rfl,q⟩
 rw[List.length_reverse]
 omega
def aMI:R2:=λx y H Q=>∃l k xs,x=.ref l/\y=.int k/\H l=some (.lst xs)/\-(2 ^ 63)<=k/\k<2 ^ 63/\xs.length*k.toNat<=sizeLine /\
 ∀p,H p=none->Q (.ref p) (upd H p (.lst (List.replicate k.toNat xs).flatten))
theorem sR{α:Type}(xs:List α)(k:Nat):(List.replicate k xs).flatten.length=k*xs.length:=by
 induction k with
 | zero=>simp
 | succ k ih=>rw[List.replicate_succ,List.flatten_cons,List.length_append,ih,Nat.succ_mul,Nat.add_comm]
theorem aHx:OpR X (binaryOp .Mult) aMI:=by
 intro pins s σ H x y v u Q I rx ry h
 obtain⟨l,k,xs,rfl,rfl,hH,h1,h2,hz,q⟩:=h
 cases rx
 obtain⟨t,rfl⟩:=ry
 obtain⟨z,its,n,r,hl,e⟩:=I.lstM hH
 have hlen:its.toArray.size*k.toNat<=sizeLine:=by rw[List.size_toArray,<-hl];exact hz
 have hcap:¬ its.toArray.size*k.toNat>(2 ^ 63-1) / 8:=by
  have:(sizeLine:Nat)<=(2 ^ 63-1) / 8:=by decide
  omega
 have hfit:¬ (!Builtin.List.listFitsIndex k)=true:=by
  rw[fitsIndex_both h1 h2]
  exact Bool.false_ne_true
 have hlong:¬ Builtin.List.listTooLong (its.toArray.size*k.toNat)=true:=by
  rw[uW hlen]
  exact Bool.false_ne_true
 have hnew:List.foldl (λx1 x2=>x1++x2) #[] (List.replicate (if its.toArray.isEmpty=true then 0 else k.toNat) its.toArray)=(List.replicate k.toNat its).flatten.toArray:=by
  have f0:∀m:Nat,List.foldl (λx1 x2=>x1++x2) #[] (List.replicate m its.toArray)=(List.replicate m its).flatten.toArray:=λm=>by
   have:=lK its m []
   rw[List.nil_append] at this
   exact this
  rw[f0]
  cases its with
  | nil=>simp
  | cons a r'=>rw[if_neg (by simp)]
 refine wpAny_binaryOp_repeat_ref (T:= "list") (U:= "int") (by decide) ⟨_,e,rfl⟩ (λs'=>typeIs_int s' k t) noFill_list_mul F.fills_int_mul F.slot_int_rmul repeat_list F.slot_int_index.lookup
  (call_meets F.slot_int_rmul (typeIs_int s k t) F.entry_int_rmul (F.args_int_rmul_2 _ _) (int___rmul___int_list k t l its.toArray n)
   ⟨e,rfl,⟨_,e,rfl⟩,call_meets F.slot_list_mul ⟨_,e,rfl⟩ F.entry_list_mul (F.args_list_mul_2 _ _) (AutoListH.list___mul___list_int_3 l its.toArray n k t hfit hcap hlong) ⟨e,?_⟩⟩)
 rw[hnew]
 exact⟨.ref _,_,I.lnew (t':=s.toks) (r.rep k.toNat) (by rw[sR,Nat.mul_comm];exact hz),rfl,q _ I.fresh⟩
end
section
variable {prog:Program} {w:World} {A:Around} {E:Value->Shared->Prop} {s:Shared}
end
section
variable {X:Cx}
end
end L2
namespace Att
open PySem PySem.W PySem.Calls PyProof.Rows
theorem nB{P:Params}{h:Heap}:∀(ns:List Int) (vs:List Value),WellAll P h vs (ns.map WData.int)->IntsAre vs ns:=by
 intro ns
 induction ns with
 | nil=>
  intro vs w
  rw[List.map_nil] at w
  cases w
  exact .nil
 | cons n ns ih=>
  intro vs w
  rw[List.map_cons] at w
  cases w with
  | cons a b=>
   cases a
   exact .cons _ _ (ih _ b)
theorem aBm{l:OpenLaw}{n:Nat}(hn:l.most=some n){P:Params}{h:Heap}{args:List WData}{vals:List Value}
 (hpre:l.row.toRowW.claim.pre args=true) (hwl:WellAll P h vals args) :
 ∃a vs ns,vals=[Value.ref a]/\args=[WData.list (ns.map WData.int)]/\h.get? a=some { cls:=.type "list",data:=.seq vs.toArray }/\IntsAre vs ns/\ns.length<=n:=by
 have hsh:WShape.hasAll [] args [.list .int]=true:=(pre_splitW hpre).1
 have hc:l.pre.holds [] { args:=args }=true:=(pre_splitW hpre).2
 obtain⟨d,r,rfl,h1,h2⟩:=hasAllW_cons hsh
 obtain rfl:=hasAllW_nil h2
 obtain⟨xs,rfl,h3⟩:=hasW_list h1
 obtain⟨ns,rfl⟩:=items_int h3
 have hlen:ns.length<=n:=by
  unfold OpenLaw.pre at hc
  have h4:(WTm.not (.lt (.lit (.int (n:Int))) (.len (.arg 0)))).holds [] { args:=[.list (ns.map .int)] }=true:=by
   have h4:=(holds_andW hc).1
   rw[hn] at h4
   exact h4
  have h5:=condW_of h4 (w_not (w_lt w_lit (w_len_list (w_arg rfl))))
  rw[List.length_map] at h5
  refine Nat.le_of_not_lt λq=>?_
  have q':(n:Int)<((ns.length:Nat):Int):=by omega
  first
   | (rw[decide_eq_true q'] at h5;exact absurd h5 (by decide))
   | (simp at h5;omega)
 cases hwl with
 | cons w1 w2=>
  cases w2
  cases w1 with
  | list ho hall=>exact⟨_,_,ns,rfl,rfl,ho,nB ns _ hall,hlen⟩
theorem aBn(l:OpenLaw)(args:List WData):l.row.toRowW.claim.post args (.bool true) args=true:=
 postW_of (r:=l.row.toRowW) (X:=(true==true))
  (show WShape.has [] (.bool true) .bool=true by first|rfl|decide|simp[WShape.has,WShape.arms,WShape.armsAll])
  (show(WTm.eq .res (.lit (.bool true))).value [] { args:=args,res:=some (.bool true),after:=args }=some (.bool (true==true)) from w_eq_bool (w_res rfl) w_lit) rfl
theorem attach_call{l:OpenLaw}{n:Nat}{q:Program}{loose:List Str}{XP:(Str->Option Value)->Heap->Prop}{YP:World->Heap->Prop}{d:DefRec}
 (hn:l.most=some n) (hdf:d.params.defaults=[])
 (call:∀(w:World) (s₀ s₁:Shared) (mg mb:Str->Option Value) (fa:Addr) (o:Obj) (pm cd doc:Value) (a:Addr) (vs:List Value) (ns:List Int),
  Ground q loose [] XP w s₀ mg mb s₁.heap->YP w s₁.heap ->
  s₁.heap.get? fa=some o->o.data=.func (docDef d.name d.params d.body d.scope pm cd doc)->s₁.heap.CodeRec cd d.name->mg d.name=some (.ref fa) ->
  s₁.heap.get? a=some { cls:=.type "list",data:=.seq vs.toArray }->IntsAre vs ns->ns.length<=n->s₁.gens=#[] ->
  codeAny (model l.prog w) callerA (.call (.ref fa) ⟨[.ref a],[]⟩) (λr s'=>r=.ok (.ret (.bool true))/\OldK s₁.heap s'.heap/\s'.os=s₁.os/\AllBare s'.gens) s₁) :
 WalkO q loose XP YP l.row.toRowW d [] (λf vs=>PySem.call f vs):=by
 intro w s₀ s₁ mg mb G Y fa o pm cd doc dV kV ho hd hcd hD hmg hg args vals as hpre hlay hrd hwl hlo
 obtain rfl:dV=.none:=Dflts.none hD hdf
 obtain rfl:kV=.none:=Dflts.noKw hD
 obtain⟨a,vs,ns,rfl,rfl,hobj,hints,hlen⟩:=aBm hn hpre hwl
 refine enter_call (codeAny_mono (call w s₀ s₁ mg mb fa o pm cd doc a vs ns G Y ho (fd_plain hd) hcd hmg hobj hints hlen hg) λr s' hq=>?_)
 obtain⟨rfl,h2,h3,h4⟩:=hq
 exact⟨.inl ⟨.bool true,.bool true,[],rfl,λ_=>rfl,.bool true,aBn l _,λ_=>⟨List.Pairwise.nil,λ_ hm=>(nomatch hm)⟩⟩,h2,h3,h4⟩
section
variable {prog:Program} {w:World} {A:Around} {E:Value->Shared->Prop} {s:Shared} {K:Frag}
end
end Att
namespace L2
open PySem PySem.Spec PyProof.Rows
theorem qW:∀{vs:List Value} {ns:List Int},IntsAre vs ns->aY (ns.map V.int) vs
 | _,_,.nil=>.nil
 | _,_,.cons n t h=>.cons ⟨t,rfl⟩ (qW h)
def aFf(H:Hp):Prop:=∀b,H b=none\/∃o xs,H b=some (.frz o (.lst xs))
theorem aCD{P:Program}{w:World}{K:PySem.W.Frag}{mg mb:Str->Option Value}{CX:CXT}{k:Nat}{fa a:Addr}{fd:FuncData}{x:Str}{sp:Sp}{s₁:Shared}{vs:List Value}{ns:List Int}
 (KX:K.In s₁.heap) (hns:s₁.heap.Ns mainGlobals mg) (hb:s₁.heap.Ns builtinsNs mb) (hbb:∀x:Str,x ≠ "__name__" -> mb x=bootBuiltins x) (hlim:s₁.heap.NoLimit) (hg:s₁.gens=#[])
 (ha:s₁.heap.get? a=some { cls:=.type "list",data:=.seq vs.toArray }) (hi:IntsAre vs ns) (hl:ns.length<=sizeLine) (hr:jU k callerA)
 (F:∀base:Heap,K.In base->base.Ns mainGlobals mg->nA P w K mg base CX k fa fd [x] sp) (hbind:∀(s:Shared) (u:Value),BindsTo s fd ⟨[u],[]⟩ [(x,u)])
 (hsp:∀H:Hp,aFf H->SqL K H a (ns.map V.int)->sp [.ref a] H (λv _=>v=.bl true) λ_ _ _=>False)
 (hCX:∀H e s',CX [] H s₁ (λ_ _ _=>False) e s'->False) :
 codeAny (model P w) callerA (.call (.ref fa) ⟨[.ref a],[]⟩) (λr s'=>r=.ok (.ret (.bool true))/\OldK s₁.heap s'.heap/\s'.os=s₁.os/\AllBare s'.gens) s₁:=by
 have rv:=qW hi
 have lenV:=hi.length
 have core:∀H:Hp,aFf H->SqL K H a (ns.map V.int)->HOk P w H s₁.heap->(∀b,H b≠none->b=a)->(H a≠none->K.lookup a=none) ->
  codeAny (model P w) callerA (.call (.ref fa) ⟨[.ref a],[]⟩) (λr s'=>r=.ok (.ret (.bool true))/\OldK s₁.heap s'.heap/\s'.os=s₁.os/\AllBare s'.gens) s₁:=by
  intro H hO hS hok hA hK
  have base_of:∀{b:Addr} {o:Obj},s₁.heap.get? b=some o->H b=none->(sA s₁.heap H).get? b=some o:=λe n=>aCd e n
  have noA:∀{b:Addr} {o:Obj} {es:Array DictEntry} {ep:Nat},s₁.heap.get? b=some o->o.data=.dict es ep->H b=none:=λ{b o es ep} e d=>by
   cases q:H b with
   | none=>rfl
   | some u=>
    have e':b=a:=hA b (by rw[q];simp)
    subst e'
    rw[ha] at e;cases e
    have d':Data.seq vs.toArray _=Data.dict es ep:=d
    cases d'
  have nsK:∀{b:Addr} {m:Str->Option Value},s₁.heap.Ns b m->(sA s₁.heap H).Ns b m:=λ{b m} ⟨o,es,ep,e,d,r⟩=>⟨o,es,ep,base_of e (noA e d),d,r⟩
  have hKb:K.In (sA s₁.heap H):=λb o e=>base_of (KX b o e) (by
   cases q:H b with
   | none=>rfl
   | some u=>
    have e':b=a:=hA b (by rw[q];simp)
    subst e'
    rw[hK (by rw[q];simp)] at e;cases e)
  have hM:Mod K mg (sA s₁.heap H):=⟨hKb,nsK hns,⟨mb,nsK hb,hbb⟩,let ⟨mc,h1,h2⟩:=hlim;⟨mc,nsK h1,h2⟩⟩
  have e0:aEW P w K mg (sA s₁.heap H) callerA [] s₁ H:=⟨rfl,hM,λb o e=>aEL e,Nat.le_of_eq (aBc _ _),trivial,λb hb=>absurd (show b∈([]:List Addr) from hb) (by simp),hok,.of_eq hg⟩
  refine codeAny_mono ((F _ hKb (nsK hns)).run callerA [] s₁ H ⟨[.ref a],[]⟩ [.ref a] [.ref a] _ _ hr e0 (hbind s₁ (.ref a)) (.cons rfl .nil) (hsp H hO hS)) λr s' h=>?_
  cases r with
  | error e=>exact(hCX H e s' h).elim
  | ok fl=>
   cases fl with
   | next=>exact False.elim h
   | brk=>exact False.elim h
   | cont=>exact False.elim h
   | ret u=>
    obtain⟨v,H',os,bare,un,hok',r',q⟩:=h
    have q':v=.bl true:=q
    subst q'
    obtain rfl:u=Value.bool true:=r'
    refine⟨rfl,OldK.of_keep λb o e=>?_,os,bare⟩
    cases q:H b with
    | none=>exact un.keep b o e q (by intro z;exact absurd (show b∈([]:List Addr) from z) (by simp)) (by simp)
    | some u=>
     rcases hO b with z|⟨ob,xs,z⟩
     . rw[q] at z;cases z
     . have z2:=un.frzs b ob _ z
       obtain⟨e1,_⟩:=hok b _ z
       obtain⟨e2,_⟩:=hok' b _ z2
       rw[e] at e1;cases e1
       exact e2
 cases hk:K.lookup a with
 | some o=>
  have e:=KX a o hk
  rw[ha] at e
  cases e
  refine core (λ_=>none) (λ_=>.inl rfl) (.inr ⟨_,vs.toArray,_,hk,rfl,rfl,rfl,by rw[List.size_toArray,lenV];exact hl,by simpa using rv⟩) (λb u z=>by have z':(none:Option HO)=some u:=z;cases z') (λb z=>absurd rfl z) λz=>absurd rfl z
 | none=>
  refine core (λb=>if b=a then some (.frz { cls:=.type "list",data:=.seq vs.toArray } (.lst (ns.map V.int))) else none) (λb=>?_) (.inl (.inr ⟨{ cls:=.type "list",data:=.seq vs.toArray },if_pos rfl⟩)) (λb u z=>?_) (λb z=>?_) λ_=>hk
  . by_cases hb:b=a
    . exact .inr ⟨_,_,if_pos hb⟩
    . exact .inl (if_neg hb)
  . by_cases hb:b=a
    . have z':=(if_pos hb).symm.trans z
      cases z'
      subst hb
      exact⟨ha,by rw[List.length_map];exact hl,vs,_,rv,ha⟩
    . have z':=(if_neg hb).symm.trans z
      cases z'
  . by_cases hb:b=a
    . exact hb
    . exact absurd (if_neg hb) z
end L2
namespace L2
open PySem PySem.Spec PyProof.Rows
end L2
namespace L2
open PySem PySem.Spec PyProof.Rows
def iT(s:Stmt):Arguments:=match s with
 | .FunctionDef _ a _ _ _ _ _ _ _ _=>a
 | _=>{ posonlyargs:=[],args:=[],vararg:=none,kwonlyargs:=[],kw_defaults:=[],kwarg:=none,defaults:=[] }
def iU(s:Stmt):List Stmt:=match s with
 | .FunctionDef _ _ b _ _ _ _ _ _ _=>b
 | _=>[]
def cD(s:Stmt):Scope:=match s with
 | .FunctionDef _ _ _ _ _ _ sc _ _ _=>sc
 | _=>{ kind:=.function,names:=[],isGenerator:=false,isCoroutine:=false }
abbrev CX0:CXT:=λ_ _ _ _ _ _=>False
abbrev E0:XK:=λ_ _ _=>False
theorem aAf{X:Cx}:sJ CX0 X E0:=λ_ _ _ _ _ _ _ h=>h.elim
structure Fun (K:PySem.W.Frag) (x qual:Str) (st:Stmt) (f:Addr) (fd:FuncData):Prop where
 ex:∃(oc:Value) (od:Option Addr) (kV doc pm:Value) (an:Option Addr) (cdv ct:Value) (osl:Array (Option Value)),
  fd=PySem.W.fnOf x qual (iT st) (iU st) (cD st) .none kV doc pm an cdv ct/\K.lookup f=some ⟨oc,od,.func fd,osl⟩/\PySem.W.codeIn K cdv qual=true
 kp:PySem.W.keepIn K (.ref f)=true
section
variable {P:Program} {w:World} {K:PySem.W.Frag} {mg:Str->Option Value} {base:Heap}
theorem Fun.ok{x qual:Str}{st:Stmt}{f:Addr}{fd:FuncData}{N ps:List Str}{k:Nat}{sp:Sp}(F:Fun K x qual st f fd)(S:nG N ps (cD st))(len:∀vs H Q E,sp vs H Q E->vs.length=ps.length)
 (hbody:∀(cdv:Value) (A:Around) (outer:List Env) (s:Shared) (H:Hp) (vs:List V) (Q:VK) (E:XK),jU k (A.deeper (envOfC qual (cD st) s.heap.objs.size f cdv))->sp vs H Q E ->
  ∃t,PSs (xU CX0 P w K mg base N qual (cD st) f cdv A outer s H E).nox (iU st) t/\t { nx:=λ_ H'=>Q .non H',rt:=Q } (start N vs) H):nA P w K mg base CX0 (k+1) f fd ps sp:=by
 obtain⟨oc,od,kV,doc,pm,an,cdv,ct,osl,rfl,lk,hcd⟩:=F.ex
 refine aJD lk hcd S len λA outer s H vs Q E hr hsp=>?_
 obtain⟨t,h,q⟩:=hbody cdv A outer s H vs Q E hr hsp
 exact⟨t,h.nox,q⟩
theorem Fun.binds{x qual:Str}{st:Stmt}{f:Addr}{fd:FuncData}{ps:List Str}(F:Fun K x qual st f fd)
 (h:∀(kV doc pm:Value) (an:Option Addr) (cdv ct:Value) (us:List Value),us.length=ps.length->bindArgs (PySem.W.fnOf x qual (iT st) (iU st) (cD st) .none kV doc pm an cdv ct) ⟨us,[]⟩=pure (ps.zip us)):jP K fd ps []:=by
 obtain⟨oc,od,kV,doc,pm,an,cdv,ct,osl,rfl,lk,hcd⟩:=F.ex
 exact .all (h kV doc pm an cdv ct)
end
section
variable {X:Cx}
end
theorem aHy{A B:Prop}(h:B):if false=true then A else B:=by
 rw[if_neg Bool.false_ne_true]
 exact h
theorem aJK{A B:Prop}(h:A):if true=true then A else B:=by
 rw[if_pos rfl]
 exact h
def aR(H H':Hp):Prop:=∀b o,H b=some o->H' b=some o
theorem aR.refl(H:Hp):aR H H:=λ_ _ h=>h
theorem aR.trans{H H1 H2:Hp}(a:aR H H1)(b:aR H1 H2):aR H H2:=λc o h=>b c o (a c o h)
theorem aR.free{H H':Hp}(e:aR H H'){l:Addr}(h:H' l=Option.none):H l=Option.none:=by
 cases q:H l with
 | none=>rfl
 | some o=>
  rw[e l o q] at h
  cases h
theorem aR.seq{K:PySem.W.Frag}{H H':Hp}{a:Addr}{xs:List V}(e:aR H H')(h:SqL K H a xs):SqL K H' a xs:=by
 rcases h with(h|⟨o,h⟩)|h
 . exact .inl (.inl (e _ _ h))
 . exact .inl (.inr ⟨o,e _ _ h⟩)
 . exact .inr h
end L2
end
noncomputable section
namespace L2
open PySem PySem.Spec PyProof.Rows
section
variable {prog:Program} {w:World} {K:Type} [DecidableEq K] (knd:HeapKind prog w K)
inductive cF (h:Heap):List K->List Value->Prop
 | nil:cF h [] []
 | cons {k:K} {a:Addr} {ks:List K} {vs:List Value}:knd.is h k a->cF h ks vs->cF h (k::ks) (.ref a::vs)
def cS(h:Heap)(ks:List K)(a:Addr):Prop:=∃o its n,h.get? a=some o/\o.cls=.type "tuple" /\ o.data=.seq its n/\cF knd h ks its.toList
def nV(ks:List K):Int:=reduceHash (Builtin.Tuple.tupleHashOf (ks.map knd.hash))
def lL(ks:List K):Nat:=(ks.map knd.draws).sum+1
variable {knd}
theorem cF.inj{h:Heap}:∀{x y:List K} {vs:List Value},cF knd h x vs->cF knd h y vs->x=y
 | _,_,_,.nil,hy=>by cases hy;rfl
 | _,_,_,.cons h1 t,hy=>by
  cases hy with
  | cons h2 t2=>rw[knd.inj h1 h2,t.inj t2]
theorem cF.keeps{h h':Heap}{d:Addr}{o:Obj}{es ep}(ho:h.get? d=some o)(hd:o.data=.dict es ep)(hs:Heap.SameBut d h h'):∀{x:List K} {vs:List Value},cF knd h x vs->cF knd h' x vs
 | _,_,.nil=>.nil
 | _,_,.cons h1 t=>.cons (knd.keeps h1 ho hd hs) (t.keeps ho hd hs)
theorem cS.typeIs{s:Shared}{ks:List K}{a:Addr}(x:cS knd s.heap ks a):s.TypeIs (.ref a) "tuple" := let ⟨o,_,_,ho,hc,_⟩:=x;⟨o,ho,hc⟩
variable {A:Around} {E:Value->Shared->Prop} {s:Shared}
theorem aBo{ks:List K}{a:Addr}{Q:Int->Shared->Prop}(hu:A.units<cLine)(hr:knd.room A.in1)(hk:cS knd s.heap ks a)(h:Q (nV knd ks) { s with toks:=s.toks+lL knd ks }):wpAny (model prog w) A (pyHash (.ref a)) Q E s:=by
 have T:=hk.typeIs
 obtain⟨o,its,n,ho,_,hd,hi⟩:=hk
 unfold pyHash pyHashByItsType
 refine wpAny_bind (wpAny_cRoomFor_or (.inr hu) (wpAny_bind (wpAny_specialOf T F.slot_tuple_hash.lookup ?_)))
 rw[if_neg (by rw[beq_builtin_none];exact bN)]
 refine wpAny_bind (wpAny_specialOf T F.slot_tuple_hash.lookup ?_)
 refine wpAny_bind (m:=callSpecialIfBoundUnlessNone? (.ref a) "__hash__" _) (wpAny_callSpecialIfBoundUnlessNone?_slot T F.slot_tuple_hash (wpAny_call_entry F.slot_tuple_hash T F.entry_tuple_hash ?_ (F.args_tuple_hash_1 _)))
 refine wpAny_bind (m:=Builtin.Tuple.tupleItemsOf (.ref a)) (wpAny_tupleItemsOf ho hd (wpAny_bind ?_))
 rw[<-Array.forIn_toList]
 refine wpAny_forIn_list _ (λrest (b:Array Int) s'=>∃done left,ks=done++left/\cF knd s.heap left rest/\b.toList=done.map knd.hash/\s'={ s with toks:=s.toks+(done.map knd.draws).sum }) _ ?_ ?_ _ _ ⟨[],ks,rfl,hi,rfl,rfl⟩
 . rintro x rest b s' ⟨done,left,rfl,hl,hb,rfl⟩
   cases hl with
   | @cons k _ ks' _ h1 hl'=>
    refine wpAny_bind (knd.pyHash (s:={ s with toks:=s.toks+(done.map knd.draws).sum }) hr h1 ?_)
    exact wpAny_pure ⟨done++[k],ks',by simp,hl',by simp[hb],by simp[Nat.add_assoc]⟩
 . rintro b s' ⟨done,left,rfl,hl,hb,rfl⟩
   cases hl
   rw[List.append_nil] at h
   show wpAny _ _ (retInt (Builtin.Tuple.tupleHashOf b.toList)) _ _ _
   rw[hb]
   refine wpAny_ret_mkInt ?_
   show wpAny _ _ (if (decide (-(2:Int) ^ 63<=Builtin.Tuple.tupleHashOf (done.map knd.hash))&&decide (Builtin.Tuple.tupleHashOf (done.map knd.hash)<2 ^ 63))=true then _ else _) Q E _
   unfold nV reduceHash lL at h
   split
   . rename_i hr
     rw[if_pos hr] at h
     exact wpAny_pure (by simpa[Nat.add_assoc] using h)
   . rename_i hr
     rw[if_neg hr] at h
     exact wpAny_bind (wpAny_rule (wpAny_pure (by simpa[Nat.add_assoc] using h)))
theorem aCE{x y:List K}{a b:Addr}{P:Fin->Shared->Prop}(hr:knd.room A)(hx:cS knd s.heap x a)(hy:cS knd s.heap y b)(h:P (.done (.ret (.bool (decide (x=y))))) s):wpAny (model prog w) A (Builtin.«tuple.__eq__» ⟨[.ref a,.ref b],[]⟩) P E s:=by
 have Tb:=hy.typeIs
 obtain⟨oa,xs,na,hoa,_,hda,hia⟩:=hx
 obtain⟨ob,ys,nb,hob,_,hdb,hib⟩:=hy
 refine wpAny_bind (m:=isInstance (.ref b) (.type "tuple")) (wpAny_isInstance Tb isSubtype_tuple_tuple ?_)
 simp only[Bool.not_true,bF,if_false]
 refine wpAny_bind (wpAny_tupleItemsOf hoa hda (wpAny_bind (wpAny_tupleItemsOf hob hdb (wpAny_bind ?_))))
 refine wpAny_forIn_list _ (λrest r s'=>r.1=none/\s'=s/\∃x' y' xs' ys',rest=List.zip xs' ys'/\cF knd s.heap x' xs'/\cF knd s.heap y' ys'/\decide (x'=y')=decide (x=y)/\(xs'.length==ys'.length)=(xs.size==ys.size)) _ ?_ ?_ _ _ ⟨rfl,rfl,x,y,xs.toList,ys.toList,rfl,hia,hib,rfl,by simp⟩
 . rintro ⟨u,v⟩ rest r s' ⟨_,rfl,x',y',xs',ys',hz,hx',hy',hdec,hlen⟩
   cases hx' with
   | nil=>simp at hz
   | @cons k1 _ x'' xs'' h1 hx''=>
    cases hy' with
    | nil=>simp at hz
    | @cons k2 _ y'' ys'' h2 hy''=>
     simp only[List.zip_cons_cons,List.cons.injEq,Prod.mk.injEq] at hz
     obtain⟨⟨rfl,rfl⟩,rfl⟩:=hz
     refine wpAny_bind (knd.eqBool (x:=k1) (y:=k2) hr h1 h2 ?_)
     by_cases hk:k1=k2
     . subst hk
       rw[decide_eq_true rfl]
       simp only[Bool.not_true,bF,if_false]
       exact wpAny_pure ⟨rfl,rfl,x'',y'',xs'',ys'',rfl,hx'',hy'',by rw[<-hdec];simp,by simpa using hlen⟩
     . rw[decide_eq_false hk]
       simp only[Bool.not_false,if_true]
       have hf:decide (x=y)=false:=by rw[<-hdec];simp[hk]
       rw[hf] at h
       exact wpAny_bind (wpAny_pure (wpAny_pure (wpAny_pure h)))
 . rintro ⟨r1,r2⟩ s' ⟨hr1,rfl,x',y',xs',ys',hz,hx',hy',hdec,hlen⟩
   simp only at hr1
   subst hr1
   have fin:(xs.size==ys.size)=decide (x=y):=by
    rw[<-hdec,<-hlen]
    cases hx' with
    | nil=>cases hy' <;> simp
    | cons _ _=>
     cases hy' with
     | nil=>simp
     | cons _ _=>simp at hz
   refine wpAny_pure ?_
   show P (.done (.ret (.bool (xs.size==ys.size)))) s'
   rw[fin];exact h
theorem cS.inj{h:Heap}{a:Addr}{x y:List K}(hx:cS knd h x a)(hy:cS knd h y a):x=y:=by
 obtain⟨o,its,n,ho,_,hd,hi⟩:=hx
 obtain⟨o',its',n',ho',_,hd',hi'⟩:=hy
 rw[ho] at ho'
 cases ho'
 rw[hd] at hd'
 cases hd'
 exact hi.inj hi'
theorem aFg{x y:List K}{a b:Addr}{Q:Bool->Shared->Prop}(hu:A.units<cLine)(hr:knd.room A.in1)(hx:cS knd s.heap x a)(hy:cS knd s.heap y b)(h:Q (decide (x=y)) s):wpAny (model prog w) A (eqBool (.ref a) (.ref b)) Q E s:=by
 unfold eqBool
 try with_reducible refine wpAny_holding ?_
 show wpAny _ _ (if (Value.ref a==Value.ref b)=true then _ else _) Q E s
 by_cases hab:(Value.ref a==Value.ref b)=true
 . have e:a=b:=by have:=eq_of_beq hab;injection this
   subst e
   rw[if_pos hab,hx.inj hy] at *
   exact wpAny_bind (wpAny_rule (wpAny_pure (by simpa using h)))
 . rw[if_neg hab]
   exact wpAny_bind (wpAny_richCompare_same_room (op:=.Eq) hx.typeIs hy.typeIs F.slot_tuple_eq
    (wpAny_call_entry F.slot_tuple_eq hx.typeIs F.entry_tuple_eq (aCE hr hx hy ⟨_,rfl,(λe=>nomatch e),wpAny_truthy_bool h⟩) (F.args_tuple_eq_2 _ _)) hu)
end
section
variable {prog:Program} {w:World} {A:Around} {E:Value->Shared->Prop} {s:Shared}
theorem xZ{K:Type}[DecidableEq K]{knd:KeyKind prog w K}{n:Nat}{ks:List K}{a:Addr}{Q:Bool->Shared->Prop}(hk:IsTupleKey knd s.heap ks a)(h:Q true s):wpAny (model prog w) A (eqIsQuiet (n+1) (.ref a)) Q E s:=by
 have T:=hk.typeIs
 obtain⟨o,its,m,ho,_,hd,hi⟩:=hk
 unfold eqIsQuiet
 refine wpAny_bind (wpAny_specialOf T F.slot_tuple_eq.lookup (wpAny_bind (m:=isInstance (.ref a) (.type "tuple")) (wpAny_isInstance T isSubtype_tuple_tuple ?_)))
 simp only[Bool.not_true,bF,if_false]
 refine wpAny_bind (wpAny_seqItems ho hd (wpAny_bind (m:=forIn its _ _) ?_))
 rw[<-Array.forIn_toList]
 refine wpAny_forIn_list _ (λrest r s'=>r.1=none/\s'=s/\∀v∈rest,carriedByValue v=true) _ ?_ ?_ _ _ ⟨rfl,rfl,hi.byValue⟩
 . rintro v rest r s' ⟨_,rfl,hall⟩
   rw[eqIsQuiet_byValue _ (hall v List.mem_cons_self)]
   refine wpAny_bind (wpAny_pure ?_)
   simp only[Bool.not_true,bF,if_false]
   exact wpAny_pure ⟨rfl,rfl,λu hu'=>hall u (List.mem_cons_of_mem _ hu')⟩
 . rintro ⟨r1,r2⟩ s' ⟨hr,rfl,_⟩
   simp only at hr
   subst hr
   exact wpAny_pure h
theorem yA{K:Type}[DecidableEq K]{knd:KeyKind prog w K}{ks:List (List K)}{a:Addr}{Q:Bool->Shared->Prop}(hk:cS (tupleKind knd) s.heap ks a)(h:Q true s):wpAny (model prog w) A (eqIsQuiet 8 (.ref a)) Q E s:=by
 have T:=hk.typeIs
 obtain⟨o,its,m,ho,_,hd,hi⟩:=hk
 unfold eqIsQuiet
 refine wpAny_bind (wpAny_specialOf T F.slot_tuple_eq.lookup (wpAny_bind (m:=isInstance (.ref a) (.type "tuple")) (wpAny_isInstance T isSubtype_tuple_tuple ?_)))
 simp only[Bool.not_true,bF,if_false]
 refine wpAny_bind (wpAny_seqItems ho hd (wpAny_bind (m:=forIn its _ _) ?_))
 rw[<-Array.forIn_toList]
 refine wpAny_forIn_list _ (λrest r s'=>r.1=none/\s'=s/\∃ks',cF (tupleKind knd) s.heap ks' rest) _ ?_ ?_ _ _ ⟨rfl,rfl,ks,hi⟩
 . rintro v rest r s' ⟨_,rfl,ks',hl⟩
   cases hl with
   | cons h1 hl'=>
    refine wpAny_bind (xZ (n:=6) h1 ?_)
    simp only[Bool.not_true,bF,if_false]
    exact wpAny_pure ⟨rfl,rfl,_,hl'⟩
 . rintro ⟨r1,r2⟩ s' ⟨hr,rfl,_⟩
   simp only at hr
   subst hr
   exact wpAny_pure h
def hZ{K:Type}[DecidableEq K](knd:KeyKind prog w K):HeapKind prog w (List (List K)) where
 is:=cS (tupleKind knd)
 hash:=nV (tupleKind knd)
 draws:=lL (tupleKind knd)
 room:=λA=>A.units+8<cLine
 inj:=λhx hy=>hx.inj hy
 keeps:=λ{h h' k a d o es ep} x ho hd hs=>by
  obtain⟨o',its,n,ho',hc,hd',hi⟩:=x
  have hne:a≠d:=λe=>by
   subst e
   rw[ho'] at ho
   cases ho
   rw[hd] at hd'
   cases hd'
  exact⟨o',its,n,(hs.2 a hne).trans ho',hc,hd',hi.keeps ho hd hs⟩
 pyHash:=λ{A E s k a Q} hu hk h=>aBo (by omega) (show A.in1.units<cLine by show A.units+1<cLine;omega) hk h
 eqBool:=λ{A E s x y a b Q} hu hx hy h=>aFg (by omega) (show A.in1.units<cLine by show A.units+1<cLine;omega) hx hy h
 quiet:=λhk h=>yA hk h
end
abbrev NK:=List (List Int)
abbrev NE:=NK×Addr×V
abbrev pj(x:NE):NK×V:=(x.1,x.2.2)
def lO(x:NE)(e:NK×Addr×Value):Prop:=e.1=x.1/\e.2.1=x.2.1/\cA x.2.2 e.2.2
def nkH(k:NK):Int:=reduceHash (Builtin.Tuple.tupleHashOf (k.map λk=>reduceHash (Builtin.Tuple.tupleHashOf (k.map hashInt))))
def aMJ(x:NK×Addr×Value):DictEntry:=⟨nkH x.1,.ref x.2.1,x.2.2⟩
def yB(a:Addr)(xs:List NE)(h:Heap):Prop:=
 (a==sysModules)=false/\xs.length<=sizeLine/\∃o es ep vs,h.get? a=some o/\o.ExactDict/\o.data=.dict es ep/\es.toList=vs.map aMJ/\Paired lO xs vs/\(xs.map (·.1)).Nodup
abbrev dN(a:Addr)(xs:List NE):HO:=.ext (yB a xs)
def cV(K:PySem.W.Frag)(H:Hp)(k:NK)(b:Addr):Prop:=∃bs:List Addr,SqT K H b (bs.map V.ref)/\Paired (λis c=>SqT K H c (is.map V.int)) k bs
section
variable {X:Cx} {pins:List (Addr×Obj)} {σ:St} {H:Hp} {s:Shared}
theorem aCF{is:List Int}:∀{us:List Value},aY (is.map V.int) us->ItemsAre (intKind X.prog X.w) is us:=by
 induction is with
 | nil=>intro us h;rw[mN] at h;cases h;exact .nil
 | cons i is ih=>
  intro us h
  rw[mC] at h
  cases h with
  | cons r t=>
   obtain⟨tk,e⟩:∃t,_=Value.int i t:=r
   subst e
   exact .cons (intKind_is _ _ i tk) (ih t)
theorem aFh(I:Inv X pins σ H s){c:Addr}{is:List Int}(h:SqT X.K H c (is.map V.int)):IsTupleKey (intKind X.prog X.w) s.heap is c:=by
 obtain⟨its,rv,⟨o,ho,hc,n,hd⟩,_⟩:=I.tuple h
 exact⟨o,its.toArray,n,ho,hc,hd,by simpa using aCF rv⟩
theorem uX(I:Inv X pins σ H s):∀{k:NK} {bs:List Addr} {us:List Value},Paired (λis c=>SqT X.K H c (is.map V.int)) k bs->aY (bs.map V.ref) us->cF (tupleKind (intKind X.prog X.w)) s.heap k us
 | _,_,us,.nil,r=>by rw[mN] at r;cases r;exact .nil
 | _,_,us,.cons h t,r=>by
  rw[mC] at r
  cases r with
  | cons r1 r2=>
   cases r1
   exact .cons (aFh I h) (uX I t r2)
theorem sU(I:Inv X pins σ H s){k:NK}{b:Addr}(h:cV X.K H k b):cS (tupleKind (intKind X.prog X.w)) s.heap k b:=by
 obtain⟨bs,q,p⟩:=h
 obtain⟨its,rv,⟨o,ho,hc,n,hd⟩,_⟩:=I.tuple q
 exact⟨o,its.toArray,n,ho,hc,hd,by simpa using uX I p rv⟩
theorem fY:∀{xs:List NE} {vs:List (NK×Addr×Value)},Paired lO xs vs->vs.map (·.1)=xs.map (·.1)
 | _,_,.nil=>rfl
 | _,_,.cons h t=>by rw[mC,mC,fY t,h.1]
theorem nW:∀{xs:List NE} {vs:List (NK×Addr×Value)},Paired lO xs vs->∀v∈vs,∃x∈xs,lO x v
 | _,_,.nil,v,h=>by cases h
 | _,_,.cons h t,v,m=>by
  rcases List.mem_cons.mp m with rfl|m
  . exact⟨_,List.mem_cons_self ..,h⟩
  . obtain⟨x,hx,r⟩:=nW t v m
    exact⟨x,List.mem_cons_of_mem _ hx,r⟩
theorem sV{k:NK}:∀{xs:List NE} {vs:List (NK×Addr×Value)},Paired lO xs vs->(atKey vs k).isSome=decide (k∈xs.map (·.1))
 | _,_,.nil=>rfl
 | x::xs,e::vs,.cons h t=>by
  have ih:=sV (k:=k) t
  unfold atKey at ih ⊢
  rw[List.find?_cons]
  by_cases hk:x.1=k
  . rw[show decide (e.1=k)=true from decide_eq_true (h.1.trans hk)]
    subst hk;simp
  . rw[show decide (e.1=k)=false from decide_eq_false (by rw[h.1];exact hk)]
    simp only
    rw[ih]
    have e:(k∈(x::xs).map (·.1))↔k∈xs.map (·.1):=by simp[Ne.symm hk]
    simp only[e]
theorem aAg(I:Inv X pins σ H s){a:Addr}{xs:List NE}(e:H a=some (dN a xs))(hk:∀x∈xs,cV X.K H x.1 x.2.1):(a==sysModules)=false/\xs.length<=sizeLine/\∃vs,Paired lO xs vs/\s.heap.DictOfH (hZ (intKind X.prog X.w)) a vs:=by
 obtain⟨⟨h1,h2,o,es,ep,vs,h3,h4,h5,h6,h7,h8⟩,_⟩:=(show eK X.prog X.w H s.heap a (dN a xs) from I.hok a _ e)
 refine⟨h1,h2,vs,h7,o,es,ep,h3,h4,h5,h6,λx hx=>?_,?_⟩
 . obtain⟨y,hy,r1,r2,_⟩:=nW h7 x hx
   rw[r1,r2];exact sU I (hk y hy)
 . rw[fY h7];exact h8
def jK(xs:List NE)(k:NK)(b:Addr)(v:V):List NE:=if k∈xs.map (·.1) then xs.map (λx=>if x.1=k then (x.1,x.2.1,v) else x) else xs++[(k,b,v)]
theorem uY{k:NK}{v:V}{u:Value}(r:cA v u):∀{xs:List NE} {vs:List (NK×Addr×Value)},Paired lO xs vs->Paired lO (xs.map λx=>if x.1=k then (x.1,x.2.1,v) else x) (vs.map (putAt k u))
 | _,_,.nil=>.nil
 | x::xs,e::vs,.cons h t=>by
  rw[mC,mC]
  refine .cons ?_ (uY r t)
  unfold putAt
  by_cases hk:x.1=k
  . rw[if_pos hk,if_pos (h.1.trans hk)];exact⟨h.1,h.2.1,r⟩
  . rw[if_neg hk,if_neg (by rw[h.1];exact hk)];exact h
theorem uZ{x:NE}{e:NK×Addr×Value}(r:lO x e):∀{xs:List NE} {vs:List (NK×Addr×Value)},Paired lO xs vs->Paired lO (xs++[x]) (vs++[e])
 | _,_,.nil=>.cons r .nil
 | _,_,.cons h t=>.cons h (uZ r t)
theorem mP{xs:List NE}{vs:List (NK×Addr×Value)}{k:NK}{b:Addr}{v:V}{u:Value}(h:Paired lO xs vs)(r:cA v u):Paired lO (jK xs k b v) (storedH vs k b u):=by
 unfold storedH jK
 rw[sV h]
 by_cases hk:k∈xs.map (·.1)
 . rw[if_pos (decide_eq_true hk),if_pos hk];exact uY r h
 . rw[if_neg hk,if_neg (by simpa using hk)];exact uZ ⟨rfl,rfl,r⟩ h
theorem mQ{xs:List NE}{k:NK}{b:Addr}{v:V}:(jK xs k b v).length<=xs.length+1:=by
 unfold jK
 split
 . rw[lM];omega
 . rw[lA];exact Nat.le_refl _
theorem kK{a:Addr}{xs:List NE}:∀h1 h2:Heap,yB a xs h1->(∀o,h1.get? a=some o->h2.get? a=some o)->yB a xs h2:=by
 rintro h1 h2 ⟨z1,z2,o',es',ep',vs,z3,z4⟩ kk
 exact⟨z1,z2,o',es',ep',vs,kk _ z3,z4⟩
theorem aGt(hu:X.A.units+100<cLine):OpR X (compareOp .NotIn) (λux uy H Q=>∃a b xs k,ux=.ref b/\uy=.ref a/\H a=some (dN a xs)/\(∀x∈xs,cV X.K H x.1 x.2.1)/\cV X.K H k b/\Q (.bl (!decide (k∈xs.map (·.1)))) H):=by
 intro pins s σ H ux uy v u Q I rx ry h
 obtain⟨a,b,xs,k,rfl,rfl,e,hk,kb,q⟩:=h
 cases rx
 cases ry
 obtain⟨h1,h2,vs,hp,h3⟩:=aAg I e hk
 refine wpAny_notIn_heap (knd:=hZ (intKind X.prog X.w)) (show X.A.in1.units+8<cLine by show X.A.units+1+8<cLine;omega) (sU I kb) h1 h3 ?_
 rw[sV hp]
 exact⟨.bl _,H,I.tok _,rfl,q⟩
theorem aHz(hu:X.A.units+100<cLine):aHd X (λo i v H Q=>∃a b xs k,o=.ref a/\i=.ref b/\H a=some (dN a xs)/\(∀x∈xs,cV X.K H x.1 x.2.1)/\cV X.K H k b/\xs.length<sizeLine/\Q (upd H a (dN a (jK xs k b v)))):=by
 intro pins s σ H o i v ov iv u Q I ro ri rv h
 obtain⟨a,b,xs,k,rfl,rfl,e,hk,kb,hl,q⟩:=h
 cases ro
 cases ri
 obtain⟨h1,h2,vs,hp,h3⟩:=aAg I e hk
 have len:vs.length=xs.length:=(Paired.length hp).symm
 refine wpAny_setItem_heap (knd:=hZ (intKind X.prog X.w)) (hsz:=by rw[len];exact h2) (show X.A.in1.units+8<cLine by show X.A.units+1+8<cLine;omega) (sU I kb) h3 λh' hm hs=>?_
 obtain⟨ob,es,ep,g1,g2,g3,g4,_,g6⟩:=hm
 have hp':=mP (k:=k) (b:=b) hp rv
 have nd:((jK xs k b v).map (·.1)).Nodup:=by rw[<-fY hp'];exact g6
 have lp:(jK xs k b v).length<=sizeLine:=Nat.le_trans mQ hl
 refine⟨_,I.write (x:=a) (e:=a) (o:=dN a (jK xs k b v)) (by rw[e];exact True.intro) (.inl rfl) (λc q hc z=>(hs.2 c hc).trans z) ⟨ob,g1⟩ ⟨⟨h1,lp,ob,es,ep,_,g1,g2,g3,g4,hp',nd⟩,⟨ob,g1⟩,kK⟩,q⟩
theorem Inv.big(I:Inv X pins σ H s):sysModules<s.heap.objs.size:=by
 have h:mainGlobals<s.heap.objs.size:=(I.ok.mod.glob.keeps I.bk).lt
 exact Nat.lt_trans (by decide) h
def aHA:TE:=λ_ H Q=>∀p,H p=none->Q (.ref p) (upd H p (dN p []))
theorem aCG{pos:Pos}:PE X (.Dict [] [] pos) aHA:=λpins s σ H Q I h=>
 wpAny_Dict_empty ⟨.ref s.heap.objs.size,_,I.laid (a:=s.heap.objs.size) (o:=dN s.heap.objs.size []) (t':=s.toks) (λ_ _ q=>Heap.get?_push_of_some _ q) (Nat.le_refl _)
  ⟨⟨beq_eq_false_iff_ne.mpr (Ne.symm (Nat.ne_of_lt I.big)),Nat.zero_le _,_,#[],0,[],Heap.get?_push_size _ rfl,⟨rfl,rfl,rfl⟩,rfl,rfl,.nil,List.nodup_nil⟩,⟨_,Heap.get?_push_size _ rfl⟩,kK⟩,rfl,h _ (I.hok.fresh (Nat.le_refl _))⟩
end
theorem qX:entryFor table "dict.update.loop" = some Builtin.«dict.update.loop»:=entryFor_of_tree (by kernel_rfl)
theorem iV:plainId "dict.update.loop" = true:=by decide +kernel
theorem sW:typeLookup (.type "list") "keys" = pure none:=by rw[typeLookup_type,builtinLookup_eq_fast];kernel_rfl
section
variable {prog:Program} {w:World} {A:Around} {E:Value->Shared->Prop} {s:Shared}
theorem aFi{a:Addr}{xs:Array Value}{k:Nat}{sl:Array (Option Value)}{Q:Option Value->Shared->Prop}(hx:s.heap.get? a=some { cls:=.type "list",dict:=none,data:=.seq xs k,slots:=sl })(hA:A.handled=none)
 (h:∀h' tk,(∀b ob,s.heap.get? b=some ob->h'.get? b=some ob)->Q none { s with heap:=h',toks:=tk }):wpAny (model prog w) A (getAttr? (.ref a) "keys") Q E s:=by
 obtain⟨hp,g,d,tk,os⟩:=s
 have hT:∀tk',(⟨hp,g,d,tk',os⟩:Shared).TypeIs (.ref a) "list" := λ_=>⟨_,hx,rfl⟩
 have f1:=sub_AttributeError
 have f3:=F.slot_list_getattribute.lookup
 have f4:=F.slot_list_getattribute.bind (.ref a)
 have f5:=am_list_getattr_none
 unfold getAttr? getAttrBy? getAttrBy
 repeat (any_goals (first|assumption|exact hT _|((with_reducible show wpAny _ _ (call (Value.builtin "list.__getattribute__") _ _) _ _ _);refine call_meets F.slot_list_getattribute (hT _) am_entry_list_getattribute (F.args_list_getattribute_2 _ _) (meets_getattribute_miss_list a xs k sl "keys" _ sW (by decide +kernel) (by decide +kernel)) ⟨hx,hA,λh' tk' e hx'=>?_⟩)|wp_step))
 obtain⟨t',u',he⟩:=hx'.there
 show wpAny _ _ (getattributeRaised _ _ _ _ _ _ _) _ _ _
 unfold getattributeRaised
 repeat (any_goals (first|assumption|wp_step))
 exact h _ _ hx'.keeps
end
theorem IsTupleKey.mono{prog:Program}{w:World}{h h':Heap}{k:List Int}{a:Addr}(k':∀b o,h.get? b=some o->h'.get? b=some o)(x:IsTupleKey (intKind prog w) h k a):IsTupleKey (intKind prog w) h' k a:=by
 obtain⟨o,its,n,h1,h2⟩:=x
 exact⟨o,its,n,k' _ _ h1,h2⟩
theorem cF.mono{prog:Program}{w:World}{h h':Heap}(k':∀b o,h.get? b=some o->h'.get? b=some o):∀{k:NK} {vs:List Value},cF (tupleKind (intKind prog w)) h k vs->cF (tupleKind (intKind prog w)) h' k vs
 | _,_,.nil=>.nil
 | _,_,.cons h1 t=>.cons (IsTupleKey.mono k' h1) (cF.mono k' t)
theorem cS.mono{prog:Program}{w:World}{h h':Heap}{k:NK}{a:Addr}(k':∀b o,h.get? b=some o->h'.get? b=some o)(x:cS (tupleKind (intKind prog w)) h k a):cS (tupleKind (intKind prog w)) h' k a:=by
 obtain⟨o,its,n,h1,h2,h3,h4⟩:=x
 exact⟨o,its,n,k' _ _ h1,h2,h3,cF.mono k' h4⟩
def aCH(prog:Program)(w:World)(good:NK->Addr->Prop)(h:Heap)(v:Value)(k:NK×V):Prop:=∃c a o n u,v=.ref c/\h.get? c=some o/\o.cls=.type "tuple" /\ o.data=.seq #[.ref a,u] n/\cA k.2 u/\cS (tupleKind (intKind prog w)) h k.1 a/\good k.1 a
theorem nX{α β:Type}{R:α->β->Prop}:∀{xs:List α} {ys:List β},Paired R xs ys->∀{i:Nat} {x:α},xs[i]? = some x->∃y,ys[i]? = some y/\R x y
 | _,_,.nil,_,_,h=>by simp at h
 | _,_,.cons r _,0,_,h=>by simp at h;subst h;exact⟨_,rfl,r⟩
 | _,_,.cons _ t,i+1,x,h=>by
  obtain⟨y,h1,h2⟩:=nX t (i:=i) (x:=x) (by simpa using h)
  exact⟨y,by simpa using h1,h2⟩
theorem nY{α β:Type}{R:α->β->Prop}:∀{xs:List α} {ys:List β},Paired R xs ys->xs.length=ys.length
 | _,_,.nil=>rfl
 | _,_,.cons _ t=>by rw[lC,lC,nY t]
def sX(ks:List (NK×V))(k:NK×V):List (NK×V):=if k.1∈ks.map (·.1) then ks.map (λx=>if x.1=k.1 then (x.1,k.2) else x) else ks++[k]
theorem vA(xs:List NE)(k:NK)(b:Addr)(v:V):(jK xs k b v).map pj=sX (xs.map pj) (k,v):=by
 have e:(xs.map pj).map (·.1)=xs.map (·.1):=by rw[List.map_map];rfl
 unfold jK sX
 rw[e]
 split
 . rw[List.map_map,List.map_map]
   refine List.map_congr_left λx _=>?_
   show pj (if x.1=k then _ else _)=if x.1=k then _ else _
   split <;> rfl
 . rw[List.map_append];rfl
section
variable {prog:Program} {w:World} {A:Around} {R:Result->Shared->Prop} {good:NK->Addr->Prop} {h₀:Heap} {d it l:Addr} {items:Array Value} {ks:List (NK×V)}
theorem aCI(hu:A.units+20<cLine)(hh:A.handled=none)(hS:(d==sysModules)=false)(hd:h₀.get? d=none)(hit:h₀.get? it=none)(hne:d≠it)(L:h₀.IsList l items)(Pr:Paired (aCH prog w good h₀) items.toList ks)(hz:items.size<=sizeLine) :
 ∀(m i:Nat) (s:Shared) (xs:List NE),items.size-i=m->i<=items.size->(∀b o,h₀.get? b=some o->s.heap.get? b=some o)->s.heap.IsListIter it l i->yB d xs s.heap->xs.map pj=(ks.take i).foldl sX []->(∀x∈xs,cS (tupleKind (intKind prog w)) h₀ x.1 x.2.1/\good x.1 x.2.1)->xs.length<=i ->
  (∀(h':Heap) (tk:Nat) (xs':List NE),(∀b o,h₀.get? b=some o->h'.get? b=some o)->yB d xs' h'->xs'.map pj=ks.foldl sX []->(∀x∈xs',good x.1 x.2.1)->R (.ok (.ret .none)) { s with heap:=h',toks:=tk }) ->
  codeAny (model prog w) A (.builtin "dict.update.loop" ⟨[.ref d,.ref it,.int i 0,.none],[]⟩) R s:=by
 intro m
 induction m with
 | zero=>
  intro i s xs hk hi kp hI hD hx hg hl hR
  have e:i=items.size:=by omega
  refine codeAny_builtin qX ?_
  rw[Around.under_plainId iV _]
  show wpAny _ A.in1 (pyNext (.ref it) >>= _) _ _ s
  have hL:s.heap.IsList l items:=let ⟨o,h1,h2⟩:=L;⟨o,kp _ _ h1,h2⟩
  refine wpAny_bind (wpAny_pyNext_list_end (by simpa using hh) hI hL (by rw[e];simp) λh' hE=>?_)
  show wpAny _ A.in1 (Builtin.Dict.addKeywords d [] >>= _) _ _ _
  refine wpAny_bind (wpAny_pure ?_)
  show wpAny _ A.in1 (ret Value.none) _ _ _
  refine wpAny_pure (hR h' s.toks xs (λb o q=>?_) ?_ ?_ λx hx=>(hg x hx).2)
  . exact hE b o (λz=>by rw[z,hit] at q;cases q) (kp b o q)
  . exact kK s.heap h' hD λo q=>hE d o hne q
  . rw[hx,List.take_of_length_le]
    rw[<-nY Pr,e];simp
 | succ m ih=>
  intro i s xs hk hi kp hI hD hx hg hl hR
  have hlt:i<items.size:=by omega
  refine codeAny_builtin qX ?_
  rw[Around.under_plainId iV _]
  show wpAny _ A.in1 (pyNext (.ref it) >>= _) _ _ s
  have hL:s.heap.IsList l items:=let ⟨o,h1,h2⟩:=L;⟨o,kp _ _ h1,h2⟩
  refine wpAny_bind (wpAny_pyNext_list_item hI hL (Array.getElem?_eq_getElem hlt) λh1 hI1 hs1=>?_)
  obtain⟨⟨k,vv⟩,hk1,c,a,o,n,u,hv,hc1,hc2,hc3,hru,hkey,hgd⟩:=nX Pr (i:=i) (x:=items[i]) (by rw[Array.getElem?_toList];exact Array.getElem?_eq_getElem hlt)
  rw[hv]
  have kp1:∀b o,h₀.get? b=some o->h1.get? b=some o:=λb o q=>by
   rw[hs1.2 b λz=>by rw[z,hit] at q;cases q];exact kp b o q
  show wpAny _ A.in1 (holding [Value.ref c] _ >>= _) _ _ _
  refine wpAny_bind (wpAny_holding ?_)
  refine wpAny_bind (wpAny_tryCatch ?_)
  have hTc:({ s with heap:=h1 }:Shared).TypeIs (.ref c) "tuple" := ⟨o,kp1 _ _ hc1,hc2⟩
  unfold Builtin.Dict.pairItems
  refine wpAny_bind (wpAny_typeOf hTc ?_)
  rw[if_pos (by decide)]
  refine wpAny_bind (wpAny_seqItems (s:={ s with heap:=h1 }) (kp1 _ _ hc1) hc3 (wpAny_pure ?_))
  show wpAny _ A.in1 (holding [Value.ref a,u] (dictSet d (.ref a) u)) _ _ _
  refine wpAny_holding ?_
  have hD1:yB d xs h1:=kK s.heap h1 hD λo q=>by rw[hs1.2 d hne];exact q
  obtain⟨z1,z2,od,es,ep,vs,g1,g2,g3,g4,gp,g5⟩:=hD1
  have hm:h1.DictOfH (hZ (intKind prog w)) d vs:=⟨od,es,ep,g1,g2,g3,g4,λx hx=>by
   obtain⟨y,hy,r1,r2,_⟩:=nW gp x hx
   rw[r1,r2];exact cS.mono kp1 (hg y hy).1,by
   rw[fY gp];exact g5⟩
  have ld:vs.length=xs.length:=(Paired.length gp).symm
  refine wpAny_dictSet_heap (s:={ s with heap:=h1 }) (knd:=hZ (intKind prog w)) (hsz:=by rw[ld];omega) (show A.in1.units+8<cLine by show A.units+1+8<cLine;omega) (show cS _ h1 k a from cS.mono kp1 hkey) hm λh2 hm2 hs2=>?_
  have gp2:=mP (k:=k) (b:=a) gp hru
  obtain⟨od2,es2,ep2,j1,j2,j3,j4,_,j6⟩:=hm2
  have kp2:∀b o,h₀.get? b=some o->h2.get? b=some o:=λb o q=>by
   rw[hs2.2 b λz=>by rw[z,hd] at q;cases q];exact kp1 b o q
  have lp:(jK xs k a vv).length<=i+1:=Nat.le_trans mQ (by omega)
  have hD2:yB d (jK xs k a vv) h2:=⟨z1,by omega,od2,es2,ep2,_,j1,j2,j3,j4,gp2,by
   rw[<-fY gp2];exact j6⟩
  have hI2:h2.IsListIter it l (i+1):=let ⟨o,q1,q2⟩:=hI1;⟨o,(hs2.2 it λz=>hne z.symm).trans q1,q2⟩
  refine wpAny_pure ⟨plainId_quiet iV _,ih (i+1) _ (jK xs k a vv) (by omega) hlt kp2 hI2 hD2 ?_ (λx hx=>?_) lp λh' tk xs' q1 q2 q3 q4=>hR h' tk xs' q1 q2 q3 q4⟩
  . rw[vA,hx,List.take_succ,hk1]
    show _=(List.take i ks++[(k,vv)]).foldl sX []
    rw[List.foldl_append];rfl
  . unfold jK at hx
    split at hx
    . obtain⟨y,hy,rfl⟩:=List.mem_map.mp hx
      by_cases hyk:y.1=k
      . rw[if_pos hyk];exact hg y hy
      . rw[if_neg hyk];exact hg y hy
    . rcases List.mem_append.mp hx with z|z
      . exact hg x z
      . rw[List.mem_singleton.mp z];exact⟨hkey,hgd⟩
end
section
variable {X:Cx}
def aCJ(K:PySem.W.Frag)(H:Hp)(v:V)(k:NK×V):Prop:=∃c a,v=.ref c/\SqT K H c [.ref a,k.2]/\cV K H k.1 a
theorem vB{pins:List (Addr×Obj)}{σ:St}{H:Hp}{s:Shared}(I:Inv X pins σ H s):∀{xs:List V} {ks:List (NK×V)} {us:List Value},Paired (aCJ X.K H) xs ks->aY xs us->Paired (aCH X.prog X.w (cV X.K H) s.heap) us ks
 | _,_,_,.nil,r=>by cases r;exact .nil
 | _,_,_,.cons h t,r=>by
  cases r with
  | cons r1 r2=>
   obtain⟨c,a,rfl,q,kq⟩:=h
   cases r1
   obtain⟨its,rv,⟨o,ho,hc,n,hd⟩,_⟩:=I.tuple q
   cases rv with
   | cons v1 v2=>
    cases v2 with
    | cons v2 v3=>
     cases v3
     cases v1
     exact .cons ⟨c,a,o,n,_,rfl,ho,hc,hd,v2,sU I kq,kq⟩ (vB I t r2)
theorem yC(hu:X.A.units+100<cLine)(hh:X.A.handled=none):fM X (.type "dict") (λvs H Q=>∃l xs ks,vs=[.ref l]/\H l=some (.lst xs)/\Paired (aCJ X.K H) xs ks /\
 ∀p,H p=none->∀xs',xs'.map pj=ks.foldl sX []->(∀x∈xs',cV X.K H x.1 x.2.1)->Q (.ref p) (upd H p (dN p xs'))):=by
 intro pins s σ H vs us Q I r h
 obtain⟨l,xs,ks,rfl,hl,hp,q⟩:=h
 obtain⟨u,rfl,ru⟩:=nS r
 cases ru
 obtain⟨z,its,n,rv,hlen,e⟩:=I.lstM hl
 have Pr:=vB I hp rv
 have big:=Inv.big I
 refine callType_codes (Q₁:=λobj s₁=>obj=.ref s.heap.objs.size/\s₁={ s with heap:=s.heap.push { cls:=.type "dict",data:=.dict #[] } }) F.kt_called_dict (F.kt_typeCall_dict_1 _) F.entry_dict_init (kt_code_dict_new _ ⟨rfl,rfl⟩) ?_
 rintro obj s₁ ⟨rfl,rfl⟩
 have hD0:(s.heap.push { cls:=.type "dict",data:=.dict #[] }).get? s.heap.objs.size=some { cls:=.type "dict",data:=.dict #[] }:=Heap.get?_push_size _ rfl
 have hTd:({ s with heap:=s.heap.push { cls:=.type "dict",data:=.dict #[] } }:Shared).TypeIs (.ref s.heap.objs.size) "dict" := ⟨_,hD0,rfl⟩
 refine⟨hTd,F.args_dict_init_2 _ _,?_⟩
 unfold Builtin.«dict.__init__»
 refine wpAny_bind ?_
 unfold Builtin.Dict.selfAndRest
 refine wpAny_bind (wpAny_notOrdered_dict hTd ?_)
 show wpAny _ _ (pure (s.heap.objs.size,[Value.ref l])) _ _ _
 refine wpAny_pure ?_
 show wpAny _ _ (Builtin.Dict.updateFrom "dict.__init__" s.heap.objs.size (.ref l) [] .none) _ _ _
 unfold Builtin.Dict.updateFrom
 have e1:(s.heap.push { cls:=.type "dict",data:=.dict #[] }).get? l=some { cls:=.type "list",data:=.seq its.toArray n }:=Heap.get?_push_of_some _ e
 have hTl:({ s with heap:=s.heap.push { cls:=.type "dict",data:=.dict #[] } }:Shared).TypeIs (.ref l) "list" := ⟨_,e1,rfl⟩
 refine wpAny_bind (wpAny_typeOf hTl ?_)
 rw[if_pos (by decide)]
 refine wpAny_bind (aFi (s:={ s with heap:=s.heap.push { cls:=.type "dict",data:=.dict #[] } }) e1 (by simpa using hh) λh1 tk1 k1=>?_)
 rw[if_pos (by rfl)]
 refine wpAny_bind (wpAny_rule ?_)
 have k1':∀b o,s.heap.get? b=some o->h1.get? b=some o:=λb o q=>k1 b o (Heap.get?_push_of_some _ q)
 have hL1:h1.IsList l its.toArray:=⟨_,k1 _ _ e1,rfl,n,rfl⟩
 refine wpAny_bind (wpAny_pyIter_list (s:={ s with heap:=h1,toks:=tk1 }) hL1 ?_)
 have hd1:h1.get? s.heap.objs.size=some { cls:=.type "dict",data:=.dict #[] }:=k1 _ _ hD0
 have hlt1:s.heap.objs.size<h1.objs.size:=Heap.lt_size hd1
 refine wpAny_pure ⟨plainId_quiet iV _,aCI (h₀:=s.heap) (good:=cV X.K H) (show X.A.in1.units+20<cLine by show X.A.units+1+20<cLine;omega) (by simpa using hh) (beq_eq_false_iff_ne.mpr (Nat.ne_of_gt big)) (Heap.get?_none_of_le (Nat.le_refl _)) ?_ (Nat.ne_of_lt hlt1) ⟨_,e,rfl,n,rfl⟩ (by simpa using Pr) (by rw[List.size_toArray,<-hlen];exact z) (its.toArray.size-0) 0 _ [] rfl (Nat.zero_le _) (λb o q=>Heap.get?_push_of_some _ (k1' b o q)) ⟨_,Heap.get?_push_size _ rfl,rfl,rfl⟩ ?_ rfl (λx hx=>by cases hx) (Nat.zero_le _) λh' tk xs' q1 q2 q3 q4=>?_⟩
 . cases q0:s.heap.get? h1.objs.size with
   | none=>rfl
   | some o=>exact absurd (Heap.lt_size (k1' _ _ q0)) (Nat.lt_irrefl _)
 . exact⟨beq_eq_false_iff_ne.mpr (Nat.ne_of_gt big),Nat.zero_le _,_,#[],0,[],Heap.get?_push_of_some _ hd1,⟨rfl,rfl,rfl⟩,rfl,rfl,.nil,List.nodup_nil⟩
 . exact⟨rfl,.ref s.heap.objs.size,_,I.laid (a:=s.heap.objs.size) (o:=dN s.heap.objs.size xs') (t':=tk) q1 (Nat.le_refl _) ⟨q2,let ⟨_,_,o,_,_,_,g,_⟩:=q2;⟨o,g⟩,kK⟩,rfl,q _ (I.hok.fresh (Nat.le_refl _)) xs' q3 q4⟩
end
end L2
end
noncomputable section
namespace L2
open PySem PySem.Spec PyProof.Rows PySem.Builtin
set_option maxRecDepth 100000 in
theorem lP:fillsNumberSlot (.type "tuple") "mul" = pure false:=
 PySem.fillsNumberSlot_seq (id:= "tuple.__mul__") (r:=some (.builtin "tuple.__rmul__")) F.slot_tuple_mul.lookup (by decide +kernel) F.slot_tuple_rmul.lookup (by decide +kernel)
theorem sY:seqRepeat? (.type "tuple")=pure (some (.builtin "tuple.__mul__")):=by
 unfold seqRepeat?
 rw[PySem.seqSlot_of (T:= "tuple") (name:= "__mul__") (id:= "tuple.__mul__") F.slot_tuple_mul.lookup (by decide +kernel),PySem.seqSlot_of (T:= "tuple") (name:= "__rmul__") (id:= "tuple.__rmul__") F.slot_tuple_rmul.lookup (by decide +kernel)]
 rfl
theorem nZ(a:Int)(t:Tok)(l:Addr)(od:Option Addr)(items:Array Value)(n:Nat)(sl:Array (Option Value)):Meets (Builtin.«int.__rmul__» ⟨[.int a t,.ref l],[]⟩) (λ_ R s=>s.heap.get? l=some { cls:=.type "tuple",dict:=od,data:=.seq items n,slots:=sl }/\R (.ok (.ret Value.notImplemented)) s):=
 .of_wp λprog w A R s h=>by
  obtain⟨hp,g,d,tk,os⟩:=s;obtain⟨hl,h⟩:=h;wp_walk;exact⟨_,rfl,h⟩
theorem vC(l:Addr)(t:Tok)(od:Option Addr)(items:Array Value)(n:Nat)(sl:Array (Option Value)):Meets (Builtin.«tuple.__mul__» ⟨[.ref l,.int 1 t],[]⟩) (λ_ R s=>s.heap.get? l=some { cls:=.type "tuple",dict:=od,data:=.seq items n,slots:=sl }/\R (.ok (.ret (.ref l))) s):=
 .of_wp λprog w A R s h=>by
  obtain⟨hp,g,d,tk,os⟩:=s;obtain⟨hl,h⟩:=h;wp_walk;exact⟨_,rfl,h⟩
theorem vD(l:Addr)(t:Tok)(k:Int)(od:Option Addr)(items:Array Value)(n:Nat)(sl:Array (Option Value))(h1:1<k)(h2:k<2 ^ 63)(h0:items.isEmpty=false)(hz:items.size*k.toNat<=sizeLine)(hs:((List.replicate k.toNat items).foldl (·++·) #[]).size<=sizeLine):Meets (Builtin.«tuple.__mul__» ⟨[.ref l,.int k t],[]⟩) (λ_ R s=>s.heap.get? l=some { cls:=.type "tuple",dict:=od,data:=.seq items n,slots:=sl }/\R (.ok (.ret (.ref s.heap.objs.size))) { s with heap:=s.heap.push { cls:=.type "tuple",data:=.seq ((List.replicate k.toNat items).foldl (·++·) #[]) } }):=
 .of_wp λprog w A R s h=>by
  obtain⟨hp,g,d,tk,os⟩:=s;obtain⟨hl,h⟩:=h;wp_walk
  have k1:(decide (k < -2 ^ 63)||decide (k ≥ 2 ^ 63))=false:=by rw[decide_eq_false (by omega),decide_eq_false (by omega)];rfl
  have k2:(items.isEmpty||k==1)=false:=by rw[h0,beq_eq_false_iff_ne.mpr (by omega)];rfl
  have k3:(decide (k<=0)||items.isEmpty)=false:=by rw[h0,decide_eq_false (by omega)];rfl
  have e:((items.size*k.toNat:Nat):Int)=(items.size:Int)*k:=by rw[Int.natCast_mul,Int.toNat_of_nonneg (by omega)]
  have k4:Tuple.tupleTooMany ((items.size:Int)*k)=false:=by
   unfold Tuple.tupleTooMany
   rw[<-e]
   exact decide_eq_false (by omega)
  have k5:¬ (items.size:Int)*k>(2 ^ 63-1) / 8:=by
   have:(sizeLine:Nat)<=(2 ^ 63-1) / 8:=by decide
   rw[<-e]
   omega
  rw[if_neg (by rw[k1];exact bN)]
  wp_walk
  rw[if_neg (by rw[k2];exact bN),if_neg (by rw[k3];exact bN),if_neg k5,if_neg (by rw[k4];exact bN)]
  unfold Tuple.tupleExact newObj
  simp only[if_neg (Nat.not_lt.mpr hs)]
  wp_walk
  exact⟨_,rfl,h⟩
section
variable {X:Cx}
theorem aFj:OpR X (binaryOp .Mult) (λx y H Q=>∃a k xs,x=.ref a/\y=.int k/\SqT X.K H a xs/\xs≠[]/\1<=k/\k<2 ^ 63/\xs.length*k.toNat<=sizeLine /\
 (k=1->Q (.ref a) H)/\(1<k->∀p,H p=none->Q (.ref p) (upd H p (.tup (List.replicate k.toNat xs).flatten)))):=by
 intro pins s σ H x y v u Q I rx ry h
 obtain⟨a,k,xs,rfl,rfl,ha,hx,h1,h2,hz,q1,q2⟩:=h
 cases rx
 obtain⟨t,rfl⟩:=ry
 obtain⟨its,r,⟨o,ho,hc,n,hd⟩,_⟩:=I.tuple ha
 obtain⟨oc,od,dt,sl⟩:=o
 have hc:oc=.type "tuple" := hc
 have hd:dt=.seq its.toArray n:=hd
 subst hc hd
 have lz:=r.length
 have road:=λQ' (hq:wpAny (model X.prog X.w) X.A (call (.builtin "tuple.__mul__") [.ref a,.int k t]) Q' X.xe s)=>wpAny_binaryOp_repeat_ref (Q:=Q') (T:= "tuple") (U:= "int") (by decide) (show s.TypeIs (.ref a) "tuple" from⟨_,ho,rfl⟩) (λs'=>typeIs_int s' k t) lP F.fills_int_mul F.slot_int_rmul sY F.slot_int_index.lookup
  (call_meets F.slot_int_rmul (typeIs_int s k t) F.entry_int_rmul (F.args_int_rmul_2 _ _) (nZ k t a od its.toArray n sl) ⟨ho,rfl,⟨_,ho,rfl⟩,hq⟩)
 refine road _ ?_
 by_cases hk:k=1
 . subst hk
   exact call_meets F.slot_tuple_mul ⟨_,ho,rfl⟩ F.entry_tuple_mul (F.args_tuple_mul_2 _ _) (vC a t od its.toArray n sl) ⟨ho,.ref a,H,I,rfl,q1 rfl⟩
 . have e0:its.toArray.isEmpty=false:=by
    cases its with
    | nil=>exact absurd (r.nil_iff.mp rfl) hx
    | cons _ _=>rfl
   have f0:=lK its k.toNat []
   rw[List.nil_append] at f0
   have f1:List.foldl (λx1 x2=>x1++x2) #[] (List.replicate k.toNat its.toArray)=(List.replicate k.toNat its).flatten.toArray:=f0
   refine call_meets F.slot_tuple_mul ⟨_,ho,rfl⟩ F.entry_tuple_mul (F.args_tuple_mul_2 _ _) (vD a t k od its.toArray n sl (by omega) h2 e0 (by rw[List.size_toArray,<-lz];exact hz) (by rw[f1,List.size_toArray,sR,<-lz,Nat.mul_comm];exact hz)) ⟨ho,?_⟩
   rw[f1]
   refine⟨.ref s.heap.objs.size,_,I.laid (t':=s.toks) (o:=.tup (List.replicate k.toNat xs).flatten) (λb ob q=>Heap.get?_push_of_some _ q) (Nat.le_refl _) ?_,rfl,q2 (by omega) _ (I.hok.fresh (Nat.le_refl _))⟩
   exact⟨by rw[sR,Nat.mul_comm];exact hz,_,r.rep k.toNat,IsTup.new _ _⟩
end
end L2
end
noncomputable section
namespace L2
open PySem PySem.Spec PyProof.Rows PySem.SeqAt
end L2
end
noncomputable section
namespace Hp
open PySem (Str Operator CmpOp)
inductive D where
 | non|bl (b:Bool)|int (i:Int)|str (x:Str)
 | tup (ds:List D)|lst (ds:List D)
 | dic (kvs:List (D×D))
 | err (c:Nat) (fs:List D)
 deriving Inhabited
mutual
def noL:D->Bool
 | .tup ds=>noLs ds
 | .lst _=>false
 | .dic _=>false
 | .err _ _=>false
 | _=>true
def noLs:List D->Bool
 | []=>true
 | d::ds=>noL d&&noLs ds
end
mutual
def aJL:D->Bool
 | .tup ds=>noDics ds
 | .lst ds=>noDics ds
 | .dic _=>false
 | _=>true
def noDics:List D->Bool
 | []=>true
 | d::ds=>aJL d&&noDics ds
end
def lim:Nat:=1000000
def b2i(b:Bool):Int:=if b then 1 else 0
def eqL(f:D->D->Option Bool):List D->List D->Option Bool
 | [],[]=>some true
 | a::as,b::bs=>match f a b,eqL f as bs with
  | some x,some y=>some (x&&y)
  | _,_=>none
 | _,_=>some false
def eqF:Nat->D->D->Option Bool
 | 0,_,_=>none
 | n+1,a,b=>match a,b with
  | .non,.non=>some true
  | .bl a,.bl b=>some (a==b)
  | .int a,.int b=>some (a==b)
  | .str a,.str b=>some (a==b)
  | .bl a,.int b=>some (b2i a==b)
  | .int a,.bl b=>some (a==b2i b)
  | .tup as,.tup bs=>eqL (eqF n) as bs
  | .lst as,.lst bs=>if as.length=bs.length then eqL (eqF n) as bs else some false
  | .dic _,_=>none
  | _,.dic _=>none
  | .err _ _,_=>none
  | _,.err _ _=>none
  | _,_=>some false
def fK(n:Nat):List D->List D->Option Bool
 | [],[]=>some true
 | a::as,b::bs=>match eqF n a b,fK n as bs with
  | some x,some y=>some (x&&y)
  | _,_=>none
 | _,_=>some false
@[simp] theorem aCK (n:Nat):∀as bs:List D,eqL (eqF n) as bs=fK n as bs
 | [],[]=>rfl
 | [],_::_=>rfl
 | _::_,[]=>rfl
 | a::as,b::bs=>by rw[eqL,fK,aCK n as bs]
def sZ:Nat:=120
def eqD(a b:D):Option Bool:=eqF sZ a b
set_option genInjectivity true in
inductive R (α:Type) where
 | ok (a:α)|exc (x:D)|bad
 deriving Inhabited
def R.bind{α β:Type}(x:R α)(f:α->R β):R β:=match x with
 | .ok a=>f a
 | .exc e=>.exc e
 | .bad=>.bad
instance:Monad R where
 pure:=.ok
 bind:=.bind
def R.of{α:Type}:Option α->R α
 | some a=>.ok a
 | none=>.bad
def R.iff{α:Type}(c:Bool)(x:R α):R α:=if c then x else .bad
structure Vl where
 d:D
 fr:Bool:=false
 pa:Bool:=false
 al:List Nat:=[]
 deriving Inhabited
def Vl.cl(d:D):Vl:=⟨d,false,false,[]⟩
def Vl.sub(v:Vl)(d:D):Vl:=if noL d then .cl d else ⟨d,false,v.pa,v.al⟩
inductive Sl where
 | dead|sh (pa:Bool) (d:D)|own (pa:Bool) (ds:List D)|dct (ks:List (List (List Int)×D))|par (ds es:List D)
 deriving Inhabited
abbrev Sg:=List Sl
def Sl.val(i:Nat):Sl->R Vl
 | .dead=>.bad
 | .sh pa d=>.ok ⟨d,false,pa&&!noL d,[]⟩
 | .own pa ds=>.ok ⟨.lst ds,false,pa,[i]⟩
 | .dct _=>.bad
 | .par _ _=>.bad
def bH(σ:Sg)(i:Nat):R Vl:=match σ[i]? with
 | some s=>s.val i
 | none=>.bad
def Sl.freeze:Sl->Sl
 | .own pa ds=>.sh pa (.lst ds)
 | s=>s
def freeze(σ:Sg):List Nat->Sg
 | []=>σ
 | i::is=>freeze (match σ[i]? with|some s=>σ.set i s.freeze|none=>σ) is
def Vl.slot(v:Vl):Sl:=match v.fr,v.d with
 | true,.lst ds=>.own v.pa ds
 | _,d=>.sh v.pa d
inductive Bi where
 | len|list|tuple|min|max|abs|int|str|sum|all|any|sorted|bool|repr
 deriving DecidableEq,Inhabited
inductive Mt where
 | join|upper|lower|get|startswith|endswith|index|count|copy|isdigit|find|replace|split|strip
 deriving DecidableEq,Inhabited
inductive Cl where
 | tInt|tBool|tStr|tList|tTuple|tDict|own (c:Nat)|tValueError
 deriving DecidableEq,Inhabited
inductive T where
 | n (i:Nat)
 | t (ts:List Nat)
 deriving Inhabited
mutual
inductive E where
 | c (d:D)
 | v (i:Nat)
 | op (o:Operator) (a b:E)
 | neg (a:E)
 | nt (a:E)
 | an (a b:E)
 | orr (a b:E)
 | ife (t a b:E)
 | cmp (o:CmpOp) (a b:E)
 | cmp2 (o o':CmpOp) (a b c:E)
 | idx (a b:E)
 | sli (a:E) (lo hi:Es)
 | tup (es:Es)
 | lst (es:Es)
 | dic (ks vs:Es)
 | call (f:Nat) (es:Es)
 | bi (b:Bi) (es:Es)
 | mth (m:Mt) (o:E) (es:Es)
 | isi (a:E) (cs:List Cl)
 | attr (a:E) (f:Nat)
 | comp (k:Nat) (caps:List Nat) (t:T) (it:It) (cond:Es) (elt:E)
 | numset (a:E)   -- len(set(a))
 | tget (i:Nat) (a:E)   -- a dict of the module,.get(a)
 | lzip (a b:E)   -- list(zip(a,b))
 | dnin (a:E) (j:Nat)   -- a not in a dict of one's own
 | dget (j:Nat) (a:E)   -- the value at a key in a dict of one's own
 | dlen (j:Nat)   -- len of a dict of one's own
 | callP (f i:Nat) (es:Es)   -- f(x,..),x a tuple with a list of its own in it,or None
 | pnn (i:Nat)   -- such an x is not None
 | rvs (a:E)   -- a[::-1]
inductive Es where
 | nil|cons (e:E) (es:Es)
inductive It where
 | seq (e:E)|rng (a b:E)|zip (a b:E)|enum (a:E)|rev (a:E)
end
instance:Inhabited E:=⟨.c .non⟩
inductive Arg where
 | e (a:E)|pop (i:Nat)
 deriving Inhabited
mutual
inductive S where
 | set (t:T) (e:E)
 | mov (i j:Nat)
 | setIx (i:Nat) (k e:E)
 | app (i:Nat) (e:E)
 | ext (i:Nat) (e:E)
 | pop (t:Option T) (i:Nat) (at':Option E)
 | clr (i:Nat)
 | ins (i:Nat) (k e:E)
 | rev (i:Nat)
 | appCall (i:Nat) (f:Nat) (as:List Arg)
 | ret (e:E)
 | retv (i:Nat)
 | retN
 | iff (c:E) (a b:Ss)
 | for (t:T) (it:It) (b:Ss)
 | whl (c:E) (b:Ss)
 | brk|cnt|pass
 | ex (e:E)
 | dnew (i:Nat)   -- {}
 | dput (i:Nat) (e:E)   -- i[e]=True
 | dfrom (i:Nat) (e:E)   -- dict(e),e pairs of a key and a plain value
 | tld (i f:Nat) (es:Es)   -- i=f(..),a tuple of three with a new list in its middle,or None
 | appP (i:Nat) (e:E)   -- i[1].append(e)
 | rse (c:Nat) (keep:Bool) (es:Es)
 | try (b:Ss) (hs:Hs)
inductive Ss where
 | nil|cons (s:S) (ss:Ss)
inductive Hs where
 | nil|cons (cs:List Cl) (n:Option Nat) (b:Ss) (hs:Hs)
end
structure Fn where
 np:Nat
 ns:Nat
 body:Ss
structure Pg where
 fns:List Fn
 above:List (List Cl)
 tabs:List (List (Str×D)):=[]
abbrev Rt:=D×Bool×Bool
abbrev Caller:=Nat->List D->R Rt
def eQ(i j:Int):Bool:=(decide (-(2 ^ 64)<i)&&decide (i<2 ^ 64))||(decide (-(2 ^ 64)<j)&&decide (j<2 ^ 64))
def aGu(i j:Int):Bool:=decide (0<=j)&&decide (j<=1000)&&decide (i.natAbs<2 ^ 64)
def aAh(j:Int):Bool:=decide (0<j)&&decide (j<1073741824)
def aM(k:Int):Bool:=decide (-(2 ^ 62)<=k)&&decide (k<2 ^ 62)
def Str.rep(x:Str)(k:Nat):Str:=⟨(List.replicate k x.cps).foldl (·++·) #[]⟩
@[simp] def aHB (x y:Vl):R Vl:=match x.d,y.d with
 | .int i,.int j=>.ok (.cl (.int (i+j)))
 | .str a,.str b=>.iff (decide (a.length+b.length<=lim)) (.ok (.cl (.str (a++b))))
 | .tup a,.tup b=>.iff (decide (a.length+b.length<=lim)) (.ok ⟨.tup (a++b),false,x.pa||y.pa,x.al++y.al⟩)
 | .lst a,.lst b=>.iff (decide (a.length+b.length<=lim)) (.ok ⟨.lst (a++b),true,(x.pa&&!noLs a)||(y.pa&&!noLs b),(if noLs a then [] else x.al)++(if noLs b then [] else y.al)⟩)
 | _,_=>.bad
@[simp] def aBp (x y:Vl):R Vl:=match x.d,y.d with
 | .int i,.int j=>.iff (eQ i j) (.ok (.cl (.int (i*j))))
 | .str a,.int k=>.iff (aM k&&decide (a.length*k.toNat<=lim)) (.ok (.cl (.str (Str.rep a k.toNat))))
 | .lst a,.int k=>.iff (x.fr&&aM k&&decide (a.length*k.toNat<=lim)&&noLs a) (.ok ⟨.lst (List.replicate k.toNat a).flatten,true,false,[]⟩)
 | .tup a,.int k=>.iff (decide (1<=k)&&aM k&&!a.isEmpty&&decide (a.length*k.toNat<=lim)&&noLs a) (.ok (.cl (.tup (List.replicate k.toNat a).flatten)))
 | _,_=>.bad
@[simp] def vE (f:Int->Int->R Vl) (x y:Vl):R Vl:=match x.d,y.d with
 | .int i,.int j=>f i j
 | _,_=>.bad
def opD(o:Operator)(x y:Vl):R Vl:=match o with
 | .Add=>aHB x y
 | .Mult=>aBp x y
 | .Sub=>vE (λi j=>.ok (.cl (.int (i-j)))) x y
 | .FloorDiv=>vE (λi j=>.iff (aAh j) (.ok (.cl (.int (i / j))))) x y
 | .Mod=>vE (λi j=>.iff (decide (0<j)) (.ok (.cl (.int (i % j))))) x y
 | .Pow=>vE (λi j=>.iff (aGu i j) (.ok (.cl (.int (i ^ j.toNat))))) x y
 | _=>.bad
def aBq:D->Option Bool
 | .non=>some false
 | .bl b=>some b
 | .int i=>some (i != 0)
 | .str x=>if x.length<=lim then some (x.length != 0) else none
 | .tup ds=>some (!ds.isEmpty)
 | .lst ds=>some (!ds.isEmpty)
 | _=>none
def eR(x:Vl):R Bool:=.of (aBq x.d)
def lQ:List D->Option (List Int)
 | []=>some []
 | .int a::ds=>match lQ ds with
  | some ns=>some (a::ns)
  | none=>none
 | _=>none
def ltD:D->D->Option Bool
 | .int a,.int b=>some (decide (a<b))
 | _,_=>none
def leD:D->D->Option Bool
 | .int a,.int b=>some (decide (a<=b))
 | _,_=>none
def isNone:D->Bool
 | .non=>true
 | _=>false
def inD(x y:D):Option Bool:=match x,y with
 | .str a,.str b=>some (!(PySem.Builtin.Str.occurrences b a 0 b.length 1).isEmpty)
 | _,_=>none
def dJ(o:CmpOp)(x y:D):Option Bool:=match o with
 | .Eq=>eqD x y
 | .NotEq=>(eqD x y).map (!·)
 | .Lt=>ltD x y
 | .Gt=>match x,y with
  | .int a,.int b=>some (decide (b<a))
  | _,_=>none
 | .LtE=>leD x y
 | .GtE=>match x,y with
  | .int a,.int b=>some (decide (b<=a))
  | _,_=>none
 | .Is=>match y with
  | .non=>some (isNone x)
  | _=>none
 | .IsNot=>match y with
  | .non=>some (!isNone x)
  | _=>none
 | .In=>inD x y
 | .NotIn=>(inD x y).map (!·)
def ixN(n:Nat)(k:Int):Option Nat:=
 if 0<=k then (if k<n then some k.toNat else none) else (if -(n:Int)<=k then some (k+n).toNat else none)
def bM(x y:Vl):R Vl:=match x.d,y.d with
 | .lst ds,.int k=>match ixN ds.length k with
  | some j=>match ds[j]? with
   | some d=>.ok (x.sub d)
   | none=>.bad
  | none=>.bad
 | .tup ds,.int k=>match ixN ds.length k with
  | some j=>match ds[j]? with
   | some d=>.ok (x.sub d)
   | none=>.bad
  | none=>.bad
 | .str a,.int k=>.iff (decide (a.length<=lim)) (match ixN a.length k with
  | some j=>match a.cps.toList[j]? with
   | some c=>.ok (.cl (.str ⟨#[c]⟩))
   | none=>.bad
  | none=>.bad)
 | _,_=>.bad
def sIx(n d:Nat):Option Int->Nat
 | none=>d
 | some v=>if v<0 then (v+(n:Int)).toNat else min v.toNat n
def cut{α:Type}(xs:List α)(lo hi:Option Int):List α:=(xs.drop (sIx xs.length 0 lo)).take (sIx xs.length xs.length hi-sIx xs.length 0 lo)
def yD(x:Str)(lo hi:Option Int):Str:=⟨(cut x.cps.toList lo hi).toArray⟩
def eS(x:Vl)(lo hi:Option Int):R Vl:=match x.d with
 | .lst ds=>.ok ⟨.lst (cut ds lo hi),true,x.pa&&!noLs ds,if noLs ds then [] else x.al⟩
 | .tup ds=>.ok ⟨.tup (cut ds lo hi),false,x.pa&&!noLs ds,if noLs ds then [] else x.al⟩
 | .str a=>.iff (decide (a.length<=lim)) (.ok (.cl (.str (yD a lo hi))))
 | _=>.bad
def isI(cs:List Cl)(P:Pg):D->Option Bool
 | .non=>some false
 | .bl _=>some (cs.contains .tBool||cs.contains .tInt)
 | .int _=>some (cs.contains .tInt)
 | .str _=>some (cs.contains .tStr)
 | .tup _=>some (cs.contains .tTuple)
 | .lst _=>some (cs.contains .tList)
 | .dic _=>some (cs.contains .tDict)
 | .err c _=>match P.above[c]? with
  | some ab=>some (ab.any λa=>cs.contains a)
  | none=>none
def aMK(i:Int):Str:=(toString i:String)
def aHC:List D->Int->Option Int
 | [],a=>some a
 | .int i::ds,a=>aHC ds (a+i)
 | .bl b::ds,a=>aHC ds (a+b2i b)
 | _,_=>none
def tB:List D->Option (List Bool)
 | []=>some []
 | .bl a::ds=>match tB ds with
  | some bs=>some (a::bs)
  | none=>none
 | _=>none
def tD:List D->Option (List (Sum Int Str))
 | []=>some []
 | .int a::ds=>match tD ds with
  | some ks=>some (.inl a::ks)
  | none=>none
 | .str a::ds=>match tD ds with
  | some ks=>some (.inr a::ks)
  | none=>none
 | _=>none
def aCL(ks:List (Sum Int Str)):List (Sum Int Str):=ks.foldl (λσ v=>if σ.any (·==v) then σ else σ++[v]) []
def aJM(x:D):List D->Option (List D)
 | []=>some [x]
 | y::ys=>match ltD x y with
  | some true=>some (x::y::ys)
  | some false=>match aJM x ys with
   | some r=>some (y::r)
   | none=>none
  | none=>none
def aGv:List D->Option (List D)
 | []=>some []
 | d::ds=>match aGv ds with
  | some r=>aJM d r
  | none=>none
def tE(x:Str):Bool:=x.cps.all λc=>decide (97<=c)&&decide (c<=122)
mutual
def wt:D->Nat
 | .non=>4
 | .bl _=>5
 | .int i=>if i.natAbs<1000000000 then 10 else lim
 | .str x=>if tE x then x.length+2 else lim
 | .tup ds=>3+wts ds
 | .lst ds=>2+wts ds
 | .dic _=>lim
 | .err _ _=>lim
def wts:List D->Nat
 | []=>0
 | d::ds=>wt d+2+wts ds
end
mutual
def dpt:D->Nat
 | .tup ds=>dpts ds+1
 | .lst ds=>dpts ds+1
 | .non=>0
 | .bl _=>0
 | .int _=>0
 | .str _=>0
 | .dic _=>0
 | .err _ _=>0
def dpts:List D->Nat
 | []=>0
 | d::ds=>max (dpt d) (dpts ds)
end
mutual
def gI:D->PySem.PyData
 | .non=>.none
 | .bl b=>.bool b
 | .int i=>.int i
 | .str x=>.str x
 | .tup ds=>.tuple (toPys ds)
 | .lst ds=>.list (toPys ds)
 | .dic _=>.none
 | .err _ _=>.none
def toPys:List D->List PySem.PyData
 | []=>[]
 | d::ds=>gI d::toPys ds
end
def vF(d:D):Str:=(gI d).shown
@[simp] def aBr (b:Bi) (x:Vl):R Vl:=match b with
 | .len=>match x.d with
  | .lst ds=>.ok (.cl (.int ds.length))
  | .tup ds=>.ok (.cl (.int ds.length))
  | .str a=>.iff (decide (a.length<=lim)) (.ok (.cl (.int a.length)))
  | _=>.bad
 | .list=>match x.d with
  | .lst ds=>.ok ⟨.lst ds,true,x.pa&&!noLs ds,if noLs ds then [] else x.al⟩
  | .tup ds=>.ok ⟨.lst ds,true,x.pa&&!noLs ds,if noLs ds then [] else x.al⟩
  | _=>.bad
 | .tuple=>match x.d with
  | .lst ds=>.ok ⟨.tup ds,false,x.pa&&!noLs ds,if noLs ds then [] else x.al⟩
  | .tup ds=>.ok ⟨.tup ds,false,x.pa,x.al⟩
  | _=>.bad
 | .abs=>match x.d with
  | .int i=>.ok (.cl (.int (if i<0 then -i else i)))
  | _=>.bad
 | .int=>match x.d with
  | .int i=>.ok (.cl (.int i))
  | .bl b=>.ok (.cl (.int (b2i b)))
  | _=>.bad
 | .bool=>match aBq x.d with
  | some k=>.ok (.cl (.bl k))
  | none=>.bad
 | .str=>match x.d with
  | .int i=>.iff (decide (i.natAbs<2 ^ 1000)) (.ok (.cl (.str (aMK i))))
  | _=>.bad
 | .repr=>match x.d with
  | .tup ds=>.iff (decide (wt (.tup ds)<lim)&&decide (dpt (.tup ds)<=60)) (.ok (.cl (.str (vF (.tup ds)))))
  | _=>.bad
 | .sum=>match x.d with
  | .lst ds=>match aHC ds 0 with
   | some i=>.ok (.cl (.int i))
   | none=>.bad
  | _=>.bad
 | .all=>match x.d with
  | .lst ds=>match tB ds with
   | some bs=>.ok (.cl (.bl (bs.all id)))
   | none=>.bad
  | _=>.bad
 | .any=>match x.d with
  | .lst ds=>match tB ds with
   | some bs=>.ok (.cl (.bl (bs.any id)))
   | none=>.bad
  | _=>.bad
 | .sorted=>match x.d with
  | .lst ds=>match aGv ds with
   | some r=>.ok ⟨.lst r,true,x.pa&&!noLs ds,if noLs ds then [] else x.al⟩
   | none=>.bad
  | _=>.bad
 | _=>.bad
@[simp] def aML (b:Bi) (x y:Vl):R Vl:=match b with
 | .min=>match x.d,y.d with
  | .int i,.int j=>.ok (.cl (.int (if j<i then j else i)))
  | _,_=>.bad
 | .max=>match x.d,y.d with
  | .int i,.int j=>.ok (.cl (.int (if j>i then j else i)))
  | _,_=>.bad
 | _=>.bad
def biD(b:Bi)(xs:List Vl):R Vl:=match xs with
 | [x]=>aBr b x
 | [x,y]=>aML b x y
 | _=>.bad
def gJ:List D->Option (List Str)
 | []=>some []
 | .str x::ds=>match gJ ds with
  | some r=>some (x::r)
  | none=>none
 | _=>none
def aJN:D->D->Bool
 | .int a,.int b=>a==b
 | .str a,.str b=>a==b
 | _,_=>false
def aJO:D->Bool
 | .int _=>true
 | .str _=>true
 | _=>false
def aGw(k:D):List (D×D)->Option D
 | []=>none
 | (a,d)::r=>if aJN a k then some d else aGw k r
def upC(n:Nat):Nat:=if 97<=n/\n<=122 then n-32 else n
def mtD(m:Mt)(x:Vl)(ys:List Vl):R Vl:=match m,x.d,ys with
 | .join,.str a,[y]=>match y.d with
  | .lst ds=>match gJ ds with
   | some xs=>.iff (decide ((xs.map (·.length)).sum+xs.length*a.length<=lim)) (.ok (.cl (.str (PySem.Str.join a xs))))
   | none=>.bad
  | _=>.bad
 | .get,.dic kvs,[y]=>.iff (aJO y.d) (match aGw y.d kvs with
  | some d=>.ok (x.sub d)
  | none=>.ok (.cl .non))
 | .upper,.str a,[]=>.iff (a.cps.all (·<128)) (.ok (.cl (.str ⟨a.cps.map upC⟩)))
 | _,_,_=>.bad
def cQ(vs:List Vl):List Nat:=vs.flatMap (·.al)
def eZ(vs:List Vl):Bool:=vs.any (·.pa)
def jQ(vs:List Vl):Vl:=⟨.tup (vs.map (·.d)),false,eZ vs,cQ vs⟩
def mR(vs:List Vl):Vl:=⟨.lst (vs.map (·.d)),true,eZ vs,cQ vs⟩
def hG(args:List Vl)(r:Rt):Vl:=if r.2.2 then ⟨r.1,r.2.1,eZ args,cQ args⟩ else ⟨r.1,r.2.1,false,[]⟩
def fG(a b:Int):List D:=(List.range (b-a).toNat).map λ(k:Nat)=>.int (a+(k:Int))
def eA:Int->List D->List D
 | _,[]=>[]
 | k,d::ds=>.tup [.int k,d]::eA (k+1) ds
def aCM:List D->List D->List D
 | a::as,b::bs=>.tup [a,b]::aCM as bs
 | _,_=>[]
def cC(σ:Sg)(v:Vl):T->R Sg
 | .n i=>.ok (σ.set i v.slot)
 | .t is=>match v.d with
  | .tup ds=>if ds.length=is.length then .ok ((is.zip ds).foldl (λσ p=>σ.set p.1 (v.sub p.2).slot) σ) else .bad
  | _=>.bad
def eF(f:Vl->R (Option Vl)):List Vl->R (List Vl)
 | []=>.ok []
 | x::xs=>do
  let y<-f x
  let ys<-eF f xs
  match y with
  | some y=>.ok (y::ys)
  | none=>.ok ys
def jV:D->Option (List D)
 | .lst ds=>some ds
 | .tup ds=>some ds
 | _=>none
def items(x:Vl)(ds:List D):List Vl:=ds.map x.sub
def qY:List D->Option (List (List Int))
 | []=>some []
 | .tup as::ds=>match lQ as,qY ds with
  | some a,some r=>some (a::r)
  | _,_=>none
 | _=>none
def lR:D->Option (List (List Int))
 | .tup ds=>qY ds
 | _=>none
def eL(ks:List (List (List Int)×D))(k:List (List Int)×D):List (List (List Int)×D):=if k.1∈ks.map (·.1) then ks.map (λx=>if x.1=k.1 then (x.1,k.2) else x) else ks++[k]
def aHD:D->Bool
 | .int _|.bl _=>true
 | _=>false
def aJP(ks:List (List (List Int)×D))(k:List (List Int)):Option D:=(ks.find? λx=>decide (x.1=k)).map (·.2)
def gL:List D->Option (List (List (List Int)×D))
 | []=>some []
 | .tup [k,v]::ds=>match lR k,aHD v,gL ds with
  | some a,true,some r=>some ((a,v)::r)
  | _,_,_=>none
 | _=>none
def kL(k:Nat)(caps al:List Nat)(vs:List Vl):Vl:=
 if noLs (vs.map (·.d)) then ⟨.lst (vs.map (·.d)),true,false,[]⟩
 else ⟨.lst (vs.map (·.d)),true,eZ vs,al++(cQ vs).filterMap λj=>caps[j-k]?⟩
def vG(σ:Sg)(i:Nat):R D:=match σ[i]? with
 | some (.par ds [x,y])=>.ok (.tup [x,.lst ds,y])
 | some (.sh _ .non)=>.ok .non
 | _=>.bad
def aBs(σ:Sg)(i:Nat):R Bool:=match σ[i]? with
 | some (.par _ _)=>.ok true
 | some (.sh _ .non)=>.ok false
 | _=>.bad
def jW(r:Rt):R Vl:=.iff (noL r.1&&!r.2.1) (.ok (.cl r.1))
def aCN(σ:Sg):Bool:=σ.all λs=>match s with
 | .par _ _=>false
 | _=>true
def aCO(σ:Sg)(r:Rt):Option Sl:=match r.1,r.2.1,r.2.2 with
 | .non,false,_=>some (.sh false .non)
 | .tup [x,.lst ds,y],false,false=>if noLs [x,y]&&noLs ds&&aCN σ then some (.par ds [x,y]) else none
 | _,_,_=>none
def aGx(x y:Vl)(ds:List D):Vl:=if noLs ds then ⟨.lst ds,true,false,[]⟩ else ⟨.lst ds,true,x.pa||y.pa,x.al++y.al⟩
section
variable (P:Pg) (cl:Caller)
mutual
def ev(σ:Sg):E->R Vl
 | .c d=>.ok (.cl d)
 | .v i=>bH σ i
 | .op o a b=>do let x<-ev σ a;let y<-ev σ b;opD o x y
 | .neg a=>do
  let x<-ev σ a
  match x.d with
  | .int i=>.ok (.cl (.int (-i)))
  | _=>.bad
 | .nt a=>do let x<-ev σ a;let k<-eR x;.ok (.cl (.bl (!k)))
 | .an a b=>do
  let x<-ev σ a
  match x.d with
  | .bl true=>ev σ b
  | .bl false=>.ok (.cl (.bl false))
  | _=>.bad
 | .orr a b=>do
  let x<-ev σ a
  match x.d with
  | .bl true=>.ok (.cl (.bl true))
  | .bl false=>ev σ b
  | _=>.bad
 | .ife t a b=>do
  let x<-tst σ t
  if x then ev σ a else ev σ b
 | .cmp o a b=>do
  let x<-ev σ a
  let y<-ev σ b
  match dJ o x.d y.d with
  | some k=>.ok (.cl (.bl k))
  | none=>.bad
 | .cmp2 o o' a b c=>do
  let x<-ev σ a
  let y<-ev σ b
  match dJ o x.d y.d with
  | some true=>do
   let z<-ev σ c
   match dJ o' y.d z.d with
   | some k=>.ok (.cl (.bl k))
   | none=>.bad
  | some false=>.ok (.cl (.bl false))
  | none=>.bad
 | .idx a b=>do let x<-ev σ a;let y<-ev σ b;bM x y
 | .sli a lo hi=>do
  let x<-ev σ a
  let l<-evs σ lo
  let h<-evs σ hi
  match l,h with
  | [],[]=>eS x none none
  | [l],[]=>match l.d with
   | .int l=>.iff (aM l) (eS x (some l) none)
   | _=>.bad
  | [],[h]=>match h.d with
   | .int h=>.iff (aM h) (eS x none (some h))
   | _=>.bad
  | [l],[h]=>match l.d,h.d with
   | .int l,.int h=>.iff (aM l&&aM h) (eS x (some l) (some h))
   | _,_=>.bad
  | _,_=>.bad
 | .tup es=>do let vs<-evs σ es;.ok (jQ vs)
 | .lst es=>do let vs<-evs σ es;.ok (mR vs)
 | .dic ks vs=>do
  let ks<-evs σ ks
  let vs<-evs σ vs
  match (ks.map (λ(v:Vl)=>v.d):List D),(vs.map (λ(v:Vl)=>v.d):List D) with
  | [.int k],[.int v]=>.ok (.cl (.dic [(.int k,.int v)]))
  | _,_=>.bad
 | .call f es=>do
  let vs<-evs σ es
  let r<-cl f (vs.map (·.d))
  .ok (hG vs r)
 | .bi b es=>do let vs<-evs σ es;biD b vs
 | .mth m o es=>do let x<-ev σ o;let ys<-evs σ es;mtD m x ys
 | .isi a cs=>do
  let x<-ev σ a
  match isI cs P x.d with
  | some k=>.ok (.cl (.bl k))
  | none=>.bad
 | .attr a f=>do
  let x<-ev σ a
  match x.d with
  | .err _ fs=>match fs[f]? with
   | some d=>.ok (x.sub d)
   | none=>.bad
  | _=>.bad
 | .comp k caps t it cond elt=>do
  let xs<-walk σ it
  let vs<-eF (λx=>do
   let σ1<-cC (List.replicate k .dead++caps.map λi=>((freeze σ xs.2)[i]?).getD .dead) x t
   let k<-tsts σ1 cond
   if k then do let y<-ev σ1 elt;.ok (some y) else .ok none) xs.1
  .iff (decide (vs.length<=lim)) (.ok (kL k caps xs.2 vs))
 | .numset a=>do
  let x<-ev σ a
  match x.d with
  | .lst ds=>match tD ds with
   | some ks=>.iff (decide (ds.length<=1000)) (.ok (.cl (.int (aCL ks).length)))
   | none=>.bad
  | _=>.bad
 | .tget i a=>do
  let x<-ev σ a
  match x.d,P.tabs[i]? with
  | .str k,some t=>.ok (.cl ((t.lookup k).getD .non))
  | _,_=>.bad
 | .lzip a b=>do
  let x<-ev σ a
  let y<-ev σ b
  match jV x.d,jV y.d with
  | some as,some bs=>.iff (decide (as.length<=lim)) (.ok (aGx x y (aCM as bs)))
  | _,_=>.bad
 | .dnin a j=>do
  let x<-ev σ a
  match σ[j]?,lR x.d with
  | some (.dct ks),some k=>.ok (.cl (.bl (!decide (k∈ks.map (·.1)))))
  | _,_=>.bad
 | .dget j a=>do
  let x<-ev σ a
  match σ[j]?,lR x.d with
  | some (.dct ks),some k=>(match aJP ks k with
   | some d=>.iff (aHD d) (.ok (.cl d))
   | none=>.bad)
  | _,_=>.bad
 | .rvs a=>do
  let x<-ev σ a
  match x.d with
  | .lst ds=>.ok ⟨.lst ds.reverse,true,x.pa&&!noLs ds,if noLs ds then [] else x.al⟩
  | _=>.bad
 | .dlen j=>match σ[j]? with
  | some (.dct ks)=>.ok (.cl (.int ks.length))
  | _=>.bad
 | .callP f i es=>do
  let vs<-evs σ es
  let d<-vG σ i
  let r<-cl f (d::vs.map (·.d))
  jW r
 | .pnn i=>do
  let k<-aBs σ i
  .ok (.cl (.bl k))
def tst(σ:Sg):E->R Bool
 | .nt a=>do let x<-tst σ a;.ok (!x)
 | .an a b=>do
  let x<-tst σ a
  if x then tst σ b else .ok false
 | .orr a b=>do
  let x<-tst σ a
  if x then .ok true else tst σ b
 | .c d=>eR (.cl d)
 | .v i=>do let x<-bH σ i;eR x
 | .cmp o a b=>do
  let x<-ev σ a
  let y<-ev σ b
  match dJ o x.d y.d with
  | some k=>.ok k
  | none=>.bad
 | .cmp2 o o' a b c=>do
  let x<-ev σ a
  let y<-ev σ b
  match dJ o x.d y.d with
  | some true=>do
   let z<-ev σ c
   match dJ o' y.d z.d with
   | some k=>.ok k
   | none=>.bad
  | some false=>.ok false
  | none=>.bad
 | .call f es=>do
  let vs<-evs σ es
  let r<-cl f (vs.map (·.d))
  eR (hG vs r)
 | .bi b es=>do let vs<-evs σ es;let x<-biD b vs;eR x
 | .mth m o es=>do let x<-ev σ o;let ys<-evs σ es;let z<-mtD m x ys;eR z
 | .idx a b=>do let x<-ev σ a;let y<-ev σ b;let z<-bM x y;eR z
 | .isi a cs=>do
  let x<-ev σ a
  match isI cs P x.d with
  | some k=>.ok k
  | none=>.bad
 | .dnin a j=>do
  let x<-ev σ a
  match σ[j]?,lR x.d with
  | some (.dct ks),some k=>.ok (!decide (k∈ks.map (·.1)))
  | _,_=>.bad
 | .callP f i es=>do
  let vs<-evs σ es
  let d<-vG σ i
  let r<-cl f (d::vs.map (·.d))
  let x<-jW r
  eR x
 | .pnn i=>aBs σ i
 | _=>.bad
def evs(σ:Sg):Es->R (List Vl)
 | .nil=>.ok []
 | .cons e es=>do let x<-ev σ e;let xs<-evs σ es;.ok (x::xs)
def walk(σ:Sg):It->R (List Vl×List Nat)
 | .seq e=>do
  let x<-ev σ e
  match x.d with
  | .lst ds=>.ok (items x ds,x.al)
  | .tup ds=>.ok (items x ds,x.al)
  | .str a=>.iff (decide (a.length<=lim)) (.ok (a.cps.toList.map λn=>.cl (.str ⟨#[n]⟩),[]))
  | _=>.bad
 | .rng a b=>do
  let x<-ev σ a
  let y<-ev σ b
  match x.d,y.d with
  | .int i,.int j=>.iff (aM i&&aM j) (.ok ((fG i j).map .cl,[]))
  | _,_=>.bad
 | .zip a b=>do
  let x<-ev σ a
  let y<-ev σ b
  match jV x.d,jV y.d with
  | some as,some bs=>.ok (items ⟨.non,false,x.pa||y.pa,x.al++y.al⟩ (aCM as bs),x.al++y.al)
  | _,_=>.bad
 | .enum a=>do
  let x<-ev σ a
  match jV x.d with
  | some as=>.ok (items x (eA 0 as),x.al)
  | none=>.bad
 | .rev a=>do
  let x<-ev σ a
  match jV x.d with
  | some as=>.ok (items x as.reverse,x.al)
  | none=>.bad
def tsts(σ:Sg):Es->R Bool
 | .nil=>.ok true
 | .cons e es=>do
  let x<-tst σ e
  if x then tsts σ es else .ok false
end
inductive O where
 | next (σ:Sg)|brk (σ:Sg)|cnt (σ:Sg)|ret (v:Vl)|exc (x:D) (σ:Sg)|bad
 deriving Inhabited
def O.from{α:Type}(σ:Sg)(x:R α)(f:α->O):O:=match x with
 | .ok a=>f a
 | .exc e=>.exc e σ
 | .bad=>.bad
def O.on(o:O)(f:Sg->O):O:=match o with
 | .next σ=>f σ
 | o=>o
def dQ(f:Sg->Vl->O):List Vl->Sg->O
 | [],σ=>.next σ
 | x::xs,σ=>match f σ x with
  | .next σ'=>dQ f xs σ'
  | .cnt σ'=>dQ f xs σ'
  | .brk σ'=>.next σ'
  | o=>o
def fA(t:Sg->R Bool)(f:Sg->O):Nat->Sg->O
 | 0,_=>.bad
 | n+1,σ=>O.from σ (t σ) λk=>if k then (match f σ with
     | .next σ'=>fA t f n σ'
     | .cnt σ'=>fA t f n σ'
     | .brk σ'=>.next σ'
     | o=>o) else .next σ
def fZ:Nat:=1000000
def gB(σ:Sg)(i:Nat):Option (Bool×List D):=match σ[i]? with
 | some (.own pa ds)=>some (pa,ds)
 | _=>none
def put(σ:Sg)(i:Nat)(v:Vl)(f:List D->Option (List D)):O:=match gB (freeze σ v.al) i with
 | some (pa,ds)=>match f ds with
  | some ds'=>if ds'.length<=lim then .next ((freeze σ v.al).set i (.own (pa||v.pa) ds')) else .bad
  | none=>.bad
 | none=>.bad
def aGy(σ:Sg)(i:Nat)(v:Vl):O:=put σ i v λds=>some (ds++[v.d])
def qZ(v:Vl):Option (Vl×List D):=match v.fr,v.d with
 | true,.lst ds=>some (⟨.non,false,v.pa&&!noLs ds,if noLs ds then [] else v.al⟩,ds)
 | _,_=>none
def aCP(σ:Sg)(i:Nat)(k:Option Int):R (Vl×Sg):=match gB σ i with
 | some (pa,ds)=>match (match k with|none=>ixN ds.length (-1)|some k=>ixN ds.length k) with
  | some j=>match ds[j]? with
   | some d=>.ok (Vl.sub ⟨.non,false,pa,[]⟩ d,σ.set i (.own pa (ds.eraseIdx j)))
   | none=>.bad
  | none=>.bad
 | none=>.bad
def yE(e:Sg->E->R Vl):Sg->List Vl->List Arg->R (List Vl×Sg)
 | σ,acc,[]=>.ok (acc,σ)
 | σ,acc,.e a::as=>do let x<-e σ a;yE e σ (acc++[x]) as
 | σ,acc,.pop j::as=>do
  let (x,σ')<-aCP σ j none
  if (cQ acc).contains j then .bad else yE e σ' (acc++[x]) as
def aJQ(e:Option (R Vl)):R (Option Int):=match e with
 | none=>.ok none
 | some x=>do
  let v<-x
  match v.d with
  | .int k=>.iff (aM k) (.ok (some k))
  | _=>.bad
mutual
def ex(σ:Sg):S->O
 | .set t e=>O.from σ (ev P cl σ e) λv=>O.from σ (cC (freeze σ v.al) v t) .next
 | .mov i j=>match σ[j]? with
  | some (.own pa ds)=>if i=j then .bad else .next ((σ.set j .dead).set i (.own pa ds))
  | some (.sh pa d)=>.next (σ.set i (.sh (pa&&!noL d) d))
  | _=>.bad
 | .setIx i k e=>O.from σ (ev P cl σ e) λv=>O.from σ (ev P cl σ k) λkv=>match kv.d with
  | .int k=>put σ i v λds=>match ixN ds.length k with
   | some j=>some (ds.set j v.d)
   | none=>none
  | _=>.bad
 | .app i e=>O.from σ (ev P cl σ e) λv=>aGy σ i v
 | .ext i e=>O.from σ (ev P cl σ e) λv=>match qZ v with
  | some (v',ds')=>put σ i v' λds=>some (ds++ds')
  | none=>.bad
 | .pop t i k=>O.from σ (aJQ (k.map λe=>ev P cl σ e)) λk=>O.from σ (aCP σ i k) λ(v,σ')=>match t with
  | none=>.next σ'
  | some t=>O.from σ' (cC σ' v t) .next
 | .clr i=>put σ i (.cl .non) λ_=>some []
 | .ins i k e=>O.from σ (ev P cl σ k) λkv=>O.from σ (ev P cl σ e) λv=>match kv.d with
  | .int k=>if 0<=k/\k<1000000 then put σ i v λds=>some (ds.take k.toNat++v.d::ds.drop k.toNat) else .bad
  | _=>.bad
 | .rev i=>put σ i (.cl .non) λds=>some ds.reverse
 | .appCall i f as=>O.from σ (yE (λσ a=>ev P cl σ a) σ [] as) λ(vs,σ')=>O.from σ' (cl f (vs.map (·.d))) λr=>aGy σ' i (hG vs r)
 | .ret e=>O.from σ (ev P cl σ e) .ret
 | .retv i=>match σ[i]? with
  | some (.own pa ds)=>.ret ⟨.lst ds,true,pa,[]⟩
  | _=>O.from σ (bH σ i) .ret
 | .retN=>.ret (.cl .non)
 | .iff c a b=>O.from σ (tst P cl σ c) λk=>if k then exs σ a else exs σ b
 | .for t it b=>O.from σ (walk P cl σ it) λxs=>dQ (λσ x=>O.from σ (cC σ x t) λσ'=>exs σ' b) xs.1 (freeze σ xs.2)
 | .whl c b=>fA (λσ=>tst P cl σ c) (λσ=>exs σ b) fZ σ
 | .brk=>.brk σ
 | .cnt=>.cnt σ
 | .pass=>.next σ
 | .ex e=>O.from σ (ev P cl σ e) λ_=>.next σ
 | .dnew i=>.next (σ.set i (.dct []))
 | .dput i e=>O.from σ (ev P cl σ e) λv=>match σ[i]?,lR v.d with
  | some (.dct ks),some k=>if ks.length<lim then .next (σ.set i (.dct (eL ks (k,.bl true)))) else .bad
  | _,_=>.bad
 | .dfrom i e=>O.from σ (ev P cl σ e) λv=>match v.fr,v.d with
  | true,.lst ds=>(match gL ds with
   | some ks=>.next (σ.set i (.dct (ks.foldl eL [])))
   | none=>.bad)
  | _,_=>.bad
 | .tld i f es=>O.from σ (evs P cl σ es) λvs=>O.from σ (cl f (vs.map (·.d))) λr=>match aCO σ r with
  | some s=>.next (σ.set i s)
  | none=>.bad
 | .appP i e=>O.from σ (ev P cl σ e) λv=>match σ[i]?,noL v.d with
  | some (.par ds es),true=>if ds.length<lim then .next (σ.set i (.par (ds++[v.d]) es)) else .bad
  | _,_=>.bad
 | .rse c keep es=>O.from σ (evs P cl σ es) λvs=>.exc (.err c (if keep then vs.map (·.d) else [])) σ
 | .try b hs=>match exs σ b with
  | .exc x σ'=>hdl σ' x hs
  | o=>o
def exs(σ:Sg):Ss->O
 | .nil=>.next σ
 | .cons s ss=>(ex σ s).on λσ'=>exs σ' ss
def hdl(σ:Sg)(x:D):Hs->O
 | .nil=>.exc x σ
 | .cons cs n b hs=>match isI cs P x with
  | some true=>match n with
   | none=>exs σ b
   | some i=>match exs (σ.set i (.sh true x)) b with
    | .next σ'=>.next (σ'.set i .dead)
    | .brk σ'=>.brk (σ'.set i .dead)
    | .cnt σ'=>.cnt (σ'.set i .dead)
    | .exc x σ'=>.exc x (σ'.set i .dead)
    | o=>o
  | some false=>hdl σ x hs
  | none=>.bad
end
def yF(f:Nat)(ds:List D):R Rt:=match P.fns[f]? with
 | none=>.bad
 | some F=>if ds.length=F.np then
  match exs P cl ((ds.map λd=>Sl.sh true d)++List.replicate (F.ns-F.np) Sl.dead) F.body with
  | .ret v=>.ok (v.d,v.fr,v.pa)
  | .next _=>.ok (.non,false,false)
  | .exc x _=>.exc x
  | _=>.bad
  else .bad
end
def call(P:Pg):Nat->Caller
 | 0=>λ_ _=>.bad
 | n+1=>yF P (call P n)
end Hp
end
noncomputable section
namespace Hp
open PySem
structure Ct where
 N:List Str
 sc:List (Str×NameKind)
 fns:List Str
 cns:List (Str×D)
 cls:List Str
 fn:Bool
 tbs:List Str
def aCQ(Γ:Ct)(x:Str):Bool:=match Γ.sc.lookup x with
 | some .local=>true
 | some .cell=>true
 | some .free=>true
 | _=>false
def vH(Γ:Ct)(x:Str):Bool:=match Γ.sc.lookup x with
 | some .local=>true
 | some .cell=>Γ.fn
 | _=>false
def oA(sc names:List (Str×NameKind)):List (Str×NameKind):=names.map λ(n,k)=>if (k==.free&&sc.lookup n==some .cell) then (n,.cell) else (n,k)
def rA:Expr->Bool
 | .Tuple _ _ _=>true
 | _=>false
def tIx:T->List Nat
 | .n i=>[i]
 | .t is=>is
def eI(Γ:Ct)(x:Str):Bool:=match Γ.sc.lookup x with
 | some .globalImplicit=>true
 | _=>false
def cT(x:Str):Bool:=!(x==("__debug__" : Str))&&!(x==("__classdict__" : Str))
def bO(Γ:Ct)(i:Nat)(x:Str):Bool:=(Γ.N[i]?==some x)&&aCQ Γ x&&cT x
def bP(Γ:Ct)(i:Nat)(x:Str):Bool:=(Γ.N[i]?==some x)&&vH Γ x&&cT x
def eqC:D->Const->Bool
 | .non,.none=>true
 | .bl a,.bool b=>a==b
 | .int a,.int b=>a==b
 | .str a,.str b=>a==b
 | _,_=>false
def eqK:D->D->Bool
 | .non,.non=>true
 | .bl a,.bl b=>a==b
 | .int a,.int b=>a==b
 | .str a,.str b=>a==b
 | _,_=>false
def jX:Bi->Str
 | .len => "len" | .list => "list" | .tuple => "tuple" | .min => "min" | .max => "max" | .abs => "abs" | .int => "int" | .str => "str" | .sum => "sum" | .all => "all" | .any => "any" | .sorted => "sorted" | .bool => "bool" | .repr => "repr"
def aCR:Bi->Bool
 | .len=>true|.list=>true|.tuple=>true|.int=>true|.repr=>true
 | _=>false
def aMM:Cl->Bool
 | .own _=>false
 | .tValueError=>false
 | _=>true
def aCS:Mt->Str
 | .join => "join" | .upper => "upper" | .lower => "lower" | .get => "get" | .startswith => "startswith" | .endswith => "endswith" | .index => "index" | .count => "count" | .copy => "copy"
 | .isdigit => "isdigit" | .find => "find" | .replace => "replace" | .split => "split" | .strip => "strip"
def yG(Γ:Ct):Cl->Option Str
 | .tInt=>some "int" | .tBool=>some "bool" | .tStr=>some "str" | .tList=>some "list" | .tTuple=>some "tuple" | .tDict=>some "dict" | .tValueError=>some "ValueError"
 | .own c=>Γ.cls[c]?
def aGz(Γ:Ct)(c:Cl):Expr->Bool
 | .Name x _=>(yG Γ c==some x)&&eI Γ x&&cT x
 | _=>false
def qK(Γ:Ct):T->Expr->Bool
 | .n i,.Name x _=>bP Γ i x
 | .t is,.Tuple es _ _=>is.length==es.length&&(is.zip es).all λp=>match p.2 with
  | .Name x _=>bP Γ p.1 x
  | _=>false
 | _,_=>false
def fT:Expr->List Str
 | .Name x _=>[x]
 | .Tuple es _ _=>es.filterMap fun|.Name x _=>some x|_=>none
 | _=>[]
def aMN:Mt->Bool
 | .join=>true
 | _=>false
def aJR:Expr->Bool
 | .Name _ _=>true
 | .Constant _ _ _=>true
 | _=>false
def yH:E->Bool
 | .c (.int i)=>i==0
 | _=>false
def asC(e:Expr):Option { c:Const // ∃k p,e=.Constant c k p }:=match e with
 | .Constant c k p=>some ⟨c,k,p,rfl⟩
 | _=>none
def asN(e:Expr):Option { x:Str // ∃p,e=.Name x p }:=match e with
 | .Name x p=>some ⟨x,p,rfl⟩
 | _=>none
def aJS(e:Expr):Option { r:Expr×Operator×Expr // ∃p,e=.BinOp r.1 r.2.1 r.2.2 p }:=match e with
 | .BinOp l o r p=>some ⟨(l,o,r),p,rfl⟩
 | _=>none
def aMO(e:Expr):Option { r:UnaryOp×Expr // ∃p,e=.UnaryOp r.1 r.2 p }:=match e with
 | .UnaryOp o x p=>some ⟨(o,x),p,rfl⟩
 | _=>none
def aJT(e:Expr):Option { r:BoolOp×List Expr×Pos // e=.BoolOp r.1 r.2.1 r.2.2 }:=match e with
 | .BoolOp o xs p=>some ⟨(o,xs,p),rfl⟩
 | _=>none
def aMP(e:Expr):Option { r:Expr×Expr×Expr // ∃p,e=.IfExp r.1 r.2.1 r.2.2 p }:=match e with
 | .IfExp t a b p=>some ⟨(t,a,b),p,rfl⟩
 | _=>none
def aAi(e:Expr):Option { r:Expr×List CmpOp×List Expr // ∃p,e=.Compare r.1 r.2.1 r.2.2 p }:=match e with
 | .Compare l os rs p=>some ⟨(l,os,rs),p,rfl⟩
 | _=>none
def rB(e:Expr):Option { r:Expr×Expr // ∃p,e=.Subscript r.1 r.2 p }:=match e with
 | .Subscript x i p=>some ⟨(x,i),p,rfl⟩
 | _=>none
def aMQ(e:Expr):Option { r:Option Expr×Option Expr // ∃p,e=.Slice r.1 r.2 none p }:=match e with
 | .Slice l h none p=>some ⟨(l,h),p,rfl⟩
 | _=>none
def aMR(e:Expr):Option { r:Unit // ∃k p p2 p3,e=.Slice none none (some (.UnaryOp .USub (.Constant (.int 1) k p) p3)) p2 }:=match e with
 | .Slice none none (some (.UnaryOp .USub (.Constant (.int 1) k p) p3)) p2=>some ⟨(),k,p,p2,p3,rfl⟩
 | _=>none
def aJU(e:Expr):Option { r:List Expr // ∃k p,e=.Tuple r k p }:=match e with
 | .Tuple xs k p=>some ⟨xs,k,p,rfl⟩
 | _=>none
def aJV(e:Expr):Option { r:List Expr // ∃p,e=.List r p }:=match e with
 | .List xs p=>some ⟨xs,p,rfl⟩
 | _=>none
def qL(e:Expr):Option { r:Str×List Expr // ∃p1 p2,e=.Call (.Name r.1 p1) r.2 [] p2 }:=match e with
 | .Call (.Name x p1) xs [] p2=>some ⟨(x,xs),p1,p2,rfl⟩
 | _=>none
def aJW(e:Expr):Option { r:Expr×Str×List Expr×Bool // ∃ap cp,e=.Call (.Attribute r.1 r.2.1 ap) r.2.2.1 [] cp/\(ap.endLine==cp.line)=r.2.2.2 }:=match e with
 | .Call (.Attribute x a ap) xs [] cp=>some ⟨(x,a,xs,ap.endLine==cp.line),ap,cp,rfl,rfl⟩
 | _=>none
def aMS(e:Expr):Option { r:Expr×List Comprehension×Scope // ∃p,e=.ListComp r.1 r.2.1 r.2.2 p }:=match e with
 | .ListComp e gs s p=>some ⟨(e,gs,s),p,rfl⟩
 | _=>none
def oB{α:Type}(o:Option α)(f:α->Bool):Bool:=match o with
 | some a=>f a
 | none=>false
def oS{α:Type}{q:α->Prop}(o:Option { a:α // q a })(f:α->Bool):Bool:=match o with
 | some a=>f a.1
 | none=>false
mutual
def aX(Γ:Ct):E->Expr->Bool
 | .c d,e=>oS (asC e) (eqC d)||oS (asN e) λx=>eI Γ x&&cT x&&oB (Γ.cns.lookup x) (eqK d)
 | .v i,e=>oS (asN e) (bO Γ i)
 | .op o a b,e=>oS (aJS e) λp=>o==p.2.1&&aX Γ a p.1&&aX Γ b p.2.2
 | .neg _,_=>false
 | .nt a,e=>oS (aMO e) λp=>p.1==.Not&&aX Γ a p.2
 | .an a b,e=>oS (aJT e) λp=>p.1==.And&&(match p.2.1 with
  | [x,y]=>aX Γ a x&&aX Γ b y
  | x::y::z::r=>aX Γ a x&&aX Γ b (.BoolOp .And (y::z::r) p.2.2)
  | _=>false)
 | .orr a b,e=>oS (aJT e) λp=>p.1==.Or&&(match p.2.1 with
  | [x,y]=>aX Γ a x&&aX Γ b y
  | x::y::z::r=>aX Γ a x&&aX Γ b (.BoolOp .Or (y::z::r) p.2.2)
  | _=>false)
 | .ife t a b,e=>oS (aMP e) λp=>aX Γ t p.1&&aX Γ a p.2.1&&aX Γ b p.2.2
 | .cmp o a b,e=>oS (aAi e) λp=>(match p.2.1,p.2.2 with
  | [o'],[r]=>o==o'&&aX Γ a p.1&&aX Γ b r
  | _,_=>false)
 | .cmp2 o1 o2 a b c,e=>oS (aAi e) λp=>(match p.2.1,p.2.2 with
  | [o1',o2'],[m,r]=>o1==o1'&&o2==o2'&&aX Γ a p.1&&aX Γ b m&&aX Γ c r
  | _,_=>false)
 | .dnin a j,e=>oS (aAi e) λp=>(match p.2.1,p.2.2 with
  | [o'],[r]=>CmpOp.NotIn==o'&&aX Γ a p.1&&oS (asN r) λx=>bO Γ j x
  | _,_=>false)
 | .dget _ _,_=>false
 | .rvs a,e=>oS (rB e) λp=>oS (aMR p.2) λ_=>aX Γ a p.1
 | .dlen _,_=>false
 | .idx a b,e=>oS (rB e) λp=>aX Γ a p.1&&aX Γ b p.2
 | .sli a lo hi,e=>oS (rB e) λp=>oS (aMQ p.2) λq=>aX Γ a p.1&&chkO Γ lo q.1&&chkO Γ hi q.2
 | .tup es,e=>oS (aJU e) λxs=>decide (xs.length<=1000)&&chkEs Γ es xs
 | .lst es,e=>oS (aJV e) λxs=>decide (xs.length<=1000)&&chkEs Γ es xs
 | .call f es,e=>oS (qL e) λp=>(Γ.fns[f]?==some p.1)&&eI Γ p.1&&cT p.1&&chkEs Γ es p.2
 | .callP f i es,e=>oS (qL e) λp=>(Γ.fns[f]?==some p.1)&&eI Γ p.1&&cT p.1&&(match p.2 with
  | y::ys=>oS (asN y) (λx=>bO Γ i x)&&chkEs Γ es ys
  | []=>false)
 | .pnn i,e=>oS (aAi e) λp=>(match p.2.1,p.2.2 with
  | [o'],[r]=>CmpOp.IsNot==o'&&oS (asN p.1) (λx=>bO Γ i x)&&oS (asC r) (eqC .non)
  | _,_=>false)
 | .bi b es,e=>oS (qL e) λp=>aCR b&&(jX b==p.1)&&eI Γ p.1&&cT p.1&&!p.2.isEmpty&&chkEs Γ es p.2
 | .mth m o es,e=>oS (aJW e) λp=>aMN m&&(aCS m==p.2.1)&&aJR p.1&&p.2.2.2&&decide (p.2.2.1.length=1)&&aX Γ o p.1&&chkEs Γ es p.2.2.1
 | .numset _,_=>false
 | .tget _ _,_=>false
 | .lzip _ _,_=>false
 | .isi a cs,e=>oS (qL e) λp=>(match cs,p.2 with
  | [c],[x,y]=>(p.1==("isinstance" : Str))&&eI Γ p.1&&aMM c&&aX Γ a x&&aGz Γ c y
  | _,_=>false)
 | .comp k caps t it cond elt,e=>oS (aMS e) λp=>(match p.2.1 with
  | [⟨tg,iter,ifs,as⟩]=>
   as==0&&(fT tg).length==k&&(caps.all λi=>decide (i<Γ.N.length))&&decide caps.Nodup&&p.2.2.kind==.function&&decide (fT tg++caps.filterMap λi=>Γ.N[i]?).Nodup &&
   ((caps.filterMap λi=>Γ.N[i]?).all λx=>p.2.2.names.lookup x==some .free&&Γ.sc.lookup x==some .cell) &&
   (p.2.2.names.all λq=>q.2 != .cell&&(q.2 != .local||p.2.2.names.lookup q.1==some .local)&&(q.2 != .free||Γ.sc.lookup q.1==some .cell)) &&
   ((tIx t).all λi=>decide (i<k))&&decide (ifs.length<=1) &&
   qK { Γ with N:=fT tg++caps.filterMap λi=>Γ.N[i]?,sc:=oA Γ.sc p.2.2.names,fn:=false } t tg&&chkI Γ (rA tg) it iter &&
   chkEs { Γ with N:=fT tg++caps.filterMap λi=>Γ.N[i]?,sc:=oA Γ.sc p.2.2.names,fn:=false } cond ifs &&
   aX { Γ with N:=fT tg++caps.filterMap λi=>Γ.N[i]?,sc:=oA Γ.sc p.2.2.names,fn:=false } elt p.1
  | _=>false)
 | .dic _ _,_=>false
 | .attr _ _,_=>false
def chkEs(Γ:Ct):Es->List Expr->Bool
 | .nil,[]=>true
 | .cons e es,x::xs=>aX Γ e x&&chkEs Γ es xs
 | _,_=>false
def chkO(Γ:Ct):Es->Option Expr->Bool
 | .nil,none=>true
 | .cons e .nil,some x=>aX Γ e x
 | _,_=>false
def chkI(Γ:Ct)(tt:Bool):It->Expr->Bool
 | .rng a b,e=>oS (qL e) λp=>(p.1==("range" : Str))&&eI Γ p.1&&(match p.2 with
  | [x]=>yH a&&aX Γ b x
  | [x,y]=>aX Γ a x&&aX Γ b y
  | _=>false)
 | .zip _ _,_=>false
 | .seq c,x=>aX Γ c x
 | .enum a,e=>oS (qL e) λp=>(match p.2 with
  | [x]=>tt&&(p.1==("enumerate" : Str))&&eI Γ p.1&&aX Γ a x
  | _=>false)
 | .rev _,_=>false
end
def oC:Expr->Bool
 | .ListComp _ _ _ _=>true
 | .SetComp _ _ _ _=>true
 | .DictComp _ _ _ _ _=>true
 | _=>false
def yI:Expr->Bool
 | .Tuple _ _ _=>true
 | .List _ _=>true
 | _=>false
def aHE:Expr->Bool
 | .Name _ _=>true
 | _=>false
def nC(Γ:Ct)(i:Nat)(m:Str):Expr->Option (List Expr)
 | .Call (.Attribute (.Name x _) a ap) xs [] cp=>if (a==m)&&bO Γ i x&&(ap.endLine==cp.line) then some xs else none
 | _=>none
def aMT(e:Expr):Option { r:Unit // ∃p,e=.Dict [] [] p }:=match e with
 | .Dict [] [] p=>some ⟨(),p,rfl⟩
 | _=>none
def yJ(s:Stmt):Option { r:Expr×Expr // ∃p,s=.Assign [r.1] r.2 p }:=match s with
 | .Assign [t] v p=>some ⟨(t,v),p,rfl⟩
 | _=>none
def sEx(s:Stmt):Option { r:Expr // ∃p,s=.Expr r p }:=match s with
 | .Expr v p=>some ⟨v,p,rfl⟩
 | _=>none
def aHF(s:Stmt):Option { r:Option Expr // ∃p,s=.Return r p }:=match s with
 | .Return v p=>some ⟨v,p,rfl⟩
 | _=>none
def sIf(s:Stmt):Option { r:Expr×List Stmt×List Stmt // ∃p,s=.If r.1 r.2.1 r.2.2 p }:=match s with
 | .If t x y p=>some ⟨(t,x,y),p,rfl⟩
 | _=>none
def aMU(s:Stmt):Option { r:Expr×Expr×List Stmt // ∃p,s=.For r.1 r.2.1 r.2.2 [] p }:=match s with
 | .For t i b [] p=>some ⟨(t,i,b),p,rfl⟩
 | _=>none
def aMV(s:Stmt):Option { r:Expr×List Stmt // ∃p,s=.While r.1 r.2 [] p }:=match s with
 | .While t b [] p=>some ⟨(t,b),p,rfl⟩
 | _=>none
def aMW(s:Stmt):Option { r:Unit // ∃p,s=.Break p }:=match s with
 | .Break p=>some ⟨(),p,rfl⟩
 | _=>none
def aMX(s:Stmt):Option { r:Unit // ∃p,s=.Continue p }:=match s with
 | .Continue p=>some ⟨(),p,rfl⟩
 | _=>none
def aJX(s:Stmt):Option { r:Unit // ∃p,s=.Pass p }:=match s with
 | .Pass p=>some ⟨(),p,rfl⟩
 | _=>none
mutual
def fB(Γ:Ct):S->Stmt->Bool
 | .set t e,s=>oS (yJ s) λr=>qK Γ t r.1&&aX Γ e r.2&&(aHE r.1||!yI r.2)
 | .mov i j,s=>oS (yJ s) λr=>oS (asN r.1) λx=>oS (asN r.2) λy=>bP Γ i x&&bO Γ j y
 | .dnew i,s=>oS (yJ s) λr=>oS (asN r.1) λx=>bP Γ i x&&oS (aMT r.2) λ_=>true
 | .dput i e,s=>oS (yJ s) λr=>oS (rB r.1) λu=>oS (asN u.1) λx=>bO Γ i x&&aX Γ e u.2&&aX Γ (.c (.bl true)) r.2
 | .dfrom i e,s=>oS (yJ s) λr=>oS (asN r.1) λx=>oS (qL r.2) λp=>bP Γ i x&&(p.1==("dict" : Str))&&eI Γ p.1&&(match p.2 with|[y]=>aX Γ e y|_=>false)
 | .setIx i k e,s=>oS (yJ s) λr=>oS (rB r.1) λu=>oS (asN u.1) λx=>bO Γ i x&&aX Γ k u.2&&aX Γ e r.2
 | .tld i f es,s=>oS (yJ s) λr=>oS (asN r.1) λx=>oS (qL r.2) λp=>bP Γ i x&&(Γ.fns[f]?==some p.1)&&eI Γ p.1&&cT p.1&&!p.2.isEmpty&&chkEs Γ es p.2
 | .appP i e,s=>oS (sEx s) λc=>oS (aJW c) λr=>oS (rB r.1) λu=>oS (asN u.1) λx=>bO Γ i x&&aX Γ (.c (.int 1)) u.2&&(r.2.1==("append" : Str))&&r.2.2.2&&(match r.2.2.1 with|[a]=>aX Γ e a|_=>false)
 | .app i e,s=>oS (sEx s) λc=>(match nC Γ i "append" c with|some [a]=>aX Γ e a|_=>false)
 | .appCall _ _ _,_=>false
 | .ext i e,s=>oS (sEx s) λc=>(match nC Γ i "extend" c with|some [a]=>aX Γ e a|_=>false)
 | .pop _ _ _,_=>false
 | .clr _,_=>false
 | .rev i,s=>oS (sEx s) λc=>(match nC Γ i "reverse" c with|some []=>true|_=>false)
 | .ret e,s=>oS (aHF s) λr=>oB r (aX Γ e)
 | .retv i,s=>oS (aHF s) λr=>oB r λv=>oS (asN v) (bO Γ i)
 | .retN,s=>oS (aHF s) λr=>r.isNone
 | .iff c a b,s=>oS (sIf s) λr=>aX Γ c r.1&&chkSs Γ a r.2.1&&chkSs Γ b r.2.2
 | .for t it b,s=>oS (aMU s) λr=>qK Γ t r.1&&chkI Γ (rA r.1) it r.2.1&&chkSs Γ b r.2.2
 | .whl c b,s=>oS (aMV s) λr=>aX Γ c r.1&&chkSs Γ b r.2
 | .brk,s=>oS (aMW s) λ_=>true
 | .cnt,s=>oS (aMX s) λ_=>true
 | .pass,s=>oS (aJX s) λ_=>true
 | .ex e,s=>oS (sEx s) λv=>aX Γ e v&&!oC v
 | .rse _ _ _,_=>true
 | .ins _ _ _,_=>false
 | .try _ _,_=>false
def chkSs(Γ:Ct):Ss->List Stmt->Bool
 | .nil,[]=>true
 | .cons s ss,x::xs=>fB Γ s x&&chkSs Γ ss xs
 | _,_=>false
end
end Hp
end
noncomputable section
namespace Hp
open PySem PySem.Spec PyProof.Rows L2
theorem kM(n:Nat){d:Nat}(hd:d<=n):∀lo,sIx n d lo<=n
 | none=>hd
 | some v=>by
  unfold sIx
  dsimp only
  split <;> omega
theorem vI(lo hi:Option Int)(n:Nat):Builtin.Str.strSliceIndices lo hi 1 n=Builtin.Str.strSliceIndices (some ((sIx n 0 lo:Nat):Int)) (some ((sIx n n hi:Nat):Int)) 1 n:=by
 have h1:(1:Int)>0:=by decide
 have key:∀(d:Nat) (hd:d<=n) (o:Option Int),(match o with|none=>(d:Int)|some i=>max 0 (min (if i<0 then i+(n:Int) else i) (n:Int)))=((sIx n d o:Nat):Int):=by
  intro d hd o
  cases o with
  | none=>rfl
  | some i=>
   unfold sIx
   dsimp only
   split <;> omega
 have k2:∀(m:Nat),m<=n->max (0:Int) (min (if (m:Int)<0 then (m:Int)+(n:Int) else (m:Int)) (n:Int))=(m:Int):=by
  intro m hm
  split <;> omega
 unfold Builtin.Str.strSliceIndices
 simp only[h1,if_true]
 have e1:=key 0 (Nat.zero_le _) lo
 have e2:=key n (Nat.le_refl _) hi
 have f1:=k2 _ (kM n (Nat.zero_le _) lo)
 have f2:=k2 _ (kM n (Nat.le_refl _) hi)
 rw[f1,f2]
 cases lo <;> cases hi <;> simp_all
theorem qM(x:Str)(lo hi:Option Int):StrLaws.sliceText x lo hi=yD x lo hi:=by
 have hl:x.cps.toList.length=x.length:=by show _=x.cps.size;simp
 have e:StrLaws.sliceText x lo hi=StrLaws.sliceText x (some ((sIx x.length 0 lo:Nat):Int)) (some ((sIx x.length x.length hi:Nat):Int)):=by
  unfold StrLaws.sliceText
  rw[vI]
 rw[e]
 unfold yD cut
 rw[hl]
 by_cases h:sIx x.length 0 lo<=sIx x.length x.length hi
 . exact StrLaws.sliceText_nat x h (kM _ (Nat.le_refl _) hi)
 . have h0:sIx x.length x.length hi-sIx x.length 0 lo=0:=by omega
   have hlo:=kM x.length (Nat.zero_le _) lo
   have hhi:=kM x.length (Nat.le_refl _) hi
   rw[h0,List.take_zero]
   generalize sIx x.length 0 lo=i at *
   generalize sIx x.length x.length hi=j at *
   have he:Builtin.Str.strSliceIndices (some (i:Int)) (some (j:Int)) 1 x.length=[]:=by
    unfold Builtin.Str.strSliceIndices
    have h1:(1:Int)>0:=by decide
    simp only[h1,if_true]
    rw[if_neg (by omega),if_neg (by omega)]
    have a1:max (0:Int) (min (i:Int) (x.length:Int))=i:=by omega
    have a2:max (0:Int) (min (j:Int) (x.length:Int))=j:=by omega
    rw[a1,a2]
    unfold sliceRange
    simp
    omega
   unfold StrLaws.sliceText
   rw[he]
   simp
   intro hz
   omega
def aCT:V->Option Int->Option Int->L2.Hp->VK->Prop:=λx lo hi H Q=>∃a,x=.str a/\a.length<=sizeLine/\Q (.str (yD a lo hi)) H
section
variable {X:Cx}
theorem aHG:SlR X aCT:=by
 intro pins s σ H x v vl vu lo hi sl Q I rx hs pl pu h
 obtain⟨a,rfl,hz,q⟩:=h
 obtain⟨t,rfl⟩:=rx
 have fin:∀(l u:Option (Int×Tok)),l.map (·.1)=lo->u.map (·.1)=hi->s.heap.IsSlice sl l u none->wpAny (model X.prog X.w) X.A (getItem (.str a t) (.ref sl)) (EP X pins σ Q) X.xe s:=by
  intro l u e1 e2 h
  refine wpAny_getItem_str_slice h rfl ?_
  have e:StrLaws.sliceText a lo hi=yD a lo hi:=qM a lo hi
  unfold StrLaws.sliceText at e
  subst e1 e2
  show Made.post (if ((1:Int)==1&&(Builtin.Str.strSliceIndices (l.map (·.1)) (u.map (·.1)) 1 a.length).length==a.length)=true then _ else _) _ s
  split
  . rename_i hc
    rw[if_pos hc] at e
    exact⟨.str a,H,I,⟨t,rfl⟩,by rw[e];exact q⟩
  . rename_i hc
    rw[if_neg hc] at e
    have hle:(yD a (l.map (·.1)) (u.map (·.1))).length<=sizeLine:=by
     refine Nat.le_trans ?_ hz
     show(cut a.cps.toList _ _).toArray.size<=a.cps.size
     unfold cut
     rw[List.size_toArray,List.length_take,List.length_drop,Array.length_toList]
     omega
    refine⟨by rw[<-e] at hle;exact hle,.str (yD a (l.map (·.1)) (u.map (·.1))),H,I.tok _,?_,q⟩
    rw[<-e]
    exact⟨_,rfl⟩
 refine⟨"str",_,slot_str_getitem.lookup,rfl,?_⟩
 cases pl with
 | none=>
  cases pu with
  | none=>exact fin none none rfl rfl hs
  | int j tj=>exact fin none (some (j,tj)) rfl rfl hs
 | int i ti=>
  cases pu with
  | none=>exact fin (some (i,ti)) none rfl rfl hs
  | int j tj=>exact fin (some (i,ti)) (some (j,tj)) rfl rfl hs
end
end Hp
end
noncomputable section
namespace Hp
open PySem L2
abbrev Fg:=PySem.W.Frag
def kD:Key->D
 | .inl i=>.int i
 | .inr x=>.str x
def Hd(K:Fg)(ex:Addr->Prop):Prop:=∃c,K.lookup c≠none/\ex c
mutual
def Rep(K:Fg)(H:Hp)(ex:Addr->Prop):D->V->Prop
 | .non,v=>v=.non
 | .bl b,v=>v=.bl b
 | .int i,v=>v=.int i
 | .str x,v=>v=.str x
 | .tup ds,v=>∃a xs,v=.ref a/\SqT K H a xs/\Reps K H ex ds xs
 | .lst ds,v=>∃a xs,v=.ref a/\SqL K H a xs/\(¬ ex a/\(Hd K ex->H a=some (.lst xs)))/\Reps K H ex ds xs
 | .dic kvs,v=>∃a ks,v=.ref a/\H a=some (.dK ks)/\RepKV K H ex kvs ks
 | .err _ _,_=>False
def Reps(K:Fg)(H:Hp)(ex:Addr->Prop):List D->List V->Prop
 | [],xs=>xs=[]
 | d::ds,xs=>∃x r,xs=x::r/\Rep K H ex d x/\Reps K H ex ds r
def RepKV(K:Fg)(H:Hp)(ex:Addr->Prop):List (D×D)->List (Key×V)->Prop
 | [],ks=>ks=[]
 | (k,d)::r,ks=>∃k' x r',ks=(k',x)::r'/\kD k'=k/\Rep K H ex d x/\RepKV K H ex r r'
end
section
variable {K:Fg} {H H':Hp} {ex ex':Addr->Prop}
theorem aR.seqT{a:Addr}{xs:List V}(e:aR H H')(h:SqT K H a xs):SqT K H' a xs:=by
 rcases h with(h|⟨o,h⟩)|h
 . exact .inl (.inl (e _ _ h))
 . exact .inl (.inr ⟨o,e _ _ h⟩)
 . exact .inr h
mutual
theorem Rep.imp(hT:∀a xs,SqT K H a xs->SqT K H' a xs)(hL:∀a xs,¬ ex a->SqL K H a xs->¬ ex' a/\SqL K H' a xs)(hX:Hd K ex'->Hd K ex)(hY:∀a xs,¬ ex a->H a=some (.lst xs)->H' a=some (.lst xs))(hD:∀a ks,H a=some (.dK ks)->H' a=some (.dK ks)) :
 ∀(d:D) (v:V),Rep K H ex d v->Rep K H' ex' d v
 | .non,_,h=>h
 | .bl _,_,h=>h
 | .int _,_,h=>h
 | .str _,_,h=>h
 | .tup ds,_,h=>by
  obtain⟨a,xs,e,q,r⟩:=h
  exact⟨a,xs,e,hT a xs q,Reps.imp hT hL hX hY hD ds xs r⟩
 | .lst ds,_,h=>by
  obtain⟨a,xs,e,q,n,r⟩:=h
  obtain⟨n',q'⟩:=hL a xs n.1 q
  exact⟨a,xs,e,q',⟨n',λz=>hY a xs n.1 (n.2 (hX z))⟩,Reps.imp hT hL hX hY hD ds xs r⟩
 | .dic kvs,_,h=>by
  obtain⟨a,ks,e,q,r⟩:=h
  exact⟨a,ks,e,hD a ks q,RepKV.imp hT hL hX hY hD kvs ks r⟩
 | .err _ _,_,h=>h.elim
theorem Reps.imp(hT:∀a xs,SqT K H a xs->SqT K H' a xs)(hL:∀a xs,¬ ex a->SqL K H a xs->¬ ex' a/\SqL K H' a xs)(hX:Hd K ex'->Hd K ex)(hY:∀a xs,¬ ex a->H a=some (.lst xs)->H' a=some (.lst xs))(hD:∀a ks,H a=some (.dK ks)->H' a=some (.dK ks)) :
 ∀(ds:List D) (xs:List V),Reps K H ex ds xs->Reps K H' ex' ds xs
 | [],_,h=>h
 | d::ds,_,h=>by
  obtain⟨x,r,e,h1,h2⟩:=h
  exact⟨x,r,e,Rep.imp hT hL hX hY hD d x h1,Reps.imp hT hL hX hY hD ds r h2⟩
theorem RepKV.imp(hT:∀a xs,SqT K H a xs->SqT K H' a xs)(hL:∀a xs,¬ ex a->SqL K H a xs->¬ ex' a/\SqL K H' a xs)(hX:Hd K ex'->Hd K ex)(hY:∀a xs,¬ ex a->H a=some (.lst xs)->H' a=some (.lst xs))(hD:∀a ks,H a=some (.dK ks)->H' a=some (.dK ks)) :
 ∀(ds:List (D×D)) (xs:List (Key×V)),RepKV K H ex ds xs->RepKV K H' ex' ds xs
 | [],_,h=>h
 | (k,d)::ds,_,h=>by
  obtain⟨k',x,r,e,ek,h1,h2⟩:=h
  exact⟨k',x,r,e,ek,Rep.imp hT hL hX hY hD d x h1,RepKV.imp hT hL hX hY hD ds r h2⟩
end
theorem Rep.weak{d:D}{v:V}(h:Rep K H ex d v)(e:∀a,ex' a->ex a):Rep K H ex' d v:=Rep.imp (λ_ _ q=>q) (λa _ n q=>⟨λz=>n (e a z),q⟩) (λ⟨c,h1,h2⟩=>⟨c,h1,e c h2⟩) (λ_ _ _ q=>q) (λ_ _ q=>q) d v h
theorem Reps.weak{d:List D}{v:List V}(h:Reps K H ex d v)(e:∀a,ex' a->ex a):Reps K H ex' d v:=Reps.imp (λ_ _ q=>q) (λa _ n q=>⟨λz=>n (e a z),q⟩) (λ⟨c,h1,h2⟩=>⟨c,h1,e c h2⟩) (λ_ _ _ q=>q) (λ_ _ q=>q) d v h
theorem Rep.grow{d:D}{v:V}(h:Rep K H ex d v)(s:aR H H'):Rep K H' ex d v:=Rep.imp (λ_ _ q=>aR.seqT s q) (λ_ _ n q=>⟨n,s.seq q⟩) id (λ_ _ _ q=>s _ _ q) (λ_ _ q=>s _ _ q) d v h
theorem Reps.grow{d:List D}{v:List V}(h:Reps K H ex d v)(s:aR H H'):Reps K H' ex d v:=Reps.imp (λ_ _ q=>aR.seqT s q) (λ_ _ n q=>⟨n,s.seq q⟩) id (λ_ _ _ q=>s _ _ q) (λ_ _ q=>s _ _ q) d v h
theorem Rep.keep{d:D}{v:V}(h:Rep K H ex d v)(s:∀a o,H a=some o->(∀xs,o=.lst xs->¬ ex a)->(∀φ,o≠.ext φ)->H' a=some o):Rep K H' ex d v:=by
 refine Rep.imp (λa xs q=>?_) (λa xs n q=>⟨n,?_⟩) id (λa xs n q=>s _ _ q (λ_ _=>n) (λ_ z=>by cases z)) (λa ks q=>s a _ q (λxs e=>by cases e) (λ_ z=>by cases z)) d v h
 . rcases q with(q|⟨o,q⟩)|q
   . exact .inl (.inl (s _ _ q (λxs e=>by cases e) (λ_ z=>by cases z)))
   . exact .inl (.inr ⟨o,s _ _ q (λxs e=>by cases e) (λ_ z=>by cases z)⟩)
   . exact .inr q
 . rcases q with(q|⟨o,q⟩)|q
   . exact .inl (.inl (s _ _ q (λ_ _=>n) (λ_ z=>by cases z)))
   . exact .inl (.inr ⟨o,s _ _ q (λxs e=>by cases e) (λ_ z=>by cases z)⟩)
   . exact .inr q
theorem Reps.keep{d:List D}{v:List V}(h:Reps K H ex d v)(s:∀a o,H a=some o->(∀xs,o=.lst xs->¬ ex a)->(∀φ,o≠.ext φ)->H' a=some o):Reps K H' ex d v:=by
 refine Reps.imp (λa xs q=>?_) (λa xs n q=>⟨n,?_⟩) id (λa xs n q=>s _ _ q (λ_ _=>n) (λ_ z=>by cases z)) (λa ks q=>s a _ q (λxs e=>by cases e) (λ_ z=>by cases z)) d v h
 . rcases q with(q|⟨o,q⟩)|q
   . exact .inl (.inl (s _ _ q (λxs e=>by cases e) (λ_ z=>by cases z)))
   . exact .inl (.inr ⟨o,s _ _ q (λxs e=>by cases e) (λ_ z=>by cases z)⟩)
   . exact .inr q
 . rcases q with(q|⟨o,q⟩)|q
   . exact .inl (.inl (s _ _ q (λ_ _=>n) (λ_ z=>by cases z)))
   . exact .inl (.inr ⟨o,s _ _ q (λxs e=>by cases e) (λ_ z=>by cases z)⟩)
   . exact .inr q
mutual
theorem Rep.free:∀(d:D) (v:V),noL d=true->Rep K H ex d v->Rep K H ex' d v
 | .non,_,_,h=>h
 | .bl _,_,_,h=>h
 | .int _,_,_,h=>h
 | .str _,_,_,h=>h
 | .tup ds,_,n,h=>by
  obtain⟨a,xs,e,q,r⟩:=h
  exact⟨a,xs,e,q,Reps.free ds xs (by simpa[noL] using n) r⟩
 | .lst ds,_,n,_=>by simp[noL] at n
 | .dic kvs,_,n,_=>by simp[noL] at n
 | .err _ _,_,n,_=>by simp[noL] at n
theorem Reps.free:∀(ds:List D) (xs:List V),noLs ds=true->Reps K H ex ds xs->Reps K H ex' ds xs
 | [],_,_,h=>h
 | d::ds,_,n,h=>by
  obtain⟨x,r,e,h1,h2⟩:=h
  simp only[noLs,bA] at n
  exact⟨x,r,e,Rep.free d x n.1 h1,Reps.free ds r n.2 h2⟩
end
theorem Reps.length:∀{ds:List D} {xs:List V},Reps K H ex ds xs->ds.length=xs.length
 | [],_,h=>by rw[show _=[] from h];rfl
 | d::ds,_,h=>by
  obtain⟨x,r,e,_,h2⟩:=h
  subst e
  rw[lC,lC,Reps.length h2]
theorem Reps.get:∀{ds:List D} {xs:List V} {j:Nat} {d:D},Reps K H ex ds xs->ds[j]? = some d->∃x,xs[j]? = some x/\Rep K H ex d x
 | [],_,_,_,_,e=>by simp at e
 | d::ds,_,0,_,h,e=>by
  obtain⟨x,r,e',h1,_⟩:=h
  subst e'
  simp at e
  subst e
  exact⟨x,rfl,h1⟩
 | d::ds,_,j+1,d',h,e=>by
  obtain⟨x,r,e',_,h2⟩:=h
  subst e'
  obtain⟨y,hy,q⟩:=Reps.get (j:=j) (d:=d') h2 (by simpa using e)
  exact⟨y,by simpa using hy,q⟩
theorem Reps.get'{ds:List D}{xs:List V}{j:Nat}{x:V}(h:Reps K H ex ds xs)(e:xs[j]? = some x):∃d,ds[j]? = some d/\Rep K H ex d x:=by
 have hl:=h.length
 have hj:j<xs.length:=(List.getElem?_eq_some_iff.mp e).1
 obtain⟨d,hd⟩:∃d,ds[j]? = some d:=⟨ds[j],List.getElem?_eq_getElem (by omega)⟩
 obtain⟨y,hy,q⟩:=h.get hd
 rw[e] at hy
 cases hy
 exact⟨d,hd,q⟩
theorem Reps.nil:Reps K H ex [] []:=rfl
theorem Reps.cons{d:D}{ds:List D}{x:V}{xs:List V}(h:Rep K H ex d x)(t:Reps K H ex ds xs):Reps K H ex (d::ds) (x::xs):=⟨x,xs,rfl,h,t⟩
theorem Reps.append:∀{ds es:List D} {xs ys:List V},Reps K H ex ds xs->Reps K H ex es ys->Reps K H ex (ds++es) (xs++ys)
 | [],_,_,_,h,t=>by rw[show _=[] from h];exact t
 | d::ds,_,_,_,h,t=>by
  obtain⟨x,r,e,h1,h2⟩:=h
  subst e
  exact⟨x,_,rfl,h1,Reps.append h2 t⟩
theorem Reps.take:∀{ds:List D} {xs:List V} (n:Nat),Reps K H ex ds xs->Reps K H ex (ds.take n) (xs.take n)
 | _,_,0,_=>by simp[Reps]
 | [],_,n+1,h=>by rw[show _=[] from h];simp[Reps]
 | d::ds,_,n+1,h=>by
  obtain⟨x,r,e,h1,h2⟩:=h
  subst e
  exact⟨x,_,rfl,h1,Reps.take n h2⟩
theorem Reps.drop:∀{ds:List D} {xs:List V} (n:Nat),Reps K H ex ds xs->Reps K H ex (ds.drop n) (xs.drop n)
 | _,_,0,h=>h
 | [],_,n+1,h=>by rw[show _=[] from h];simp[Reps]
 | d::ds,_,n+1,h=>by
  obtain⟨x,r,e,h1,h2⟩:=h
  subst e
  exact Reps.drop n h2
theorem Reps.set:∀{ds:List D} {xs:List V} {d:D} {x:V} (j:Nat),Reps K H ex ds xs->Rep K H ex d x->Reps K H ex (ds.set j d) (xs.set j x)
 | [],_,_,_,_,h,_=>by rw[show _=[] from h];simp[Reps]
 | d::ds,_,_,_,0,h,q=>by
  obtain⟨x,r,e,h1,h2⟩:=h
  subst e
  exact⟨_,_,rfl,q,h2⟩
 | d::ds,_,_,_,j+1,h,q=>by
  obtain⟨x,r,e,h1,h2⟩:=h
  subst e
  exact⟨x,_,rfl,h1,Reps.set j h2 q⟩
theorem Reps.eraseIdx:∀{ds:List D} {xs:List V} (j:Nat),Reps K H ex ds xs->Reps K H ex (ds.eraseIdx j) (xs.eraseIdx j)
 | [],_,_,h=>by rw[show _=[] from h];simp[Reps]
 | d::ds,_,0,h=>by
  obtain⟨x,r,e,h1,h2⟩:=h
  subst e
  exact h2
 | d::ds,_,j+1,h=>by
  obtain⟨x,r,e,h1,h2⟩:=h
  subst e
  exact⟨x,_,rfl,h1,Reps.eraseIdx j h2⟩
theorem Reps.reverse:∀{ds:List D} {xs:List V},Reps K H ex ds xs->Reps K H ex ds.reverse xs.reverse
 | [],_,h=>by rw[show _=[] from h];simp[Reps]
 | d::ds,_,h=>by
  obtain⟨x,r,e,h1,h2⟩:=h
  subst e
  rw[List.reverse_cons,List.reverse_cons]
  exact(Reps.reverse h2).append (.cons h1 .nil)
theorem Reps.flat:∀{ds:List D} {xs:List V},Reps K H ex ds xs->∀k:Nat,Reps K H ex (List.replicate k ds).flatten (List.replicate k xs).flatten
 | _,_,_,0=>by simp[Reps]
 | ds,xs,h,k+1=>by
  rw[List.replicate_succ,List.replicate_succ,List.flatten_cons,List.flatten_cons]
  exact h.append (Reps.flat h k)
end
end Hp
end
noncomputable section
namespace Hp
open PySem PySem.Spec PyProof.Rows L2
theorem kN(a b:Str):(a++b).length=a.length+b.length:=by
 show(a.cps++b.cps).size=_
 rw[Array.size_append];rfl
theorem aFk{x:Str}(h:tE x=true):(reprText x).length=x.length+2:=by
 have q:reprQuote x=39:=by
  unfold reprQuote
  have:x.cps.contains 39=false:=by
   cases z:x.cps.contains 39 with
   | false=>rfl
   | true=>
    have hm:39∈x.cps:=by simpa using z
    unfold tE at h
    rw[Array.all_eq_true'] at h
    have:=h 39 hm
    simp at this
  rw[this];rfl
 have all:∀c∈List.range 26,(Builtin.Str.reprChar 39 (97+c)).length=1:=by decide +kernel
 have one:∀c∈x.cps.toList,(Builtin.Str.reprChar 39 c).length=1:=λc hc=>by
  unfold tE at h
  rw[Array.all_eq_true'] at h
  have:=h c (by simpa using hc)
  simp only[bA,decide_eq_true_eq] at this
  have z:=all (c-97) (by rw[List.mem_range];omega)
  rwa [show 97+(c-97)=c by omega] at z
 have fold:∀(l:List Nat) (n:Nat),(∀c∈l,(Builtin.Str.reprChar 39 c).length=1)->l.foldl (λn c=>n+(Builtin.Str.reprChar 39 c).length) n=n+l.length:=by
  intro l
  induction l with
  | nil=>intro n _;rfl
  | cons c l ih=>
   intro n hl
   rw[List.foldl_cons,ih _ λd hd=>hl d (List.mem_cons_of_mem _ hd),hl c List.mem_cons_self,lC]
   omega
 have e:=reprLen_eq x
 rw[q,<-Array.foldl_toList,fold _ _ one] at e
 rw[<-e]
 show 2+x.cps.toList.length=x.cps.size+2
 rw[Array.length_toList];omega
mutual
theorem vJ:∀d:D,wt d<lim->(gI d).shown.length<=wt d/\(gI d).showable=true/\(gI d).hasDict=false/\(gI d).depth=dpt d
 | .non,_=>by simp only[gI,PyData.shown,PyData.showable,PyData.hasDict,PyData.depth,dpt,wt];decide
 | .bl b,_=>by simp only[gI,PyData.shown,PyData.showable,PyData.hasDict,PyData.depth,dpt,wt];cases b <;> decide
 | .int i,h=>by
  rw[wt] at h
  by_cases hi:i.natAbs<1000000000
  . have e:=int_text_length_le10 (k:=9) (by decide) (show i.natAbs<10 ^ 9 from hi)
    have l:=log2_of hi
    simp only[gI,PyData.shown,PyData.showable,PyData.hasDict,PyData.depth,dpt,wt,if_pos hi,decide_eq_true l,and_self,and_true]
    rw[PySem.ofString_length];omega
  . rw[if_neg hi] at h;exact absurd h (Nat.lt_irrefl _)
 | .str x,h=>by
  rw[wt] at h
  by_cases hx:tE x=true
  . have e:=aFk hx
    simp only[gI,PyData.shown,PyData.showable,PyData.hasDict,PyData.depth,dpt,wt,if_pos hx,e,and_self,Nat.le_refl]
  . rw[if_neg hx] at h;exact absurd h (Nat.lt_irrefl _)
 | .tup ds,h=>by
  rw[wt] at h
  obtain⟨h1,h2,h3,h4⟩:=shown_les ds (by omega)
  have e:(tupleText (PyData.shownAll (toPys ds))).length<=3+piled (PyData.shownAll (toPys ds)):=by
   unfold tupleText
   rw[kN,kN]
   have e1:((("(" : String):Str)).length=1:=rfl
   have e2:(((if (PyData.shownAll (toPys ds)).length==1 then ",)" else ")" : String):Str)).length<=2:=by split <;> decide
   have e3:(Str.join ", " (PyData.shownAll (toPys ds))).length<=piled (PyData.shownAll (toPys ds)):=by
    by_cases z:PyData.shownAll (toPys ds)=[]
    . rw[z];decide
    . have:=join_length_add _ z;omega
   omega
  simp only[gI,PyData.shown,PyData.showable,PyData.hasDict,PyData.depth,dpt,wt,h2,h3,h4,and_self,and_true]
  omega
 | .lst ds,h=>by
  rw[wt] at h
  obtain⟨h1,h2,h3,h4⟩:=shown_les ds (by omega)
  have e:(listText (PyData.shownAll (toPys ds))).length<=2+piled (PyData.shownAll (toPys ds)):=by
   unfold listText
   rw[kN]
   have e1:((("]" : String):Str)).length=1:=rfl
   have e2:(textFrom 0 "[" (PyData.shownAll (toPys ds))).length<=1+piled (PyData.shownAll (toPys ds)):=by
    cases PyData.shownAll (toPys ds) with
    | nil=>decide
    | cons t r=>
     have z:=textFrom_length_pos r 1 (("[" : Str)++(if (0:Nat)>0 then ", " else "" : String)++t) (Nat.succ_pos 0)
     show(textFrom 1 (("[" : Str)++(if (0:Nat)>0 then ", " else "" : String)++t) r).length<=_
     rw[z,kN,kN,piled_cons]
     have e0:((("[" : String):Str)).length=1:=rfl
     have e1:(((if (0:Nat)>0 then ", " else "" : String):Str)).length=0:=rfl
     omega
   omega
  simp only[gI,PyData.shown,PyData.showable,PyData.hasDict,PyData.depth,dpt,wt,h2,h3,h4,and_self,and_true]
  omega
 | .dic _,h=>by rw[wt] at h;exact absurd h (Nat.lt_irrefl _)
 | .err _ _,h=>by rw[wt] at h;exact absurd h (Nat.lt_irrefl _)
theorem shown_les:∀ds:List D,wts ds<lim->piled (PyData.shownAll (toPys ds))<=wts ds/\PyData.showableAll (toPys ds)=true/\PyData.hasDictAll (toPys ds)=false/\PyData.depthAll (toPys ds)=dpts ds
 | [],_=>by simp only[toPys,PyData.shownAll,PyData.showableAll,PyData.hasDictAll,PyData.depthAll,dpts,wts];decide
 | d::ds,h=>by
  rw[wts] at h
  obtain⟨h1,h2,h3,h4⟩:=vJ d (by omega)
  obtain⟨g1,g2,g3,g4⟩:=shown_les ds (by omega)
  simp only[toPys,PyData.shownAll,PyData.showableAll,PyData.hasDictAll,PyData.depthAll,dpts,wts,piled_cons,h2,h3,h4,g2,g3,g4,Bool.and_self,Bool.or_self,and_self,and_true]
  omega
theorem log2_of{n:Nat}(h:n<1000000000):n.log2<1920:=by
 by_cases hz:n=0
 . rw[hz];decide
 . exact Nat.lt_of_lt_of_le ((Nat.log2_lt hz).mpr (Nat.lt_trans h (by decide:1000000000<2 ^ 30))) (by decide)
end
section
variable {X:Cx} {pins:List (Addr×Obj)} {σ:L2.St} {H:Hp} {s:Shared}
mutual
theorem vK{ex:Addr->Prop}(I:Inv X pins σ H s):∀(d:D) {v:V} {u:Value},Rep X.K H ex d v->cA v u->wt d<lim->∃as,Reads s.heap u (gI d) as
 | .non,v,u,h,r,_=>by
  rw[show v=.non from h] at r
  rw[show u=.none from r,gI]
  exact⟨_,.none⟩
 | .bl b,v,u,h,r,_=>by
  rw[show v=.bl b from h] at r
  rw[show u=.bool b from r,gI]
  exact⟨_,.bool b⟩
 | .int i,v,u,h,r,_=>by
  rw[show v=.int i from h] at r
  obtain⟨t,e⟩:∃t,u=.int i t:=r
  rw[e,gI]
  exact⟨_,.int i t⟩
 | .str x,v,u,h,r,_=>by
  rw[show v=.str x from h] at r
  obtain⟨t,e⟩:∃t,u=.str x t:=r
  rw[e,gI]
  exact⟨_,.str x t⟩
 | .tup ds,v,u,h,r,hw=>by
  obtain⟨a,xs,e,q,rr⟩:=h
  subst e
  rw[show u=.ref a from r,gI]
  rw[wt] at hw
  obtain⟨its,rv,⟨o,ho,hc,n,hd⟩,_⟩:=I.tuple q
  obtain⟨as,ra⟩:=reads_ofs I ds rr rv (by omega)
  exact⟨_,.tuple ho hc hd (by simpa using ra)⟩
 | .lst ds,v,u,h,r,hw=>by
  obtain⟨a,xs,e,q,_,rr⟩:=h
  subst e
  rw[show u=.ref a from r,gI]
  rw[wt] at hw
  obtain⟨its,rv,pl,_⟩:=I.list q
  obtain⟨o,ho,hc,n,hd⟩:=pl.isList
  obtain⟨as,ra⟩:=reads_ofs I ds rr rv (by omega)
  exact⟨_,.list ho hc hd (by simpa using ra)⟩
 | .dic _,_,_,_,_,hw=>by rw[wt] at hw;exact absurd hw (Nat.lt_irrefl _)
 | .err _ _,_,_,h,_,_=>h.elim
theorem reads_ofs{ex:Addr->Prop}(I:Inv X pins σ H s):∀(ds:List D) {vs:List V} {us:List Value},Reps X.K H ex ds vs->aY vs us->wts ds<lim->∃as,ReadsAll s.heap us (toPys ds) as
 | [],vs,us,h,r,_=>by
  rw[show vs=[] from h] at r
  cases r
  exact⟨_,by rw[toPys];exact .nil⟩
 | d::ds,vs,us,h,r,hw=>by
  obtain⟨x,r',e,h1,h2⟩:=h
  subst e
  cases r with
  | cons r1 r2=>
   rw[wts] at hw
   obtain⟨as,ra⟩:=vK I d h1 r1 (by omega)
   obtain⟨bs,rb⟩:=reads_ofs I ds h2 r2 (by omega)
   exact⟨_,by rw[toPys];exact .cons ra rb⟩
end
theorem yK(hg:X.A.guards=some [])(hu:X.A.units+200<cLine):fM X (.builtin "repr") (λxs H Q=>∃(a:Addr) (ds:List D) (ex:Addr->Prop),xs=[.ref a]/\Rep X.K H ex (.tup ds) (.ref a)/\wt (.tup ds)<lim/\dpt (.tup ds)<=60/\Q (.str (vF (.tup ds))) H):=by
 intro pins s σ H xs us Q I r h
 obtain⟨a,ds,ex,rfl,hr,hw,hd,q⟩:=h
 cases r with
 | cons r rr=>
  cases rr
  cases r
  obtain⟨as,ra⟩:=vK I (.tup ds) hr rfl hw
  obtain⟨s1,s2,s3,s4⟩:=vJ (.tup ds) hw
  refine repr_of_reads' ra s2 (PyData.noDict_hsm s3) hg (by omega) (λ_ _ e=>e) (λh' u tk hk=>?_) ?_
  . exact⟨.str (vF (.tup ds)),H,I.kept (t':=tk) hk,⟨_,rfl⟩,q⟩
  . have:lim<=sizeLine:=by rw[sizeLine_eq];decide
    omega
end
def Kp(R:Addr->Prop)(H H':Hp):Prop:=∀a o,H a=some o->¬ R a->H' a=some o
def RE{α:Type}:R α->(α->Prop)->Prop
 | .ok a,p=>p a
 | _,_=>False
theorem RE.mono{α:Type}{x:R α}{p q:α->Prop}(h:RE x p)(f:∀a,p a->q a):RE x q:=by
 cases x with
 | ok a=>exact f a h
 | exc e=>exact h
 | bad=>exact h
theorem RE.bind{α β:Type}{x:R α}{f:α->R β}{p:β->Prop}:RE (x >>= f) p=RE x λa=>RE (f a) p:=by
 cases x <;> rfl
theorem RE.iff{α:Type}{c:Bool}{x:R α}{p:α->Prop}(h:RE (R.iff c x) p):c=true/\RE x p:=by
 cases c with
 | true=>exact⟨rfl,h⟩
 | false=>exact h.elim
section
variable (K:Fg) (RT Y old:Addr->Prop)
def exB(pa:Bool)(a:Addr):Prop:=Y a\/(pa=false/\old a)
def Tk(H:Hp):Prop:=∀b,H b≠none->K.lookup b=none
def dV:D->V
 | .int i=>.int i
 | .bl b=>.bl b
 | _=>.non
abbrev kV(x:NK×D):NK×V:=(x.1,dV x.2)
def Pt(σ:Sg)(σV:L2.St)(p:Addr):Prop:=RT p/\¬ old p/\∀(k:Nat) (pa:Bool) (ds:List D),σ[k]? = some (.own pa ds)->σV[k]?≠some (some (.ref p))
structure Dx (σ:Sg) (σV:L2.St) (H:Hp):Prop where
 at':∀(i:Nat) (ks:List (NK×D)),σ[i]? = some (.dct ks)->∃a xs,σV[i]? = some (some (.ref a))/\H a=some (dN a xs)/\RT a/\¬ old a/\xs.map pj=ks.map kV/\∀x∈xs,cV K H x.1 x.2.1
 inj:∀(i j:Nat) (ks ks':List (NK×D)) (a:Addr),σ[i]? = some (.dct ks)->σ[j]? = some (.dct ks')->σV[i]? = some (some (.ref a))->σV[j]? = some (some (.ref a))->i=j
 at2:∀(i:Nat) (ds es:List D),σ[i]? = some (.par ds es)->∃a b xs vx vy,σV[i]? = some (some (.ref a))/\SqT K H a [vx,.ref b,vy]/\H b=some (.lst xs)/\Pt RT old σ σV b/\(noLs ds=true/\noLs es=true)/\Reps K H (λ_=>False) ds xs/\Reps K H (λ_=>False) es [vx,vy]
 one:∀(i j:Nat) (ds es ds' es':List D),σ[i]? = some (.par ds es)->σ[j]? = some (.par ds' es')->i=j
def RtO(H:Hp)(a:Addr):Prop:=(∃xs,H a=some (.lst xs))\/∃xs,H a=some (dN a xs)
structure Sx (σ:Sg) (σV:L2.St) (H:Hp):Prop where
 sh:∀(i:Nat) (pa:Bool) (d:D),σ[i]? = some (.sh pa d)->∃v,σV[i]? = some (some v)/\Rep K H (λa=>RT a\/exB Y old pa a) d v
 own:∀(i:Nat) (pa:Bool) (ds:List D),σ[i]? = some (.own pa ds)->∃a xs,σV[i]? = some (some (.ref a))/\H a=some (.lst xs)/\RT a/\¬ old a/\Reps K H (λa=>RT a\/exB Y old pa a) ds xs
 trk:∀a,RT a\/Y a\/old a->H a=none->K.lookup a≠none
 yo:∀a,Y a->old a
 tk:Tk K H
 rt:∀a,RT a->RtO H a
 inj:∀(i j:Nat) (pa pa':Bool) (ds ds':List D) (a:Addr),σ[i]? = some (.own pa ds)->σ[j]? = some (.own pa' ds')->σV[i]? = some (some (.ref a))->σV[j]? = some (some (.ref a))->i=j
 len:σ.length=σV.length
 dx:Dx K RT old σ σV H
def alR(σ:Sg)(σV:L2.St)(al:List Nat)(a:Addr):Prop:=∃j∈al,(∃pa ds,σ[j]? = some (.own pa ds))/\σV[j]? = some (some (.ref a))
def exV(σ:Sg)(σV:L2.St)(pa:Bool)(al:List Nat)(a:Addr):Prop:=(RT a/\¬ alR σ σV al a)\/exB Y old pa a
def Rv(σ:Sg)(σV:L2.St)(H:Hp)(v:Vl)(u:V):Prop:=Rep K H (exV RT Y old σ σV v.pa v.al) v.d u
def Ro(σ:Sg)(σV:L2.St)(H H':Hp)(v:Vl)(u:V):Prop:=
 aR H H'/\(if v.fr=true then ∃a xs ds,u=.ref a/\v.d=.lst ds/\(H a=none/\K.lookup a=none)/\H' a=some (.lst xs)/\Reps K H' (λb=>b=a\/exV RT Y old σ σV v.pa v.al b) ds xs
  else Rv K RT Y old σ σV H' v u)
def Rvs(σ:Sg)(σV:L2.St)(H:Hp):List Vl->List V->Prop
 | [],us=>us=[]
 | v::vs,us=>∃u r,us=u::r/\Rv K RT Y old σ σV H v u/\Rvs σ σV H vs r
end
section
variable {K:Fg} {RT Y old:Addr->Prop} {σ:Sg} {σV:L2.St} {H H' H1 H2:Hp} {v:Vl} {u:V}
theorem cV.imp(hr:∀b ks,SqT K H b ks->SqT K H' b ks){k:NK}{b:Addr}(h:cV K H k b):cV K H' k b:=by
 obtain⟨bs,h1,h2⟩:=h
 refine⟨bs,hr _ _ h1,?_⟩
 clear h1
 induction h2 with
 | nil=>exact .nil
 | cons h t ih=>exact .cons (hr _ _ h) ih
mutual
theorem Rep.noT{ex:Addr->Prop}(hr:∀b ks,SqT K H b ks->SqT K H' b ks):∀(d:D) (v:V),noL d=true->Rep K H ex d v->Rep K H' ex d v
 | .non,_,_,h=>h
 | .bl _,_,_,h=>h
 | .int _,_,_,h=>h
 | .str _,_,_,h=>h
 | .tup ds,_,n,h=>by
  obtain⟨a,xs,e,q,r⟩:=h
  exact⟨a,xs,e,hr _ _ q,Reps.noT hr ds xs (by simpa[noL] using n) r⟩
 | .lst ds,_,n,_=>by simp[noL] at n
 | .dic kvs,_,n,_=>by simp[noL] at n
 | .err _ _,_,n,_=>by simp[noL] at n
theorem Reps.noT{ex:Addr->Prop}(hr:∀b ks,SqT K H b ks->SqT K H' b ks):∀(ds:List D) (xs:List V),noLs ds=true->Reps K H ex ds xs->Reps K H' ex ds xs
 | [],_,_,h=>h
 | d::ds,_,n,h=>by
  obtain⟨x,r,e,h1,h2⟩:=h
  simp only[noLs,bA] at n
  exact⟨x,r,e,Rep.noT hr d x n.1 h1,Reps.noT hr ds r n.2 h2⟩
end
theorem Dx.imp{RT':Addr->Prop}{σ':Sg}{σV':L2.St}(L:Dx K RT old σ σV H)(m:Nat->Nat)(hs:∀j ks,σ'[j]? = some (.dct ks)->σ[m j]? = some (.dct ks)/\σV'[j]? = σV[m j]?)(hm:∀i j ks ks',σ'[i]? = some (.dct ks)->σ'[j]? = some (.dct ks')->m i=m j->i=j)
 (hh:∀a xs,H a=some (dN a xs)->RT a->¬ old a->H' a=some (dN a xs)/\RT' a) (hr:∀b ks,SqT K H b ks->SqT K H' b ks)
 (hs2:∀j ds es,σ'[j]? = some (.par ds es)->σ[m j]? = some (.par ds es)/\σV'[j]? = σV[m j]?) (hm2:∀i j ds es ds' es',σ'[i]? = some (.par ds es)->σ'[j]? = some (.par ds' es')->m i=m j->i=j)
 (hh2:∀p xs,H p=some (.lst xs)->Pt RT old σ σV p->H' p=some (.lst xs)/\Pt RT' old σ' σV' p):Dx K RT' old σ' σV' H' where
 at':=λi ks e=>by
  obtain⟨e1,e2⟩:=hs i ks e
  obtain⟨a,xs,h1,h2,h3,h4,h5,h6⟩:=L.at' (m i) ks e1
  obtain⟨g1,g2⟩:=hh a xs h2 h3 h4
  exact⟨a,xs,by rw[e2];exact h1,g1,g2,h4,h5,λx hx=>cV.imp hr (h6 x hx)⟩
 inj:=λi j ks ks' a q1 q2 v1 v2=>by
  obtain⟨e1,e2⟩:=hs i ks q1
  obtain⟨e3,e4⟩:=hs j ks' q2
  exact hm i j ks ks' q1 q2 (L.inj (m i) (m j) ks ks' a e1 e3 (by rw[<-e2];exact v1) (by rw[<-e4];exact v2))
 at2:=λi ds es e=>by
  obtain⟨e1,e2⟩:=hs2 i ds es e
  obtain⟨a,b,xs,vx,vy,h1,ha,hb,pb,⟨n1,n2⟩,r1,r2⟩:=L.at2 (m i) ds es e1
  obtain⟨hb,pb⟩:=hh2 b _ hb pb
  exact⟨a,b,xs,vx,vy,by rw[e2];exact h1,hr _ _ ha,hb,pb,⟨n1,n2⟩,Reps.noT hr ds xs n1 r1,Reps.noT hr es _ n2 r2⟩
 one:=λi j ds es ds' es' q1 q2=>hm2 i j ds es ds' es' q1 q2 (L.one _ _ _ _ _ _ (hs2 i ds es q1).1 (hs2 j ds' es' q2).1)
theorem RtO.grow{a:Addr}(h:RtO H a)(s:aR H H'):RtO H' a:=h.imp (λ⟨xs,e⟩=>⟨xs,s _ _ e⟩) λ⟨xs,e⟩=>⟨xs,s _ _ e⟩
theorem RtO.ne{a:Addr}(h:RtO H a):H a≠none:=λz=>by
 rcases h with⟨xs,e⟩|⟨xs,e⟩
 . rw[z] at e;cases e
 . rw[z] at e;cases e
theorem Sx.grow(S:Sx K RT Y old σ σV H)(s:aR H H')(t:Tk K H'):Sx K RT Y old σ σV H' where
 sh:=λi pa d e=>let ⟨v,h1,h2⟩:=S.sh i pa d e;⟨v,h1,h2.grow s⟩
 own:=λi pa ds e=>let ⟨a,xs,h1,h2,h3,h4,h5⟩:=S.own i pa ds e;⟨a,xs,h1,s _ _ h2,h3,h4,h5.grow s⟩
 trk:=λa h z=>S.trk a h (s.free z)
 yo:=S.yo
 tk:=t
 rt:=λa h=>(S.rt a h).grow s
 inj:=S.inj
 len:=S.len
 dx:=S.dx.imp id (λ_ _ e=>⟨e,rfl⟩) (λ_ _ _ _ _ _ e=>e) (λa xs e z _=>⟨s _ _ e,z⟩) (λ_ _ r=>aR.seqT s r) (λ_ _ _ e=>⟨e,rfl⟩) (λ_ _ _ _ _ _ _ _ e=>e) λp xs e z=>⟨s _ _ e,z⟩
theorem exV.trk(S:Sx K RT Y old σ σV H){pa:Bool}{al:List Nat}{a:Addr}(h:exV RT Y old σ σV pa al a):H a=none->K.lookup a≠none:=by
 rcases h with⟨h,_⟩|h|⟨_,h⟩
 . exact S.trk a (.inl h)
 . exact S.trk a (.inr (.inl h))
 . exact S.trk a (.inr (.inr h))
theorem Ro.rv(S:Sx K RT Y old σ σV H)(h:Ro K RT Y old σ σV H H' v u):Rv K RT Y old σ σV H' v u:=by
 obtain⟨s,h⟩:=h
 by_cases hf:v.fr=true
 . rw[if_pos hf] at h
   obtain⟨a,xs,ds,e1,e2,e3,e4,r⟩:=h
   unfold Rv
   rw[e2]
   exact⟨a,xs,e1,SqL.of e4,⟨λz=>exV.trk S z e3.1 e3.2,λ_=>e4⟩,r.weak λb z=>.inr z⟩
 . rw[if_neg hf] at h
   exact h
theorem Rv.grow(h:Rv K RT Y old σ σV H v u)(s:aR H H'):Rv K RT Y old σ σV H' v u:=Rep.grow h s
theorem Rvs.grow:∀{vs:List Vl} {us:List V},Rvs K RT Y old σ σV H vs us->aR H H'->Rvs K RT Y old σ σV H' vs us
 | [],_,h,_=>h
 | v::vs,_,h,s=>by
  obtain⟨u,r,e,h1,h2⟩:=h
  exact⟨u,r,e,h1.grow s,Rvs.grow h2 s⟩
theorem Ro.plain(s:aR H H')(hf:v.fr=false)(h:Rv K RT Y old σ σV H' v u):Ro K RT Y old σ σV H H' v u:=⟨s,by rw[if_neg (by rw[hf];decide)];exact h⟩
theorem Ro.from(h:Ro K RT Y old σ σV H1 H' v u)(s:aR H H1):Ro K RT Y old σ σV H H' v u:=by
 obtain⟨s',h⟩:=h
 refine⟨s.trans s',?_⟩
 by_cases hf:v.fr=true
 . rw[if_pos hf] at h ⊢
   obtain⟨a,xs,ds,e1,e2,e3,e4,r⟩:=h
   exact⟨a,xs,ds,e1,e2,⟨s.free e3.1,e3.2⟩,e4,r⟩
 . rw[if_neg hf] at h ⊢
   exact h
theorem Ro.cl{d:D}(s:aR H H')(h:Rep K H' (exV RT Y old σ σV false []) d u):Ro K RT Y old σ σV H H' (.cl d) u:=Ro.plain s rfl h
theorem Rv.sub{d:D}{x:V}{ds:List D}{xs:List V}{j:Nat}(h:Rep K H (exV RT Y old σ σV v.pa v.al) d x):Rv K RT Y old σ σV H (v.sub d) x:=by
 unfold Rv Vl.sub
 by_cases hn:noL d=true
 . rw[if_pos hn]
   exact Rep.free d x hn h
 . rw[if_neg hn]
   exact h
theorem alR.mono{al al':List Nat}{a:Addr}(h:alR σ σV al a)(s:∀j∈al,j∈al'):alR σ σV al' a:=by
 obtain⟨j,hj,q⟩:=h
 exact⟨j,s j hj,q⟩
theorem exV.mono{pa pa':Bool}{al al':List Nat}{a:Addr}(h:exV RT Y old σ σV pa' al' a)(hp:pa=true->pa'=true)(s:∀j∈al,j∈al'):exV RT Y old σ σV pa al a:=by
 rcases h with⟨h1,h2⟩|h|⟨h1,h2⟩
 . exact .inl ⟨h1,λz=>h2 (z.mono s)⟩
 . exact .inr (.inl h)
 . refine .inr (.inr ⟨?_,h2⟩)
   cases pa with
   | false=>rfl
   | true=>rw[hp rfl] at h1;cases h1
theorem Rvs.length:∀{vs:List Vl} {us:List V},Rvs K RT Y old σ σV H vs us->vs.length=us.length
 | [],_,h=>by rw[show _=[] from h];rfl
 | v::vs,_,h=>by
  obtain⟨u,r,e,_,h2⟩:=h
  subst e
  rw[lC,lC,Rvs.length h2]
theorem mS{vs:List Vl}{v:Vl}(h:v∈vs):∀j∈v.al,j∈cQ vs:=λj hj=>List.mem_flatMap.mpr ⟨v,h,hj⟩
theorem vL{vs:List Vl}{v:Vl}(h:v∈vs)(hp:v.pa=true):eZ vs=true:=List.any_eq_true.mpr ⟨v,h,hp⟩
theorem Rvs.reps:∀{vs:List Vl} {us:List V} {pa:Bool} {al:List Nat},Rvs K RT Y old σ σV H vs us->(∀v∈vs,(v.pa=true->pa=true)/\∀j∈v.al,j∈al) ->
 Reps K H (exV RT Y old σ σV pa al) (vs.map (·.d)) us
 | [],_,_,_,h,_=>h
 | v::vs,_,_,_,h,q=>by
  obtain⟨u,r,e,h1,h2⟩:=h
  have q1:=q v List.mem_cons_self
  exact⟨u,r,e,Rep.weak h1 λa z=>z.mono q1.1 q1.2,Rvs.reps h2 λw hw=>q w (List.mem_cons_of_mem _ hw)⟩
theorem Rvs.all{vs:List Vl}{us:List V}(h:Rvs K RT Y old σ σV H vs us):Reps K H (exV RT Y old σ σV (eZ vs) (cQ vs)) (vs.map (·.d)) us:=
 h.reps λv hv=>⟨λz=>vL hv z,mS hv⟩
theorem Ro.fresh{p:Addr}{xs:List V}{ds:List D}(hp:H p=none)(ht:Tk K (upd H p (.lst xs)))(hd:v.d=.lst ds)(hf:v.fr=true)(S:Sx K RT Y old σ σV H)(r:Reps K H (exV RT Y old σ σV v.pa v.al) ds xs) :
 Ro K RT Y old σ σV H (upd H p (.lst xs)) v (.ref p):=by
 have s:aR H (upd H p (.lst xs)):=λb o q=>by rw[aP (bR q hp)];exact q
 refine⟨s,?_⟩
 rw[if_pos hf]
 have kp:K.lookup p=none:=ht p (by rw[bW];simp)
 refine⟨p,xs,ds,rfl,hd,⟨hp,kp⟩,bW,?_⟩
 refine Reps.imp (λ_ _ q=>aR.seqT s q) (λa ys n q=>⟨λz=>?_,s.seq q⟩) (λ⟨c,h1,h2⟩=>⟨c,h1,h2.resolve_left λz=>h1 (by rw[z];exact kp)⟩) (λ_ _ _ q=>s _ _ q) (λ_ _ q=>s _ _ q) ds xs r
 rcases z with z|z
 . subst z
   rcases q with(q|⟨o,q⟩)|⟨o,its,n',q,_⟩
   . rw[hp] at q;cases q
   . rw[hp] at q;cases q
   . have z:=ht a (by rw[bW];simp)
     rw[q] at z;cases z
 . exact n z
theorem aR.new{p:Addr}{o:HO}(hp:H p=none):aR H (upd H p o):=λb u q=>by rw[aP (bR q hp)];exact q
theorem Ro.tup{p:Addr}{xs:List V}{ds:List D}(hp:H p=none)(hd:v.d=.tup ds)(hf:v.fr=false)(r:Reps K H (exV RT Y old σ σV v.pa v.al) ds xs) :
 Ro K RT Y old σ σV H (upd H p (.tup xs)) v (.ref p):=by
 refine Ro.plain (aR.new hp) hf ?_
 unfold Rv
 rw[hd]
 exact⟨p,xs,rfl,SqT.of bW,r.grow (aR.new hp)⟩
end
section
variable (X:Cx) (P:Pg) (cl:Caller) (RT Y old:Addr->Prop)
def wE(σ:Sg)(c:E):TE:=λσV H Q=>Sx X.K RT Y old σ σV H/\RE (ev P cl σ c) λv=>∀u H',Tk X.K H'->Ro X.K RT Y old σ σV H H' v u->Q u H'
def wT(σ:Sg)(c:E):TT:=λσV H Q=>Sx X.K RT Y old σ σV H/\RE (tst P cl σ c) λk=>∀H',Tk X.K H'->aR H H'->Q k H'
def wA(σ:Sg)(cs:Es):TA:=λσV H Q=>Sx X.K RT Y old σ σV H/\RE (evs P cl σ cs) λvs=>∀us H',Tk X.K H'->aR H H'->Rvs X.K RT Y old σ σV H' vs us->Q us H'
end
section
variable {X:Cx} {P:Pg} {cl:Caller} {RT Y old:Addr->Prop} {σ:Sg} {pos:Pos}
theorem _root_.L2.Inv.tk{pins:List (Addr×Obj)}{σV:L2.St}{H:Hp}{s:Shared}(I:Inv X pins σV H s):Tk X.K H:=λb hb=>by
 cases q:X.K.lookup b with
 | none=>rfl
 | some o=>exact absurd (I.bs b o (I.ok.mod.kin b o q)).2 hb
theorem _root_.L2.PE.imp{e:Expr}{t t':TE}(h:PE X e t)(f:∀σV H Q,Tk X.K H->t' σV H Q->t σV H λv H'=>Tk X.K H'->Q v H'):PE X e t':=λpins s σV H Q I hw=>
 thn (h pins s σV H _ I (f σV H Q I.tk hw)) λu s' ⟨v,H',I',r,q⟩=>⟨v,H',I',r,q I'.tk⟩
theorem _root_.L2.PT.imp{e:Expr}{t t':TT}(h:PT X e t)(f:∀σV H Q,Tk X.K H->t' σV H Q->t σV H λv H'=>Tk X.K H'->Q v H'):PT X e t':=λpins s σV H Q I hw=>
 thn (h pins s σV H _ I (f σV H Q I.tk hw)) λk s' ⟨H',I',q⟩=>⟨H',I',q I'.tk⟩
theorem _root_.L2.PA.imp{es:List Expr}{t t':TA}(h:PA X es t)(f:∀σV H Q,Tk X.K H->t' σV H Q->t σV H λv H'=>Tk X.K H'->Q v H'):PA X es t':=λpos pins s σV H Q I hw=>
 thn (h pos pins s σV H _ I (f σV H Q I.tk hw)) λu s' ⟨v,H',I',r,q⟩=>⟨v,H',I',r,q I'.tk⟩
theorem wE.two{a b:E}{σV:L2.St}{H:Hp}{p:Vl->Vl->Prop}{Q:V->V->Hp->Prop}(S:Sx X.K RT Y old σ σV H)(h:RE (ev P cl σ a) λx=>RE (ev P cl σ b) λy=>p x y)
 (f:∀x y ux uy H2,p x y->Tk X.K H2->aR H H2->Sx X.K RT Y old σ σV H2->Rv X.K RT Y old σ σV H2 x ux->Rv X.K RT Y old σ σV H2 y uy->Q ux uy H2) :
 wE X P cl RT Y old σ a σV H λux H1=>wE X P cl RT Y old σ b σV H1 λuy H2=>Q ux uy H2:=by
 refine⟨S,h.mono λx hx ux H1 t1 r1=>⟨S.grow r1.1 t1,hx.mono λy hy uy H2 t2 r2=>?_⟩⟩
 have S1:=S.grow r1.1 t1
 exact f x y ux uy H2 hy t2 (r1.1.trans r2.1) (S1.grow r2.1 t2) ((r1.rv S).grow r2.1) (r2.rv S1)
theorem Ro.val{d:D}{u:V}{σV:L2.St}{H H':Hp}(s:aR H H')(h:∀ex,Rep X.K H' ex d u):Ro X.K RT Y old σ σV H H' (.cl d) u:=Ro.cl s (h _)
theorem s_c {d : D} {c : Const} {k : Nat} (h : eqC d c = true) : PE X (.Constant c k pos) (wE X P cl RT Y old σ (.c d)) := by
 have key : ∀ {v : V}, (∀ (H : Hp) ex, Rep X.K H ex d v) -> PE X (.Constant c k pos) (tC v) -> PE X (.Constant c k pos) (wE X P cl RT Y old σ (.c d)) := λ hv hp =>
  hp.imp λ σV H Q t ⟨S, q⟩ t' => q _ H t' (Ro.val (aR.refl H) (hv H))
 cases d with
 | non => cases c with
  | none => exact key (λ _ _ => rfl) aGU
  | _ => cases h
 | bl b => cases c with
  | bool b' => have e : b = b' := by simpa [eqC] using h
               subst e; exact key (λ _ _ => rfl) aJi
  | _ => cases h
 | int b => cases c with
  | int b' => have e : b = b' := by simpa [eqC] using h
              subst e; exact key (λ _ _ => rfl) aCe
  | _ => cases h
 | str b => cases c with
  | str b' => have e : b = b' := by simpa [eqC] using h
              subst e; exact key (λ _ _ => rfl) aGV
  | _ => cases h
 | _ => cases c <;> cases h
theorem s_v{i:Nat}{x:Str}(hN:X.N[i]? = some x)(hv:Vis X.env.scope x)(hd:(x==("__debug__" : Str))=false)(hcd:(x==("__classdict__" : Str))=false) :
 PE X (.Name x pos) (wE X P cl RT Y old σ (.v i)):=by
 refine(hU hN hv hd hcd).imp λσV H Q t ⟨S,q⟩=>?_
 have q:RE (bH σ i) _:=q
 unfold bH at q
 cases e:σ[i]? with
 | none=>rw[e] at q;exact q.elim
 | some sl=>
  rw[e] at q
  cases sl with
  | dead=>exact q.elim
  | dct _=>exact q.elim
  | par _ _=>exact q.elim
  | sh pa d=>
   obtain⟨v,h1,h2⟩:=S.sh i pa d e
   refine⟨v,h1,λt'=>q v H t' (Ro.plain (aR.refl H) rfl ?_)⟩
   unfold Rv
   by_cases hn:noL d=true
   . exact Rep.free d v hn h2
   . refine Rep.weak h2 λa z=>?_
     rcases z with⟨z,_⟩|z|⟨z,z'⟩
     . exact .inl z
     . exact .inr (.inl z)
     . have:pa=false:=by simpa[hn] using z
       exact .inr (.inr ⟨this,z'⟩)
  | own pa ds=>
   obtain⟨a,xs,h1,h2,h3,h4,h5⟩:=S.own i pa ds e
   refine⟨.ref a,h1,λt'=>q _ H t' (Ro.plain (aR.refl H) rfl ?_)⟩
   unfold Rv
   refine⟨a,xs,rfl,SqL.of h2,⟨λz=>?_,λ_=>h2⟩,h5.weak λb z=>?_⟩
   . rcases z with⟨_,z⟩|z|⟨_,z⟩
     . exact z ⟨i,by simp,⟨pa,ds,e⟩,h1⟩
     . exact h4 (S.yo a z)
     . exact h4 z
   . rcases z with⟨z,_⟩|z
     . exact .inl z
     . exact .inr z
end
def aCU(prog:Program)(w:World)(K:Fg)(a:Addr)(t:List (Str×D)):Prop:=(a==sysModules)=false/\∃vs:List (Key×Value),(∀h:Heap,K.In h->h.DictOf (iQ prog w) a vs) /\
 ∀k:Str,(t.lookup k=none/\valueAt vs (Sum.inr k:Key)=none)\/∃d u v,t.lookup k=some d/\valueAt vs (Sum.inr k:Key)=some u/\cA v u/\∀(H:Hp) (ex:Addr->Prop),Rep K H ex d v
section
variable {X:Cx}
end
section
variable {X:Cx} {RT Y old:Addr->Prop} {σ:Sg} {σV:L2.St} {H:Hp} {s:Shared} {pins:List (Addr×Obj)} {Q:VK} {ux uy:V} {vx vy:Value} {x y:Vl}
theorem _root_.L2.EP.tk{u:Value}{s':Shared}(h:EP X pins σV (λv H'=>Tk X.K H'->Q v H') u s'):EP X pins σV Q u s':=by
 obtain⟨v,H',I',r,q⟩:=h
 exact⟨v,H',I',r,q (Inv.tk I')⟩
abbrev Wn(X:Cx)(RT Y old:Addr->Prop)(σ:Sg)(σV:L2.St)(H:Hp)(Q:VK)(v:Vl):Prop:=∀u H',Tk X.K H'->Ro X.K RT Y old σ σV H H' v u->Q u H'
theorem Wn.val{d:D}{u:V}(w:Wn X RT Y old σ σV H Q (.cl d))(t:Tk X.K H)(h:∀ex,Rep X.K H ex d u):Q u H:=w u H t (Ro.cl (aR.refl H) (h _))
theorem Rv.int{i:Int}{u:V}(h:Rv X.K RT Y old σ σV H x u)(e:x.d=.int i):u=.int i:=by unfold Rv at h;rw[e] at h;exact h
theorem Rv.str{i:Str}{u:V}(h:Rv X.K RT Y old σ σV H x u)(e:x.d=.str i):u=.str i:=by unfold Rv at h;rw[e] at h;exact h
theorem Rv.bl{i:Bool}{u:V}(h:Rv X.K RT Y old σ σV H x u)(e:x.d=.bl i):u=.bl i:=by unfold Rv at h;rw[e] at h;exact h
theorem Rv.non{u:V}(h:Rv X.K RT Y old σ σV H x u)(e:x.d=.non):u=.non:=by unfold Rv at h;rw[e] at h;exact h
theorem Rv.tup{ds:List D}{u:V}(h:Rv X.K RT Y old σ σV H x u)(e:x.d=.tup ds):∃a xs,u=.ref a/\SqT X.K H a xs/\Reps X.K H (exV RT Y old σ σV x.pa x.al) ds xs:=by unfold Rv at h;rw[e] at h;exact h
theorem Rv.lst{ds:List D}{u:V}(h:Rv X.K RT Y old σ σV H x u)(e:x.d=.lst ds):∃a xs,u=.ref a/\SqL X.K H a xs/\¬ exV RT Y old σ σV x.pa x.al a/\Reps X.K H (exV RT Y old σ σV x.pa x.al) ds xs:=by unfold Rv at h;rw[e] at h;obtain⟨a,xs,h1,h2,h3,h4⟩:=h;exact⟨a,xs,h1,h2,h3.1,h4⟩
theorem aHH:lim<=sizeLine:=by unfold lim;rw[sizeLine_eq];decide
theorem eV{n:Nat}(h:n<=lim):n<=sizeLine:=Nat.le_trans h aHH
theorem fN{ds:List D}{xs:List V}{pa:Bool}{al:List Nat}{K:Fg}(r:Reps K H (exV RT Y old σ σV pa al) ds xs) :
 Reps K H (exV RT Y old σ σV (pa&&!noLs ds) (if noLs ds=true then [] else al)) ds xs:=by
 by_cases hn:noLs ds=true
 . exact Reps.free ds xs hn r
 . rw[if_neg hn]
   refine r.weak λa z=>z.mono (λhp=>?_) λj hj=>hj
   rw[hp];simp[hn]
def aJY(K:Fg):R2:=λx y H Q=>∃l b xs zs,x=.ref l/\y=.ref b/\SqL K H l xs/\SqL K H b zs/\xs.length+zs.length<=sizeLine/\∀p,H p=none->Q (.ref p) (upd H p (.lst (xs++zs)))
theorem aFl:OpR X (binaryOp .Add) (aJY X.K):=by
 intro pins s σV H x y v u Q I rx ry h
 obtain⟨l,b,xs,zs,rfl,rfl,hH,hB,hz,q⟩:=h
 cases rx
 cases ry
 obtain⟨its,r,pl,z⟩:=I.list hH
 obtain⟨its2,r2,pl2,z2⟩:=I.list hB
 obtain⟨⟨cls,dd,data,sl⟩,ho,hc,n,hd⟩:=pl.isList
 obtain⟨⟨cls2,dd2,data2,sl2⟩,ho2,hc2,n2,hd2⟩:=pl2.isList
 simp only at hc hd hc2 hd2
 subst hc hd hc2 hd2
 have e:its.toArray++its2.toArray=(its++its2).toArray:=by simp
 have hl:=r.length
 have hl2:=r2.length
 refine concat_meets ⟨_,ho,rfl⟩ ⟨_,ho2,rfl⟩ noFill_list_add seq_list_add PySem.F.slot_list_add PySem.F.entry_list_add (PySem.F.args_list_add_2 _ _) (list_addW l b its.toArray its2.toArray n n2 dd dd2 sl sl2 (by rw[List.size_toArray,List.size_toArray];omega)) ⟨ho,ho2,?_⟩
 rw[e]
 exact⟨.ref _,_,I.lnew (t':=s.toks) (r.append r2) (by rw[lA];omega),rfl,q _ I.fresh⟩
theorem oD(x:Str):Str.rep x 0=Str.empty:=rfl
theorem aFm(x:Str):Str.rep x 1=x:=by
 unfold Str.rep
 cases x
 simp
theorem aBt(x:Str)(h:x.length=0)(k:Nat):Str.rep x k=x:=by
 have hx:x.cps=#[]:=by
  unfold Str.length at h
  exact Array.eq_empty_of_size_eq_zero h
 have go:∀k,(List.replicate k x.cps).foldl (·++·) #[]=#[]:=by
  intro k
  rw[hx]
  induction k with
  | zero=>rfl
  | succ k ih=>rw[List.replicate_succ,List.foldl_cons];simpa using ih
 unfold Str.rep
 rw[go k]
 cases x
 simp at hx
 rw[hx]
theorem yL(x:Str)(k:Nat):(⟨(List.replicate k x.cps).foldl (·++·) #[]⟩:Str).length=x.length*k:=by
 have go:∀(k:Nat) (acc:Array Nat),((List.replicate k x.cps).foldl (·++·) acc).size=acc.size+x.cps.size*k:=by
  intro k
  induction k with
  | zero=>intro acc;simp
  | succ k ih=>
   intro acc
   rw[List.replicate_succ,List.foldl_cons,ih,Array.size_append,Nat.mul_succ]
   omega
 show((List.replicate k x.cps).foldl (·++·) #[]).size=x.cps.size*k
 rw[go]
 simp
theorem aFn:OpR X (binaryOp .Mult) (λx y H Q=>∃a k,x=.str a/\y=.int k/\aM k=true/\a.length*k.toNat<=lim/\Q (.str (Str.rep a k.toNat)) H):=by
 intro pins s σV H x y v u Q I rx ry h
 obtain⟨a,k,rfl,rfl,hk,hl,q⟩:=h
 obtain⟨t,rfl⟩:=rx
 obtain⟨t',rfl⟩:=ry
 unfold aM at hk
 simp only[bA,decide_eq_true_eq] at hk
 have h1:-(2 ^ 62:Int)<=k:=hk.1
 have h2:k<(2 ^ 62:Int):=hk.2
 have e1:decide (k < -(2 ^ 63:Int))=false:=decide_eq_false (by omega)
 have e2:decide (k ≥ (2 ^ 63:Int))=false:=decide_eq_false (by omega)
 have fin:∀z:Str,z=Str.rep a k.toNat->∀tk,EP X pins σV Q (.str z tk) { s with toks:=s.toks+1 }:=λz e tk=>by
  subst e
  exact⟨.str _,H,I.tok _,⟨_,rfl⟩,q⟩
 refine P.mul_str (by rw[e1,e2];rfl) (λn1 n2 z=>?_) (λn1 n2=>?_) ?_
 . have k1:1<=k:=by omega
   have z1:(a.length:Int)*k<=(lim:Int):=by
    have hk':((k.toNat:Nat):Int)=k:=by omega
    have:=Int.ofNat_le.mpr hl
    rw[Int.natCast_mul] at this
    rw[<-hk']
    exact_mod_cast this
   have z2:(2 ^ 63-1:Int) / k<a.length:=z
   have z3:(2 ^ 63-1:Int)<a.length*k:=Int.lt_mul_of_ediv_lt (by omega) z2
   have z4:(lim:Int)=1000000:=rfl
   omega
 . unfold Builtin.Str.tooLong
   have:=eV hl
   exact decide_eq_false (by omega)
 . split
   . rename_i hn
     have:k.toNat=0:=by omega
     refine⟨by decide,?_⟩
     exact fin _ (by rw[this];rfl) _
   . split
     . rename_i hn h1'
       have hz:Str.rep a k.toNat=a:=by
        rcases Bool.or_eq_true_iff.mp h1' with z|z
        . have:k=1:=eq_of_beq z
          subst this
          exact aFm a
        . exact aBt a (eq_of_beq z) _
       exact⟨.str a,H,I,⟨_,rfl⟩,by rw[hz] at q;exact q⟩
     . refine⟨?_,fin _ rfl _⟩
       have:=eV hl
       rw[yL]
       exact this
def aHI(K:Fg):R2:=λx y H Q=>∃a b xs ys,x=.ref a/\y=.ref b/\SqT K H a xs/\SqT K H b ys/\xs.length+ys.length<=sizeLine /\
 (xs=[]->Q (.ref b) H)/\(xs≠[]->ys=[]->Q (.ref a) H)/\(xs≠[]->ys≠[]->∀p,H p=none->Q (.ref p) (upd H p (.tup (xs++ys))))
theorem aCV:OpR X (binaryOp .Add) (aHI X.K):=by
 intro pins s σ H x y v u Q I rx ry h
 obtain⟨a,b,xs,ys,rfl,rfl,ha,hb,hz,q0,q1,q2⟩:=h
 by_cases hx:xs=[]
 . cases rx
   cases ry
   obtain⟨its,r1,p1,_⟩:=I.tuple ha
   obtain⟨its2,r2,p2,_⟩:=I.tuple hb
   obtain⟨⟨cls,dd,data,sl⟩,ho,hc,n,hd⟩:=id p1
   obtain⟨⟨cls2,dd2,data2,sl2⟩,ho2,hc2,n2,hd2⟩:=id p2
   simp only at hc hd hc2 hd2
   subst hc hd hc2 hd2
   have hi:its=[]:=r1.nil_iff.mpr hx
   exact concat_meets ⟨_,ho,rfl⟩ ⟨_,ho2,rfl⟩ noFill_tuple_add seq_tuple_add PySem.F.slot_tuple_add PySem.F.entry_tuple_add (PySem.F.args_tuple_add_2 _ _)
    (tuple_addW0 a b its.toArray its2.toArray n n2 dd dd2 sl sl2 (by simp[hi])) ⟨ho,ho2,⟨.ref b,H,I,rfl,q0 hx⟩⟩
 . exact aFa pins s σ H _ _ v u Q I rx ry ⟨a,b,xs,ys,rfl,rfl,ha,hb,hx,hz,q1 hx,q2 hx⟩
theorem aCW{o:Operator}(I:Inv X pins σV H s)(S:Sx X.K RT Y old σ σV H)(rx:cA ux vx)(ry:cA uy vy)(hx:Rv X.K RT Y old σ σV H x ux)(hy:Rv X.K RT Y old σ σV H y uy)
 (hfr:x.fr=true->∃a xs,ux=.ref a/\H a=some (.lst xs)) (h:RE (opD o x y) (Wn X RT Y old σ σV H Q)):wpAny (model X.prog X.w) X.A (binaryOp o vx vy) (EP X pins σV Q) X.xe s:=by
 have t:=Inv.tk I
 have go:∀{f:Value->Value->Sem Value} {r:R2},OpR X f r->(r ux uy H λv H'=>Tk X.K H'->Q v H')->wpAny (model X.prog X.w) X.A (f vx vy) (EP X pins σV Q) X.xe s:=λhr q=>
  thn (hr pins s σV H ux uy vx vy _ I rx ry q) λu s' z=>EP.tk z
 cases o with
 | Add=>
  have h:RE (aHB x y) (Wn X RT Y old σ σV H Q):=h
  unfold aHB at h
  split at h
  . rename_i i j d1 d2
    exact go aHj ⟨i,j,hx.int d1,hy.int d2,λ_=>h.val t λ_=>rfl⟩
  . rename_i i j d1 d2
    obtain⟨c,h⟩:=h.iff
    exact go xT ⟨i,j,hx.str d1,hy.str d2,eV (of_decide_eq_true c),λ_=>Wn.val h t λ_=>rfl⟩
  . rename_i as bs d1 d2
    obtain⟨c,h⟩:=h.iff
    obtain⟨a,xs,e1,q1,r1⟩:=hx.tup d1
    obtain⟨b,ys,e2,q2,r2⟩:=hy.tup d2
    have l1:=r1.length
    have l2:=r2.length
    have c':=of_decide_eq_true c
    have r1':Reps X.K H (exV RT Y old σ σV (x.pa||y.pa) (x.al++y.al)) as xs:=r1.weak λa z=>z.mono (λhp=>by rw[hp];rfl) λj hj=>List.mem_append_left _ hj
    have r2':Reps X.K H (exV RT Y old σ σV (x.pa||y.pa) (x.al++y.al)) bs ys:=r2.weak λa z=>z.mono (λhp=>by rw[hp,Bool.or_true]) λj hj=>List.mem_append_right _ hj
    refine go aCV ⟨a,b,xs,ys,e1,e2,q1,q2,eV (by omega),λz t'=>?_,λz z' t'=>?_,λz z' p hp t'=>?_⟩
    . subst z
      have:as=[]:=List.length_eq_zero_iff.mp (by simpa using l1)
      subst this
      exact h _ _ t' (Ro.plain (aR.refl H) rfl ⟨b,ys,rfl,q2,r2'⟩)
    . subst z'
      have:bs=[]:=List.length_eq_zero_iff.mp (by simpa using l2)
      subst this
      exact h _ _ t' (Ro.plain (aR.refl H) rfl ⟨a,xs,rfl,q1,by rw[List.append_nil];exact r1'⟩)
    . exact h _ _ t' (Ro.tup hp rfl rfl (r1'.append r2'))
  . rename_i as bs d1 d2
    obtain⟨c,h⟩:=h.iff
    obtain⟨a,xs,e1,q1,_,r1⟩:=hx.lst d1
    obtain⟨b,ys,e2,q2,_,r2⟩:=hy.lst d2
    have l1:=r1.length
    have l2:=r2.length
    have c':=of_decide_eq_true c
    refine go aFl ⟨a,b,xs,ys,e1,e2,q1,q2,eV (by omega),λp hp t'=>h _ _ t' (Ro.fresh hp t' rfl rfl S ?_)⟩
    refine Reps.append ((fN r1).weak λa z=>z.mono (λhp=>?_) λj hj=>List.mem_append_left _ hj) ((fN r2).weak λa z=>z.mono (λhp=>?_) λj hj=>List.mem_append_right _ hj)
    . show(_||_)=true
      rw[hp];rfl
    . show(_||_)=true
      rw[hp,Bool.or_true]
  . exact h.elim
 | Mult=>
  have h:RE (aBp x y) (Wn X RT Y old σ σV H Q):=h
  unfold aBp at h
  split at h
  . rename_i i j d1 d2
    obtain⟨c,h⟩:=h.iff
    refine go aHl ⟨i,j,hx.int d1,hy.int d2,?_,λ_=>Wn.val h t λ_=>rfl⟩
    simp only[eQ,Bool.or_eq_true,bA,decide_eq_true_eq] at c
    exact c
  . rename_i i j d1 d2
    obtain⟨c,h⟩:=h.iff
    simp only[bA,decide_eq_true_eq] at c
    exact go aFn ⟨i,j,hx.str d1,hy.int d2,c.1,c.2,λ_=>Wn.val h t λ_=>rfl⟩
  . rename_i as k d1 d2
    obtain⟨c,h⟩:=h.iff
    simp only[bA,decide_eq_true_eq] at c
    obtain⟨a,xs,e1,q1,_,r1⟩:=hx.lst d1
    obtain⟨a',xs',e1',q1'⟩:=hfr c.1.1.1
    rw[e1] at e1'
    cases e1'
    have e3:xs=xs':=I.list_inj q1 (SqL.of q1')
    subst e3
    have l1:=r1.length
    have hk:=c.1.1.2
    unfold aM at hk
    simp only[bA,decide_eq_true_eq] at hk
    have hk1:=hk.1
    have hk2:=hk.2
    refine go aHx ⟨a,k,xs,e1,hy.int d2,q1',by omega,by omega,eV (by rw[<-l1];exact c.1.2),λp hp t'=>h _ _ t' (Ro.fresh hp t' rfl rfl S ?_)⟩
    exact Reps.flat (Reps.free as xs c.2 r1) _
  . rename_i as k d1 d2
    obtain⟨c,h⟩:=h.iff
    simp only[bA,decide_eq_true_eq,Bool.not_eq_true',List.isEmpty_eq_false_iff] at c
    obtain⟨⟨⟨⟨c1,c2⟩,c3⟩,c4⟩,c5⟩:=c
    obtain⟨a,xs,e1,q1,r1⟩:=hx.tup d1
    have l1:=r1.length
    unfold aM at c2
    simp only[bA,decide_eq_true_eq] at c2
    have hk2:=c2.2
    have r2:=Reps.flat (Reps.free (ex':=exV RT Y old σ σV false []) as xs c5 r1) k.toNat
    refine go aFj ⟨a,k,xs,e1,hy.int d2,q1,λz=>c3 (List.length_eq_zero_iff.mp (by rw[l1,z];rfl)),c1,by omega,eV (by rw[<-l1];exact c4),λz t'=>?_,λ_ p hp t'=>h _ _ t' (Ro.tup hp rfl rfl r2)⟩
    subst z
    have e:∀{α:Type} (l:List α),(List.replicate (1:Int).toNat l).flatten=l:=λl=>by simp
    rw[e] at h
    rw[e,e] at r2
    exact h _ _ t' (Ro.cl (aR.refl H) ⟨a,xs,rfl,q1,r2⟩)
  . exact h.elim
 | Sub=>
  dsimp only[opD,vE] at h
  split at h
  . rename_i i j d1 d2
    exact go aHk ⟨i,j,hx.int d1,hy.int d2,λ_=>h.val t λ_=>rfl⟩
  . exact h.elim
 | FloorDiv=>
  dsimp only[opD,vE] at h
  split at h
  . rename_i i j d1 d2
    obtain⟨c,h⟩:=h.iff
    refine go aEU ⟨i,j,hx.int d1,hy.int d2,?_,λ_=>Wn.val h t λ_=>rfl⟩
    simp only[aAh,bA,decide_eq_true_eq] at c
    exact c
  . exact h.elim
 | Mod=>
  dsimp only[opD,vE] at h
  split at h
  . rename_i i j d1 d2
    obtain⟨c,h⟩:=h.iff
    exact go aHm ⟨i,j,hx.int d1,hy.int d2,of_decide_eq_true c,λ_=>Wn.val h t λ_=>rfl⟩
  . exact h.elim
 | Pow=>
  dsimp only[opD,vE] at h
  split at h
  . rename_i i j d1 d2
    obtain⟨c,h⟩:=h.iff
    refine go aHn ⟨i,j,hx.int d1,hy.int d2,?_,λ_=>Wn.val h t λ_=>rfl⟩
    simp only[aGu,bA,decide_eq_true_eq] at c
    exact⟨c.1.1,by omega,c.2⟩
  . exact h.elim
 | _=>exact h.elim
end
end Hp
end
noncomputable section
namespace Hp
open PySem PySem.Spec PyProof.Rows L2 PySem.SeqAt
def iA(n:Nat)(ds es:List D)(j:Nat):Bool:=match ds[j]?,es[j]? with
 | some x,some y=>(eqF n x y).getD false
 | _,_=>false
theorem aAj:∀{n:Nat} {ds es:List D} {k:Bool},fK n ds es=some k->∀{j:Nat} {x y:D},ds[j]? = some x->es[j]? = some y->∃b,eqF n x y=some b
 | n,[],es,k,h,j,x,y,e1,e2=>by simp at e1
 | n,d::ds,[],k,h,j,x,y,e1,e2=>by simp at e2
 | n,d::ds,e::es,k,h,j,x,y,e1,e2=>by
  rw[fK] at h
  cases h1:eqF n d e with
  | none=>rw[h1] at h;simp at h
  | some b=>
   cases h2:fK n ds es with
   | none=>rw[h1,h2] at h;simp at h
   | some b'=>
    cases j with
    | zero=>simp at e1 e2;subst e1 e2;exact⟨b,h1⟩
    | succ j=>exact aAj h2 (by simpa using e1) (by simpa using e2)
theorem oE:∀{n:Nat} {ds es:List D} {k:Bool},fK n ds es=some k->k=((List.range (min ds.length es.length)).all (iA n ds es)&&ds.length==es.length)
 | n,[],[],k,h=>by simp[fK] at h;simp[<-h]
 | n,[],e::es,k,h=>by simp[fK] at h;simp[<-h]
 | n,d::ds,[],k,h=>by simp[fK] at h;simp[<-h]
 | n,d::ds,e::es,k,h=>by
  rw[fK] at h
  cases h1:eqF n d e with
  | none=>rw[h1] at h;simp at h
  | some b=>
   cases h2:fK n ds es with
   | none=>rw[h1,h2] at h;simp at h
   | some b'=>
    rw[h1,h2] at h
    have hk:(b&&b')=k:=Option.some.inj h
    have ih:=oE h2
    have e0:iA n (d::ds) (e::es) 0=b:=by simp[iA,h1]
    have es':∀j,iA n (d::ds) (e::es) (j+1)=iA n ds es j:=λj=>by simp[iA]
    have hm:min (d::ds).length (e::es).length=min ds.length es.length+1:=by simp only[lC];omega
    rw[hm,List.range_succ_eq_map,List.all_cons,e0,List.all_map]
    have:(iA n (d::ds) (e::es))∘Nat.succ=iA n ds es:=funext λj=>es' j
    rw[this,<-hk,ih]
    simp[Bool.and_assoc]
section
variable {X:Cx} {σV:L2.St} {H:Hp} {s:Shared} {pins:List (Addr×Obj)}
theorem _root_.L2.Inv.lt_ne(I:L2.Inv X pins σV H s){a:Addr}{xs ys:List V}(h1:SqL X.K H a xs)(h2:SqT X.K H a ys):False:=by
 obtain⟨its,_,pl,_⟩:=I.list h1
 obtain⟨its2,_,pt,_⟩:=I.tuple h2
 exact ne_of_list_tuple pl.isList (show s.heap.IsTuple a its2.toArray from pt) rfl
theorem aCX{n:Nat}{ds:List (D×D)}{e:D}{k:Bool}(h:eqF (n+1) (.dic ds) e=some k):False:=by
 unfold eqF at h
 split at h <;> first|(cases h;done)|(rename_i e1 e2;cases e1;done)|(rename_i e1;cases e1;done)
mutual
theorem tF(I:L2.Inv X pins σV H s):∀(n:Nat) (d e:D) (u:V) (k:Bool) (ex ex':Addr->Prop),Rep X.K H ex d u->Rep X.K H ex' e u->eqF n d e=some k->k=true
 | 0,d,e,u,k,_,_,_,_,h=>by simp[eqF] at h
 | n+1,.non,e,u,k,_,_,h1,h2,h=>by
  rw[show u=.non from h1] at h2
  cases e with
  | non=>simpa[eqF] using h.symm
  | tup ds=>obtain⟨a,xs,z,_⟩:=h2;cases z
  | lst ds=>obtain⟨a,xs,z,_⟩:=h2;cases z
  | dic ds=>obtain⟨a,xs,z,_⟩:=h2;cases z
  | err _ _=>exact h2.elim
  | bl b=>cases(show V.non=.bl b from h2)
  | int b=>cases(show V.non=.int b from h2)
  | str b=>cases(show V.non=.str b from h2)
 | n+1,.bl b,e,u,k,_,_,h1,h2,h=>by
  rw[show u=.bl b from h1] at h2
  cases e with
  | bl b'=>cases(show V.bl b=.bl b' from h2);simpa[eqF] using h.symm
  | tup ds=>obtain⟨a,xs,z,_⟩:=h2;cases z
  | lst ds=>obtain⟨a,xs,z,_⟩:=h2;cases z
  | dic ds=>obtain⟨a,xs,z,_⟩:=h2;cases z
  | err _ _=>exact h2.elim
  | non=>cases(show V.bl b=.non from h2)
  | int b'=>cases(show V.bl b=.int b' from h2)
  | str b'=>cases(show V.bl b=.str b' from h2)
 | n+1,.int b,e,u,k,_,_,h1,h2,h=>by
  rw[show u=.int b from h1] at h2
  cases e with
  | int b'=>cases(show V.int b=.int b' from h2);simpa[eqF] using h.symm
  | tup ds=>obtain⟨a,xs,z,_⟩:=h2;cases z
  | lst ds=>obtain⟨a,xs,z,_⟩:=h2;cases z
  | dic ds=>obtain⟨a,xs,z,_⟩:=h2;cases z
  | err _ _=>exact h2.elim
  | non=>cases(show V.int b=.non from h2)
  | bl b'=>cases(show V.int b=.bl b' from h2)
  | str b'=>cases(show V.int b=.str b' from h2)
 | n+1,.str b,e,u,k,_,_,h1,h2,h=>by
  rw[show u=.str b from h1] at h2
  cases e with
  | str b'=>cases(show V.str b=.str b' from h2);simpa[eqF] using h.symm
  | tup ds=>obtain⟨a,xs,z,_⟩:=h2;cases z
  | lst ds=>obtain⟨a,xs,z,_⟩:=h2;cases z
  | dic ds=>obtain⟨a,xs,z,_⟩:=h2;cases z
  | err _ _=>exact h2.elim
  | non=>cases(show V.str b=.non from h2)
  | bl b'=>cases(show V.str b=.bl b' from h2)
  | int b'=>cases(show V.str b=.int b' from h2)
 | n+1,.tup ds,e,u,k,ex,ex',h1,h2,h=>by
  obtain⟨a,xs,z,q,r⟩:=h1
  subst z
  cases e with
  | tup es=>
   obtain⟨a',ys,z,q',r'⟩:=h2
   cases z
   have:xs=ys:=I.tuple_inj q q'
   subst this
   exact eqs_same I n ds es xs k ex ex' r r' (by simpa[eqF] using h)
  | lst es=>
   obtain⟨a',ys,z,q',_,r'⟩:=h2
   cases z
   exact(I.lt_ne q' q).elim
  | dic ds=>simp[eqF] at h
  | err _ _=>exact h2.elim
  | non=>cases(show V.ref a=.non from h2)
  | bl b'=>cases(show V.ref a=.bl b' from h2)
  | int b'=>cases(show V.ref a=.int b' from h2)
  | str b'=>cases(show V.ref a=.str b' from h2)
 | n+1,.lst ds,e,u,k,ex,ex',h1,h2,h=>by
  obtain⟨a,xs,z,q,_,r⟩:=h1
  subst z
  cases e with
  | lst es=>
   obtain⟨a',ys,z,q',_,r'⟩:=h2
   cases z
   have:xs=ys:=I.list_inj q q'
   subst this
   have hl:ds.length=es.length:=r.length.trans r'.length.symm
   exact eqs_same I n ds es xs k ex ex' r r' (by simpa[eqF,hl] using h)
  | tup es=>
   obtain⟨a',ys,z,q',r'⟩:=h2
   cases z
   exact(I.lt_ne q q').elim
  | dic ds=>simp[eqF] at h
  | err _ _=>exact h2.elim
  | non=>cases(show V.ref a=.non from h2)
  | bl b'=>cases(show V.ref a=.bl b' from h2)
  | int b'=>cases(show V.ref a=.int b' from h2)
  | str b'=>cases(show V.ref a=.str b' from h2)
 | n+1,.dic ds,e,u,k,ex,ex',h1,h2,h=>by
  exact(aCX h).elim
 | n+1,.err _ _,e,u,k,ex,ex',h1,h2,h=>h1.elim
theorem eqs_same(I:L2.Inv X pins σV H s):∀(n:Nat) (ds es:List D) (us:List V) (k:Bool) (ex ex':Addr->Prop),Reps X.K H ex ds us->Reps X.K H ex' es us->fK n ds es=some k->k=true
 | n,[],[],us,k,_,_,h1,h2,h=>by simpa[fK] using h.symm
 | n,[],e::es,us,k,_,_,h1,h2,h=>by
  obtain⟨x,r,z,_⟩:=h2
  rw[show us=[] from h1] at z;cases z
 | n,d::ds,[],us,k,_,_,h1,h2,h=>by
  obtain⟨x,r,z,_⟩:=h1
  rw[show us=[] from h2] at z;cases z
 | n,d::ds,e::es,us,k,ex,ex',h1,h2,h=>by
  obtain⟨x,r,z,a1,b1⟩:=h1
  obtain⟨x',r',z',a2,b2⟩:=h2
  rw[z] at z'
  cases z'
  rw[fK] at h
  cases q1:eqF n d e with
  | none=>rw[q1] at h;simp at h
  | some b=>
   cases q2:fK n ds es with
   | none=>rw[q1,q2] at h;simp at h
   | some b'=>
    rw[q1,q2] at h
    have e1:=tF I n d e x b ex ex' a1 a2 q1
    have e2:=eqs_same I n ds es r b' ex ex' b1 b2 q2
    subst e1 e2
    simpa using h.symm
end
def Eq3(A:Around)(s:Shared)(v z:Value)(k:Bool):Prop:=EqAt A s v z k/\RcAt A s v z k/\RcNeAt A s v z (!k)
theorem aAk{xs:List V}{us:List Value}(r:aY xs us){j:Nat}(h:j<us.toArray.size):∃x,xs[j]? = some x/\cA x us.toArray[j]:=by
 have hl:=r.length
 have hj:j<xs.length:=by rw[List.size_toArray] at h;omega
 obtain⟨u,e,q⟩:=r.get (List.getElem?_eq_getElem hj)
 refine⟨xs[j],List.getElem?_eq_getElem hj,?_⟩
 have:us.toArray[j]=u:=by
  have e':us[j]? = some us.toArray[j]:=by simp[List.getElem?_eq_getElem (show j<us.length by simpa using h)]
  rw[e'] at e
  exact Option.some.inj e
 rw[this]
 exact q
theorem aBu(A:Around):A.in1.units=A.units+1:=rfl
theorem aFo(I:L2.Inv X pins σV H s):∀(n:Nat) (A:Around) (d e:D) (u w:V) (v z:Value) (k:Bool) (ex ex':Addr->Prop),A.units+n<cLine->Rep X.K H ex d u->Rep X.K H ex' e w->cA u v->cA w z->eqF n d e=some k->Eq3 A s v z k:=by
 intro n
 induction n with
 | zero=>intro A d e u w v z k ex ex' _ _ _ _ _ h;simp[eqF] at h
 | succ n ih=>
  intro A d e u w v z k ex ex' hA h1 h2 r1 r2 h
  have hu:A.units<cLine:=by omega
  have items:∀{ds es:List D} {xs ys:List V} {its its2:List Value} {k:Bool},Reps X.K H ex ds xs->Reps X.K H ex' es ys->aY xs its->aY ys its2->fK n ds es=some k ->
   ∀j (_:j<its.toArray.size) (_:j<its2.toArray.size),EqAt A.in1 s its.toArray[j] its2.toArray[j] (iA n ds es j):=by
   intro ds es xs ys its its2 k q1 q2 v1 v2 hk j hj1 hj2
   obtain⟨x,ex1,rx⟩:=aAk v1 hj1
   obtain⟨y,ey1,ry⟩:=aAk v2 hj2
   obtain⟨d',ed,rd⟩:=q1.get' ex1
   obtain⟨e',ee,re⟩:=q2.get' ey1
   obtain⟨b,hb⟩:=aAj hk ed ee
   have hj:iA n ds es j=b:=by simp[iA,ed,ee,hb]
   rw[hj]
   exact(ih A.in1 d' e' x y _ _ b ex ex' (by rw[aBu];omega) rd re rx ry hb).1
  cases d with
  | err _ _=>exact h1.elim
  | dic ds=>
   exact(aCX h).elim
  | non=>
   rw[show u=.non from h1] at r1
   cases r1
   cases e with
   | err _ _=>exact h2.elim
   | dic _=>simp[eqF] at h
   | non=>rw[show w=.non from h2] at r2;cases r2;simp[eqF] at h;subst h;exact⟨EqAt.same _,RcAt.none_none,RcNeAt.none_none⟩
   | bl b=>rw[show w=.bl b from h2] at r2;cases r2;simp[eqF] at h;subst h;exact⟨EqAt.none_bool _,RcAt.none_bool _,RcNeAt.none_bool _⟩
   | int b=>rw[show w=.int b from h2] at r2;obtain⟨t,rfl⟩:=r2;simp[eqF] at h;subst h;exact⟨EqAt.none_int _ _,RcAt.none_int _ _,RcNeAt.none_int _ _⟩
   | str b=>rw[show w=.str b from h2] at r2;obtain⟨t,rfl⟩:=r2;simp[eqF] at h;subst h;exact⟨EqAt.none_str _ _,RcAt.none_str _ _,RcNeAt.none_str _ _⟩
   | tup es=>
    obtain⟨b,ys,rfl,q,r⟩:=h2
    cases r2
    obtain⟨its,_,p,_⟩:=I.tuple q
    simp[eqF] at h;subst h
    exact⟨EqAt.none_tuple (show s.heap.IsTuple b its.toArray from p) hu,RcAt.none_tuple (show s.heap.IsTuple b its.toArray from p) hu,RcNeAt.none_tuple (show s.heap.IsTuple b its.toArray from p) hu⟩
   | lst es=>
    obtain⟨b,ys,rfl,q,_,r⟩:=h2
    cases r2
    obtain⟨its,_,p,_⟩:=I.list q
    simp[eqF] at h;subst h
    exact⟨EqAt.none_list p.isList hu,RcAt.none_list p.isList hu,RcNeAt.none_list p.isList hu⟩
  | bl a=>
   rw[show u=.bl a from h1] at r1
   cases r1
   cases e with
   | err _ _=>exact h2.elim
   | dic _=>simp[eqF] at h
   | non=>rw[show w=.non from h2] at r2;cases r2;simp[eqF] at h;subst h;exact⟨EqAt.bool_none _,RcAt.bool_none _,RcNeAt.bool_none _⟩
   | bl b=>rw[show w=.bl b from h2] at r2;cases r2;simp only[eqF,Option.some.injEq] at h;subst h;exact⟨EqAt.bool_bool _ _,RcAt.bool_bool _ _,RcNeAt.bool_bool _ _⟩
   | int b=>rw[show w=.int b from h2] at r2;obtain⟨t,rfl⟩:=r2;simp only[eqF,Option.some.injEq] at h;subst h;exact⟨EqAt.bool_int _ _ _,RcAt.bool_int _ _ _,RcNeAt.bool_int _ _ _⟩
   | str b=>rw[show w=.str b from h2] at r2;obtain⟨t,rfl⟩:=r2;simp[eqF] at h;subst h;exact⟨EqAt.bool_str _ _ _,RcAt.bool_str _ _ _,RcNeAt.bool_str _ _ _⟩
   | tup es=>
    obtain⟨b,ys,rfl,q,r⟩:=h2
    cases r2
    obtain⟨its,_,p,_⟩:=I.tuple q
    simp[eqF] at h;subst h
    exact⟨EqAt.bool_tuple _ (show s.heap.IsTuple b its.toArray from p) hu,RcAt.bool_tuple _ (show s.heap.IsTuple b its.toArray from p) hu,RcNeAt.bool_tuple _ (show s.heap.IsTuple b its.toArray from p) hu⟩
   | lst es=>
    obtain⟨b,ys,rfl,q,_,r⟩:=h2
    cases r2
    obtain⟨its,_,p,_⟩:=I.list q
    simp[eqF] at h;subst h
    exact⟨EqAt.bool_list _ p.isList hu,RcAt.bool_list _ p.isList hu,RcNeAt.bool_list _ p.isList hu⟩
  | int a=>
   rw[show u=.int a from h1] at r1
   obtain⟨t1,rfl⟩:=r1
   cases e with
   | err _ _=>exact h2.elim
   | dic _=>simp[eqF] at h
   | non=>rw[show w=.non from h2] at r2;cases r2;simp[eqF] at h;subst h;exact⟨EqAt.int_none _ _,RcAt.int_none _ _,RcNeAt.int_none _ _⟩
   | bl b=>rw[show w=.bl b from h2] at r2;cases r2;simp only[eqF,Option.some.injEq] at h;subst h;exact⟨EqAt.int_bool _ _ _,RcAt.int_bool _ _ _,RcNeAt.int_bool _ _ _⟩
   | int b=>rw[show w=.int b from h2] at r2;obtain⟨t,rfl⟩:=r2;simp only[eqF,Option.some.injEq] at h;subst h;exact⟨EqAt.int_int _ _ _ _,RcAt.int_int _ _ _ _,RcNeAt.int_int _ _ _ _⟩
   | str b=>rw[show w=.str b from h2] at r2;obtain⟨t,rfl⟩:=r2;simp[eqF] at h;subst h;exact⟨EqAt.int_str _ _ _ _,RcAt.int_str _ _ _ _,RcNeAt.int_str _ _ _ _⟩
   | tup es=>
    obtain⟨b,ys,rfl,q,r⟩:=h2
    cases r2
    obtain⟨its,_,p,_⟩:=I.tuple q
    simp[eqF] at h;subst h
    exact⟨EqAt.int_tuple _ _ (show s.heap.IsTuple b its.toArray from p) hu,RcAt.int_tuple _ _ (show s.heap.IsTuple b its.toArray from p) hu,RcNeAt.int_tuple _ _ (show s.heap.IsTuple b its.toArray from p) hu⟩
   | lst es=>
    obtain⟨b,ys,rfl,q,_,r⟩:=h2
    cases r2
    obtain⟨its,_,p,_⟩:=I.list q
    simp[eqF] at h;subst h
    exact⟨EqAt.int_list _ _ p.isList hu,RcAt.int_list _ _ p.isList hu,RcNeAt.int_list _ _ p.isList hu⟩
  | str a=>
   rw[show u=.str a from h1] at r1
   obtain⟨t1,rfl⟩:=r1
   cases e with
   | err _ _=>exact h2.elim
   | dic _=>simp[eqF] at h
   | non=>rw[show w=.non from h2] at r2;cases r2;simp[eqF] at h;subst h;exact⟨EqAt.str_none _ _,RcAt.str_none _ _,RcNeAt.str_none _ _⟩
   | bl b=>rw[show w=.bl b from h2] at r2;cases r2;simp[eqF] at h;subst h;exact⟨EqAt.str_bool _ _ _,RcAt.str_bool _ _ _,RcNeAt.str_bool _ _ _⟩
   | int b=>rw[show w=.int b from h2] at r2;obtain⟨t,rfl⟩:=r2;simp[eqF] at h;subst h;exact⟨EqAt.str_int _ _ _ _,RcAt.str_int _ _ _ _,RcNeAt.str_int _ _ _ _⟩
   | str b=>rw[show w=.str b from h2] at r2;obtain⟨t,rfl⟩:=r2;simp only[eqF,Option.some.injEq] at h;subst h;exact⟨EqAt.str_str _ _ _ _,RcAt.str_str _ _ _ _,RcNeAt.str_str _ _ _ _⟩
   | tup es=>
    obtain⟨b,ys,rfl,q,r⟩:=h2
    cases r2
    obtain⟨its,_,p,_⟩:=I.tuple q
    simp[eqF] at h;subst h
    exact⟨EqAt.str_tuple _ _ (show s.heap.IsTuple b its.toArray from p) hu,RcAt.str_tuple _ _ (show s.heap.IsTuple b its.toArray from p) hu,RcNeAt.str_tuple _ _ (show s.heap.IsTuple b its.toArray from p) hu⟩
   | lst es=>
    obtain⟨b,ys,rfl,q,_,r⟩:=h2
    cases r2
    obtain⟨its,_,p,_⟩:=I.list q
    simp[eqF] at h;subst h
    exact⟨EqAt.str_list _ _ p.isList hu,RcAt.str_list _ _ p.isList hu,RcNeAt.str_list _ _ p.isList hu⟩
  | tup ds=>
   have h1':=h1
   obtain⟨a,xs,rfl,q1,rp1⟩:=h1
   cases r1
   obtain⟨its1,v1,p1,_⟩:=I.tuple q1
   have p1':s.heap.IsTuple a its1.toArray:=p1
   cases e with
   | err _ _=>exact h2.elim
   | dic _=>simp[eqF] at h
   | non=>rw[show w=.non from h2] at r2;cases r2;simp[eqF] at h;subst h;exact⟨EqAt.tuple_none p1' hu,RcAt.tuple_none p1' hu,RcNeAt.tuple_none p1' hu⟩
   | bl b=>rw[show w=.bl b from h2] at r2;cases r2;simp[eqF] at h;subst h;exact⟨EqAt.tuple_bool _ p1' hu,RcAt.tuple_bool _ p1' hu,RcNeAt.tuple_bool _ p1' hu⟩
   | int b=>rw[show w=.int b from h2] at r2;obtain⟨t,rfl⟩:=r2;simp[eqF] at h;subst h;exact⟨EqAt.tuple_int _ _ p1' hu,RcAt.tuple_int _ _ p1' hu,RcNeAt.tuple_int _ _ p1' hu⟩
   | str b=>rw[show w=.str b from h2] at r2;obtain⟨t,rfl⟩:=r2;simp[eqF] at h;subst h;exact⟨EqAt.tuple_str _ _ p1' hu,RcAt.tuple_str _ _ p1' hu,RcNeAt.tuple_str _ _ p1' hu⟩
   | tup es=>
    have h2':=h2
    obtain⟨b,ys,rfl,q2,rp2⟩:=h2
    cases r2
    obtain⟨its2,v2,p2,_⟩:=I.tuple q2
    have hk:fK n ds es=some k:=by simpa[eqF] using h
    have hv:=oE hk
    have l1:its1.toArray.size=ds.length:=by rw[List.size_toArray,<-v1.length,rp1.length]
    have l2:its2.toArray.size=es.length:=by rw[List.size_toArray,<-v2.length,rp2.length]
    have rc:RcAt A s (.ref a) (.ref b) k:=by
     rw[hv,<-l1,<-l2]
     exact RcAt.tuples p1' (show s.heap.IsTuple b its2.toArray from p2) hu (items rp1 rp2 v1 v2 hk)
    have rn:RcNeAt A s (.ref a) (.ref b) (!k):=by
     rw[hv,<-l1,<-l2]
     exact RcNeAt.tuples p1' (show s.heap.IsTuple b its2.toArray from p2) hu (items rp1 rp2 v1 v2 hk)
    refine⟨?_,rc,rn⟩
    by_cases hab:a=b
    . subst hab
      have:=tF I (n+1) (.tup ds) (.tup es) (.ref a) k ex ex' h1' h2' h
      subst this
      exact EqAt.same _
    . exact EqAt.of_refs hab rc
   | lst es=>
    obtain⟨b,ys,rfl,q2,_,rp2⟩:=h2
    cases r2
    obtain⟨its2,v2,p2,_⟩:=I.list q2
    simp[eqF] at h;subst h
    exact⟨EqAt.tuple_list p1' p2.isList hu,RcAt.tuple_list p1' p2.isList hu,RcNeAt.tuple_list p1' p2.isList hu⟩
  | lst ds=>
   have h1':=h1
   obtain⟨a,xs,rfl,q1,_,rp1⟩:=h1
   cases r1
   obtain⟨its1,v1,p1,_⟩:=I.list q1
   have p1':=p1.isList
   cases e with
   | err _ _=>exact h2.elim
   | dic _=>simp[eqF] at h
   | non=>rw[show w=.non from h2] at r2;cases r2;simp[eqF] at h;subst h;exact⟨EqAt.list_none p1' hu,RcAt.list_none p1' hu,RcNeAt.list_none p1' hu⟩
   | bl b=>rw[show w=.bl b from h2] at r2;cases r2;simp[eqF] at h;subst h;exact⟨EqAt.list_bool _ p1' hu,RcAt.list_bool _ p1' hu,RcNeAt.list_bool _ p1' hu⟩
   | int b=>rw[show w=.int b from h2] at r2;obtain⟨t,rfl⟩:=r2;simp[eqF] at h;subst h;exact⟨EqAt.list_int _ _ p1' hu,RcAt.list_int _ _ p1' hu,RcNeAt.list_int _ _ p1' hu⟩
   | str b=>rw[show w=.str b from h2] at r2;obtain⟨t,rfl⟩:=r2;simp[eqF] at h;subst h;exact⟨EqAt.list_str _ _ p1' hu,RcAt.list_str _ _ p1' hu,RcNeAt.list_str _ _ p1' hu⟩
   | lst es=>
    have h2':=h2
    obtain⟨b,ys,rfl,q2,_,rp2⟩:=h2
    cases r2
    obtain⟨its2,v2,p2,_⟩:=I.list q2
    have l1:its1.toArray.size=ds.length:=by rw[List.size_toArray,<-v1.length,rp1.length]
    have l2:its2.toArray.size=es.length:=by rw[List.size_toArray,<-v2.length,rp2.length]
    have both:RcAt A s (.ref a) (.ref b) k/\RcNeAt A s (.ref a) (.ref b) (!k):=by
     by_cases hl:ds.length=es.length
     . have hk:fK n ds es=some k:=by simpa[eqF,hl] using h
       have hv:=oE hk
       rw[<-hl,Nat.min_self,beq_self_eq_true,Bool.and_true,<-l1] at hv
       rw[hv]
       exact⟨RcAt.lists p1' p2.isList (by rw[l1,l2,hl]) hu (items rp1 rp2 v1 v2 hk),RcNeAt.lists p1' p2.isList (by rw[l1,l2,hl]) hu (items rp1 rp2 v1 v2 hk)⟩
     . have hk:k=false:=by simpa[eqF,hl] using h.symm
       subst hk
       have hz:(its1.toArray.size != its2.toArray.size)=true:=by rw[l1,l2];simpa using hl
       exact⟨RcAt.lists_lengths p1' p2.isList hz hu,RcNeAt.lists_lengths p1' p2.isList hz hu⟩
    refine⟨?_,both.1,both.2⟩
    by_cases hab:a=b
    . subst hab
      have:=tF I (n+1) (.lst ds) (.lst es) (.ref a) k ex ex' h1' h2' h
      subst this
      exact EqAt.same _
    . exact EqAt.of_refs hab both.1
   | tup es=>
    obtain⟨b,ys,rfl,q2,rp2⟩:=h2
    cases r2
    obtain⟨its2,v2,p2,_⟩:=I.tuple q2
    have p2':s.heap.IsTuple b its2.toArray:=p2
    simp[eqF] at h;subst h
    exact⟨EqAt.list_tuple p1' p2' hu,RcAt.list_tuple p1' p2' hu,RcNeAt.list_tuple p1' p2' hu⟩
end
end Hp
end
noncomputable section
namespace HT
open PySem PyProof.Rows
section
open PySem.SeqAt
open PySem.AutoSeq1 (wpAny_loadPart')
open PySem.MeetsSeq PySem.MeetsSeq2 PySem.MeetsSeq3
end
section
variable {prog:Program} {w:World} {A:Around} {E:Value->Shared->Prop} {s:Shared}
end
end HT
end
noncomputable section
namespace Hp
open PySem PySem.Spec PyProof.Rows L2 PySem.SeqAt
section
variable {X:Cx} {RT Y old:Addr->Prop} {σ:Sg} {σV:L2.St} {H:Hp} {s:Shared} {pins:List (Addr×Obj)} {Q:VK} {ux uy:V} {vx vy:Value} {x y:Vl}
theorem aBv{o:CmpOp}{k:Bool}{σV2:L2.St}(I:L2.Inv X pins σV H s)(hA:X.A.units+200<cLine)(rx:cA ux vx)(ry:cA uy vy)(hx:Rv X.K RT Y old σ σV2 H x ux)(hy:Rv X.K RT Y old σ σV2 H y uy)
 (h:dJ o x.d y.d=some k) (q:Q (.bl k) H):wpAny (model X.prog X.w) X.A (compareOp o vx vy) (EP X pins σV Q) X.xe s:=by
 have hu:X.A.units<cLine:=by omega
 have fin:EP X pins σV Q (.bool k) s:=⟨.bl k,H,I,rfl,q⟩
 have hD:sZ=120:=rfl
 have go:∀{f:Value->Value->Sem Value} {r:R2},OpR X f r->r ux uy H Q->wpAny (model X.prog X.w) X.A (f vx vy) (EP X pins σV Q) X.xe s:=λhr q=>hr pins s σV H ux uy vx vy Q I rx ry q
 have e3:∀{b:Bool},eqD x.d y.d=some b->Eq3 X.A s vx vy b:=λ{b} hb=>aFo I sZ X.A x.d y.d ux uy vx vy b _ _ (by omega) hx hy rx ry hb
 cases o with
 | Eq=>exact(e3 h).2.1 X.prog X.w X.xe _ fin
 | NotEq=>
  simp only[dJ,Option.map_eq_some_iff] at h
  obtain⟨b,hb,e⟩:=h
  subst e
  exact(e3 hb).2.2 X.prog X.w X.xe _ fin
 | Lt=>
  simp only[dJ] at h
  unfold ltD at h
  split at h
  . rename_i a b d1 d2
    exact go aJx ⟨a,b,hx.int d1,hy.int d2,by show Q (.bl (decide (a<b))) H;rw[Option.some.inj h];exact q⟩
  . cases h
 | Gt=>
  simp only[dJ] at h
  split at h
  . rename_i a b d1 d2
    exact go aJz ⟨a,b,hx.int d1,hy.int d2,by show Q (.bl (decide (b<a))) H;rw[Option.some.inj h];exact q⟩
  . cases h
 | LtE=>
  simp only[dJ] at h
  unfold leD at h
  split at h
  . rename_i a b d1 d2
    exact go aJy ⟨a,b,hx.int d1,hy.int d2,by show Q (.bl (decide (a<=b))) H;rw[Option.some.inj h];exact q⟩
  . cases h
 | GtE=>
  simp only[dJ] at h
  split at h
  . rename_i a b d1 d2
    exact go aJA ⟨a,b,hx.int d1,hy.int d2,by show Q (.bl (decide (b<=a))) H;rw[Option.some.inj h];exact q⟩
  . cases h
 | Is=>
  simp only[dJ] at h
  split at h
  . rename_i d2
    refine go aHp ⟨hy.non d2,?_⟩
    have:decide (ux=V.non)=k:=by
     rw[<-Option.some.inj h]
     unfold isNone
     split
     . rename_i d1;rw[hx.non d1];simp
     . rename_i d1
       refine decide_eq_false λz=>?_
       rw[z] at hx
       unfold Rv at hx
       cases q':x.d with
       | non=>exact d1 q'
       | _=>rw[q'] at hx;first|(obtain⟨a,xs,z',_⟩:=hx;cases z')|exact hx.elim|injection hx
    rw[this]
    exact q
  . cases h
 | IsNot=>
  simp only[dJ] at h
  split at h
  . rename_i d2
    refine go sC ⟨hy.non d2,?_⟩
    have:(!decide (ux=V.non))=k:=by
     rw[<-Option.some.inj h]
     unfold isNone
     split
     . rename_i d1;rw[hx.non d1];simp
     . rename_i d1
       rw[decide_eq_false λz=>?_]
       rw[z] at hx
       unfold Rv at hx
       cases q':x.d with
       | non=>exact d1 q'
       | _=>rw[q'] at hx;first|(obtain⟨a,xs,z',_⟩:=hx;cases z')|exact hx.elim|injection hx
    rw[this]
    exact q
  . cases h
 | In=>
  simp only[dJ] at h
  unfold inD at h
  split at h
  . rename_i a b d1 d2
    exact go aBi ⟨a,b,hx.str d1,hy.str d2,by rw[show(!(Builtin.Str.occurrences b a 0 b.length 1).isEmpty)=k from Option.some.inj h];exact q⟩
  . cases h
 | NotIn=>
  simp only[dJ,Option.map_eq_some_iff] at h
  obtain⟨k',h,ek⟩:=h
  subst ek
  unfold inD at h
  split at h
  . rename_i a b d1 d2
    exact go sN ⟨a,b,hx.str d1,hy.str d2,by rw[show(!(Builtin.Str.occurrences b a 0 b.length 1).isEmpty)=k' from Option.some.inj h];exact q⟩
  . cases h
end
end Hp
end
noncomputable section
namespace Hp
open PySem PySem.Spec PyProof.Rows L2
section
variable {X:Cx} {RT Y old:Addr->Prop} {σ:Sg} {σV:L2.St} {H:Hp} {s:Shared} {pins:List (Addr×Obj)} {Q:VK} {ux uy:V} {vx vy:Value} {x y:Vl}
theorem tG(n:Nat)(k:Int):Hp.ixN n k=L2.ixN n k:=rfl
theorem Rv.ofSub{d:D}{u:V}(h:Rep X.K H (exV RT Y old σ σV x.pa x.al) d u):Ro X.K RT Y old σ σV H H (x.sub d) u:=by
 refine Ro.plain (aR.refl H) ?_ (Rv.sub (ds:=[]) (xs:=[]) (j:=0) h)
 unfold Vl.sub Vl.cl
 split <;> rfl
theorem aBw(t:Tk X.K H)(hx:Rv X.K RT Y old σ σV H x ux)(hy:Rv X.K RT Y old σ σV H y uy)(h:RE (bM x y) (Wn X RT Y old σ σV H Q)):rIx X.K ux uy H (λv H'=>Tk X.K H'->Q v H'):=by
 unfold bM at h
 split at h
 . rename_i ds k d1 d2
   obtain⟨a,xs,e,q,_,r⟩:=hx.lst d1
   cases hj:Hp.ixN ds.length k with
   | none=>rw[hj] at h;exact h.elim
   | some j=>
    rw[hj] at h
    cases hd:ds[j]? with
    | none=>simp only[hd] at h;exact h.elim
    | some d=>
     simp only[hd] at h
     obtain⟨v,hv,rv⟩:=r.get hd
     refine .inl ⟨a,xs,k,v,e,hy.int d2,q,?_,λt'=>h v H t' (Rv.ofSub rv)⟩
     unfold atI
     rw[<-r.length,<-tG,hj]
     exact hv
 . rename_i ds k d1 d2
   obtain⟨a,xs,e,q,r⟩:=hx.tup d1
   cases hj:Hp.ixN ds.length k with
   | none=>rw[hj] at h;exact h.elim
   | some j=>
    rw[hj] at h
    cases hd:ds[j]? with
    | none=>simp only[hd] at h;exact h.elim
    | some d=>
     simp only[hd] at h
     obtain⟨v,hv,rv⟩:=r.get hd
     refine .inr (.inl ⟨a,xs,k,v,e,hy.int d2,q,?_,λt'=>h v H t' (Rv.ofSub rv)⟩)
     unfold atI
     rw[<-r.length,<-tG,hj]
     exact hv
 . rename_i z k d1 d2
   obtain⟨c,h⟩:=h.iff
   have c':=of_decide_eq_true c
   cases hj:Hp.ixN z.length k with
   | none=>rw[hj] at h;exact h.elim
   | some j=>
    rw[hj] at h
    cases hd:z.cps.toList[j]? with
    | none=>simp only[hd] at h;exact h.elim
    | some c=>
     simp only[hd] at h
     refine .inr (.inr ⟨z,k,c,hx.str d1,hy.int d2,eV c',?_,λt'=>Wn.val h t' λ_=>rfl⟩)
     unfold atI
     have hl:z.cps.toList.length=z.length:=by simp[Str.length]
     rw[hl,<-tG,hj]
     exact hd
 . exact h.elim
theorem tH(n d:Nat)(o:Option Int):Hp.sIx n d o=HT.sIx n d o:=by cases o <;> rfl
theorem vM{K:Fg}{ex:Addr->Prop}{ds:List D}{xs:List V}(r:Reps K H ex ds xs)(lo hi:Option Int):Reps K H ex (cut ds lo hi) (uV xs lo hi):=by
 unfold cut uV
 rw[tH,tH,r.length]
 exact(r.drop _).take _
theorem jL{prog:Program}{w:World}{A:Around}{E:Value->Shared->Prop}{t sl:Addr}{items:Array Value}{vl vu:Value}{lo hi:Option Int}{Q:Value->Shared->Prop}(ht:IsTup s.heap t items)(hs:s.heap.IsSliceOf sl vl vu .none)(pl:IsPart vl lo)(pu:IsPart vu hi)
 (hw:HT.sIx items.size 0 lo=0/\HT.sIx items.size items.size hi=items.size) (h:Q (.ref t) s):wpAny (model prog w) A (getItem (.ref t) (.ref sl)) Q E s:=by
 obtain⟨os,hos,hcs,hds⟩:=id hs
 have hTs:s.TypeIs (.ref sl) "slice" := ⟨os,hos,hcs⟩
 unfold getItem
 try with_reducible refine wpAny_holding ?_
 first|refine wpAny_bind (wpAny_pure ?_)|skip
 refine wpAny_bind (wpAny_sequenceKey ht.typeIs (by decide) ?_)
 refine wpAny_bind (wpAny_callSpecial?_slot (name:=Str.ofString "__getitem__") ht.typeIs PyProof.Rows.slot_tuple_getitem
  (wpAny_call_entry PyProof.Rows.slot_tuple_getitem ht.typeIs entry_tuple_getitem ?_ (args_tuple_getitem _ _)))
 show wpAny _ _ (Builtin.Tuple.tupleItemsOf (.ref t) >>= _) _ _ s
 refine wpAny_bind (tupleItemsOf_ ht ?_)
 refine wpAny_bind (wpAny_typeOf hTs ?_)
 rw[if_pos (by decide)]
 refine wpAny_bind (HT.sliceApplied_gen hs pl pu ?_)
 have hyes:(((HT.sIx items.size 0 lo:Nat):Int)==0&&(1:Int)==1&&(HT.sIx items.size items.size hi-HT.sIx items.size 0 lo)==items.size)=true:=by
  rw[hw.1,hw.2]
  simp
 show wpAny _ _ (if (((HT.sIx items.size 0 lo:Nat):Int)==0&&(1:Int)==1&&(HT.sIx items.size items.size hi-HT.sIx items.size 0 lo)==items.size)=true then _ else _) _ _ s
 rw[if_pos hyes]
 unfold Builtin.Tuple.tupleIsExact
 refine wpAny_bind (wpAny_bind (wpAny_typeOf ht.typeIs (wpAny_pure ?_)))
 rw[if_pos (beq_self_eq_true _)]
 exact wpAny_bind (wpAny_rule (wpAny_pure ⟨_,rfl,wpAny_pure h⟩))
def vN(K:Fg):V->Option Int->Option Int->Hp->VK->Prop:=λx lo hi H Q=>∃a xs,x=.ref a/\SqT K H a xs/\(HT.sIx xs.length 0 lo=0/\HT.sIx xs.length xs.length hi=xs.length)/\Q (.ref a) H
theorem aFp:SlR X (vN X.K):=by
 intro pins s σ H x v vl vu lo hi sl Q I rx hs pl pu h
 obtain⟨a,xs,rfl,hx,hw,q⟩:=h
 cases rx
 obtain⟨its,r,ht,hz⟩:=I.tuple hx
 have hlen:its.toArray.size=xs.length:=by rw[List.size_toArray];exact r.length.symm
 refine⟨"tuple",_,PyProof.Rows.slot_tuple_getitem.lookup,ht.typeIs,?_⟩
 exact jL ht hs pl pu (by rw[hlen];exact hw) ⟨.ref a,H,I,rfl,q⟩
theorem aHJ:SlR X (λx lo hi H Q=>aCA X.K x lo hi H Q\/aCx X.K x lo hi H Q\/vN X.K x lo hi H Q\/aCT x lo hi H Q):=aFc.or (aHt.or (aFp.or aHG))
theorem aBx{α:Type}{xs:List α}{lo hi:Option Int}(h1:Hp.sIx xs.length 0 lo=0)(h2:Hp.sIx xs.length xs.length hi=xs.length):cut xs lo hi=xs:=by
 unfold cut
 rw[h1,h2,List.drop_zero,Nat.sub_zero,List.take_length]
theorem aBy{lo hi:Option Int}(S:Sx X.K RT Y old σ σV H)(t:Tk X.K H)(hx:Rv X.K RT Y old σ σV H x ux)(h:RE (eS x lo hi) (Wn X RT Y old σ σV H Q)) :
 aCA X.K ux lo hi H (λv H'=>Tk X.K H'->Q v H')\/aCx X.K ux lo hi H (λv H'=>Tk X.K H'->Q v H')\/vN X.K ux lo hi H (λv H'=>Tk X.K H'->Q v H')\/aCT ux lo hi H (λv H'=>Tk X.K H'->Q v H'):=by
 unfold eS at h
 split at h
 . rename_i ds d1
   obtain⟨a,xs,e,q,_,r⟩:=hx.lst d1
   refine .inl ⟨a,xs,e,q,λp hp t'=>h _ _ t' (Ro.fresh hp t' rfl rfl S ?_)⟩
   exact vM (fN r) lo hi
 . rename_i ds d1
   obtain⟨a,xs,e,q,r⟩:=hx.tup d1
   have r':=fN r
   by_cases hw:HT.sIx xs.length 0 lo=0/\HT.sIx xs.length xs.length hi=xs.length
   . refine .inr (.inr (.inl ⟨a,xs,e,q,hw,λt'=>h _ _ t' (Ro.plain (aR.refl H) rfl ?_)⟩))
     have e':cut ds lo hi=ds:=aBx (by rw[tH,r.length];exact hw.1) (by rw[tH,r.length];exact hw.2)
     unfold Rv
     show Rep X.K H _ (.tup (cut ds lo hi)) (.ref a)
     rw[e']
     exact⟨a,xs,rfl,q,r'⟩
   . exact .inr (.inl ⟨a,xs,e,q,hw,λp hp t'=>h _ _ t' (Ro.tup hp rfl rfl (vM r' lo hi))⟩)
 . rename_i a d1
   obtain⟨hl,h⟩:=h.iff
   have e:ux=.str a:=by
    have z:=hx
    unfold Rv at z
    rw[d1] at z
    exact z
   exact .inr (.inr (.inr ⟨a,e,eV (of_decide_eq_true hl),λt'=>h _ _ t' (Ro.cl (aR.refl H) rfl)⟩))
 . exact h.elim
def rBi(X:Cx)(b:Bi):List V->Hp->VK->Prop:=match b with
 | .len=>λxs H Q=>(∃p ys,xs=[.ref p]/\(SqL X.K H p ys\/SqT X.K H p ys)/\Q (.int ys.length) H)\/∃z,xs=[.str z]/\z.length<=sizeLine/\Q (.int z.length) H
 | .list=>λxs H Q=>∃p ys,xs=[.ref p]/\(SqL X.K H p ys\/SqT X.K H p ys)/\∀l,H l=none->Q (.ref l) (upd H l (.lst ys))
 | .tuple=>λxs H Q=>∃p ys,xs=[.ref p]/\((SqL X.K H p ys/\∀l,H l=none->Q (.ref l) (upd H l (.tup ys)))\/(SqT X.K H p ys/\Q (.ref p) H))
 | .int=>λxs H Q=>(∃i,xs=[.int i]/\Q (.int i) H)\/∃k,xs=[.bl k]/\Q (.int (if k then 1 else 0)) H
 | .repr=>λxs H Q=>∃(a:Addr) (ds:List D) (ex:Addr->Prop),xs=[.ref a]/\Rep X.K H ex (.tup ds) (.ref a)/\wt (.tup ds)<lim/\dpt (.tup ds)<=60/\Q (.str (vF (.tup ds))) H
 | _=>λ_ _ _=>False
def aGA:Bi->Value
 | .len=>.builtin "len" | .list=>.type "list" | .tuple=>.type "tuple" | .min=>.builtin "min" | .max=>.builtin "max" | .abs=>.builtin "abs" | .int=>.type "int" | .str=>.type "str"
 | .all=>.builtin "all" | .any=>.builtin "any" | .sum=>.builtin "sum" | .sorted=>.builtin "sorted" | .bool=>.type "bool" | .repr=>.builtin "repr"
theorem aFq(hc:X.calm=true)(hg:X.A.guards=some [])(hu:X.A.units+200<cLine)(b:Bi)(hb:aCR b=true):fM X (aGA b) (rBi X b):=by
 cases b with
 | len=>exact sO.or sP
 | list=>exact sQ
 | tuple=>exact qJ
 | int=>exact aBj
 | repr=>exact yK hg hu
 | _=>cases hb
theorem aCY{b:Bi}(hb:aCR b=true)(S:Sx X.K RT Y old σ σV H){vs:List Vl}{us:List V}(hv:Rvs X.K RT Y old σ σV H vs us)(h:RE (biD b vs) (Wn X RT Y old σ σV H Q)) :
 rBi X b us H (λv H'=>Tk X.K H'->Q v H'):=by
 unfold biD at h
 split at h
 . rename_i x
   obtain⟨u,r,e,hx,hr⟩:=hv
   rw[show r=[] from hr] at e
   subst e
   cases b with
   | len=>
    dsimp only[aBr] at h
    split at h
    . rename_i ds d1
      obtain⟨a,xs,e,q,_,r⟩:=hx.lst d1
      exact .inl ⟨a,xs,by rw[e],.inl q,λt'=>by rw[<-r.length];exact Wn.val h t' λ_=>rfl⟩
    . rename_i ds d1
      obtain⟨a,xs,e,q,r⟩:=hx.tup d1
      exact .inl ⟨a,xs,by rw[e],.inr q,λt'=>by rw[<-r.length];exact Wn.val h t' λ_=>rfl⟩
    . rename_i z d1
      obtain⟨c,h⟩:=h.iff
      exact .inr ⟨z,by rw[hx.str d1],eV (of_decide_eq_true c),λt'=>Wn.val h t' λ_=>rfl⟩
    . exact h.elim
   | list=>
    dsimp only[aBr] at h
    split at h
    . rename_i ds d1
      obtain⟨a,xs,e,q,_,r⟩:=hx.lst d1
      exact⟨a,xs,by rw[e],.inl q,λp hp t'=>h _ _ t' (Ro.fresh hp t' rfl rfl S (fN r))⟩
    . rename_i ds d1
      obtain⟨a,xs,e,q,r⟩:=hx.tup d1
      exact⟨a,xs,by rw[e],.inr q,λp hp t'=>h _ _ t' (Ro.fresh hp t' rfl rfl S (fN r))⟩
    . exact h.elim
   | tuple=>
    dsimp only[aBr] at h
    split at h
    . rename_i ds d1
      obtain⟨a,xs,e,q,_,r⟩:=hx.lst d1
      exact⟨a,xs,by rw[e],.inl ⟨q,λp hp t'=>h _ _ t' (Ro.tup hp rfl rfl (fN r))⟩⟩
    . rename_i ds d1
      obtain⟨a,xs,e,q,r⟩:=hx.tup d1
      exact⟨a,xs,by rw[e],.inr ⟨q,λt'=>h _ _ t' (Ro.plain (aR.refl H) rfl ⟨a,xs,rfl,q,r⟩)⟩⟩
    . exact h.elim
   | abs=>cases hb
   | int=>
    dsimp only[aBr] at h
    split at h
    . rename_i i d1
      exact .inl ⟨i,by rw[hx.int d1],λt'=>Wn.val h t' λ_=>rfl⟩
    . rename_i k d1
      exact .inr ⟨k,by rw[hx.bl d1],λt'=>Wn.val h t' λ_=>rfl⟩
    . exact h.elim
   | str=>cases hb
   | all=>cases hb
   | repr=>
    dsimp only[aBr] at h
    split at h
    . rename_i ds d1
      obtain⟨c,h⟩:=h.iff
      simp only[bA,decide_eq_true_eq] at c
      obtain⟨a,xs,e,q,r⟩:=hx.tup d1
      exact⟨a,ds,_,by rw[e],⟨a,xs,rfl,q,r⟩,c.1,c.2,λt'=>Wn.val h t' λ_=>rfl⟩
    . exact h.elim
   | bool=>cases hb
   | sum=>cases hb
   | any=>cases hb
   | sorted=>cases hb
   | min=>exact h.elim
   | max=>exact h.elim
 . rename_i x y
   obtain⟨u,r,e,hx,u',r',e',hy,hr⟩:=hv
   rw[show r'=[] from hr] at e'
   subst e' e
   cases b <;> first|exact h.elim|cases hb
 . exact h.elim
def vO:Cl->Option Value
 | .tInt=>some (.type "int")|.tBool=>some (.type "bool")|.tStr=>some (.type "str")|.tList=>some (.type "list")|.tTuple=>some (.type "tuple")|.tDict=>some (.type "dict")
 | _=>none
def tyD:D->Option String
 | .non=>some "NoneType" | .bl _=>some "bool" | .int _=>some "int" | .str _=>some "str" | .tup _=>some "tuple" | .lst _=>some "list" | .dic _=>some "dict" | .err _ _=>none
theorem gM(K:Fg)(P:Pg){c:Cl}{cv:Value}{d:D}{k:Bool}{T:String}(hc:vO c=some cv)(hT:tyD d=some T)(h:isI [c] P d=some k):PySem.W.kitOne K (.type T) cv=some k:=by
 cases c with
 | own c=>cases hc
 | tValueError=>cases hc
 | tInt=>cases hc;cases d <;> cases hT <;> simp[isI] at h <;> subst h <;> kernel_rfl
 | tBool=>cases hc;cases d <;> cases hT <;> simp[isI] at h <;> subst h <;> kernel_rfl
 | tStr=>cases hc;cases d <;> cases hT <;> simp[isI] at h <;> subst h <;> kernel_rfl
 | tList=>cases hc;cases d <;> cases hT <;> simp[isI] at h <;> subst h <;> kernel_rfl
 | tTuple=>cases hc;cases d <;> cases hT <;> simp[isI] at h <;> subst h <;> kernel_rfl
 | tDict=>cases hc;cases d <;> cases hT <;> simp[isI] at h <;> subst h <;> kernel_rfl
theorem aBz(P:Pg){c:Cl}{cv:Value}{k:Bool}(I:L2.Inv X pins σV H s)(rx:cA ux vx)(hx:Rv X.K RT Y old σ σV H x ux)(hc:vO c=some cv)(h:isI [c] P x.d=some k)(q:Q (.bl k) H) :
 wpAny (model X.prog X.w) X.A (PySem.call (.builtin "isinstance") [vx,cv]) (EP X pins σV Q) X.xe s:=by
 have fin:∀tk,EP X pins σV Q (.bool k) { s with toks:=tk }:=λtk=>⟨.bl k,H,I.tok tk,rfl,q⟩
 cases d:x.d with
 | non=>
  have e:=gM X.K P hc (by rw[d];rfl) h
  rw[hx.non d] at rx;cases rx
  exact PySem.W.kia_one PySem.W.kitx_none I.kIn True.intro e (λz=>nomatch z) fin
 | bl b=>
  have e:=gM X.K P hc (by rw[d];rfl) h
  rw[hx.bl d] at rx;cases rx
  exact PySem.W.kia_one PySem.W.kitx_bool I.kIn True.intro e (λz=>nomatch z) fin
 | int i=>
  have e:=gM X.K P hc (by rw[d];rfl) h
  rw[hx.int d] at rx;obtain⟨t,rfl⟩:=rx
  exact PySem.W.kia_one PySem.W.kitx_int I.kIn True.intro e (λz=>nomatch z) fin
 | str z=>
  have e:=gM X.K P hc (by rw[d];rfl) h
  rw[hx.str d] at rx;obtain⟨t,rfl⟩:=rx
  exact PySem.W.kia_one PySem.W.kitx_str I.kIn True.intro e (λz=>nomatch z) fin
 | tup ds=>
  have e:=gM X.K P hc (by rw[d];rfl) h
  obtain⟨a,xs,e1,p,_⟩:=hx.tup d
  subst e1
  cases rx
  obtain⟨its,_,t,_⟩:=I.tuple p
  obtain⟨o,h1,h2,_⟩:=t
  exact PySem.W.kia_one PySem.W.kitx_tuple I.kIn ⟨o,h1,h2⟩ e (λz=>nomatch z) fin
 | lst ds=>
  have e:=gM X.K P hc (by rw[d];rfl) h
  obtain⟨a,xs,e1,p,_⟩:=hx.lst d
  subst e1
  cases rx
  obtain⟨its,_,t,_⟩:=I.list p
  obtain⟨o,n,h1,h2,_⟩:=t
  exact PySem.W.kia_one PySem.W.kitx_list I.kIn ⟨o,h1,h2⟩ e (λz=>nomatch z) fin
 | dic kvs=>
  have e:=gM X.K P hc (by rw[d];rfl) h
  unfold Rv at hx
  rw[d] at hx
  obtain⟨a,ks,e1,p,_⟩:=hx
  subst e1
  cases rx
  obtain⟨_,_,vs,_,o,es,ep,h1,h2,_⟩:=(show eK X.prog X.w H s.heap a (.dK ks) from I.hok a _ p)
  exact PySem.W.kia_one PySem.W.kitx_dict I.kIn ⟨o,h1,h2.1⟩ e (λz=>nomatch z) fin
 | err _ _=>
  unfold Rv at hx
  rw[d] at hx
  exact hx.elim
end
end Hp
end
noncomputable section
namespace L2
open PySem PySem.Spec PyProof.Rows
def jM(cells:List (Str×Addr)):List (Str×NameKind)->List (Str×Addr)->List (Str×Addr)
 | [],acc=>acc
 | (n,k)::r,acc=>if k==.free then jM cells r ((n,(cells.lookup n).getD 0)::acc) else jM cells r acc
theorem clos_mem{cells:List (Str×Addr)}:∀{names:List (Str×NameKind)} {acc:List (Str×Addr)} {p:Str×Addr},p∈jM cells names acc->p∈acc\/((p.1,NameKind.free)∈names/\p.2=(cells.lookup p.1).getD 0)
 | [],_,_,h=>.inl h
 | (n,k)::r,acc,p,h=>by
  unfold jM at h
  by_cases hk:(k==NameKind.free)=true
  . rw[if_pos hk] at h
    rcases clos_mem h with q|q
    . rcases List.mem_cons.mp q with q|q
      . subst q
        have:k=.free:=eq_of_beq hk
        subst this
        exact .inr ⟨List.mem_cons_self,rfl⟩
      . exact .inl q
    . exact .inr ⟨List.mem_cons_of_mem _ q.1,q.2⟩
  . rw[if_neg hk] at h
    rcases clos_mem h with q|q
    . exact .inl q
    . exact .inr ⟨List.mem_cons_of_mem _ q.1,q.2⟩
theorem oF{cells:List (Str×Addr)}:∀{names:List (Str×NameKind)} {acc:List (Str×Addr)} {p:Str×Addr},p∈acc->p∈jM cells names acc
 | [],_,_,h=>h
 | (n,k)::r,acc,p,h=>by
  unfold jM
  by_cases hk:(k==NameKind.free)=true
  . rw[if_pos hk];exact oF (List.mem_cons_of_mem _ h)
  . rw[if_neg hk];exact oF h
theorem kO{cells:List (Str×Addr)}:∀{names:List (Str×NameKind)} {acc:List (Str×Addr)} {n:Str},(n,NameKind.free)∈names->(n,(cells.lookup n).getD 0)∈jM cells names acc
 | [],_,_,h=>by simp at h
 | (m,k)::r,acc,n,h=>by
  unfold jM
  rcases List.mem_cons.mp h with q|q
  . cases q
    rw[if_pos (by rfl:(NameKind.free==NameKind.free)=true)]
    exact oF List.mem_cons_self
  . by_cases hk:(k==NameKind.free)=true
    . rw[if_pos hk];exact kO q
    . rw[if_neg hk];exact kO q
theorem eW{α:Type}:∀{l:List (Str×α)} {x:Str} {a:α},(x,a)∈l->∃b,l.lookup x=some b
 | (y,b)::r,x,a,h=>by
  rw[List.lookup_cons]
  cases hx:x==y with
  | true=>exact⟨b,rfl⟩
  | false=>
   rcases List.mem_cons.mp h with q|q
   . cases q
     simp at hx
   . exact eW q
theorem dA{cells:List (Str×Addr)}{names:List (Str×NameKind)}(hh:∀n,(n,NameKind.free)∈names->∃c,cells.lookup n=some c){x:Str}{c:Addr}(h:(jM cells names []).lookup x=some c):cells.lookup x=some c:=by
 rcases clos_mem (PySem.mem_of_lookup h) with q|⟨q1,q2⟩
 . simp at q
 . obtain⟨c',e⟩:=hh x q1
   simp only at q2
   rw[e] at q2
   rw[e,q2];rfl
theorem gU{scope:Scope}{env:Env}(hh:∀n,(n,NameKind.free)∈scope.names->∃c,env.cells.lookup n=some c):closureFor scope env=pure (jM env.cells scope.names []):=by
 have go:∀(l:List (Str×NameKind)) (acc:List (Str×Addr)),(∀n,(n,NameKind.free)∈l->∃c,env.cells.lookup n=some c) ->
  (forIn l acc (λ(x:Str×NameKind) (r:List (Str×Addr))=>(match x with|(name,kind)=>if (kind==NameKind.free)=true then do let __do_lift<-cellOf env name;pure (ForInStep.yield ((name,__do_lift)::r)) else pure (ForInStep.yield r):Sem (ForInStep (List (Str×Addr))))))=(pure (jM env.cells l acc):Sem (List (Str×Addr))):=by
  intro l
  induction l with
  | nil=>intro acc _;rfl
  | cons p r ih=>
   intro acc hl
   obtain⟨n,k⟩:=p
   rw[List.forIn_cons]
   unfold jM
   by_cases hk:(k==NameKind.free)=true
   . have:k=.free:=eq_of_beq hk
     subst this
     obtain⟨c,e⟩:=hl n List.mem_cons_self
     have e':cellOf env n=pure c:=by unfold cellOf;rw[e]
     simp only[beq_self_eq_true,if_true,e']
     rw[e]
     exact ih _ λm hm=>hl m (List.mem_cons_of_mem _ hm)
   . simp only[hk,if_false]
     exact ih _ λm hm=>hl m (List.mem_cons_of_mem _ hm)
 unfold closureFor
 exact(bind_pure _).trans (go scope.names [] hh)
section
variable {prog:Program} {w:World} {A:Around} {R:Result->Shared->Prop} {s:Shared}
theorem iB{elt target iter:Expr}{ifs:List Expr}{scope:Scope}{pos:Pos}{it acc:Value}{env:Env}(I:Nat->Shared->Prop)
 (turn:∀n s,I n s->wpAny (model prog w) A (pyNext it) (λr s₁=>match r with
  | none=>R (.ok .next) s₁
  | some v=>wpAny (model prog w) A (letOwnedTupleGo target it v) (λ_ s₁'=>wpAny (model prog w) A (assign target env v) (λ_ s₂=>
   wpAny (model prog w) A (forIn ifs true λc r=>if r=true then do let ok<-isTrue c env (eval c env);pure (ForInStep.yield ok) else pure (ForInStep.yield r)) (λok s₃=>
    if ok=true then wpAny (model prog w) A (eval elt env) (λx s₄=>
     wpAny (model prog w) A (call (.builtin "list.append") [acc,x]) (λ_ s₅=>∃m,m<n/\I m s₅) (λ_ _=>False) s₄) (λ_ _=>False) s₃
    else ∃m,m<n/\I m s₃) (λ_ _=>False) s₂) (λ_ _=>False) s₁') (λ_ _=>False) s₁) (λ_ _=>False) s)
 (n:Nat) (h:I n s) :
 codeAny (model prog w) A (.compLoop (.ListComp elt [⟨target,iter,ifs,0⟩] scope pos) 0 it acc env) R s:=by
 refine codeAny_loop rfl I (λn s hI=>?_) n h
 show wpAny _ A ((compTurn (.ListComp elt [⟨target,iter,ifs,0⟩] scope pos) 0 it acc env).onRaise (λx=>do noteFrame x env;theTreesLotGoes x)) _ _ s
 refine wpAny_noted ?_
 rw[compTurn_list]
 refine wpAny_bind (wpAny_standAt (wpAny_bind (wpAny_mono (turn n s hI) (λr s₁ h₁=>?_) λ_ _ h'=>h'.elim)))
 cases r with
 | none=>exact wpAny_pure h₁
 | some v=>
  refine wpAny_bind (wpAny_mono h₁ (λ_ s₁' h₁'=>?_) λ_ _ h'=>h'.elim)
  refine wpAny_bind (wpAny_mono h₁' (λ_ s₂ h₂=>wpAny_bind (wpAny_mono h₂ (λok s₃ h₃=>?_) λ_ _ h'=>h'.elim)) λ_ _ h'=>h'.elim)
  cases ok with
  | false=>exact wpAny_pure ⟨rfl,h₃⟩
  | true=>
   exact wpAny_bind (wpAny_bind (wpAny_mono h₃ (λx s₄ h₄=>wpAny_bind (wpAny_mono h₄ (λ_ s₅ h₅=>wpAny_pure (wpAny_pure ⟨rfl,h₅⟩)) λ_ _ h'=>h'.elim)) λ_ _ h'=>h'.elim))
end
def eE(X:Cx)(scope:Scope)(N':List Str)(C:Addr)(s₀:Shared)(H₀:Hp)(ex:List Addr):Cx:=
 { X with env:=compEnvC scope (jM X.env.cells scope.names []) C X.env,N:=N',s₀:=s₀,H₀:=H₀,outer:=X.stack,ex:=ex,fn:=λ_=>false,pn:=[],xe:=λ_ _=>False }
def PTs(X:Cx)(ifs:List Expr)(t:TT):Prop:=
 ∀(pins:List (Addr×Obj)) (s:Shared) (σ:St) (H:Hp) (Q:Bool->Hp->Prop),Inv X pins σ H s->t σ H Q ->
  wpAny (model X.prog X.w) X.A (forIn ifs true λc r=>if r=true then do let ok<-isTrue c X.env (eval c X.env);pure (ForInStep.yield ok) else pure (ForInStep.yield r)) (TP X pins σ Q) X.xe s
theorem aFr{X:Cx}:PTs X [] (λ_ H Q=>Q true H):=λpins s σ H Q I h=>wpAny_pure ⟨H,I,h⟩
theorem aFs{X:Cx}{c:Expr}{t:TT}(h:PT X c t):PTs X [c] t:=λpins s σ H Q I hw=>wpAny_tests_one (h pins s σ H Q I hw)
structure dW (X:Cx) (scope:Scope) (k:Nat) (caps:List Nat) (N':List Str):Prop where
 kind:scope.kind=.function
 nocell:∀y∈scope.names,y.2≠.cell
 loc:∀y∈scope.names,y.2=.local->scope.names.lookup y.1=some .local
 free:∀n,(n,NameKind.free)∈scope.names->X.env.kindOf n=some .cell\/X.env.kindOf n=some .free
 len:N'.length=k+caps.length
 cap:∀j i,caps[j]? = some i->∃x,N'[k+j]? = some x/\X.N[i]? = some x/\scope.names.lookup x=some .free/\X.env.kindOf x=some .cell
 ndp:X.N.Nodup
def jY(k:Nat)(caps:List Nat)(σ:St):St:=List.replicate k none++caps.map λi=>(σ[i]?).getD none
def aCZ(k:Nat)(caps:List Nat)(wi:TI)(g:TG)(tt:TT)(te:TE):TE:=λσ H Q=>wi σ H λJ H1=>
 ∃W:Nat->Nat->List V->St->Hp->Prop,(∃m,W 0 m [] (jY k caps σ) H1)/\∀i m ys σ1 H,W i m ys σ1 H ->
  (J.stop i H/\ys.length<=sizeLine/\∀p,H p=none->Q (.ref p) (upd H p (.lst ys))) \/
  (J.go i H/\ys.length<sizeLine/\∀x H',J.yld i H x H'->g x σ1 H' λσ2 H2=>tt σ2 H2 λb H3=>
   if b=true then te σ2 H3 λy H4=>∃m',m'<m/\W (i+1) m' (ys++[y]) σ2 H4 else ∃m',m'<m/\W (i+1) m' ys σ2 H3)
theorem HOk.track{P:Program}{w:World}{H:Hp}{h:Heap}{a:Addr}{o:HO}(ok:HOk P w H h)(n:H a=none)(new:eK P w (upd H a o) h a o):HOk P w (upd H a o) h:=λb u e=>by
 by_cases hb:b=a
 . subst hb;rw[bW] at e;cases e;exact new
 . rw[aP hb] at e
   exact(ok b u e).stay (λ_ _ _ q=>q) (λc q=>by rw[aP (bR q n)];exact q) λc xs q=>by rw[aP (bR q n)];exact q
abbrev dZ(its:List Value)(n:Nat):Obj:={ cls:=.type "list",data:=.seq its.toArray n }
section
variable {X:Cx} {scope:Scope} {k:Nat} {caps:List Nat} {N':List Str} {pins:List (Addr×Obj)} {σ:St} {H:Hp} {s:Shared} {fp:List Addr}
theorem Inv.cellLt(I:Inv X pins σ H s){x:Str}{c:Addr}(e:X.env.cells.lookup x=some c):c<s.heap.objs.size:=by
 obtain⟨v,q⟩:=I.cell x c e
 exact q.lt
theorem fO:∀{l:List (Str×NameKind)} {x:Str} {k:NameKind},l.lookup x=some k->(x,k)∈l:=λh=>PySem.mem_of_lookup h
theorem relabel_lookup{env:Env}:∀{names:List (Str×NameKind)} {x:Str} {k:NameKind},
 (names.map λ(n,k)=>if (k==NameKind.free&&env.scope.kind==.function&&env.kindOf n==some .cell) then (n,NameKind.cell) else (n,k)).lookup x=some k ->
 (k=.cell/\names.lookup x=some .free/\env.kindOf x=some .cell)\/names.lookup x=some k
 | [],_,_,h=>by simp at h
 | (n,k')::r,x,k,h=>by
  have ih:=@relabel_lookup env r x k
  rw[mC] at h
  by_cases hc:(k'==NameKind.free&&env.scope.kind==.function&&env.kindOf n==some .cell)=true
  . simp only[hc,if_true,List.lookup_cons] at h ⊢
    cases hx:x==n with
    | true=>
     rw[hx] at h
     simp only at h ⊢
     simp only[bA] at hc
     have e1:k'=.free:=eq_of_beq hc.1.1
     have e2:env.kindOf n=some .cell:=eq_of_beq hc.2
     have e3:x=n:=eq_of_beq hx
     subst e3
     cases h
     exact .inl ⟨rfl,by rw[e1],e2⟩
    | false=>rw[hx] at h;exact ih h
  . simp only[Bool.not_eq_true] at hc
    simp only[hc,if_false,List.lookup_cons,bF] at h ⊢
    cases hx:x==n with
    | true=>rw[hx] at h;exact .inr h
    | false=>rw[hx] at h;exact ih h
theorem aMY(CS:dW X scope k caps N')(I:Inv X pins σ H s)(f:∀b∈fp,kJ X pins H b)(hf:∀b∈fp,b<s.heap.objs.size) :
 (eE X scope N' (s.heap.objs.size+1) { s with heap:=s.heap.push (dZ [] 0) } H (s.heap.objs.size::fp)).Ok:=by
 have hh:∀n,(n,NameKind.free)∈scope.names->∃c,X.env.cells.lookup n=some c:=λn hn=>I.ok.has n (CS.free n hn)
 have ge:∀b o,s.heap.get? b=some o->(s.heap.push (dZ [] 0)).get? b=some o:=λb o e=>Heap.get?_push_of_some _ e
 have fsub:∀b∈frs X.stack,∃o,s.heap.get? b=some o:=λb hb=>by
  obtain⟨_,o,ho,_⟩:=I.stack.mem hb
  exact⟨o,ho⟩
 refine⟨I.ok.mod,?_,I.ok.glob,I.ok.blt,?_,λx y c h1 h2=>?_,λx hx=>?_,λx c h _=>?_,I.ok.hd,I.ok.frames,.inl rfl,λb hb=>?_,λb o e=>?_,?_,λb o e hb=>?_,λb hb=>?_,?_,I.stkFree⟩
 . exact CS.kind
 . show(s.heap.push (dZ [] 0)).objs.size<=s.heap.objs.size+1
   rw[Heap.size_push]
   exact Nat.le_refl _
 . exact I.ok.inj x y c (dA hh h1) (dA hh h2)
 . have fr:(x,NameKind.free)∈scope.names:=by
    rcases hx with q|q
    . rcases relabel_lookup q with⟨_,z,_⟩|z
      . exact fO z
      . exact absurd rfl (CS.nocell _ (fO z))
    . rcases relabel_lookup q with⟨z,_⟩|z
      . cases z
      . exact fO z
   obtain⟨c,e⟩:=eW (kO (cells:=X.env.cells) (acc:=[]) fr)
   exact⟨c,e⟩
 . cases(show false=true from h)
 . refine⟨?_,λx c e=>?_⟩
   . show b≠s.heap.objs.size+1
     rcases List.mem_cons.mp hb with z|z
     . rw[z];exact Nat.ne_of_lt (Nat.lt_succ_self _)
     . exact Nat.ne_of_lt (Nat.lt_succ_of_lt (hf b z))
   . have e':=dA hh e
     rcases List.mem_cons.mp hb with z|z
     . rw[z];exact Nat.ne_of_lt (I.cellLt e')
     . exact(f b z).2.2.2.2.1 x c e'
 . exact⟨ge b o (I.bs b o e).1,(I.bs b o e).2⟩
 . show X.base.objs.size<=(s.heap.push (dZ [] 0)).objs.size
   rw[Heap.size_push]
   exact Nat.le_succ_of_le (Nat.le_trans I.ok.bsz I.sz)
 . have lt:=Heap.lt_size e
   rcases List.mem_cons.mp hb with z|z
   . subst z
     exact absurd (Nat.lt_of_lt_of_le lt (Nat.le_trans I.ok.bsz I.sz)) (Nat.lt_irrefl _)
   . rcases(f b z).2.2.2.1 with q|q
     . exact I.ok.noex b o e q
     . exact absurd (Nat.lt_of_lt_of_le lt (Nat.le_trans I.ok.bsz q)) (Nat.lt_irrefl _)
 . show b∉frs X.stack
   intro hs
   rcases List.mem_cons.mp hb with z|z
   . subst z
     obtain⟨o,e⟩:=fsub _ hs
     exact absurd (Heap.lt_size e) (Nat.lt_irrefl _)
   . rcases List.mem_cons.mp (I.stkSub b hs) with q|q
     . exact(f b z).2.1 q
     . exact(f b z).2.2.1 q
 . exact I.stack.of_keeps λb o e _=>⟨o,ge b o e,rfl⟩
theorem aDa(CS:dW X scope k caps N'){j:Nat}{v:V}(h:(jY k caps σ)[j]? = some (some v)):∃j' i,j=k+j'/\caps[j']? = some i/\σ[i]? = some (some v):=by
 unfold jY at h
 by_cases hj:j<k
 . rw[List.getElem?_append_left (by simpa using hj),List.getElem?_replicate] at h
   split at h <;> cases h
 . rw[List.getElem?_append_right (by simpa using hj),List.length_replicate,List.getElem?_map] at h
   cases e:caps[j-k]? with
   | none=>rw[e] at h;cases h
   | some i=>
    rw[e] at h
    have h':(σ[i]?).getD none=some v:=Option.some.inj h
    refine⟨j-k,i,by omega,e,?_⟩
    cases q:σ[i]? with
    | none=>rw[q] at h';cases h'
    | some z=>rw[q] at h';exact congrArg some h'
theorem aJZ(CS:dW X scope k caps N')(I:Inv X pins σ H s)(f:∀b∈fp,kJ X pins H b)(hf:∀b∈fp,b<s.heap.objs.size){h₁:Heap}{tk:Nat}
 (hns:h₁.Ns (s.heap.objs.size+1) λ_=>none) (hk:∀b o,(s.heap.push (dZ [] 0)).get? b=some o->h₁.get? b=some o) :
 Inv (eE X scope N' (s.heap.objs.size+1) { s with heap:=s.heap.push (dZ [] 0) } H (s.heap.objs.size::fp)) [] (jY k caps σ) H { s with heap:=h₁,toks:=tk }:=by
 have hh:∀n,(n,NameKind.free)∈scope.names->∃c,X.env.cells.lookup n=some c:=λn hn=>I.ok.has n (CS.free n hn)
 have ge:∀b o,s.heap.get? b=some o->h₁.get? b=some o:=λb o e=>hk b o (Heap.get?_push_of_some _ e)
 have cellK:∀{c:Addr} {v:Option Value},s.heap.IsCell c v->h₁.IsCell c v:=λ{c v} ⟨o,e,d⟩=>⟨o,ge _ _ e,d⟩
 refine⟨aMY CS I f hf,rfl,I.bare,Un.kept hk,⟨_,hns,λj x v e1 e2 e3=>?_⟩,λx c e=>?_,?_,λx c e=>?_,λp hp=>absurd (show p∈([]:List (Addr×Obj)) from hp) (by simp),I.hok.kept ge,?_⟩
 . obtain⟨j',i,ej,ec,es⟩:=aDa CS e2
   obtain⟨y,h1,h2,h3,h4⟩:=CS.cap j' i ec
   have e1':N'[j]? = some x:=e1
   rw[ej,h1] at e1'
   have ey:y=x:=Option.some.inj e1'
   subst ey
   obtain⟨m,hn,hl⟩:=I.loc
   obtain⟨u,ru,lk⟩:=hl i y v h2 es (.inr (.inl h4))
   rcases lk with⟨k1,_⟩|⟨_,c,ec',hc⟩
   . rw[h4] at k1;cases k1
   . refine⟨u,ru,.inr ⟨?_,c,?_,cellK hc⟩⟩
     . have e3':Vis (relabel scope X.env) y:=e3
       rcases e3' with z|z|z
       . rcases relabel_lookup z with⟨z,_⟩|z
         . cases z
         . rw[h3] at z;cases z
       . exact .inl z
       . exact .inr z
     . obtain⟨c',e⟩:=eW (kO (cells:=X.env.cells) (acc:=[]) (fO h3))
       have e':=dA hh e
       rw[ec'] at e'
       cases e'
       exact e
 . obtain⟨v,q⟩:=I.cell x c (dA hh e)
   exact⟨v,cellK q⟩
 . exact I.hok.fresh (Nat.le_succ _)
 . exact I.freeC x c (dA hh e)
 . show(jY k caps σ).length=N'.length
   unfold jY
   rw[lA,List.length_replicate,lM,CS.len]
theorem vP{tg iter elt:Expr}{ifs:List Expr}{pos:Pos}{g:TG}{tt:TT}{te:TE}{it:Addr}{tn:Nat->Heap->Prop}{J:It}{RR:Value->Addr->Result->Shared->Prop}{E:Value->Shared->Prop}{Q:VK}
 (CS:dW X scope k caps N') (hc:X.calm=true) (I:Inv X pins σ H s) (T:xO X.prog X.w X.K tg J fp it tn) (st:tn 0 s.heap) (f:∀b∈fp,kJ X pins H b)
 (hch:∀C s₀ H₀ ex,PG (eE X scope N' C s₀ H₀ ex) tg g/\PTs (eE X scope N' C s₀ H₀ ex) ifs tt/\PE (eE X scope N' C s₀ H₀ ex) elt te)
 (hw:∃W:Nat->Nat->List V->St->Hp->Prop,(∃m,W 0 m [] (jY k caps σ) H)/\∀i m ys σ1 H,W i m ys σ1 H ->
  (J.stop i H/\ys.length<=sizeLine/\∀p,H p=none->Q (.ref p) (upd H p (.lst ys))) \/
  (J.go i H/\ys.length<sizeLine/\∀x H',J.yld i H x H'->g x σ1 H' λσ2 H2=>tt σ2 H2 λb H3=>
   if b=true then te σ2 H3 λy H4=>∃m',m'<m/\W (i+1) m' (ys++[y]) σ2 H4 else ∃m',m'<m/\W (i+1) m' ys σ2 H3))
 (hR:∀D C s' H' m,Inv X pins σ H' s'->s'.heap.Ns C m->s.heap.objs.size<C->(∀(σ':St) (s'':Shared) (h':Heap),Inv X pins σ' H' s''->Heap.SameBut C s''.heap h'->Inv X pins σ' H' { s'' with heap:=h' })->Q (.ref D) H'->RR (.ref D) C (.ok .next) s') :
 wpAny (model X.prog X.w) X.A (newList []) (λacc s₃=>wpAny (model X.prog X.w) X.A (newFunctionEnv scope X.env.globals (jM X.env.cells scope.names []) [] X.env.qual none .none (some X.env)) (λcenv s₄=>
  codeAny (model X.prog X.w) X.A (.compStart (.ListComp elt [⟨tg,iter,ifs,0⟩] scope pos) 0 (.ref it) acc { cenv with scope:=relabel scope X.env }) (RR acc cenv.locals) s₄) E s₃) E s:=by
 obtain⟨W,⟨m0,w0⟩,turn⟩:=hw
 have hf:∀b∈fp,b<s.heap.objs.size:=λb hb=>by
  obtain⟨o,e,_⟩:=T.obj 0 _ st b hb
  exact Heap.lt_size e
 refine wpAny_newObj_type (wpAny_newFunctionEnv CS.nocell (by intro y hy;simp at hy) (λh₁ hns₁ hsb₁=>?_) CS.kind)
 have hsz:(s.heap.push (dZ [] 0)).objs.size=s.heap.objs.size+1:=Heap.size_push _ _
 have hns:h₁.Ns (s.heap.objs.size+1) λ_=>none:=by
  have:=hns₁
  rw[show({ s with heap:=s.heap.push (dZ [] 0) }:Shared).heap.objs.size=s.heap.objs.size+1 from hsz] at this
  exact this
 have hk:∀b o,(s.heap.push (dZ [] 0)).get? b=some o->h₁.get? b=some o:=λb o e=>
  hsb₁.extBut b o (Nat.ne_of_lt (by have:=Heap.lt_size e;rw[hsz] at this;show b<(s.heap.push (dZ [] 0)).objs.size;rw[hsz];exact this)) (Heap.get?_push_of_some _ e)
 have I0:=aJZ (N':=N') CS I f hf (tk:=s.toks+([]:List (Str×Value)).length) hns hk
 have noC:∀{b:Addr},b<s.heap.objs.size->b≠s.heap.objs.size+1:=λ{b} hb=>Nat.ne_of_lt (Nat.lt_succ_of_lt hb)
 have hDn:H s.heap.objs.size=none:=I.fresh
 have hh:∀n,(n,NameKind.free)∈scope.names->∃c,X.env.cells.lookup n=some c:=λn hn=>I.ok.has n (CS.free n hn)
 have hD1:h₁.get? s.heap.objs.size=some (dZ [] 0):=hk _ _ (Heap.get?_push_size _ rfl)
 have stFs:∀b∈frs X.stack,b<s.heap.objs.size:=λb hb=>by
  obtain⟨_,o,ho,_⟩:=I.stack.mem hb
  exact Heap.lt_size ho
 have fpc:∀(pl:List (Addr×Obj)),(∀p∈pl,p.1=s.heap.objs.size)->∀{H':Hp},(∀b∈fp,H' b=none)->∀b∈fp,kJ (eE X scope N' (s.heap.objs.size+1) { s with heap:=s.heap.push (dZ [] 0) } H (s.heap.objs.size::fp)) pl H' b:=by
  intro pl hpl H' hn b hb
  refine⟨hn b hb,noC (hf b hb),λz=>?_,.inl (List.mem_cons_of_mem _ hb),λx c e=>(f b hb).2.2.2.2.1 x c (dA hh e),λp hp z=>?_⟩
  . rcases List.mem_cons.mp (I.stkSub b z) with q|q
    . exact(f b hb).2.1 q
    . exact(f b hb).2.2.1 q
  . have hp':p∈pl:=by simpa[eE] using hp
    rw[hpl p hp'] at z
    exact absurd (hf b hb) (by rw[<-z];exact Nat.lt_irrefl _)
 have pinD:∀{σ':St} {H':Hp} {s':Shared} {its:List Value} {n:Nat} {pl:List (Addr×Obj)},Inv (eE X scope N' (s.heap.objs.size+1) { s with heap:=s.heap.push (dZ [] 0) } H (s.heap.objs.size::fp)) pl σ' H' s' ->
  s'.heap.get? s.heap.objs.size=some (dZ its n)->H' s.heap.objs.size=none->Inv (eE X scope N' (s.heap.objs.size+1) { s with heap:=s.heap.push (dZ [] 0) } H (s.heap.objs.size::fp)) [(s.heap.objs.size,dZ its n)] σ' H' s':=by
  intro σ' H' s' its n pl J e nn
  refine J.pins_of λp hp=>?_
  have:p=(s.heap.objs.size,dZ its n):=by simpa using hp
  subst this
  refine⟨e,nn,Nat.ne_of_lt (Nat.lt_succ_self _),λz=>absurd (stFs _ z) (Nat.lt_irrefl _),λv z=>by cases z⟩
 have start:codeAny (model X.prog X.w) X.A (.compLoop (.ListComp elt [⟨tg,iter,ifs,0⟩] scope pos) 0 (.ref it) (.ref s.heap.objs.size) (compEnvC scope (jM X.env.cells scope.names []) (s.heap.objs.size+1) X.env))
  (RR (.ref s.heap.objs.size) (s.heap.objs.size+1)) { s with heap:=h₁,toks:=s.toks+([]:List (Str×Value)).length }:=by
  refine iB (λn s'=>∃i ys its cnt σ1 H',Inv (eE X scope N' (s.heap.objs.size+1) { s with heap:=s.heap.push (dZ [] 0) } H (s.heap.objs.size::fp)) [(s.heap.objs.size,dZ its cnt)] σ1 H' s' /\
   tn i s'.heap/\(∀b∈fp,H' b=none)/\aY ys its/\W i n ys σ1 H') ?_ m0 ⟨0,[],[],0,_,H,pinD I0 hD1 hDn,T.keep _ _ _ st λb _ o e=>hk b o (Heap.get?_push_of_some _ e),λb hb=>(f b hb).1,.nil,w0⟩
  rintro n s3 ⟨i,ys,its,cnt,σ1,H3,I3,st3,fr3,rv3,w3⟩
  obtain⟨hD3,nD3,_⟩:=I3.pin (s.heap.objs.size,dZ its cnt) (by simp[eE])
  have pl1:∀p∈[(s.heap.objs.size,dZ its cnt)],p.1=s.heap.objs.size:=λp hp=>by
   have:p=(s.heap.objs.size,dZ its cnt):=by simpa using hp
   rw[this]
  rcases turn i n ys σ1 H3 w3 with⟨stop,hz,qn⟩|⟨go,hz,step⟩
  . refine thn (T.done (eE X scope N' (s.heap.objs.size+1) { s with heap:=s.heap.push (dZ [] 0) } H (s.heap.objs.size::fp)) rfl rfl rfl hc i _ s3 _ H3 _ I3 (fpc _ pl1 fr3) st3 stop) λr s4 ⟨hr,I4⟩=>?_
    subst hr
    obtain⟨hD4,nD4,_⟩:=I4.pin (s.heap.objs.size,dZ its cnt) (by simp[eE])
    have u4:=I4.base
    have nb:∀{b:Addr} {o:Obj},s.heap.get? b=some o->b∉fp->b∉s.heap.objs.size::fp:=λ{b o} e hb z=>by
     rcases List.mem_cons.mp z with z|z
     . exact absurd (Heap.lt_size e) (by rw[z];exact Nat.lt_irrefl _)
     . exact hb z
    have neD:∀{b:Addr} {o:Obj},s.heap.get? b=some o->b≠s.heap.objs.size:=λ{b o} e=>Nat.ne_of_lt (Heap.lt_size e)
    have trD:∀{b:Addr} {o:HO},H b=some o->b≠s.heap.objs.size:=λ{b o} e=>bR e hDn
    have u:Un (frs X.stack) fp H (upd H3 s.heap.objs.size (.lst ys)) s.heap s4.heap:={
     keep:=λb o e nn hb hx=>u4.keep b o (Heap.get?_push_of_some _ e) nn hb (nb e hx)
     slot:=λb o e nn hb hx=>u4.slot b o (Heap.get?_push_of_some _ e) nn hb (nb e hx)
     free:=λb o e nn hx=>by rw[aP (neD e)];exact u4.free b o (Heap.get?_push_of_some _ e) nn (nb e hx)
     there:=λb o e hx=>u4.there b o (Heap.get?_push_of_some _ e) (nb e hx)
     tups:=λb xs e=>by rw[aP (trD e)];exact u4.tups b xs e
     frzs:=λb o u e=>by rw[aP (trD e)];exact u4.frzs b o u e
     tbls:=λb ps e=>by rw[aP (trD e)];exact u4.tbls b ps e }
    have hl:=rv3.length
    have hok:HOk X.prog X.w (upd H3 s.heap.objs.size (.lst ys)) s4.heap:=HOk.track I4.hok nD4 ⟨hz,its,cnt,rv3,hD4⟩
    have I5:Inv X pins σ (upd H3 s.heap.objs.size (.lst ys)) s4:=I.call' I4.os u hok I4.bare λb hb=>⟨(f b hb).2.2.2.1,(f b hb).2.1,(f b hb).2.2.2.2.1,(f b hb).2.2.2.2.2⟩
    obtain⟨m4,hn4,_⟩:=I4.loc
    refine hR s.heap.objs.size (s.heap.objs.size+1) s4 _ m4 I5 hn4 (Nat.lt_succ_self _) (λσ' s'' h' I6 hs'=>?_) (qn _ nD4)
    have:=I6.turned (t':=s''.toks) (h':=h') (it:=s.heap.objs.size+1) (λb o hb e=>hs'.extBut b o hb e) (by rw[aP (Nat.ne_of_gt (Nat.lt_succ_self _))];exact I4.free)
     (Nat.ne_of_gt (Nat.lt_succ_of_lt I.lt)) (.inr (Nat.le_succ_of_le I.sz)) (λx c e=>Nat.ne_of_lt (Nat.lt_succ_of_lt (I.cellLt e))) λp hp z=>?_
    . exact this
    . have:=Heap.lt_size (I.pin p hp).1
      rw[z] at this
      exact absurd this (Nat.not_lt.mpr (Nat.le_succ _))
  . refine thn (T.item (eE X scope N' (s.heap.objs.size+1) { s with heap:=s.heap.push (dZ [] 0) } H (s.heap.objs.size::fp)) rfl rfl rfl hc i _ s3 _ H3 _ I3 (fpc _ pl1 fr3) st3 go) λr s4 ⟨u,hr,h4⟩=>?_
    subst hr
    refine thn h4 λ_ s5 ⟨x,H5,I5,r5,y5,st5,fr5⟩=>?_
    obtain⟨hg,ht,he⟩:=hch (s.heap.objs.size+1) { s with heap:=s.heap.push (dZ [] 0) } H (s.heap.objs.size::fp)
    have I5':=I5.pinned (fpc _ pl1 fr5) (T.obj _ _ st5)
    have keep:∀{σ7:St} {H7:Hp} {s7:Shared},Inv (eE X scope N' (s.heap.objs.size+1) { s with heap:=s.heap.push (dZ [] 0) } H (s.heap.objs.size::fp)) ([(s.heap.objs.size,dZ its cnt)]++nQ fp s5.heap) σ7 H7 s7 ->
     tn (i+1) s7.heap/\(∀b∈fp,H7 b=none)/\s7.heap.get? s.heap.objs.size=some (dZ its cnt)/\H7 s.heap.objs.size=none:=by
     intro σ7 H7 s7 I7
     obtain⟨hD7,nD7,_⟩:=I7.pin (s.heap.objs.size,dZ its cnt) (by simp[eE])
     refine⟨T.keep _ _ _ st5 λb hb o e=>(I7.pin (b,o) (List.mem_append_right _ (List.mem_append_right _ (gH hb e)))).1,λb hb=>?_,hD7,nD7⟩
     obtain⟨o,e,d⟩:=T.obj _ _ st5 b hb
     exact(I7.pin (b,o) (List.mem_append_right _ (List.mem_append_right _ (gH hb e)))).2.1
    refine thn (hg _ s5 _ H5 x u _ I5' r5 (step x H5 y5)) λ_ s6 ⟨σ6,H6,I6,q6⟩=>?_
    refine thn (ht _ s6 σ6 H6 _ I6 q6) λb s7 ⟨H7,I7,q7⟩=>?_
    cases b with
    | false=>
     rw[if_neg bN] at q7 ⊢
     obtain⟨m',hm,w7⟩:=q7
     obtain⟨t7,f7,d7,n7⟩:=keep I7
     exact⟨m',hm,i+1,ys,its,cnt,σ6,H7,pinD I7 d7 n7,t7,f7,rv3,w7⟩
    | true=>
     rw[if_pos rfl] at q7 ⊢
     refine thn (he _ s7 σ6 H7 _ I7 q7) λyv s8 ⟨y,H8,I8,r8,q8⟩=>?_
     obtain⟨m',hm,w8⟩:=q8
     obtain⟨t8,f8,d8,n8⟩:=keep I8
     have hl:=rv3.length
     have hzv:its.toArray.size<=sizeLine:=by rw[List.size_toArray];omega
     refine call_meets F.slot_list_append ⟨_,d8,rfl⟩ F.entry_list_append (F.args_list_append_2 _ _) (PySem.list_append s.heap.objs.size its.toArray cnt yv hzv) ⟨d8,?_⟩
     have q:=PySem.IsL.update d8 (λa=>a.push yv)
     have e':its.toArray.push yv=(its++[yv]).toArray:=by simp
     rw[e'] at q
     have I9:=(I8.unpinned (pins:=[(s.heap.objs.size,dZ its cnt)])).pins_of (pins':=[]) (λp hp=>absurd hp (by simp))
     have I10:=I9.turned (t':=s8.toks) (it:=s.heap.objs.size) (h':=s8.heap.update s.heap.objs.size (Obj.mapSeq λa=>a.push yv)) (λb o hb e=>(Heap.get?_update_other s8.heap _ (Ne.symm hb)).trans e) n8
      (Nat.ne_of_lt (Nat.lt_succ_self _)) (.inl List.mem_cons_self) (λx c e=>Nat.ne_of_lt (I.cellLt (dA hh e))) (λp hp=>absurd (show p∈([]:List (Addr×Obj)) from by simpa[eE] using hp) (by simp))
     refine⟨m',hm,i+1,ys++[y],its++[yv],_,σ6,H8,pinD I10 q n8,?_,f8,rv3.append (.cons r8 .nil),w8⟩
     refine T.keep _ _ _ t8 λb hb o e=>(Heap.get?_update_other s8.heap _ ?_).trans e
     intro z
     exact absurd (hf b hb) (by rw[<-z];exact Nat.lt_irrefl _)
 have startC:∀C,C=s.heap.objs.size+1->codeAny (model X.prog X.w) X.A (.compLoop (.ListComp elt [⟨tg,iter,ifs,0⟩] scope pos) 0 (.ref it) (.ref s.heap.objs.size) (compEnvC scope (jM X.env.cells scope.names []) C X.env))
  (RR (.ref s.heap.objs.size) C) { s with heap:=h₁,toks:=s.toks+([]:List (Str×Value)).length }:=by
  rintro C rfl
  exact start
 exact codeAny_compStart_list (startC _ hsz) (T.self X.A 0 _ _ _ (T.keep _ _ _ st λb _ o e=>hk b o (Heap.get?_push_of_some _ e)) (startC _ hsz))
end
section
variable {X:Cx} {scope:Scope} {k:Nat} {caps:List Nat} {N':List Str} {tg iter elt:Expr} {ifs:List Expr} {pos:Pos} {wi:TI} {g:TG} {tt:TT} {te:TE}
theorem aAl(CS:dW X scope k caps N')(hc:X.calm=true)(hi:PI X tg iter wi)
 (hch:∀C s₀ H₀ ex,PG (eE X scope N' C s₀ H₀ ex) tg g/\PTs (eE X scope N' C s₀ H₀ ex) ifs tt/\PE (eE X scope N' C s₀ H₀ ex) elt te) (hs:∀x,foldedSetIterable iter X.env x=pure x) :
 PE X (.ListComp elt [⟨tg,iter,ifs,0⟩] scope pos) (aCZ k caps wi g tt te):=by
 intro pins s σ H Q I h
 rw[eval_ListComp]
 refine wpAny_comprehension_free (use:=none) rfl hs (gU λn hn=>I.ok.has n (CS.free n hn)) CS.kind CS.loc (thn (hi pins s σ H _ I h) λxv s1 h1=>thn h1 λitv s2 h2=>?_)
 obtain⟨it,fp,tn,J,H2,e,I2,T,st2,f2,hw⟩:=h2
 subst e
 exact vP (RR:=λacc C=>compPost (model X.prog X.w) X.A X.xe none (EP X pins σ Q) acc C) (Q:=Q) CS hc I2 T st2 f2 hch hw λD C s' H' m J hn _ hall q=>⟨m,hn,λh' hs'=>⟨.ref D,H',hall σ s' h' J hs',rfl,q⟩⟩
theorem yM{i:Nat}{x:Str}{pos' spos:Pos}(CS:dW X scope k caps N')(hc:X.calm=true)(hi:PI X tg iter wi)
 (hch:∀C s₀ H₀ ex,PG (eE X scope N' C s₀ H₀ ex) tg g/\PTs (eE X scope N' C s₀ H₀ ex) ifs tt/\PE (eE X scope N' C s₀ H₀ ex) elt te) (hs:∀x,foldedSetIterable iter X.env x=pure x)
 (hN:X.N.Nodup) (hx':X.N[i]? = some x) (hx:Loc X.env.scope x) (hf:X.fn x=true\/X.env.scope.names.lookup x=some .local) :
 PS X (.Assign [.Name x pos'] (.ListComp elt [⟨tg,iter,ifs,0⟩] scope pos) spos) (aHf (aCZ k caps wi g tt te) (qQ i)):=by
 have hb:∃b,swapsWith (.ListComp elt [⟨tg,iter,ifs,0⟩] scope pos) (some (.Name x pos')) spos.line X.env=pure b:=⟨_,rfl⟩
 obtain⟨b,hb⟩:=hb
 cases b with
 | false=>exact lJ hN hx' hx (aAl CS hc hi hch hs) hb hf
 | true=>
  intro pins s σ H D I h
  rw[exec_Assign_Name_used x pos' _ spos hb]
  refine wpAny_bind (wpAny_standAt (wpAny_bind ?_))
  show wpAny _ _ (comprehension (.ListComp elt [⟨tg,iter,ifs,0⟩] scope pos) scope X.env (firstIterPos [⟨tg,iter,ifs,0⟩] pos) (newList []) (firstAsync [⟨tg,iter,ifs,0⟩]) (firstIter [⟨tg,iter,ifs,0⟩] X.env) (some (assign (.Name x pos') X.env)) >>= λ_=>pure ()) _ _ s
  refine wpAny_bind (wpAny_comprehension_free (use:=some (assign (.Name x pos') X.env)) rfl hs (gU λn hn=>I.ok.has n (CS.free n hn)) CS.kind CS.loc (thn (hi pins s σ H _ I h) λxv s1 h1=>thn h1 λitv s2 h2=>?_))
  obtain⟨it,fp,tn,J,H2,e,I2,T,st2,f2,hw⟩:=h2
  subst e
  refine vP (Q:=λv H'=>D.nx (σ.set i (some v)) H') (RR:=λacc C=>compPost (model X.prog X.w) X.A X.xe (some (assign (.Name x pos') X.env)) (λ_ s'=>wpAny (model X.prog X.w) X.A (pure ()) (λ_ s'=>wpAny (model X.prog X.w) X.A (pure Flow.next) (SP X pins D) X.xe s') X.xe s') acc C) CS hc I2 T st2 f2 hch hw λD' C s' H' m J hn lt hall q=>?_
  show wpAny _ _ (assign (.Name x pos') X.env (.ref D')) _ _ s'
  refine wpAny_assign_Name (qP (v:=V.ref D') J hN hx' hx rfl (λs'' J' hsb=>?_) hf)
  obtain⟨a,sb,ha⟩:=hsb
  refine⟨m,hn.sameBut sb ?_,λh' hs'=>?_⟩
  . rcases ha with z|z
    . rw[z];exact Nat.ne_of_gt (Nat.lt_trans I2.lt lt)
    . exact Nat.ne_of_gt (Nat.lt_trans (I2.cellLt z) lt)
  . exact wpAny_pure (wpAny_pure ⟨_,H',hall _ s'' h' J' hs',q⟩)
end
end L2
end
noncomputable section
namespace Hp
open PySem PySem.Spec PyProof.Rows L2
def Od(K:Fg)(H:Hp)(b:Addr):Prop:=H b=none->K.lookup b≠none
def Rr(K:Fg)(H H':Hp)(Y:Addr->Prop)(r:Rt)(u:V):Prop:=
 if r.2.1=true then ∃a xs ds,u=.ref a/\r.1=.lst ds/\(H a=none/\K.lookup a=none)/\H' a=some (.lst xs)/\Reps K H' (λb=>b=a\/Y b\/(r.2.2=false/\Od K H b)) ds xs
 else Rep K H' (λb=>Y b\/(r.2.2=false/\Od K H b)) r.1 u
def spF(K:Fg)(P:Pg)(n:Nat)(f:Nat):Sp:=λvs H Q _=>∃(ds:List D) (Y:Addr->Prop),(∀a,Y a->Od K H a)/\Reps K H Y ds vs/\RE (call P n f ds) λr=>∀u H',Tk K H'->aR H H'->Rr K H H' Y r u->Q u H'
def bltNames:List Str:=["len", "list", "tuple", "min", "max", "abs", "int", "str", "sum", "all", "any", "sorted", "bool", "range", "zip", "enumerate", "reversed", "set", "isinstance", "dict", "repr"]
structure Md (X:Cx) (P:Pg) (Γ:Ct) (n:Nat):Prop where
 fn:∀(f:Nat) (x:Str),Γ.fns[f]? = some x->∃fa fd ps,X.mg x=some (.ref fa)/\PySem.W.keepIn X.K (.ref fa)=true/\jP X.K fd ps []/\nA X.prog X.w X.K X.mg X.base CX0 n fa fd ps (spF X.K P n f)
 blt:∀x∈bltNames,X.mg x=none
 cns:∀(x:Str) (d:D),Γ.cns.lookup x=some d->∃u v,X.mg x=some u/\cA v u/\∀H ex,Rep X.K H ex d v
 tab:∀(i:Nat) (x:Str),Γ.tbs[i]? = some x->∃a t,X.mg x=some (.ref a)/\P.tabs[i]? = some t/\aCU X.prog X.w X.K a t
structure Mc (X:Cx) (P:Pg) (Γ:Ct) (n:Nat):Prop where
 md:Md X P Γ n
 N:X.N=Γ.N
 nd:X.N.Nodup
 sc:X.env.scope.names=Γ.sc
 calm:X.calm=true
 room:jU n X.A
 xe:X.xe=λ_ _=>False
 st:∀x:Str,vH Γ x=true->X.fn x=true\/X.env.scope.names.lookup x=some .local
 fk:X.env.scope.kind=.function
section
variable {X:Cx} {P:Pg} {Γ:Ct} {n:Nat}
theorem Mc.units(M:Mc X P Γ n):X.A.units+200<cLine:=by have:=M.room.un;omega
theorem Mc.vis(M:Mc X P Γ n){x:Str}(h:aCQ Γ x=true):Vis X.env.scope x:=by
 unfold aCQ at h
 unfold Vis
 rw[M.sc]
 cases q:Γ.sc.lookup x with
 | none=>rw[q] at h;cases h
 | some k=>rw[q] at h;cases k <;> first|exact .inl rfl|exact .inr (.inl rfl)|exact .inr (.inr rfl)|cases h
theorem Mc.loc(M:Mc X P Γ n){x:Str}(h:vH Γ x=true):L2.Loc X.env.scope x:=by
 unfold vH at h
 unfold L2.Loc
 rw[M.sc]
 cases q:Γ.sc.lookup x with
 | none=>rw[q] at h;cases h
 | some k=>rw[q] at h;cases k <;> first|exact .inl rfl|exact .inr rfl|cases h
theorem Mc.gl(M:Mc X P Γ n){x:Str}(h:eI Γ x=true):Gl X x:=by
 unfold eI at h
 unfold Gl
 show X.env.scope.names.lookup x=_
 rw[M.sc]
 cases q:Γ.sc.lookup x with
 | none=>rw[q] at h;cases h
 | some k=>rw[q] at h;cases k <;> first|rfl|cases h
theorem aS{x:Str}(h:cT x=true):(x==("__debug__" : Str))=false:=by
 unfold cT at h
 simp only[bA,Bool.not_eq_true'] at h
 exact h.1
theorem eB{x:Str}(h:cT x=true):(x==("__classdict__" : Str))=false:=by
 unfold cT at h
 simp only[bA,Bool.not_eq_true'] at h
 exact h.2
theorem aHK:∀{d d':D},eqK d d'=true->d=d':=by
 intro d d' h
 cases d <;> cases d' <;> simp[eqK] at h <;> first|rfl|(subst h;rfl)
def bD:Expr->Bool
 | .Starred _ _=>false
 | .Slice _ _ _ _=>false
 | .Set _ _ _=>false
 | _=>true
theorem aDb{α:Type}{o:Option α}{f:α->Bool}(h:oB o f=true):∃a,o=some a/\f a=true:=by
 cases o with
 | none=>cases h
 | some a=>exact⟨a,rfl,h⟩
theorem aC{α:Type}{q:α->Prop}{o:Option { a:α // q a }}{f:α->Bool}(h:oS o f=true):∃a,q a/\f a=true:=by
 cases o with
 | none=>cases h
 | some a=>exact⟨a.1,a.2,h⟩
theorem aZ{c:E}{e:Expr}(h:aX Γ c e=true):bD e=true:=by
 cases c with
 | c d=>
  rcases(Bool.or_eq_true _ _).mp (show(oS (asC e) (eqC d)||oS (asN e) λx=>eI Γ x&&cT x&&oB (Γ.cns.lookup x) (eqK d))=true from h) with h|h
  . obtain⟨_,⟨_,_,rfl⟩,_⟩:=aC h;rfl
  . obtain⟨_,⟨_,rfl⟩,_⟩:=aC h;rfl
 | v i=>obtain⟨_,⟨_,rfl⟩,_⟩:=aC h;rfl
 | op o a b=>obtain⟨_,⟨_,rfl⟩,_⟩:=aC h;rfl
 | neg _=>cases h
 | nt a=>obtain⟨_,⟨_,rfl⟩,_⟩:=aC h;rfl
 | an a b=>obtain⟨_,rfl,_⟩:=aC h;rfl
 | orr a b=>obtain⟨_,rfl,_⟩:=aC h;rfl
 | ife t a b=>obtain⟨_,⟨_,rfl⟩,_⟩:=aC h;rfl
 | cmp o a b=>obtain⟨_,⟨_,rfl⟩,_⟩:=aC h;rfl
 | dnin a j=>obtain⟨_,⟨_,rfl⟩,_⟩:=aC h;rfl
 | dget _ _=>cases h
 | dlen _=>cases h
 | rvs a=>obtain⟨_,⟨_,rfl⟩,_⟩:=aC h;rfl
 | cmp2 o1 o2 a b c=>obtain⟨_,⟨_,rfl⟩,_⟩:=aC h;rfl
 | idx a b=>obtain⟨_,⟨_,rfl⟩,_⟩:=aC h;rfl
 | sli a lo hi=>obtain⟨_,⟨_,rfl⟩,_⟩:=aC h;rfl
 | tup es=>obtain⟨_,⟨_,_,rfl⟩,_⟩:=aC h;rfl
 | lst es=>obtain⟨_,⟨_,rfl⟩,_⟩:=aC h;rfl
 | call f es=>obtain⟨_,⟨_,_,rfl⟩,_⟩:=aC h;rfl
 | callP f i es=>obtain⟨_,⟨_,_,rfl⟩,_⟩:=aC h;rfl
 | pnn i=>obtain⟨_,⟨_,rfl⟩,_⟩:=aC h;rfl
 | bi b es=>obtain⟨_,⟨_,_,rfl⟩,_⟩:=aC h;rfl
 | mth m o es=>obtain⟨_,⟨_,_,rfl,_⟩,_⟩:=aC h;rfl
 | isi a cs=>obtain⟨_,⟨_,_,rfl⟩,_⟩:=aC h;rfl
 | comp k caps t it cond elt=>obtain⟨_,⟨_,rfl⟩,_⟩:=aC h;rfl
 | numset _=>cases h
 | tget _ _=>cases h
 | lzip _ _=>cases h
 | dic ks vs=>cases h
 | attr _ _=>cases h
theorem aD{e:Expr}{es:List Expr}{env:Env}(h:bD e=true):starEach (e::es) env=(false,eval e env)::starEach es env:=by
 cases e <;> first|rfl|cases h
theorem eC:∀{cs:Es} {es:List Expr},chkEs Γ cs es=true->es.all bD=true
 | .nil,[],_=>rfl
 | .nil,_::_,h=>by cases h
 | .cons _ _,[],h=>by cases h
 | .cons c cs,e::es,h=>by
  simp only[chkEs,bA] at h
  rw[List.all_cons,aZ h.1,eC h.2]
  rfl
theorem dB{pos:Pos}{env:Env}:∀{es:List Expr},es.all bD=true->(backTo pos (starEach es env)).any (·.1)=false
 | [],_=>rfl
 | e::es,h=>by
  rw[List.all_cons,bA] at h
  rw[aD h.1]
  show(false||(backTo pos (starEach es env)).any (·.1))=false
  rw[dB h.2]
  rfl
theorem oG{e:Expr}(h:bD e=true):aAd e:=by
 intro o i
 cases e <;> first|rfl|cases h
theorem lT{e:Expr}{env:Env}(h:bD e=true):∀x,foldedSetIterable e env x=pure x:=by
 intro x
 cases e <;> first|rfl|cases h
theorem fH{op:CmpOp}{e:Expr}(h:bD e=true):behindInMarks op e=false:=by
 cases e <;> first|rfl|cases h
variable {RT Y old:Addr->Prop} {σ:Sg} {pos:Pos}
abbrev WE(X:Cx)(P:Pg)(n:Nat)(RT Y old:Addr->Prop)(σ:Sg)(c:E):TE:=wE X P (call P n) RT Y old σ c
abbrev WT(X:Cx)(P:Pg)(n:Nat)(RT Y old:Addr->Prop)(σ:Sg)(c:E):TT:=wT X P (call P n) RT Y old σ c
abbrev WA(X:Cx)(P:Pg)(n:Nat)(RT Y old:Addr->Prop)(σ:Sg)(c:Es):TA:=wA X P (call P n) RT Y old σ c
theorem RE.bind'{α β:Type}{x:R α}{f:α->R β}{p:β->Prop}(h:RE (x >>= f) p):RE x λa=>RE (f a) p:=by rwa [RE.bind] at h
theorem wE.one{a:E}{σV:L2.St}{H:Hp}{p:Vl->Prop}{Q:V->Hp->Prop}(S:Sx X.K RT Y old σ σV H)(h:RE (ev P (call P n) σ a) p)
 (f:∀x u H',p x->Tk X.K H'->Sx X.K RT Y old σ σV H'->Ro X.K RT Y old σ σV H H' x u->Q u H'):WE X P n RT Y old σ a σV H Q:=
 ⟨S,h.mono λx hx u H' t r=>f x u H' hx t (S.grow r.1 t) r⟩
theorem aMZ{o:Operator}{a b:E}{ea eb:Expr}(ha:PE X ea (WE X P n RT Y old σ a))(hb:PE X eb (WE X P n RT Y old σ b)):PE X (.BinOp ea o eb pos) (WE X P n RT Y old σ (.op o a b)):=by
 intro pins s σV H Q I hw
 obtain⟨S,h⟩:=hw
 have h:=RE.bind' (show RE (ev P (call P n) σ a >>= λx=>ev P (call P n) σ b >>= λy=>opD o x y) _ from h)
 refine wpAny_BinOp (thn (ha pins s σV H (λux H1=>WE X P n RT Y old σ b σV H1 λuy H2=>∃x y,Sx X.K RT Y old σ σV H2/\aR H H2/\Rv X.K RT Y old σ σV H2 x ux/\Rv X.K RT Y old σ σV H2 y uy/\(x.fr=true->∃a xs,ux=.ref a/\H2 a=some (.lst xs))/\RE (opD o x y) (Wn X RT Y old σ σV H Q)) I
  (wE.one S h λx u H1 hx t1 S1 r1=>wE.one S1 (RE.bind' hx) λy u' H2 hy t2 S2 r2=>⟨x,y,S2,r1.1.trans r2.1,(r1.rv S).grow r2.1,r2.rv S1,λhf=>?_,hy⟩)) λv s1 ⟨x',H1,I1,rx,q1⟩=>thn (hb pins s1 σV H1 _ I1 q1) λu s2 ⟨y',H2,I2,ry,q2⟩=>?_)
 . have:=r1.2
   rw[if_pos hf] at this
   obtain⟨a',xs,ds,e1,_,_,e4,_⟩:=this
   exact⟨a',xs,e1,r2.1 _ _ e4⟩
 . obtain⟨x,y,S2,sm,hx,hy,hf,h⟩:=q2
   exact aCW I2 S2 rx ry hx hy hf (h.mono λv hv u H' t r=>hv u H' t (r.from sm))
theorem aDc{H:Hp}{σV:L2.St}{x:Vl}{u:V}{k:Bool}(hx:Rv X.K RT Y old σ σV H x u)(h:aBq x.d=some k):aEV X.K u H k:=by
 unfold aBq at h
 split at h
 . rename_i d;rw[hx.non d];exact(Option.some.inj h).symm
 . rename_i b d;rw[hx.bl d];exact(Option.some.inj h).symm
 . rename_i i d;rw[hx.int d];exact(Option.some.inj h).symm
 . rename_i z d
   by_cases hl:z.length<=lim
   . rw[if_pos hl] at h
     rw[hx.str d]
     refine⟨eV hl,?_⟩
     rw[<-Option.some.inj h]
     cases hz:z.length with
     | zero=>rfl
     | succ m=>simp;omega
   . rw[if_neg hl] at h;cases h
 . rename_i ds d
   obtain⟨a,xs,e,q,r⟩:=hx.tup d
   rw[e]
   refine .inr (.inl ⟨xs,q,?_⟩)
   rw[<-Option.some.inj h]
   have:=r.length
   cases ds <;> cases xs <;> first|rfl|(simp at this)
 . rename_i ds d
   obtain⟨a,xs,e,q,_,r⟩:=hx.lst d
   rw[e]
   refine .inl ⟨xs,q,?_⟩
   rw[<-Option.some.inj h]
   have:=r.length
   cases ds <;> cases xs <;> first|rfl|(simp at this)
 . cases h
theorem RE.tru{x:Vl}{p:Bool->Prop}(h:RE (eR x) p):∃k,aBq x.d=some k/\p k:=by
 unfold eR at h
 cases q:aBq x.d with
 | none=>rw[q] at h;exact h.elim
 | some k=>rw[q] at h;exact⟨k,rfl,h⟩
theorem aKa{a:E}{ea:Expr}(ha:PE X ea (WE X P n RT Y old σ a)):PE X (.UnaryOp .Not ea pos) (WE X P n RT Y old σ (.nt a)):=by
 intro pins s σV H Q I hw
 obtain⟨S,h⟩:=hw
 have h:=RE.bind' (show RE (ev P (call P n) σ a >>= λx=>eR x >>= λk=>R.ok (Vl.cl (.bl (!k)))) _ from h)
 refine UnaryOp_ (thn (ha pins s σV H (λu H1=>∃k,aEV X.K u H1 k/\Q (.bl (!k)) H1) I (wE.one S h λx u H1 hx t1 S1 r1=>?_)) λv s1 ⟨u,H1,I1,ru,k,hk,q⟩=>?_)
 . obtain⟨k,hk,hp⟩:=RE.tru (RE.bind' hx)
   exact⟨k,aDc (r1.rv S) hk,(show Wn X RT Y old σ σV H Q (Vl.cl (.bl (!k))) from hp) _ _ t1 (Ro.cl r1.1 rfl)⟩
 . refine not_of (thn (aCr pins s1 σV H1 u v (λk' H'=>k'=k/\H'=H1) I1 ru ⟨k,hk,rfl,rfl⟩) λb s2 ⟨H2,I2,e1,e2⟩=>?_)
   subst e1 e2
   exact⟨.bl (!b),H2,I2,rfl,q⟩
theorem mT{c:E}{e:Expr}(ha:PE X e (WE X P n RT Y old σ c))(he:∀whole,isTrue e X.env whole=(do let v<-whole;standAt e.pos;holding [v] (truthy v)))
 (hc:∀p,RE (tst P (call P n) σ c) p->RE (ev P (call P n) σ c) λx=>RE (eR x) p):PT X e (WT X P n RT Y old σ c):=by
 refine(aCs ha he).imp λσV H Q t ⟨S,h⟩=>?_
 refine wE.one S (hc _ h) λx u H1 hx t1 S1 r1=>?_
 obtain⟨k,hk,hp⟩:=RE.tru hx
 exact⟨k,aDc (r1.rv S) hk,λt'=>hp _ t' r1.1⟩
theorem aKb{a b:E}{ea eb:Expr}{r:List Expr}(ha:PE X ea (WE X P n RT Y old σ a))(hb:PE X (.BoolOp .And (eb::r) pos) (WE X P n RT Y old σ b)):PE X (.BoolOp .And (ea::eb::r) pos) (WE X P n RT Y old σ (.an a b)):=by
 refine(aGZ ha hb).imp λσV H Q t ⟨S,h⟩=>?_
 have h:=RE.bind' (show RE (ev P (call P n) σ a >>= λx=>(match x.d with|.bl true=>ev P (call P n) σ b|.bl false=>R.ok (Vl.cl (.bl false))|_=>.bad)) _ from h)
 refine wE.one S h λx u H1 hx t1 S1 r1=>?_
 split at hx
 . rename_i d1
   refine⟨true,(r1.rv S).bl d1,?_⟩
   rw[if_pos rfl]
   exact⟨S1,hx.mono λv hv u H' t r=>λ_=>hv u H' t (r.from r1.1)⟩
 . rename_i d1
   refine⟨false,(r1.rv S).bl d1,?_⟩
   rw[if_neg bN]
   exact λt'=>hx _ _ t' (Ro.cl r1.1 rfl)
 . exact hx.elim
theorem aGB{a b:E}{ea eb:Expr}{r:List Expr}(ha:PE X ea (WE X P n RT Y old σ a))(hb:PE X (.BoolOp .Or (eb::r) pos) (WE X P n RT Y old σ b)):PE X (.BoolOp .Or (ea::eb::r) pos) (WE X P n RT Y old σ (.orr a b)):=by
 refine(aJl ha hb).imp λσV H Q t ⟨S,h⟩=>?_
 have h:=RE.bind' (show RE (ev P (call P n) σ a >>= λx=>(match x.d with|.bl true=>R.ok (Vl.cl (.bl true))|.bl false=>ev P (call P n) σ b|_=>.bad)) _ from h)
 refine wE.one S h λx u H1 hx t1 S1 r1=>?_
 split at hx
 . rename_i d1
   refine⟨true,(r1.rv S).bl d1,?_⟩
   rw[if_pos rfl]
   exact λt'=>hx _ _ t' (Ro.cl r1.1 rfl)
 . rename_i d1
   refine⟨false,(r1.rv S).bl d1,?_⟩
   rw[if_neg bN]
   exact⟨S1,hx.mono λv hv u H' t r=>λ_=>hv u H' t (r.from r1.1)⟩
 . exact hx.elim
theorem aKc{t a b:E}{et ea eb:Expr}(ht:PT X et (WT X P n RT Y old σ t))(ha:PE X ea (WE X P n RT Y old σ a))(hb:PE X eb (WE X P n RT Y old σ b)):PE X (.IfExp et ea eb pos) (WE X P n RT Y old σ (.ife t a b)):=by
 refine(aCg ht ha hb).imp λσV H Q t0 ⟨S,h⟩=>?_
 have h:=RE.bind' (show RE (tst P (call P n) σ t >>= λx=>if x=true then ev P (call P n) σ a else ev P (call P n) σ b) _ from h)
 refine⟨S,h.mono λk hk H1 t1 s1=>?_⟩
 cases k with
 | true=>rw[if_pos rfl] at hk ⊢;exact⟨S.grow s1 t1,hk.mono λv hv u H' t r=>λ_=>hv u H' t (r.from s1)⟩
 | false=>rw[if_neg bN] at hk ⊢;exact⟨S.grow s1 t1,hk.mono λv hv u H' t r=>λ_=>hv u H' t (r.from s1)⟩
def w2(X:Cx)(P:Pg)(n:Nat)(RT Y old:Addr->Prop)(σ:Sg)(σV:L2.St)(H:Hp)(p:Vl->Vl->Prop)(ux uy:V)(H2:Hp):Prop:=
 ∃x y,Sx X.K RT Y old σ σV H2/\aR H H2/\Rv X.K RT Y old σ σV H2 x ux/\Rv X.K RT Y old σ σV H2 y uy/\p x y
theorem iW(M:Mc X P Γ n)(o:CmpOp):OpR X (compareOp o) (λux uy H Q=>∃(σ:Sg) (σV:L2.St) (x y:Vl) (k:Bool),Rv X.K RT Y old σ σV H x ux/\Rv X.K RT Y old σ σV H y uy/\dJ o x.d y.d=some k/\Q (.bl k) H):=by
 intro pins s σV H ux uy v u Q I rx ry h
 obtain⟨σ',σV',x,y,k,hx,hy,hk,q⟩:=h
 exact aBv I M.units rx ry hx hy hk q
theorem aKd(M:Mc X P Γ n){o:CmpOp}{a b:E}{ea eb:Expr}(ha:PE X ea (WE X P n RT Y old σ a))(hb:PE X eb (WE X P n RT Y old σ b))(hp:bD eb=true):PE X (.Compare ea [o] [eb] pos) (WE X P n RT Y old σ (.cmp o a b)):=by
 refine(sF (iW (RT:=RT) (Y:=Y) (old:=old) M o) ha hb (fH hp)).imp λσV H Q t ⟨S,h⟩=>?_
 have h:=RE.bind' (show RE (ev P (call P n) σ a >>= λx=>ev P (call P n) σ b >>= λy=>(match dJ o x.d y.d with|some k=>R.ok (Vl.cl (.bl k))|none=>.bad)) _ from h)
 refine wE.two S (h.mono λx hx=>RE.bind' hx) λx y ux uy H2 hp t2 s2 S2 hx hy=>?_
 split at hp
 . rename_i k hk
   exact⟨σ,σV,x,y,k,hx,hy,hk,λt'=>hp _ _ t' (Ro.cl s2 rfl)⟩
 . exact hp.elim
theorem gW(M:Mc X P Γ n){o:CmpOp}{a b:E}{ea eb:Expr}(ha:PE X ea (WE X P n RT Y old σ a))(hb:PE X eb (WE X P n RT Y old σ b))(hp:bD eb=true):PT X (.Compare ea [o] [eb] pos) (WT X P n RT Y old σ (.cmp o a b)):=by
 refine(sG (iW (RT:=RT) (Y:=Y) (old:=old) M o) ha hb (fH hp)).imp λσV H Q t ⟨S,h⟩=>?_
 have h:=RE.bind' (show RE (ev P (call P n) σ a >>= λx=>ev P (call P n) σ b >>= λy=>(match dJ o x.d y.d with|some k=>R.ok k|none=>.bad)) _ from h)
 refine wE.two S (h.mono λx hx=>RE.bind' hx) λx y ux uy H2 hp t2 s2 S2 hx hy=>?_
 split at hp
 . rename_i k hk
   exact⟨σ,σV,x,y,k,hx,hy,hk,k,rfl,λt'=>hp _ t' s2⟩
 . exact hp.elim
theorem oH{K:Fg}{H:Hp}{ex:Addr->Prop}:∀{ds:List D} {ns:List Int} {xs:List V},lQ ds=some ns->Reps K H ex ds xs->xs=ns.map V.int
 | [],ns,xs,h,r=>by cases h;exact r
 | d::ds,ns,xs,h,r=>by
  obtain⟨x,r',e,h1,h2⟩:=r
  subst e
  cases d with
  | int i=>
   unfold lQ at h
   split at h
   . rename_i ms q
     cases h
     rw[show x=.int i from h1,oH q h2]
     rfl
   . cases h
  | _=>cases h
theorem oI{K:Fg}{H:Hp}{ex:Addr->Prop}:∀{ds:List D} {k:NK} {xs:List V},qY ds=some k->Reps K H ex ds xs->∃bs:List Addr,xs=bs.map V.ref/\Paired (λis c=>SqT K H c (is.map V.int)) k bs
 | [],k,xs,h,r=>by cases h;exact⟨[],r,.nil⟩
 | d::ds,k,xs,h,r=>by
  obtain⟨x,r',e,h1,h2⟩:=r
  subst e
  cases d with
  | tup as=>
   unfold qY at h
   split at h
   . rename_i a q e1 e2
     cases h
     obtain⟨bs,rfl,p⟩:=oI e2 h2
     obtain⟨c,ys,rfl,q1,q2⟩:=h1
     rw[oH e1 q2] at q1
     exact⟨c::bs,rfl,.cons q1 p⟩
   . cases h
  | _=>cases h
theorem yN{K:Fg}{H:Hp}{ex:Addr->Prop}{d:D}{k:NK}{u:V}(h:lR d=some k)(r:Rep K H ex d u):∃b,u=.ref b/\cV K H k b:=by
 cases d with
 | tup ds=>
  obtain⟨b,xs,rfl,q,r⟩:=r
  obtain⟨bs,rfl,p⟩:=oI (show qY ds=some k from h) r
  exact⟨b,rfl,bs,q,p⟩
 | _=>cases h
theorem aFt{xs:List NE}{ks:List (NK×D)}(h:xs.map pj=ks.map kV):xs.map (·.1)=ks.map (·.1):=by
 have:=congrArg (List.map (·.1)) h
 rw[List.map_map,List.map_map] at this
 exact this
theorem aAm{a:E}{j:Nat}{σV:L2.St}{H:Hp}{α:Type}{mk:Bool->α}{p:α->Prop}{Q:V->Hp->Prop}(S:Sx X.K RT Y old σ σV H)(h:RE (ev P (call P n) σ a >>= λx=>(match σ[j]?,lR x.d with|some (.dct ks),some k=>R.ok (mk (!decide (k∈ks.map (·.1))))|_,_=>.bad)) p)
 (f:∀b H',Tk X.K H'->aR H H'->p (mk b)->Q (.bl b) H'):tOp (λux uy H Q=>∃a b xs k,ux=.ref b/\uy=.ref a/\H a=some (dN a xs)/\(∀x∈xs,cV X.K H x.1 x.2.1)/\cV X.K H k b/\Q (.bl (!decide (k∈xs.map (·.1)))) H) (WE X P n RT Y old σ a) (aBd j) σV H Q:=by
 refine wE.one S (RE.bind' h) λx u H1 hx t1 S1 r1=>?_
 split at hx
 . rename_i ks k e1 e2
   obtain⟨b,rfl,hk⟩:=yN e2 (r1.rv S)
   obtain⟨ad,xs,g1,g2,g3,g4,g5,g6⟩:=S1.dx.at' j ks e1
   refine⟨.ref ad,g1,ad,b,xs,k,rfl,rfl,g2,g6,hk,?_⟩
   rw[aFt g5]
   exact f _ H1 t1 r1.1 hx
 . exact hx.elim
theorem aHL(M:Mc X P Γ n){a:E}{j:Nat}{ea:Expr}{x:Str}{p:Pos}(hx:bO Γ j x=true)(ha:PE X ea (WE X P n RT Y old σ a)):PE X (.Compare ea [.NotIn] [.Name x p] pos) (WE X P n RT Y old σ (.dnin a j)):=by
 unfold bO at hx
 simp only[bA] at hx
 obtain⟨⟨h1,h2⟩,h3⟩:=hx
 exact(sF (aGt (by have:=M.units;omega)) ha (hU (by rw[M.N];exact eq_of_beq h1) (M.vis h2) (aS h3) (eB h3)) (fH rfl)).imp λσV H Q t ⟨S,h⟩=>aAm (mk:=λb=>Vl.cl (.bl b)) S h λb H' t s w=>λt'=>w _ _ t' (Ro.cl s rfl)
theorem aHM(M:Mc X P Γ n){a:E}{j:Nat}{ea:Expr}{x:Str}{p:Pos}(hx:bO Γ j x=true)(ha:PE X ea (WE X P n RT Y old σ a)):PT X (.Compare ea [.NotIn] [.Name x p] pos) (WT X P n RT Y old σ (.dnin a j)):=by
 unfold bO at hx
 simp only[bA] at hx
 obtain⟨⟨h1,h2⟩,h3⟩:=hx
 exact(sG (aGt (by have:=M.units;omega)) ha (hU (by rw[M.N];exact eq_of_beq h1) (M.vis h2) (aS h3) (eB h3)) (fH rfl)).imp λσV H Q t ⟨S,h⟩=>aAm (mk:=λb=>b) S h λb H' t s w=>⟨b,rfl,λt'=>w _ t' s⟩
theorem aKe{a b:E}{ea eb:Expr}(ha:PE X ea (WE X P n RT Y old σ a))(hb:PE X eb (WE X P n RT Y old σ b))(hp:bD eb=true):PE X (.Subscript ea eb pos) (WE X P n RT Y old σ (.idx a b)):=by
 refine(aGs aHv ha hb (oG hp)).imp λσV H Q t ⟨S,h⟩=>?_
 have h:=RE.bind' (show RE (ev P (call P n) σ a >>= λx=>ev P (call P n) σ b >>= λy=>bM x y) _ from h)
 refine wE.two S (h.mono λx hx=>RE.bind' hx) λx y ux uy H2 hp t2 s2 S2 hx hy=>?_
 exact aBw t2 hx hy (hp.mono λv hv u H' t r=>hv u H' t (r.from s2))
theorem aAn:PA X [] (WA X P n RT Y old σ .nil):=nT.imp λσV H Q t ⟨S,h⟩ t'=>h [] H t' (aR.refl H) rfl
theorem oJ{c:E}{cs:Es}{e:Expr}{es:List Expr}(ha:PE X e (WE X P n RT Y old σ c))(hr:PA X es (WA X P n RT Y old σ cs))(hp:bD e=true):PA X (e::es) (WA X P n RT Y old σ (.cons c cs)):=by
 refine(iR ha hr (aD hp)).imp λσV H Q t ⟨S,h⟩=>?_
 have h:=RE.bind' (show RE (ev P (call P n) σ c >>= λx=>evs P (call P n) σ cs >>= λxs=>R.ok (x::xs)) _ from h)
 refine wE.one S h λx u H1 hx t1 S1 r1=>⟨S1,(RE.bind' hx).mono λvs hv us H2 t2 s2 r2 t'=>?_⟩
 exact hv (u::us) H2 t' (r1.1.trans s2) ⟨u,us,rfl,(r1.rv S).grow s2,r2⟩
theorem tI:∀{cs:Es} {es:List Expr} {vs:List Vl},chkEs Γ cs es=true->evs P (call P n) σ cs=.ok vs->vs.length=es.length
 | .nil,[],vs,_,h=>by cases(show R.ok []=R.ok vs from h);rfl
 | .nil,_::_,_,h,_=>by cases h
 | .cons _ _,[],_,h,_=>by cases h
 | .cons c cs,e::es,vs,hc,h=>by
  simp only[chkEs,bA] at hc
  have h:(ev P (call P n) σ c >>= λx=>evs P (call P n) σ cs >>= λxs=>R.ok (x::xs))=R.ok vs:=h
  cases q1:ev P (call P n) σ c with
  | ok x=>
   cases q2:evs P (call P n) σ cs with
   | ok xs=>
    rw[q1] at h
    have h:(evs P (call P n) σ cs >>= λxs=>R.ok (x::xs))=R.ok vs:=h
    rw[q2] at h
    cases(show R.ok (x::xs)=R.ok vs from h)
    rw[lC,lC,tI hc.2 q2]
   | exc z=>rw[q1] at h;have h:(evs P (call P n) σ cs >>= λxs=>R.ok (x::xs))=R.ok vs:=h;rw[q2] at h;cases h
   | bad=>rw[q1] at h;have h:(evs P (call P n) σ cs >>= λxs=>R.ok (x::xs))=R.ok vs:=h;rw[q2] at h;cases h
  | exc z=>rw[q1] at h;cases h
  | bad=>rw[q1] at h;cases h
theorem RE.eq{α:Type}{x:R α}{p:α->Prop}(h:RE x p):∃a,x=.ok a/\p a:=by
 cases x with
 | ok a=>exact⟨a,rfl,h⟩
 | exc e=>exact h.elim
 | bad=>exact h.elim
theorem aKf{cs:Es}{es:List Expr}{k:Nat}(ha:PA X es (WA X P n RT Y old σ cs))(hc:chkEs Γ cs es=true)(hl:es.length<=1000):PE X (.Tuple es k pos) (WE X P n RT Y old σ (.tup cs)):=by
 refine(aHq ha).imp λσV H Q t ⟨S,h⟩=>?_
 have h:=RE.bind' (show RE (evs P (call P n) σ cs >>= λvs=>R.ok (jQ vs)) _ from h)
 obtain⟨vs,e,hv⟩:=h.eq
 refine⟨S,?_⟩
 show RE (evs P (call P n) σ cs) _
 rw[e]
 intro us H1 t1 s1 r1
 have hn:us.length<=sizeLine:=by rw[<-r1.length,tI hc e,sizeLine_eq];omega
 exact⟨hn,λp hp t'=>(show Wn X RT Y old σ σV H Q (jQ vs) from hv) _ _ t' ((Ro.tup hp rfl rfl r1.all).from s1)⟩
theorem aKg{cs:Es}{es:List Expr}(ha:PA X es (WA X P n RT Y old σ cs))(hc:chkEs Γ cs es=true)(hl:es.length<=1000):PE X (.List es pos) (WE X P n RT Y old σ (.lst cs)):=by
 refine(aHr ha).imp λσV H Q t ⟨S,h⟩=>?_
 have h:=RE.bind' (show RE (evs P (call P n) σ cs >>= λvs=>R.ok (mR vs)) _ from h)
 obtain⟨vs,e,hv⟩:=h.eq
 refine⟨S,?_⟩
 show RE (evs P (call P n) σ cs) _
 rw[e]
 intro us H1 t1 s1 r1
 have hn:us.length<=sizeLine:=by rw[<-r1.length,tI hc e,sizeLine_eq];omega
 exact⟨hn,λp hp t'=>(show Wn X RT Y old σ σV H Q (mR vs) from hv) _ _ t' ((Ro.fresh hp t' rfl rfl (S.grow s1 t1) r1.all).from s1)⟩
theorem aFu:∀b:Bi,aCR b=true->bootBuiltins (jX b)=some (aGA b):=by
 intro b hb
 cases b <;> first|kernel_rfl|cases hb
theorem fI:∀b:Bi,jX b∈bltNames:=by
 intro b
 cases b <;> decide +kernel
theorem gC:∀b:Bi,jX b ≠ "__name__" := by
 intro b
 cases b <;> decide +kernel
theorem aNa(M:Mc X P Γ n){b:Bi}{cs:Es}{x:Str}{p:Pos}{e:Expr}{es:List Expr}(hb:aCR b=true)(hx:jX b=x)(hg:eI Γ x=true)(ho:cT x=true)(ha:PA X (e::es) (WA X P n RT Y old σ cs))(hp:(e::es).all bD=true) :
 PE X (.Call (.Name x p) (e::es) [] pos) (WE X P n RT Y old σ (.bi b cs)):=by
 subst hx
 have hp':bD e=true/\es.all bD=true:=by simpa using hp
 have body:∀(f:PE X (.Call (.Name (jX b) p) (e::es) [] pos) (tCB (rBi X b) (WA X P n RT Y old σ cs))),PE X (.Call (.Name (jX b) p) (e::es) [] pos) (WE X P n RT Y old σ (.bi b cs)):=λf=>f.imp λσV H Q t ⟨S,h⟩=>by
  have h:=RE.bind' (show RE (evs P (call P n) σ cs >>= λvs=>biD b vs) _ from h)
  refine⟨S,h.mono λvs hv us H1 t1 s1 r1=>?_⟩
  exact aCY hb (S.grow s1 t1) r1 (hv.mono λv hv u H' t r=>hv u H' t (r.from s1))
 refine body ?_
 have r:=aFq M.calm M.room.gd M.units b hb
 have bo:=aFu b hb
 cases b with
 | len=>exact uU r (M.gl hg) (M.md.blt _ (fI _)) bo ha (gC _) (aS ho) (aD hp'.1) (dB hp'.2)
 | repr=>exact uU r (M.gl hg) (M.md.blt _ (fI _)) bo ha (gC _) (aS ho) (aD hp'.1) (dB hp'.2)
 | list=>exact iS r (M.gl hg) (M.md.blt _ (fI _)) bo ha (gC _) (aS ho) (aD hp'.1) (dB hp'.2)
 | tuple=>exact iS r (M.gl hg) (M.md.blt _ (fI _)) bo ha (gC _) (aS ho) (aD hp'.1) (dB hp'.2)
 | int=>exact iS r (M.gl hg) (M.md.blt _ (fI _)) bo ha (gC _) (aS ho) (aD hp'.1) (dB hp'.2)
 | _=>cases hb
theorem aFv{σV:L2.St}{H H1 H':Hp}{vs:List Vl}{r:Rt}{u:V}(S1:Sx X.K RT Y old σ σV H1)(s1:aR H H1)(s':aR H1 H')(h:Rr X.K H1 H' (λb=>Od X.K H1 b/\exV RT Y old σ σV (eZ vs) (cQ vs) b) r u) :
 Ro X.K RT Y old σ σV H H' (hG vs r) u:=by
 obtain⟨d,fr,pa⟩:=r
 have key:∀b,exV RT Y old σ σV (hG vs (d,fr,pa)).pa (hG vs (d,fr,pa)).al b->(Od X.K H1 b/\exV RT Y old σ σV (eZ vs) (cQ vs) b)\/(pa=false/\Od X.K H1 b):=by
  intro b z
  have tk:=exV.trk S1 z
  cases pa with
  | true=>exact .inl ⟨tk,z⟩
  | false=>exact .inr ⟨rfl,tk⟩
 have efr:(hG vs (d,fr,pa)).fr=fr:=by unfold hG;split <;> rfl
 have ed:(hG vs (d,fr,pa)).d=d:=by unfold hG;split <;> rfl
 refine⟨s1.trans s',?_⟩
 rw[efr]
 unfold Rr at h
 cases fr with
 | true=>
  rw[if_pos rfl] at h ⊢
  obtain⟨a,xs,ds,e1,e2,e3,e4,rr⟩:=h
  exact⟨a,xs,ds,e1,by rw[ed];exact e2,⟨s1.free e3.1,e3.2⟩,e4,rr.weak λb z=>z.elim (λz=>.inl z) λz=>.inr (key b z)⟩
 | false=>
  rw[if_neg bN] at h ⊢
  unfold Rv
  rw[ed]
  exact Rep.weak h key
theorem aDd{f:Nat}{cs:Es}{σV:L2.St}{H:Hp}{Q:VK}(S:Sx X.K RT Y old σ σV H)(h:RE (ev P (call P n) σ (.call f cs)) (Wn X RT Y old σ σV H Q)) :
 WA X P n RT Y old σ cs σV H λus H1=>spF X.K P n f (us++[]) H1 (λv H'=>Tk X.K H'->Q v H') E0:=by
 have h:=RE.bind' (show RE (evs P (call P n) σ cs >>= λvs=>call P n f (vs.map (·.d)) >>= λr=>R.ok (hG vs r)) _ from h)
 refine⟨S,h.mono λvs hv us H1 t1 s1 r1=>?_⟩
 have S1:=S.grow s1 t1
 refine⟨vs.map (·.d),λb=>Od X.K H1 b/\exV RT Y old σ σV (eZ vs) (cQ vs) b,λa z=>z.1,by rw[List.append_nil];exact r1.all.weak λa z=>z.2,(RE.bind' hv).mono λr hr u H' t' s' rr _=>?_⟩
 exact(show Wn X RT Y old σ σV H Q (hG vs r) from hr) u H' t' (aFv S1 s1 s' rr)
theorem aHN(M:Mc X P Γ n){f:Nat}{cs:Es}{x:Str}{p:Pos}{es:List Expr}(hf:Γ.fns[f]? = some x)(hg:eI Γ x=true)(ho:cT x=true)(ha:PA X es (WA X P n RT Y old σ cs))(hp:es.all bD=true)(hc:chkEs Γ cs es=true) :
 PE X (.Call (.Name x p) es [] pos) (WE X P n RT Y old σ (.call f cs)):=by
 obtain⟨fa,fd,ps,h1,h2,h3,h4⟩:=M.md.fn f x hf
 cases es with
 | cons e es=>
  have hp':bD e=true/\es.all bD=true:=by simpa using hp
  exact(sK h4 M.room (M.gl hg) h1 h2 h3 .nil aAf ha (aS ho) (aD hp'.1) (dB hp'.2)).imp λσV H Q t ⟨S,h⟩=>aDd S h
 | nil=>
  cases cs with
  | cons _ _=>cases hc
  | nil=>
   refine(aCu h4 M.room (M.gl hg) h1 h2 h3 .nil aAf (aS ho)).imp λσV H Q t ⟨S,h⟩=>?_
   exact(aDd S h).2 [] H t (aR.refl H) rfl
theorem aFw(M:Mc X P Γ n){f i:Nat}{cs:Es}{x y:Str}{p q:Pos}{es:List Expr}(hf:Γ.fns[f]? = some x)(hg:eI Γ x=true)(ho:cT x=true)(hy:bO Γ i y=true)(ha:PA X es (WA X P n RT Y old σ cs))(hp:es.all bD=true) :
 PE X (.Call (.Name x p) (.Name y q::es) [] pos) (WE X P n RT Y old σ (.callP f i cs)):=by
 obtain⟨fa,fd,ps,h1,h2,h3,h4⟩:=M.md.fn f x hf
 unfold bO at hy
 simp only[bA] at hy
 obtain⟨⟨y1,y2⟩,y3⟩:=hy
 refine(sK h4 M.room (M.gl hg) h1 h2 h3 .nil aAf (iR (hU (by rw[M.N];exact eq_of_beq y1) (M.vis y2) (aS y3) (eB y3)) ha rfl) (aS ho) rfl (dB hp)).imp λσV H Q t ⟨S,h⟩=>?_
 have h:=RE.bind' (show RE (evs P (call P n) σ cs >>= λvs=>vG σ i >>= λd=>call P n f (d::vs.map (·.d)) >>= jW) _ from h)
 obtain⟨vs,ev1,h⟩:=h.eq
 obtain⟨d,ed,h⟩:=(RE.bind' h).eq
 have go:∀(a:V),σV[i]? = some (some a)->(∀{H1:Hp},aR H H1->Rep X.K H1 (λ_=>False) d a)->∃v,σV[i]? = some (some v)/\WA X P n RT Y old σ cs σV H λus H1=>spF X.K P n f (v::us++[]) H1 (λv H'=>Tk X.K H'->Q v H') E0:=λa g1 hr=>by
  refine⟨a,g1,S,?_⟩
  rw[ev1]
  intro us H1 t1 s1 rr1
  refine⟨d::vs.map (·.d),λ_=>False,λ_ z=>z.elim,?_,(RE.bind' h).mono λr hr u H' t' s' rr _=>?_⟩
  . rw[List.append_nil]
    exact⟨a,us,rfl,hr s1,rr1.all.weak λ_ z=>z.elim⟩
  . obtain⟨hc,hw⟩:=RE.iff (show RE (R.iff (noL r.1&&!r.2.1) (.ok (Vl.cl r.1))) _ from hr)
    rw[bA] at hc
    obtain⟨n1,n2⟩:=hc
    have n2:r.2.1=false:=by simpa using n2
    unfold Rr at rr
    rw[if_neg (by rw[n2];decide)] at rr
    exact(show Wn X RT Y old σ σV H Q (.cl r.1) from hw) u H' t' (Ro.cl (s1.trans s') (Rep.free _ _ n1 rr))
 unfold vG at ed
 split at ed
 . rename_i ds x' y' e1
   cases ed
   obtain⟨a,b,xs,vx,vy,g1,ha',hb,_,_,r1,r2⟩:=S.dx.at2 i ds [x',y'] e1
   refine go (.ref a) g1 λ{H1} s1=>?_
   obtain⟨z1,w1,z2,k1,z3,w2,z4,k2,_⟩:=r2
   cases z2
   cases z4
   exact⟨a,_,rfl,aR.seqT s1 ha',_,_,rfl,k1.grow s1,_,_,rfl,⟨b,xs,rfl,SqL.of (s1 _ _ hb),⟨id,λ⟨_,_,z⟩=>z.elim⟩,r1.grow s1⟩,_,_,rfl,k2.grow s1,rfl⟩
 . rename_i pa e1
   cases ed
   obtain⟨v,g1,g2⟩:=S.sh i pa .non e1
   exact go v g1 λ_=>g2
 . cases ed
theorem aDe{i:Nat}{k:Bool}{σV:L2.St}{H:Hp}{Q:V->Hp->Prop}(S:Sx X.K RT Y old σ σV H)(h:aBs σ i=.ok k)(f:∀H',Tk X.K H'->aR H H'->Q (.bl k) H') :
 tOp (λx y H Q=>y=.non/\Q (.bl (!decide (x=.non))) H) (aBd i) (WE X P n RT Y old σ (.c .non)) σV H Q:=by
 have go:∀(a:V),σV[i]? = some (some a)->(!decide (a=.non))=k->tOp (λx y H Q=>y=.non/\Q (.bl (!decide (x=.non))) H) (aBd i) (WE X P n RT Y old σ (.c .non)) σV H Q:=λa g1 hk=>by
  refine⟨a,g1,wE.one (p:=λx=>x=.cl .non) S rfl λw u H1 hw t1 S1 rr=>?_⟩
  subst hw
  refine⟨rr.rv S,?_⟩
  rw[hk]
  exact f H1 t1 rr.1
 unfold aBs at h
 split at h
 . rename_i ds es e1
   cases h
   obtain⟨a,_,_,_,_,g1,_⟩:=S.dx.at2 i ds es e1
   exact go (.ref a) g1 rfl
 . rename_i pa e1
   cases h
   obtain⟨v,g1,g2⟩:=S.sh i pa .non e1
   exact go v g1 (by rw[show v=V.non from g2];rfl)
 . cases h
theorem aKh(M:Mc X P Γ n){i:Nat}{x:Str}{p p':Pos}{c:Const}{k:Nat}(hx:bO Γ i x=true)(hc:eqC .non c=true):PE X (.Compare (.Name x p) [.IsNot] [.Constant c k p'] pos) (WE X P n RT Y old σ (.pnn i)):=by
 unfold bO at hx
 simp only[bA] at hx
 obtain⟨⟨h1,h2⟩,h3⟩:=hx
 refine(sF sC (hU (by rw[M.N];exact eq_of_beq h1) (M.vis h2) (aS h3) (eB h3)) (show PE X _ (WE X P n RT Y old σ (.c .non)) from s_c hc) (fH rfl)).imp λσV H Q t ⟨S,h⟩=>?_
 obtain⟨b,e,h⟩:=(RE.bind' (show RE (aBs σ i >>= λk=>R.ok (Vl.cl (.bl k))) _ from h)).eq
 exact aDe S e λH' t s=>λt'=>(show Wn X RT Y old σ σV H Q (.cl (.bl b)) from h) _ _ t' (Ro.cl s rfl)
theorem aKi(M:Mc X P Γ n){i:Nat}{x:Str}{p p':Pos}{c:Const}{k:Nat}(hx:bO Γ i x=true)(hc:eqC .non c=true):PT X (.Compare (.Name x p) [.IsNot] [.Constant c k p'] pos) (WT X P n RT Y old σ (.pnn i)):=by
 unfold bO at hx
 simp only[bA] at hx
 obtain⟨⟨h1,h2⟩,h3⟩:=hx
 refine(sG sC (hU (by rw[M.N];exact eq_of_beq h1) (M.vis h2) (aS h3) (eB h3)) (show PE X _ (WE X P n RT Y old σ (.c .non)) from s_c hc) (fH rfl)).imp λσV H Q t ⟨S,h⟩=>?_
 obtain⟨b,e,h⟩:=(show RE (aBs σ i) _ from h).eq
 exact aDe S e λH' t s=>⟨b,rfl,λt'=>h _ t' s⟩
theorem aDf{K:Fg}{H:Hp}{a:Addr}(h:¬ Od K H a):H a=none/\K.lookup a=none:=⟨Classical.byContradiction λz=>h λy=>absurd y z,Classical.byContradiction λz=>h λ_=>z⟩
theorem aBA{c:Cl}{cv:Value}{x:Str}(hc:vO c=some cv)(hx:yG Γ c=some x):bootBuiltins x=some cv/\x∈bltNames/\x ≠ "__name__" := by
 cases c <;> cases hc <;> cases hx <;> exact⟨by kernel_rfl,by decide +kernel,by decide +kernel⟩
theorem aKj(M:Mc X P Γ n){a:E}{c:Cl}{cv:Value}{f x:Str}{pf py:Pos}{ea:Expr}(hf:f=("isinstance" : Str))(hg:eI Γ f=true)(hc:vO c=some cv)(hx:yG Γ c=some x)(hgx:eI Γ x=true)(hox:cT x=true)
 (ha:PE X ea (WE X P n RT Y old σ a)) (hp:bD ea=true):PE X (.Call (.Name f pf) [ea,.Name x py] [] pos) (WE X P n RT Y old σ (.isi a [c])):=by
 subst hf
 intro pins s σV H Q I hw
 obtain⟨S,h⟩:=hw
 have h:=RE.bind' (show RE (ev P (call P n) σ a >>= λx=>(match isI [c] P x.d with|some k=>R.ok (Vl.cl (.bl k))|none=>.bad)) _ from h)
 obtain⟨b1,b2,b3⟩:=aBA hc hx
 refine wpAny_Call_Name_kw (jS I (M.gl hg) (M.md.blt _ (by decide +kernel)) (show bootBuiltins "isinstance" = some (.builtin "isinstance") by kernel_rfl) ?_ (by decide +kernel) (by decide +kernel))
 refine PyProof.Rows.callWith_builtin1 ?_ (aD hp) rfl
 rw[aD hp]
 show wpAny _ _ (spliced ((false,eval ea X.env)::backTo pos (starEach [.Name x py] X.env))) _ _ s
 refine Calls.spliced_cons (thn (ha pins s σV H (λu H1=>∃y k,Rv X.K RT Y old σ σV H1 y u/\isI [c] P y.d=some k/\Q (.bl k) H1) I (wE.one S h λy u H1 hy t1 S1 r1=>?_)) λv s1 ⟨u,H1,I1,ru,y,k,hy,hk,q⟩=>?_)
 . split at hy
   . rename_i k hk
     exact⟨y,k,r1.rv S,hk,(show Wn X RT Y old σ σV H Q (Vl.cl (.bl k)) from hy) _ _ t1 (Ro.cl r1.1 rfl)⟩
   . exact hy.elim
 . show wpAny _ _ (spliced ((false,eval (.Name x py) X.env)::backTo pos (starEach [] X.env))) _ _ s1
   refine Calls.spliced_cons (jS I1 (M.gl hgx) (M.md.blt _ b2) b1 (Calls.spliced_nil ?_) b3 (aS hox))
   exact aBz P I1 ru hy hc hk q
end
section
variable {X:Cx} {P:Pg} {n:Nat} {RT Y old:Addr->Prop} {σ:Sg} {pos:Pos}
end
section
variable {X:Cx} {P:Pg} {Γ:Ct} {n:Nat} {RT Y old:Addr->Prop} {σ:Sg} {pos:Pos}
theorem oK{o o':CmpOp}{eb ec:Expr}(hq:bD ec=true):lastMarks [o,o'] [eb,ec]=false:=fH hq
theorem aHO(M:Mc X P Γ n){o o':CmpOp}{a b c:E}{ea eb ec:Expr}(ha:PE X ea (WE X P n RT Y old σ a))(hb:PE X eb (WE X P n RT Y old σ b))(hc:PE X ec (WE X P n RT Y old σ c))(hq:bD ec=true) :
 PE X (.Compare ea [o,o'] [eb,ec] pos) (WE X P n RT Y old σ (.cmp2 o o' a b c)):=by
 refine(aCp (iW (RT:=RT) (Y:=Y) (old:=old) M o) (iW (RT:=RT) (Y:=Y) (old:=old) M o') ha hb hc (oK hq)).imp λσV H Q t ⟨S,h⟩=>?_
 have h:=RE.bind' (show RE (ev P (call P n) σ a >>= λx=>ev P (call P n) σ b >>= λy=>(match dJ o x.d y.d with
  | some true=>ev P (call P n) σ c >>= λz=>(match dJ o' y.d z.d with|some k=>R.ok (Vl.cl (.bl k))|none=>.bad)
  | some false=>R.ok (Vl.cl (.bl false))
  | none=>.bad)) _ from h)
 refine wE.two S (h.mono λx hx=>RE.bind' hx) λx y ux uy H2 hp t2 s2 S2 hx hy=>?_
 split at hp
 . rename_i hk
   refine⟨σ,σV,x,y,true,hx,hy,hk,true,rfl,?_⟩
   rw[if_pos rfl]
   refine wE.one S2 (RE.bind' hp) λz u H3 hz t3 S3 r3=>?_
   split at hz
   . rename_i k' hk'
     exact⟨σ,σV,y,z,k',hy.grow r3.1,r3.rv S2,hk',λt'=>hz _ _ t' (Ro.cl (s2.trans r3.1) rfl)⟩
   . exact hz.elim
 . rename_i hk
   refine⟨σ,σV,x,y,false,hx,hy,hk,false,rfl,?_⟩
   rw[if_neg bN]
   exact λt'=>hp _ _ t' (Ro.cl s2 rfl)
 . exact hp.elim
theorem aHP(M:Mc X P Γ n){o o':CmpOp}{a b c:E}{ea eb ec:Expr}(ha:PE X ea (WE X P n RT Y old σ a))(hb:PE X eb (WE X P n RT Y old σ b))(hc:PE X ec (WE X P n RT Y old σ c))(hq:bD ec=true) :
 PT X (.Compare ea [o,o'] [eb,ec] pos) (WT X P n RT Y old σ (.cmp2 o o' a b c)):=by
 refine(aCq (iW (RT:=RT) (Y:=Y) (old:=old) M o) (iW (RT:=RT) (Y:=Y) (old:=old) M o') ha hb hc (oK hq)).imp λσV H Q t ⟨S,h⟩=>?_
 have h:=RE.bind' (show RE (ev P (call P n) σ a >>= λx=>ev P (call P n) σ b >>= λy=>(match dJ o x.d y.d with
  | some true=>ev P (call P n) σ c >>= λz=>(match dJ o' y.d z.d with|some k=>R.ok k|none=>.bad)
  | some false=>R.ok false
  | none=>.bad)) _ from h)
 refine wE.two S (h.mono λx hx=>RE.bind' hx) λx y ux uy H2 hp t2 s2 S2 hx hy=>?_
 split at hp
 . rename_i hk
   refine⟨σ,σV,x,y,true,hx,hy,hk,true,rfl,?_⟩
   rw[if_pos rfl]
   refine wE.one S2 (RE.bind' hp) λz u H3 hz t3 S3 r3=>?_
   split at hz
   . rename_i k' hk'
     exact⟨σ,σV,y,z,k',hy.grow r3.1,r3.rv S2,hk',k',rfl,λt'=>hz _ t' (s2.trans r3.1)⟩
   . exact hz.elim
 . rename_i hk
   refine⟨σ,σV,x,y,false,hx,hy,hk,false,rfl,?_⟩
   rw[if_neg bN]
   exact⟨false,rfl,λt'=>hp _ t' s2⟩
 . exact hp.elim
theorem lU{a:E}{ea:Expr}(ha:PT X ea (WT X P n RT Y old σ a)):PT X (.UnaryOp .Not ea pos) (WT X P n RT Y old σ (.nt a)):=by
 refine(aGY ha).imp λσV H Q t ⟨S,h⟩=>?_
 have h:=RE.bind' (show RE (tst P (call P n) σ a >>= λx=>R.ok (!x)) _ from h)
 exact⟨S,h.mono λk hk H1 t1 s1 t'=>(show ∀H',Tk X.K H'->aR H H'->Q (!k) H' from hk) _ t' s1⟩
theorem aDg{e:Expr}{t t':TT}(h:PW X e t)(f:∀σV H Q,Tk X.K H->t' σV H Q->t σV H λv H'=>Tk X.K H'->Q v H'):PW X e t':=λwh pins s σV H Q I hw=>
 thn (h wh pins s σV H _ I (f σV H Q I.tk hw)) λk s' ⟨H',I',q⟩=>⟨H',I',q I'.tk⟩
theorem aKk{a b:E}{ea eb:Expr}{r:List Expr}(ha:PT X ea (WT X P n RT Y old σ a))(hb:PW X (.BoolOp .And (eb::r) pos) (WT X P n RT Y old σ b)):PW X (.BoolOp .And (ea::eb::r) pos) (WT X P n RT Y old σ (.an a b)):=by
 refine aDg (aGX ha hb) λσV H Q t ⟨S,h⟩=>?_
 have h:=RE.bind' (show RE (tst P (call P n) σ a >>= λx=>if x=true then tst P (call P n) σ b else R.ok false) _ from h)
 refine⟨S,h.mono λk hk H1 t1 s1=>?_⟩
 cases k with
 | true=>rw[if_pos rfl] at hk ⊢;exact⟨S.grow s1 t1,hk.mono λv hv H' t s' _=>hv H' t (s1.trans s')⟩
 | false=>rw[if_neg bN] at hk ⊢;exact λt'=>(show ∀H',Tk X.K H'->aR H H'->Q false H' from hk) _ t' s1
theorem aGC{a b:E}{ea eb:Expr}{r:List Expr}(ha:PT X ea (WT X P n RT Y old σ a))(hb:PW X (.BoolOp .Or (eb::r) pos) (WT X P n RT Y old σ b)):PW X (.BoolOp .Or (ea::eb::r) pos) (WT X P n RT Y old σ (.orr a b)):=by
 refine aDg (aJj ha hb) λσV H Q t ⟨S,h⟩=>?_
 have h:=RE.bind' (show RE (tst P (call P n) σ a >>= λx=>if x=true then R.ok true else tst P (call P n) σ b) _ from h)
 refine⟨S,h.mono λk hk H1 t1 s1=>?_⟩
 cases k with
 | true=>rw[if_pos rfl] at hk ⊢;exact λt'=>(show ∀H',Tk X.K H'->aR H H'->Q true H' from hk) _ t' s1
 | false=>rw[if_neg bN] at hk ⊢;exact⟨S.grow s1 t1,hk.mono λv hv H' t s' _=>hv H' t (s1.trans s')⟩
def wO(X:Cx)(P:Pg)(n:Nat)(RT Y old:Addr->Prop)(σ:Sg)(cs:Es):TO:=λσV H Q=>Sx X.K RT Y old σ σV H/\RE (evs P (call P n) σ cs) λvs=>
 (vs=[]/\∀H',Tk X.K H'->aR H H'->Q none H')\/∃v i,vs=[v]/\v.d=.int i/\∀H',Tk X.K H'->aR H H'->Q (some i) H'
theorem aDh{e:Option Expr}{t t':TO}(h:PO X e t)(f:∀σV H Q,Tk X.K H->t' σV H Q->t σV H λv H'=>Tk X.K H'->Q v H'):PO X e t':=λpins s σV H Q I hw=>
 thn (h pins s σV H _ I (f σV H Q I.tk hw)) λu s' ⟨o,H',I',r,q⟩=>⟨o,H',I',r,q I'.tk⟩
theorem aKl:PO X none (wO X P n RT Y old σ .nil):=aDh aEY λσV H Q t ⟨S,h⟩ t'=>by
 rcases(show([]:List Vl)=[]/\_\/_ from h) with⟨_,q⟩|⟨v,i,e,_⟩
 . exact q H t' (aR.refl H)
 . cases e
theorem aKm{c:E}{e:Expr}(ha:PE X e (WE X P n RT Y old σ c)):PO X (some e) (wO X P n RT Y old σ (.cons c .nil)):=by
 refine aDh (aEZ ha) λσV H Q t ⟨S,h⟩=>?_
 have h:=RE.bind' (show RE (ev P (call P n) σ c >>= λx=>evs P (call P n) σ .nil >>= λxs=>R.ok (x::xs)) _ from h)
 refine wE.one S h λx u H1 hx t1 S1 r1=>?_
 rcases(show([x]:List Vl)=[]/\_\/∃v i,([x]:List Vl)=[v]/\_/\_ from hx) with⟨e,_⟩|⟨v,i,e,hd,q⟩
 . cases e
 . cases e
   exact⟨i,(r1.rv S).int hd,λt'=>q _ t' r1.1⟩
theorem aKn{a:E}{lo hi:Es}{ea:Expr}{el eh:Option Expr}{p2:Pos}(ha:PE X ea (WE X P n RT Y old σ a))(hl:PO X el (wO X P n RT Y old σ lo))(hh:PO X eh (wO X P n RT Y old σ hi)) :
 PE X (.Subscript ea (.Slice el eh none p2) pos) (WE X P n RT Y old σ (.sli a lo hi)):=by
 refine(aCw (aHJ (X:=X)) ha hl hh).imp λσV H Q t ⟨S,h⟩=>?_
 have h:=RE.bind' (show RE (ev P (call P n) σ a >>= λx=>evs P (call P n) σ lo >>= λl=>evs P (call P n) σ hi >>= λh=>(match l,h with
  | [],[]=>eS x none none
  | [l],[]=>(match l.d with|.int l=>R.iff (aM l) (eS x (some l) none)|_=>.bad)
  | [],[h]=>(match h.d with|.int h=>R.iff (aM h) (eS x none (some h))|_=>.bad)
  | [l],[h]=>(match l.d,h.d with|.int l,.int h=>R.iff (aM l&&aM h) (eS x (some l) (some h))|_,_=>.bad)
  | _,_=>.bad)) _ from h)
 refine wE.one S h λx u H1 hx t1 S1 r1=>?_
 have hx:=RE.bind' hx
 refine⟨S1,hx.mono λl hl=>?_⟩
 have hl:=RE.bind' hl
 have up:∀(L:Option Int) (H2:Hp),Tk X.K H2->aR H1 H2->(RE (evs P (call P n) σ hi) λh=>(h=[]/\RE (eS x L none) (Wn X RT Y old σ σV H Q))\/∃v i,h=[v]/\v.d=.int i/\RE (eS x L (some i)) (Wn X RT Y old σ σV H Q)) ->
  wO X P n RT Y old σ hi σV H2 λhv H3=>aCA X.K u L hv H3 (λv H'=>Tk X.K H'->Q v H')\/aCx X.K u L hv H3 (λv H'=>Tk X.K H'->Q v H')\/vN X.K u L hv H3 (λv H'=>Tk X.K H'->Q v H')\/aCT u L hv H3 (λv H'=>Tk X.K H'->Q v H'):=by
  intro L H2 t2 s2 hh
  refine⟨S1.grow s2 t2,hh.mono λhv hq=>?_⟩
  have fin:∀(U:Option Int) (H3:Hp),Tk X.K H3->aR H2 H3->RE (eS x L U) (Wn X RT Y old σ σV H Q) ->
   aCA X.K u L U H3 (λv H'=>Tk X.K H'->Q v H')\/aCx X.K u L U H3 (λv H'=>Tk X.K H'->Q v H')\/vN X.K u L U H3 (λv H'=>Tk X.K H'->Q v H')\/aCT u L U H3 (λv H'=>Tk X.K H'->Q v H'):=λU H3 t3 s3 hs=>
   aBy (S1.grow (s2.trans s3) t3) t3 ((r1.rv S).grow (s2.trans s3)) (hs.mono λv hv u H' t r=>hv u H' t (r.from (r1.1.trans (s2.trans s3))))
  rcases hq with⟨e,hs⟩|⟨v,i,e,hd,hs⟩
  . exact .inl ⟨e,λH3 t3 s3=>fin none H3 t3 s3 hs⟩
  . exact .inr ⟨v,i,e,hd,λH3 t3 s3=>fin (some i) H3 t3 s3 hs⟩
 match l,hl with
 | [],hl=>
  refine .inl ⟨rfl,λH2 t2 s2=>up none H2 t2 s2 (hl.mono λh hh=>?_)⟩
  match h,hh with
  | [],hh=>exact .inl ⟨rfl,hh⟩
  | [h],hh=>
   have hh:RE (match h.d with|.int h=>R.iff (aM h) (eS x none (some h))|_=>.bad) _:=hh
   split at hh
   . rename_i i hd
     exact .inr ⟨h,i,rfl,hd,hh.iff.2⟩
   . exact hh.elim
  | _::_::_,hh=>exact hh.elim
 | [l],hl=>
  have hd:∃i,l.d=.int i:=by
   obtain⟨h,_,hh⟩:=hl.eq
   match h,hh with
   | [],hh=>
    have hh:RE (match l.d with|.int l=>R.iff (aM l) (eS x (some l) none)|_=>.bad) _:=hh
    split at hh
    . rename_i i hd;exact⟨i,hd⟩
    . exact hh.elim
   | [h],hh=>
    have hh:RE (match l.d,h.d with|.int l,.int h=>R.iff (aM l&&aM h) (eS x (some l) (some h))|_,_=>.bad) _:=hh
    split at hh
    . rename_i i j hd _;exact⟨i,hd⟩
    . exact hh.elim
   | _::_::_,hh=>exact hh.elim
  obtain⟨i,hd⟩:=hd
  refine .inr ⟨l,i,rfl,hd,λH2 t2 s2=>up (some i) H2 t2 s2 (hl.mono λh hh=>?_)⟩
  match h,hh with
  | [],hh=>
   have hh:RE (match l.d with|.int l=>R.iff (aM l) (eS x (some l) none)|_=>.bad) _:=hh
   rw[hd] at hh
   exact .inl ⟨rfl,hh.iff.2⟩
  | [h],hh=>
   have hh:RE (match l.d,h.d with|.int l,.int h=>R.iff (aM l&&aM h) (eS x (some l) (some h))|_,_=>.bad) _:=hh
   rw[hd] at hh
   split at hh
   . rename_i i' j e1 e2
     cases e1
     exact .inr ⟨h,j,rfl,e2,hh.iff.2⟩
   . exact hh.elim
  | _::_::_,hh=>exact hh.elim
 | _::_::_,hl=>exact(by
     obtain⟨h,_,hh⟩:=hl.eq
     match h,hh with
     | [],hh=>exact hh.elim
     | [_],hh=>exact hh.elim
     | _::_::_,hh=>exact hh.elim)
end
end Hp
end
noncomputable section
namespace L2
open PySem PySem.Spec PyProof.Rows
set_option maxRecDepth 100000
instance:LawfulBEq Key where
 eq_of_beq:=λ{a b} h=>by
  cases a with
  | inl x=>cases b with
   | inl y=>exact congrArg Sum.inl (eq_of_beq (show(x==y)=true from h))
   | inr y=>cases h
  | inr x=>cases b with
   | inl y=>cases h
   | inr y=>exact congrArg Sum.inr (eq_of_beq (show(x==y)=true from h))
 rfl:=λ{a}=>by
  cases a with
  | inl x=>exact(beq_self_eq_true x:(x==x)=true)
  | inr x=>exact(beq_self_eq_true x:(x==x)=true)
def aHQ(prog:Program)(w:World)(vs:List Value)(ks:List Key):Prop:=Paired (λv k=>(iQ prog w).is k v=true) vs ks
theorem aHQ.get{prog:Program}{w:World}:∀{vs:List Value} {ks:List Key},aHQ prog w vs ks->∀{i:Nat} {v:Value},vs[i]? = some v->∃k,ks[i]? = some k/\(iQ prog w).is k v=true
 | _,_,.nil,_,_,h=>by simp at h
 | _,_,.cons r _,0,_,h=>by simp at h;subst h;exact⟨_,rfl,r⟩
 | _,_,.cons _ t,i+1,v,h=>by
  obtain⟨k,h1,h2⟩:=aHQ.get t (i:=i) (v:=v) (by simpa using h)
  exact⟨k,by simpa using h1,h2⟩
section
variable {prog:Program} {w:World} {A:Around} {R:Result->Shared->Prop} {I:Addr} {fp wr:List Addr} {G:Array GenState->Array GenState->Prop} {n:Nat} {P:Nat->Value->Prop} {St:Nat->Shared->Prop}
end
section
variable {prog:Program} {w:World} {A:Around} {E:Value->Shared->Prop} {s:Shared}
end
end L2
end
noncomputable section
namespace Hp
open PySem PySem.Spec PyProof.Rows L2
section
variable {X:Cx} {P:Pg} {Γ:Ct} {n:Nat} {RT Y old:Addr->Prop} {σ:Sg} {pos:Pos} {K:Fg} {H:Hp}
theorem rC:∀{ds:List D} {xs:List Str} {ex:Addr->Prop} {vs:List V} {us:List Value},gJ ds=some xs->Reps K H ex ds vs->aY vs us->StrsAre us xs
 | [],xs,ex,vs,us,h,r,rv=>by
  cases h
  rw[show vs=[] from r] at rv
  cases rv
  exact .nil
 | d::ds,xs,ex,vs,us,h,r,rv=>by
  obtain⟨v,vr,e,h1,h2⟩:=r
  subst e
  cases rv with
  | cons r1 r2=>
   cases d with
   | str x=>
    unfold gJ at h
    cases q:gJ ds with
    | none=>rw[q] at h;cases h
    | some ys=>
     rw[q] at h
     cases h
     rw[show v=.str x from h1] at r1
     obtain⟨t,rfl⟩:=r1
     exact .cons _ _ (rC q h2 r2)
   | _=>cases h
theorem aHR{o:E}{cs:Es}{eo e:Expr}{ap cp:Pos}(ho:PE X eo (WE X P n RT Y old σ o))(ha:PA X [e] (WA X P n RT Y old σ cs))(hn:aJR eo=true)(hl:(ap.endLine==cp.line)=true)(hp:bD e=true) :
 PE X (.Call (.Attribute eo "join" ap) [e] [] cp) (WE X P n RT Y old σ (.mth .join o cs)):=by
 have rule:MtR X "str.join" (λx vs H Q=>∃a b ds ex xs ys,x=.str a/\vs=[.ref b]/\SqL X.K H b xs/\Reps X.K H ex ds xs/\gJ ds=some ys/\(ys.map (·.length)).sum+ys.length*a.length<=lim/\Q (.str (PySem.Str.join a ys)) H):=by
  intro pins s σV H x vs v us Q I rx rv h
  obtain⟨a,b,ds,ex,xs,ys,rfl,rfl,hS,r,hs,hb,q⟩:=h
  obtain⟨t,rfl⟩:=rx
  obtain⟨u,rfl,ru⟩:=rv.one
  cases ru
  obtain⟨its,r2,p,_⟩:=I.list hS
  refine join_list p.isList (ys:=ys) (by simpa using rC hs r r2) (Nat.le_trans hb (by decide)) λt' k=>?_
  refine⟨.str (PySem.Str.join a ys),H,I.tok k,⟨t',?_⟩,q⟩
  rw[<-PySem.StrLaws.glued_eq_join]
  rfl
 refine(aAe PySem.F.plainAttrs_str PySem.F.slot_str_join PySem.F.type_str_join rule ho ha (by cases eo <;> first|rfl|cases hn) (by rw[aD hp];rfl) hl (aD hp) rfl).imp λσV H Q t ⟨S,h⟩=>?_
 have h:=RE.bind' (show RE (ev P (call P n) σ o >>= λx=>evs P (call P n) σ cs >>= λys=>mtD .join x ys) _ from h)
 refine wE.one S h λx u H1 hx t1 S1 r1=>?_
 obtain⟨ys,ey,hy⟩:=(RE.bind' hx).eq
 cases d1:x.d with
 | str a=>
  cases ys with
  | nil=>unfold mtD at hy;rw[d1] at hy;exact False.elim hy
  | cons y ys=>cases ys with
   | cons _ _=>unfold mtD at hy;rw[d1] at hy;exact False.elim hy
   | nil=>
    unfold mtD at hy
    rw[d1] at hy
    cases d2:y.d with
    | lst ds=>
     simp only[d2] at hy
     cases hs:gJ ds with
     | none=>simp only[hs] at hy;exact False.elim hy
     | some xs=>
      simp only[hs] at hy
      obtain⟨hb,hy⟩:=hy.iff
      have rv:=(r1.rv S).str d1
      subst rv
      refine⟨rfl,S1,?_⟩
      rw[ey]
      intro us H2 t2 s2 r2
      obtain⟨u2,r',e1,ru,hr⟩:=r2
      rw[show r'=[] from hr] at e1
      subst e1
      obtain⟨b,zs,rfl,q,_,rr⟩:=ru.lst d2
      exact⟨a,b,ds,_,zs,xs,rfl,rfl,q,rr,hs,of_decide_eq_true hb,λt'=>(show Wn X RT Y old σ σV H Q (Vl.cl (.str (PySem.Str.join a xs))) from hy) _ _ t' (Ro.cl (r1.1.trans s2) rfl)⟩
    | _=>simp only[d2] at hy;exact False.elim hy
 | _=>unfold mtD at hy;rw[d1] at hy;exact False.elim hy
end
end Hp
end
noncomputable section
namespace L2
open PySem PySem.Spec PyProof.Rows
section
variable {X:Cx} {pins:List (Addr×Obj)} {σ:St} {H:Hp} {s:Shared} {h':Heap}
theorem Inv.turnsNew{its:List Addr}{T:Addr}{o:HO}{t':Nat}(I:Inv X pins σ H s)(f:∀b∈its,kJ X pins H b)(k:∀b o,b∉its->s.heap.get? b=some o->h'.get? b=some o)(there:∀b∈its,∃o,h'.get? b=some o)
 (hT:s.heap.objs.size<=T) (new:eK X.prog X.w (upd H T o) h' T o):Inv X pins σ (upd H T o) { s with heap:=h',toks:=t' }:=by
 have nit:∀b u,H b=some u->b∉its:=λb u e z=>by rw[(f b z).1] at e;cases e
 have hn:H T=none:=I.hok.fresh hT
 have neT:∀b o,s.heap.get? b=some o->b≠T:=λb o e=>Nat.ne_of_lt (Nat.lt_of_lt_of_le (Heap.lt_size e) hT)
 refine I.step (g':=s.gens) (d':=s.drawn) (ch:=its) (λb hb=>?_) (λb o _ _ hc e _=>k b o hc e) (λb o _ _ hc e _=>⟨o.slots,k b o hc e⟩) (λb o _ e n=>by rw[aP (neT b o e)];exact n)
  (λb o hc e=>⟨o,k b o hc e⟩) (λb xs e=>by rw[aP (bR e hn)];exact e) (λb o u e=>by rw[aP (bR e hn)];exact e) (λb ps e=>⟨#[],by rw[aP (bR e hn),e];simp⟩) (λm hm=>?_) (λb u e=>?_) I.bare
 . obtain⟨_,f1,f2,f3,f4,f5⟩:=f b hb
   exact⟨f3,f1,f4,f5⟩
 . obtain⟨o,es,ep,ho,r⟩:=hm
   exact⟨o,es,ep,k _ o (λz=>(f _ z).2.1 rfl) ho,r⟩
 . by_cases hb:b=T
   . subst hb
     rw[bW] at e
     cases e
     exact new
   . rw[aP hb] at e
     refine(I.hok b u e).stay (λc v hc q=>k c v ?_ q) (λc q=>by rw[aP (bR q hn)];exact q) λc xs q=>by rw[aP (bR q hn)];exact q
     rcases hc with z|z
     . rw[z];exact nit b u e
     . exact nit c _ z
theorem Inv.turns{its:List Addr}{t':Nat}(I:Inv X pins σ H s)(f:∀b∈its,kJ X pins H b)(k:∀b o,b∉its->s.heap.get? b=some o->h'.get? b=some o):Inv X pins σ H { s with heap:=h',toks:=t' }:=by
 have nit:∀b u,H b=some u->b∉its:=λb u e z=>by rw[(f b z).1] at e;cases e
 refine I.step (g':=s.gens) (d':=s.drawn) (ch:=its) (λb hb=>?_) (λb o _ _ hc e _=>k b o hc e) (λb o _ _ hc e _=>⟨o.slots,k b o hc e⟩) (λb o _ e n=>n)
  (λb o hc e=>⟨o,k b o hc e⟩) (λb xs e=>e) (λb o u e=>e) (λb ps e=>⟨#[],by rw[e];simp⟩) (λm hm=>?_) (λb u e=>?_) I.bare
 . obtain⟨_,f1,f2,f3,f4,f5⟩:=f b hb
   exact⟨f3,f1,f4,f5⟩
 . obtain⟨o,es,ep,ho,r⟩:=hm
   exact⟨o,es,ep,k _ o (λz=>(f _ z).2.1 rfl) ho,r⟩
 . refine(I.hok b u e).stay (λc v hc q=>k c v ?_ q) (λc q=>q) λc xs q=>q
   rcases hc with z|z
   . rw[z];exact nit b u e
   . exact nit c _ z
theorem Inv.newK(I:Inv X pins σ H s):X.K.lookup s.heap.objs.size=none:=by
 cases q:X.K.lookup s.heap.objs.size with
 | none=>rfl
 | some o=>exact absurd (Heap.lt_size (I.bk _ o (I.ok.mod.kin _ o q))) (Nat.lt_irrefl _)
def Sq(k:Bool)(K:PySem.W.Frag)(H:Hp)(a:Addr)(xs:List V):Prop:=match k with
 | true=>SqL K H a xs
 | false=>SqT K H a xs
def iC(k:Bool)(h:Heap)(a:Addr)(its:Array Value):Prop:=match k with
 | true=>h.IsList a its
 | false=>h.IsTuple a its
def fL(k:Bool)(h:Heap)(it a:Addr)(i:Nat):Prop:=match k with
 | true=>h.IsListIter it a i
 | false=>h.IsTupleIter it a i
theorem iC.at{k:Bool}{h:Heap}{a:Addr}{its:Array Value}(q:iC k h a its)(e:∀o,h.get? a=some o->h'.get? a=some o):iC k h' a its:=by
 cases k with
 | true=>exact Heap.IsList.at q e
 | false=>exact Heap.IsTuple.at q e
theorem fL.at{k:Bool}{h:Heap}{a it:Addr}{i:Nat}(q:fL k h it a i)(e:∀o,h.get? it=some o->h'.get? it=some o):fL k h' it a i:=by
 cases k with
 | true=>exact Heap.IsListIter.at q e
 | false=>exact Heap.IsTupleIter.at q e
theorem fL.obj{k:Bool}{h:Heap}{a it:Addr}{i:Nat}(q:fL k h it a i):∃o,h.get? it=some o/\∀v,o.data≠.cell v:=by
 cases k with
 | true=>obtain⟨o,e,c,d⟩:=q;exact⟨o,e,λv z=>by rw[d] at z;cases z⟩
 | false=>obtain⟨o,e,c,d⟩:=q;exact⟨o,e,λv z=>by rw[d] at z;cases z⟩
theorem Inv.sq{k:Bool}{a:Addr}{xs:List V}(I:Inv X pins σ H s)(h:Sq k X.K H a xs):∃its:List Value,aY xs its/\iC k s.heap a its.toArray/\xs.length<=sizeLine:=by
 cases k with
 | true=>obtain⟨its,r,p,z⟩:=I.list h;exact⟨its,r,p.isList,z⟩
 | false=>obtain⟨its,r,p,z⟩:=I.tuple h;exact⟨its,r,p,z⟩
theorem Inv.sq_inj{k:Bool}{a:Addr}{xs ys:List V}(I:Inv X pins σ H s)(h:Sq k X.K H a xs)(h':Sq k X.K H a ys):xs=ys:=by
 cases k with
 | true=>exact I.list_inj h h'
 | false=>exact I.tuple_inj h h'
theorem Sq.there{k:Bool}{K:PySem.W.Frag}{a:Addr}{xs:List V}(h:Sq k K H a xs):H a≠none\/∃o,K.lookup a=some o:=by
 cases k with
 | true=>
  rcases h with(h|⟨o,h⟩)|⟨o,its,n,q,_⟩
  . exact .inl (by rw[h];simp)
  . exact .inl (by rw[h];simp)
  . exact .inr ⟨_,q⟩
 | false=>
  rcases h with(h|⟨o,h⟩)|⟨o,its,n,q,_⟩
  . exact .inl (by rw[h];simp)
  . exact .inl (by rw[h];simp)
  . exact .inr ⟨_,q⟩
theorem Inv.sqNe{k:Bool}{a b:Addr}{xs:List V}(I:Inv X pins σ H s)(h:Sq k X.K H a xs)(f:kJ X pins H b):a≠b:=by
 intro e
 subst e
 rcases h.there with z|⟨o,z⟩
 . exact z f.1
 . have hb:=I.ok.mod.kin a o z
   rcases f.2.2.2.1 with q|q
   . exact I.ok.noex a o hb q
   . exact absurd (Nat.lt_of_lt_of_le (Heap.lt_size hb) (Nat.le_trans I.ok.bsz q)) (Nat.lt_irrefl _)
end
section
variable {prog:Program} {w:World} {A:Around} {E:Value->Shared->Prop} {s:Shared}
theorem kP{it l:Addr}{i:Nat}{items}{x:Value}{Q:Value->Shared->Prop}(hit:s.heap.IsTupleIter it l i)
 (hl:s.heap.IsTuple l items) (hx:items[i]? = some x)
 (hQ:∀h',h'.IsTupleIter it l (i+1)->Heap.SameBut it s.heap h'->Q x { s with heap:=h' }) :
 wpAny (model prog w) A (Builtin.SmallTypes.nextOf (.ref it)) Q E s:=by
 obtain⟨o,ho,hc,hd⟩:=id hit
 obtain⟨ol,hol,_,nl,hdl⟩:=hl
 unfold Builtin.SmallTypes.nextOf
 refine wpAny_bind (wpAny_callSpecial?_slot (name:=Str.ofString "__next__") hit.typeIs F.slot_tuple_iterator_next
  (wpAny_call_entry F.slot_tuple_iterator_next hit.typeIs F.entry_tuple_iterator_next ?_ (F.args_tuple_iterator_next_1 _)))
 show wpAny _ _ (field (.ref it) 0 >>= _) _ _ s
 refine wpAny_bind (wpAny_field ho hd (x:=.ref l) rfl ?_)
 show wpAny _ _ (if (Value.ref l==Value.none)=true then _ else _) _ _ s
 rw[if_neg (show ¬ ((Value.ref l==Value.none)=true) from bN)]
 show wpAny _ _ (field (.ref it) 1 >>= _) _ _ s
 refine wpAny_bind (wpAny_field ho hd (x:=.int i 0) rfl ?_)
 show wpAny _ _ (seqItems? (.ref l) >>= _) _ _ s
 refine wpAny_bind (wpAny_seqItems hol hdl ?_)
 simp only[Int.toNat_natCast,hx]
 refine wpAny_bind (wpAny_setField ho hd (by simp) (wpAny_pure ⟨x,rfl,wpAny_pure (hQ _ ?_ (Heap.SameBut.update ..))⟩))
 exact⟨_,Heap.get?_update_self _ ho (Obj.isFreed_of_fields (Obj.data_mapFields hd _)),(Obj.cls_mapFields ..).trans hc,by
  rw[Obj.data_mapFields hd];simp[rawInt]⟩
theorem lV{it l:Addr}{i:Nat}{items}{Q:Value->Shared->Prop}(hh:A.handled=none)
 (hit:s.heap.IsTupleIter it l i) (hl:s.heap.IsTuple l items) (hx:items[i]? = none)
 (hE:∀h' e,Heap.ExtBut it s.heap h'->(∃o,h'.get? e=some o/\o.cls=.type "StopIteration")->E (.ref e) { s with heap:=h' }) :
 wpAny (model prog w) A (Builtin.SmallTypes.nextOf (.ref it)) Q E s:=by
 obtain⟨o,ho,hc,hd⟩:=id hit
 obtain⟨ol,hol,_,nl,hdl⟩:=hl
 unfold Builtin.SmallTypes.nextOf
 refine wpAny_bind (wpAny_callSpecial?_slot (name:=Str.ofString "__next__") hit.typeIs F.slot_tuple_iterator_next
  (wpAny_call_entry F.slot_tuple_iterator_next hit.typeIs F.entry_tuple_iterator_next ?_ (F.args_tuple_iterator_next_1 _)))
 show wpAny _ _ (field (.ref it) 0 >>= _) _ _ s
 refine wpAny_bind (wpAny_field ho hd (x:=.ref l) rfl ?_)
 show wpAny _ _ (if (Value.ref l==Value.none)=true then _ else _) _ _ s
 rw[if_neg (show ¬ ((Value.ref l==Value.none)=true) from bN)]
 show wpAny _ _ (field (.ref it) 1 >>= _) _ _ s
 refine wpAny_bind (wpAny_field ho hd (x:=.int i 0) rfl ?_)
 show wpAny _ _ (seqItems? (.ref l) >>= _) _ _ s
 refine wpAny_bind (wpAny_seqItems hol hdl ?_)
 simp only[Int.toNat_natCast,hx]
 refine wpAny_bind (wpAny_rule (wpAny_bind (wpAny_setField ho hd (by simp) ?_)))
 show wpAny _ _ (newExc (.type "StopIteration") [] >>= _) _ _ _
 refine wpAny_bind ?_
 simp only[newExc,newTuple]
 refine wpAny_bind (wpAny_newObj_type ?_ (by size_fits))
 refine wpAny_bind (m:=firstArgMember _ _) (wpAny_of_eq (a:=Value.none) (by first|rfl|(simp only[firstArgMember];rfl)) ?_)
 refine wpAny_newObj_type ?_ (by size_fits)
 simp only[raiseNew]
 refine wpAny_bind (wpAny_handled ?_)
 first|rw[show A.in1.handled=none from hh]|rw[hh]
 refine wpAny_bind (wpAny_pure (wpAny_throw ?_))
 exact hE _ _ (((Heap.SameBut.update ..).extBut.push _).push _) ⟨_,Heap.get?_push_size _ rfl,rfl⟩
theorem vQ{k:Bool}{it l:Addr}{i:Nat}{items:Array Value}{x:Value}{Q:Value->Shared->Prop}(hit:fL k s.heap it l i)(hl:iC k s.heap l items)(hx:items[i]? = some x)
 (hQ:∀h',fL k h' it l (i+1)->Heap.SameBut it s.heap h'->Q x { s with heap:=h' }):wpAny (model prog w) A (Builtin.SmallTypes.nextOf (.ref it)) Q E s:=by
 cases k with
 | true=>exact wpAny_nextOf_list_item hit hl hx hQ
 | false=>exact kP hit hl hx hQ
theorem yO{k:Bool}{it l:Addr}{i:Nat}{items:Array Value}{Q:Value->Shared->Prop}(hh:A.handled=none)(hit:fL k s.heap it l i)(hl:iC k s.heap l items)(hx:items[i]? = none)
 (hE:∀h' e,Heap.ExtBut it s.heap h'->(∃o,h'.get? e=some o/\o.cls=.type "StopIteration")->E (.ref e) { s with heap:=h' }):wpAny (model prog w) A (Builtin.SmallTypes.nextOf (.ref it)) Q E s:=by
 cases k with
 | true=>exact wpAny_nextOf_list_end hh hit hl hx hE
 | false=>exact lV hh hit hl hx hE
end
def mU(k:Bool)(l:Addr):Obj:=match k with
 | true=>{ cls:=.type "list_iterator",data:=.fields #[.ref l,.int 0 0] }
 | false=>{ cls:=.type "tuple_iterator",data:=.fields #[.ref l,.int 0 0] }
theorem rD{prog:Program}{w:World}{A:Around}{E:Value->Shared->Prop}{s:Shared}{k:Bool}{l:Addr}{items:Array Value}{Q:Value->Shared->Prop}(hl:iC k s.heap l items)
 (hQ:Q (.ref s.heap.objs.size) { s with heap:=s.heap.push (mU k l) }):wpAny (model prog w) A (pyIter (.ref l)) Q E s:=by
 cases k with
 | true=>exact wpAny_pyIter_list hl hQ
 | false=>exact wpAny_pyIter_tuple hl hQ
theorem aDi{k:Bool}{h:Heap}{it a:Addr}(e:h.get? it=some (mU k a)):fL k h it a 0:=by
 cases k with
 | true=>exact⟨_,e,rfl,rfl⟩
 | false=>exact⟨_,e,rfl,rfl⟩
structure aKo (z TI TO i1 i2:Addr):Prop where
 TIz:TI≠z
 TOz:TO≠z
 i1z:i1≠z
 i2z:i2≠z
 TITO:TI≠TO
 TIi1:TI≠i1
 TIi2:TI≠i2
 TOi1:TO≠i1
 TOi2:TO≠i2
 i12:i1≠i2
theorem aKo.apart{X:Cx}{pins:List (Addr×Obj)}{σ:St}{H:Hp}{s:Shared}{ka kb:Bool}{a b z TI TO i1 i2:Addr}{xs ys:List V}(F:aKo z TI TO i1 i2)(I:Inv X pins σ H s)(f:∀c∈[z,TI,TO,i1,i2],kJ X pins H c)
 (ha:Sq ka X.K H a xs) (hb:Sq kb X.K H b ys):ZipApart z TI TO i1 i2 a b:=
 ⟨F.TIz,F.TOz,F.i1z,F.i2z,F.TITO,F.TIi1,F.TIi2,F.TOi1,F.TOi2,F.i12,I.sqNe ha (f z (by simp)),I.sqNe ha (f TO (by simp)),I.sqNe ha (f i1 (by simp)),I.sqNe ha (f i2 (by simp)),
  I.sqNe hb (f z (by simp)),I.sqNe hb (f TO (by simp)),I.sqNe hb (f i1 (by simp)),I.sqNe hb (f i2 (by simp))⟩
def Its(x:Str):It:=⟨λi _=>i<x.cps.size,λi H v H'=>H'=H/\∃c,x.cps[i]? = some c/\v=.str ⟨#[c]⟩,λi _=>x.cps.size<=i⟩
theorem vR{P:Program}{w:World}{K:PySem.W.Frag}{tg:Expr}{it:Addr}{x:Str}{t:Tok}{ty:String}(hn:["enumerate", "zip", "dict_itemiterator", "dict_reverseitemiterator", "odict_iterator", "itertools.zip_longest", "itertools.pairwise"].contains ty=false)
 (W:∀A':Around,A'.handled=none->Walks P w A' it [it] [it] x.cps.size (SignAt x) (λi h=>h.IsStrIter it ty x t i))
 (S:∀(A:Around) (i:Nat) (s:Shared) (Q:Value->Shared->Prop) (E:Value->Shared->Prop),s.heap.IsStrIter it ty x t i->Q (.ref it) s->wpAny (model P w) A (pyIter (.ref it)) Q E s):xO P w K tg (Its x) [it] it (λi h=>i<=x.cps.size/\h.IsStrIter it ty x t i) where
 mem:=by simp
 obj:=λi h st b hb=>by
  have e:b=it:=by simpa using hb
  subst e
  obtain⟨_,o,e,c,d⟩:=st
  exact⟨o,e,λv z=>by rw[d] at z;cases z⟩
 keep:=λi h h' st k=>by
  obtain⟨hi,o,e,c,d⟩:=st
  exact⟨hi,o,k it (by simp) o e,c,d⟩
 item:=by
  intro X hP hw hK hc i pins s σ H E I hf st hg
  subst hP hw hK
  obtain⟨f0,f1,f2,f3,f4,f5⟩:=hf it (by simp)
  refine(W X.A (I.ok.hd hc)).item i s _ _ hg st.2 λv h' tk hv st' kk=>?_
  obtain⟨c,u,hcc,rfl⟩:=hv
  have I1:Inv X pins σ H { s with heap:=h',toks:=tk }:=I.turned (λb o hb e=>kk b o (by simpa using hb) e) f0 f1 f3 f4 f5
  obtain⟨o,e,oc,od⟩:=id st'
  exact⟨_,rfl,nP (s:={ s with heap:=h',toks:=tk }) e oc od hn ⟨.str ⟨#[c]⟩,H,I1,⟨u,rfl⟩,⟨rfl,c,hcc,rfl⟩,⟨hg,st'⟩,λb hb=>(hf b hb).1⟩⟩
 done:=by
  intro X hP hw hK hc i pins s σ H E I hf st hg
  subst hP hw hK
  obtain⟨f0,f1,f2,f3,f4,f5⟩:=hf it (by simp)
  have e:i=x.cps.size:=Nat.le_antisymm st.1 hg
  subst e
  exact(W X.A (I.ok.hd hc)).done s _ _ st.2 λh' tk eb=>⟨rfl,I.turned (λb o hb e=>eb b o (by simpa using hb) e) f0 f1 f3 f4 f5⟩
 self:=λA i s Q E st h=>S A i s Q E st.2 h
theorem aHS{X:Cx}{tg l:Expr}{tl:TE}(hl:PE X l tl):PI X tg l (λσ H R=>tl σ H λx H1=>(∃a,x=.ref a/\(((∃xs,SqL X.K H1 a xs)/\R (Itl X.K a) H1)\/((∃xs,SqT X.K H1 a xs)/\R (Itt X.K a) H1)))\/∃z,x=.str z/\R (Its z) H1):=by
 intro pins s σ H R I h
 refine thn (hl pins s σ H _ I h) λv s1 ⟨x,H1,I1,r1,q1⟩=>?_
 rcases q1 with⟨a,e,q⟩|⟨z,e,q⟩
 . subst e
   cases r1
   rcases q with⟨⟨xs,hq⟩,q⟩|⟨⟨xs,hq⟩,q⟩
   . obtain⟨its,rv,p,hz⟩:=I1.list hq
     refine wpAny_pyIter_list p.isList ?_
     refine⟨s1.heap.objs.size,[s1.heap.objs.size],_,_,H1,rfl,I1.kept (t':=s1.toks) λb o e=>Heap.get?_push_of_some _ e,aBe a _,⟨_,Heap.get?_push_size _ rfl,rfl,rfl⟩,λb hb=>?_,q⟩
     have e:b=s1.heap.objs.size:=by simpa using hb
     subst e
     exact I1.fpOk (Nat.le_refl _) (I1.hok.fresh (Nat.le_refl _))
   . obtain⟨its,rv,p,hz⟩:=I1.tuple hq
     refine wpAny_pyIter_tuple (show s1.heap.IsTuple a its.toArray from p) ?_
     refine⟨s1.heap.objs.size,[s1.heap.objs.size],_,_,H1,rfl,I1.kept (t':=s1.toks) λb o e=>Heap.get?_push_of_some _ e,xP a _,⟨_,Heap.get?_push_size _ rfl,rfl,rfl⟩,λb hb=>?_,q⟩
     have e:b=s1.heap.objs.size:=by simpa using hb
     subst e
     exact I1.fpOk (Nat.le_refl _) (I1.hok.fresh (Nat.le_refl _))
 . subst e
   obtain⟨t,rfl⟩:=r1
   cases ha:z.cps.all (·<128) with
   | false=>
    refine wpAny_pyIter_wide ha ⟨s1.heap.objs.size,[s1.heap.objs.size],_,_,H1,rfl,I1.kept (t':=s1.toks) λb o e=>Heap.get?_push_of_some _ e,vR (ty:= "str_iterator") (x:=z) (t:=t) (by decide) (λA' hA=>Walks.strWide hA _ z t) (λA i s Q E st h=>wpAny_pyIter_striter_wide st h),⟨Nat.zero_le _,_,Heap.get?_push_size _ rfl,rfl,rfl⟩,λb hb=>?_,q⟩
    have e:b=s1.heap.objs.size:=by simpa using hb
    subst e
    exact I1.fpOk (Nat.le_refl _) (I1.hok.fresh (Nat.le_refl _))
   | true=>
    refine wpAny_pyIter_ascii ha ⟨s1.heap.objs.size,[s1.heap.objs.size],_,_,H1,rfl,I1.kept (t':=s1.toks) λb o e=>Heap.get?_push_of_some _ e,vR (ty:= "str_ascii_iterator") (x:=z) (t:=t) (by decide) (λA' hA=>Walks.strAscii hA _ z t) (λA i s Q E st h=>wpAny_pyIter_striter_ascii st h),⟨Nat.zero_le _,_,Heap.get?_push_size _ rfl,rfl,rfl⟩,λb hb=>?_,q⟩
    have e:b=s1.heap.objs.size:=by simpa using hb
    subst e
    exact I1.fpOk (Nat.le_refl _) (I1.hok.fresh (Nat.le_refl _))
section
variable {prog:Program} {w:World} {A:Around} {E:Value->Shared->Prop} {s:Shared}
theorem aDj{k:Bool}{e it l:Addr}{i:Nat}{xs:Array Value}{x old:Value}{Q:Value->Shared->Prop}(he:IsEnum s.heap e it i old)(hit:fL k s.heap it l i)(hl:iC k s.heap l xs)(hx:xs[i]? = some x)(hne:e≠it)
 (hQ:∀h',IsEnumOut h' e it ((i:Int)+1) x s.heap.objs.size->fL k h' it l (i+1)->h'.get? s.heap.objs.size=some { cls:=.type "tuple",data:=.seq #[.int i s.toks,x] }->h'.objs.size=s.heap.objs.size+1 ->
  (∀b o,b≠e->b≠it->s.heap.get? b=some o->h'.get? b=some o)->Q (.ref s.heap.objs.size) { s with heap:=h',toks:=s.toks+1 }) :
 wpAny (model prog w) A (Builtin.«enumerate.__next__» ⟨[.ref e],[]⟩) (λfin s'=>∃v,fin=.done (.ret v)/\Q v s') E s:=by
 obtain⟨hp,g,d,tk,os⟩:=s
 refine wpAny_bind (m:=field (.ref e) 2) (wpAny_field he rfl (x:=.ref it) rfl (wpAny_bind (vQ hit hl hx λh1 i1 s1=>?_)))
 have s1:Heap.SameBut it hp h1:=s1
 have e1:IsEnum h1 e it i old:=(s1.2 e hne).trans he
 refine wpAny_bind (m:=field (.ref e) 3) (wpAny_field e1 rfl (x:=rawInt i) rfl (wpAny_bind (m:=field (.ref e) 4) (wpAny_field e1 rfl (x:=.none) rfl (wpAny_bind (m:=mkInt i) (wpAny_mkInt ?_)))))
 refine wpAny_bind (m:=setField (.ref e) 3 (rawInt ((i:Int)+1))) (s:=⟨h1,g,d,tk+1,os⟩) (wpAny_setField_rec e1 (by simp) λh2 e2 s2=>?_)
 have s2:Heap.SameBut e h1 h2:=s2
 have e2:IsEnum h2 e it ((i:Int)+1) old:=e2
 refine wpAny_bind (m:=setField (.ref e) 4 .none) (s:=⟨h2,g,d,tk+1,os⟩) (wpAny_setField_rec e2 (by simp) λh3 e3 s3=>?_)
 have s3:Heap.SameBut e h2 h3:=s3
 have e3:IsEnum h3 e it ((i:Int)+1) old:=e3
 refine wpAny_bind (m:=newTuple [.int i tk,x]) (s:=⟨h3,g,d,tk+1,os⟩) (wpAny_newTuple ?_)
 have e4:IsEnum (h3.push { cls:=.type "tuple",data:=.seq #[.int i tk,x] }) e it ((i:Int)+1) old:=Heap.get?_push_of_some _ e3
 generalize q4:h3.push { cls:=.type "tuple",data:=.seq #[.int i tk,x] }=h4 at e4
 have z3:h3.objs.size=hp.objs.size:=by rw[s3.1,s2.1,s1.1]
 have lt:e<hp.objs.size:=Heap.lt_size he
 have t4:h4.get? hp.objs.size=some { cls:=.type "tuple",data:=.seq #[.int i tk,x] }:=by rw[<-q4,<-z3];exact Heap.get?_push_size _ rfl
 have z4:h4.objs.size=hp.objs.size+1:=by rw[<-q4,Heap.size_push,z3]
 have k4:∀b o,b≠e->b≠it->hp.get? b=some o->h4.get? b=some o:=λb o n1 n2 hb=>by
  rw[<-q4];exact Heap.get?_push_of_some _ (s3.extBut b o n1 (s2.extBut b o n1 (s1.extBut b o n2 hb)))
 have i4:fL k h4 it l (i+1):=i1.at λo ho=>by rw[<-q4];exact Heap.get?_push_of_some _ (s3.extBut _ _ hne.symm (s2.extBut _ _ hne.symm ho))
 rw[z3]
 refine wpAny_bind (m:=Builtin.SmallTypes.ownedTupleIsFree (.ref e)) (s:=⟨h4,g,d,tk+1,os⟩) ?_
 unfold Builtin.SmallTypes.ownedTupleIsFree
 refine wpAny_bind (wpAny_field e4 rfl (x:=.none) rfl (wpAny_pure ?_))
 simp only[if_true]
 refine wpAny_bind (wpAny_rule (wpAny_bind (wpAny_field e4 rfl (x:=old) rfl (wpAny_bind (wpAny_setField_rec e4 (by simp) λh5 e5 s5=>?_)))))
 have s5:Heap.SameBut e h4 h5:=s5
 have e5:IsEnum h5 e it ((i:Int)+1) x:=e5
 refine wpAny_bind (m:=Builtin.SmallTypes.ownedTupleHandOut (.ref e) (.ref hp.objs.size)) (s:=⟨h5,g,d,tk+1,os⟩) ?_
 unfold Builtin.SmallTypes.ownedTupleHandOut
 refine wpAny_bind (wpAny_setField_rec e5 (by simp) λh6 e6 s6=>?_)
 have s6:Heap.SameBut e h5 h6:=s6
 have e6:IsEnumOut h6 e it ((i:Int)+1) x hp.objs.size:=e6
 refine wpAny_setField_rec e6 (by simp) λh7 e7 s7=>?_
 have s7:Heap.SameBut e h6 h7:=s7
 have e7:IsEnumOut h7 e it ((i:Int)+1) x hp.objs.size:=e7
 have up:∀b o,b≠e->h4.get? b=some o->h7.get? b=some o:=λb o n hb=>s7.extBut _ _ n (s6.extBut _ _ n (s5.extBut _ _ n hb))
 exact wpAny_bind (wpAny_letGo (wpAny_pure ⟨_,rfl,hQ h7 e7 (i4.at λo ho=>up _ _ hne.symm ho) (up _ _ (Nat.ne_of_gt lt) t4) (by rw[s7.1,s6.1,s5.1,z4]) λb o n1 n2 hb=>up b o n1 (k4 b o n1 n2 hb)⟩))
theorem vS{k:Bool}{e it l:Addr}{i:Nat}{xs:Array Value}{x old:Value}{Q:Option Value->Shared->Prop}(he:IsEnum s.heap e it i old)(hit:fL k s.heap it l i)(hl:iC k s.heap l xs)(hx:xs[i]? = some x)(hne:e≠it)
 (hQ:∀h',IsEnumOut h' e it ((i:Int)+1) x s.heap.objs.size->fL k h' it l (i+1)->h'.get? s.heap.objs.size=some { cls:=.type "tuple",data:=.seq #[.int i s.toks,x] }->h'.objs.size=s.heap.objs.size+1 ->
  (∀b o,b≠e->b≠it->s.heap.get? b=some o->h'.get? b=some o)->Q (some (.ref s.heap.objs.size)) { s with heap:=h',toks:=s.toks+1 }):wpAny (model prog w) A (pyNext (.ref e)) Q E s:=by
 have T:s.TypeIs (.ref e) "enumerate" := ⟨_,he,rfl⟩
 unfold pyNext
 exact wpAny_bind (wpAny_attempt (wpAny_callSpecial?_slot (name:=Str.ofString "__next__") T F.slot_enumerate_next (wpAny_call_entry F.slot_enumerate_next T F.entry_enumerate_next (aDj he hit hl hx hne λh' a b c d k=>wpAny_pure (hQ h' a b c d k)) (F.args_enumerate_next_1 _))))
theorem yP{k:Bool}{e it l:Addr}{i:Nat}{xs:Array Value}{old:Value}{Q:Option Value->Shared->Prop}(hh:A.handled=none)(he:IsEnum s.heap e it i old)(hit:fL k s.heap it l i)(hl:iC k s.heap l xs)(hx:xs[i]? = none)
 (hQ:∀h',Heap.ExtBut it s.heap h'->Q none { s with heap:=h' }):wpAny (model prog w) A (pyNext (.ref e)) Q E s:=by
 have T:s.TypeIs (.ref e) "enumerate" := ⟨_,he,rfl⟩
 unfold pyNext
 refine wpAny_bind (wpAny_attempt (wpAny_callSpecial?_slot (name:=Str.ofString "__next__") T F.slot_enumerate_next (wpAny_call_entry F.slot_enumerate_next T F.entry_enumerate_next ?_ (F.args_enumerate_next_1 _))))
 refine wpAny_bind (m:=field (.ref e) 2) (wpAny_field he rfl (x:=.ref it) rfl (wpAny_bind (yO hh hit hl hx λh' x g ⟨o,ho,hc⟩=>?_)))
 exact wpAny_bind (wpAny_isInstance (T:= "StopIteration") (b:=true) ⟨o,ho,hc⟩ isSubtype_stop (wpAny_pure (hQ _ g)))
end
def aDk(it:Addr):Obj:={ cls:=.type "enumerate",data:=.fields #[.none,.bool false,.ref it,rawInt 0,.none,.none] }
theorem aBB(k:Bool)(l:Addr)(xs:Array Value)(ol:Obj):Meets (Builtin.«enumerate.__new__» ⟨[.type "enumerate",.ref l],[]⟩) (λ_ R s=>s.heap.get? l=some ol/\iC k s.heap l xs /\
 R (.ok (.ret (.ref (s.heap.push (mU k l)).objs.size))) { s with heap:=(s.heap.push (mU k l)).push (aDk s.heap.objs.size) }):=
 .of_wp λprog w A R s h=>by
  obtain⟨hp,g,d,tk,os⟩:=s;obtain⟨ho,hl,h⟩:=h
  have hsub:=sub_enumerate
  have hL:iC k (Shared.heap ⟨hp,g,d,tk,os⟩) l xs:=hl
  wp_walk using PySem.AutoSeq1.wpAny_loadPart' ho
  refine wpAny_stack_any λst=>wpAny_pure ?_
  split
  . rename_i c _ _ _ _ _
    cases(c==Value.type "enumerate") <;> (wp_walk using PySem.AutoSeq1.wpAny_loadPart' ho,rD hL;exact⟨_,rfl,h⟩)
  . wp_walk using PySem.AutoSeq1.wpAny_loadPart' ho,rD hL
    exact⟨_,rfl,h⟩
theorem aDl{prog:Program}{w:World}{A:Around}{E:Value->Shared->Prop}{s:Shared}{k:Bool}{l:Addr}{xs:Array Value}{Q:Value->Shared->Prop}(hl:iC k s.heap l xs)
 (h:∀h',IsEnum h' (s.heap.objs.size+1) s.heap.objs.size 0 .none->fL k h' s.heap.objs.size l 0->(∀b o,s.heap.get? b=some o->h'.get? b=some o)->Q (.ref (s.heap.objs.size+1)) { s with heap:=h' }) :
 wpAny (model prog w) A (call (.type "enumerate") [.ref l]) Q E s:=by
 obtain⟨ol,ho⟩:∃ol,s.heap.get? l=some ol:=by
  cases k with
  | true=>obtain⟨o,e,_⟩:=hl;exact⟨o,e⟩
  | false=>obtain⟨o,e,_⟩:=hl;exact⟨o,e⟩
 refine callType_new F.called_enumerate (by decide) (F.typeCall_enumerate_1 _) (F.newCall_enumerate_1 _) (λobj=>F.args_object_init_2 obj _) F.entry_enumerate_new (aBB k l xs ol) ⟨ho,hl,?_⟩
 have z:(s.heap.push (mU k l)).objs.size=s.heap.objs.size+1:=Heap.size_push ..
 have nf:(mU k l).isFreed=false:=by cases k <;> rfl
 have g2:((s.heap.push (mU k l)).push (aDk s.heap.objs.size)).get? (s.heap.push (mU k l)).objs.size=some (aDk s.heap.objs.size):=Heap.get?_push_size _ rfl
 show _/\_
 rw[z] at g2 ⊢
 exact⟨⟨_,g2,rfl⟩,h _ g2 (aDi (Heap.get?_push_of_some _ (Heap.get?_push_size _ nf))) λb o x=>Heap.get?_push_of_some _ (Heap.get?_push_of_some _ x)⟩
def Ite(K:PySem.W.Frag)(k:Bool)(a:Addr):It:=
 ⟨λi H=>∃xs x,Sq k K H a xs/\xs[i]? = some x,
  λi H v H'=>∃p x,v=.ref p/\H p=none/\K.lookup p=none/\H'=upd H p (.tup [.int i,x])/\∀xs,Sq k K H a xs->xs[i]? = some x,
  λi H=>∃xs,Sq k K H a xs/\xs.length<=i⟩
theorem aFx{P:Program}{w:World}{K:PySem.W.Frag}{k:Bool}{elts:List Expr}{tk:Nat}{tp:Pos}{e it a:Addr}(ne:e≠it) :
 xO P w K (.Tuple elts tk tp) (Ite K k a) [e,it] e (λi h=>(∃old,IsEnum h e it i old)/\fL k h it a i) where
 mem:=by simp
 obj:=λi h st c hc=>by
  obtain⟨⟨old,he⟩,h1⟩:=st
  have hc':c=e\/c=it:=by simpa using hc
  rcases hc' with rfl|rfl
  . exact⟨_,he,λv z=>by cases(show Data.fields _=Data.cell v from z)⟩
  . exact h1.obj
 keep:=λi h h' st kp=>by
  obtain⟨⟨old,he⟩,h1⟩:=st
  exact⟨⟨old,kp e (by simp) _ he⟩,h1.at λo q=>kp it (by simp) o q⟩
 item:=by
  intro X hP hw hK hc i pins s σ H E I hf st hg
  subst hP hw hK
  obtain⟨⟨old,he⟩,h1⟩:=st
  obtain⟨xs,x,ha,hx⟩:=hg
  obtain⟨as,ra,pa,_⟩:=I.sq ha
  obtain⟨ux,hux,rx⟩:=ra.get hx
  refine vS he h1 pa (x:=ux) (by simpa using hux) ne λh' a1 a2 a3 a4 hk=>?_
  refine⟨_,rfl,wpAny_letOwnedTupleGo_enum (s:={ s with heap:=h',toks:=s.toks+1 }) a1 λh'' e' hs'=>?_⟩
  have lt:s.heap.objs.size≠e:=Nat.ne_of_gt (Heap.lt_size he)
  have hk2:∀c o,c∉[e,it]->s.heap.get? c=some o->h''.get? c=some o:=λc o hc q=>by
   have hc':c≠e/\c≠it:=by simpa using hc
   exact hs'.extBut _ _ hc'.1 (hk c o hc'.1 hc'.2 q)
  have t1:fL k h'' it a (i+1):=a2.at λo q=>hs'.extBut _ _ ne.symm q
  have tT:h''.get? s.heap.objs.size=some { cls:=.type "tuple",data:=.seq #[.int i s.toks,ux] }:=hs'.extBut _ _ lt a3
  have hn:H s.heap.objs.size=none:=I.fresh
  have I1:Inv X pins σ (upd H s.heap.objs.size (.tup [.int i,x])) { s with heap:=h'',toks:=s.toks+1 }:=by
   refine I.turnsNew (t':=s.toks+1) hf hk2 (λc hc=>?_) (Nat.le_refl _) ⟨by show 2<=sizeLine;rw[sizeLine_eq];decide,[.int i s.toks,ux],.cons ⟨_,rfl⟩ (.cons rx .nil),_,tT,rfl,_,rfl⟩
   have hc':c=e\/c=it:=by simpa using hc
   rcases hc' with rfl|rfl
   . exact⟨_,e'⟩
   . obtain⟨o,q,_⟩:=t1.obj;exact⟨o,q⟩
  refine⟨.ref s.heap.objs.size,_,I1,rfl,⟨_,x,rfl,hn,I.newK,rfl,λxs' ha'=>?_⟩,⟨⟨_,e'⟩,t1⟩,λc hc=>?_⟩
  . rw[I.sq_inj ha' ha]
    exact hx
  . rw[aP (Nat.ne_of_lt ?_)]
    . exact(hf c hc).1
    . have hc':c=e\/c=it:=by simpa using hc
      rcases hc' with rfl|rfl
      . exact Heap.lt_size he
      . obtain⟨o,q,_⟩:=h1.obj;exact Heap.lt_size q
 done:=by
  intro X hP hw hK hc i pins s σ H E I hf st hg
  subst hP hw hK
  obtain⟨⟨old,he⟩,h1⟩:=st
  obtain⟨xs,ha,hend⟩:=hg
  obtain⟨as,ra,pa,_⟩:=I.sq ha
  have la:=ra.length
  refine yP (I.ok.hd hc) he h1 pa (by simp;omega) λh' hk=>⟨rfl,I.turns (t':=s.toks) hf λc o hc q=>hk c o ?_ q⟩
  have hc':c≠e/\c≠it:=by simpa using hc
  exact hc'.2
 self:=λ_ _ _ _ _ st h=>let ⟨_,q⟩:=st.1;wpAny_pyIter_enum q h
def iEn(K:PySem.W.Frag)(ta:TA):TI:=λσ H R=>ta σ H λvs H1=>∃(k:Bool) (a:Addr) (xs:List V),vs=[.ref a]/\Sq k K H1 a xs/\R (Ite K k a) H1
theorem aBC:bootBuiltins "enumerate" = some (.type "enumerate"):=by kernel_rfl
theorem aFy{X:Cx}{a:Expr}{ta:TA}{p pos:Pos}{elts:List Expr}{tk:Nat}{tp:Pos}(hg:Gl X "enumerate")(hm:X.mg "enumerate" = none)(ha:PA X [a] ta)(hs:starEach [a] X.env=[(false,eval a X.env)]) :
 PI X (.Tuple elts tk tp) (.Call (.Name "enumerate" p) [a] [] pos) (iEn X.K ta):=by
 intro pins s σ H R I h
 refine Call_ (jS I hg hm aBC (PyProof.Rows.callWith_type1 (thn (ha pos pins s σ H _ I h) λus s1 ⟨vs,H1,I1,r1,q1⟩=>?_) (by rw[hs];rfl) rfl))
 obtain⟨k,a1,xs,e,q1,q⟩:=q1
 subst e
 cases r1 with
 | cons r rr=>
  cases rr
  cases r
  obtain⟨as,ra,pa,_⟩:=I1.sq q1
  refine aDl pa λh' he h1 hk=>wpAny_pyIter_enum (s:={ s1 with heap:=h' }) he ?_
  refine⟨s1.heap.objs.size+1,_,_,_,H1,rfl,I1.kept (t':=s1.toks) hk,aFx (Nat.succ_ne_self _),⟨⟨_,he⟩,h1⟩,λc hc=>?_,q⟩
  have hc':c=s1.heap.objs.size+1\/c=s1.heap.objs.size:=by simpa using hc
  have hle:s1.heap.objs.size<=c:=by rcases hc' with rfl|rfl <;> omega
  exact I1.fpOk hle (I1.hok.fresh hle)
abbrev aHT(h:Heap)(z TI TO:Addr)(f0:Value)(f1:Bool):Prop:=
 h.get? z=some { cls:=.type "zip",dict:=none,data:=.fields #[f0,.bool f1,.bool false,.ref TI,.ref TO],slots:=#[] }
section
variable {prog:Program} {w:World} {A:Around} {E:Value->Shared->Prop} {s:Shared}
end
structure aNM (ka kb:Bool) (z TI TO i1 i2 l1 l2 S:Nat) (xs ys:Array Value) (i:Nat) (h:Heap) (acc:Array Value) (c:Nat):Prop where
 zip:(i=0/\IsZip h z TI TO .none/\∃u v,IsPair h TO u v)\/∃(t:Nat) (f:Bool) (ot:Obj),aHT h z TI TO (rawInt t) f/\h.get? t=some ot/\t≠z/\t≠i1/\t≠i2/\t≠S
 TI:IsPair h TI (.ref i1) (.ref i2)
 i1:fL ka h i1 l1 i
 i2:fL kb h i2 l2 i
 l1:iC ka h l1 xs
 l2:iC kb h l2 ys
 lst:h.get? S=some { cls:=.type "list",dict:=none,data:=.seq acc c,slots:=#[] }
 size:h.objs.size=S+1+i
 acc:acc=((List.range i).map λj=>Value.ref (S+1+j)).toArray
 pair:∀j,j<i->∃x y,xs[j]? = some x/\ys[j]? = some y/\IsPair h (S+1+j) x y
section
variable {prog:Program} {w:World} {A:Around} {s:Shared} {R:Result->Shared->Prop}
variable {ka kb:Bool} {z TI TO i1 i2 l1 l2 S:Nat} {xs ys:Array Value}
end
section
variable {prog:Program} {w:World} {A:Around} {E:Value->Shared->Prop} {s:Shared} {R:Result->Shared->Prop}
variable {ka kb:Bool} {z TI TO i1 i2 l1 l2:Nat} {xs ys:Array Value}
structure yQ (ka kb:Bool) (z TI TO i1 i2 l1 l2:Nat) (xs ys:Array Value) (h:Heap):Prop where
 zip:IsZip h z TI TO .none
 TI:IsPair h TI (.ref i1) (.ref i2)
 TO:∃u v,IsPair h TO u v
 i1:fL ka h i1 l1 0
 i2:fL kb h i2 l2 0
 l1:iC ka h l1 xs
 l2:iC kb h l2 ys
theorem yQ.at{h h':Heap}(Z:yQ ka kb z TI TO i1 i2 l1 l2 xs ys h)(k:∀b o,b=z\/b=TI\/b=TO\/b=i1\/b=i2\/b=l1\/b=l2->h.get? b=some o->h'.get? b=some o):yQ ka kb z TI TO i1 i2 l1 l2 xs ys h' where
 zip:=k _ _ (by simp) Z.zip
 TI:=k _ _ (by simp) Z.TI
 TO:=let ⟨u,v,q⟩:=Z.TO;⟨u,v,k _ _ (by simp) q⟩
 i1:=Z.i1.at λo e=>k _ _ (by simp) e
 i2:=Z.i2.at λo e=>k _ _ (by simp) e
 l1:=Z.l1.at λo e=>k _ _ (by simp) e
 l2:=Z.l2.at λo e=>k _ _ (by simp) e
end
section
variable {X:Cx} {pins:List (Addr×Obj)} {σ:St} {H H':Hp} {s:Shared} {h':Heap}
structure Lz (H H':Hp) (l:Nat) (xs ys:List V):Prop where
 same:∀b u,H b=some u->H' b=some u
 free:H l=none
 lst:H' l=some (.lst ((List.range (min xs.length ys.length)).map λj=>.ref (l+1+j)))
 pair:∀(j:Nat) (x y:V),xs[j]? = some x->ys[j]? = some y->H' (l+1+j)=some (.tup [x,y])
end
end L2
end
noncomputable section
namespace Hp
open PySem PySem.Spec PyProof.Rows L2
theorem Kp.refl(R:Addr->Prop)(H:Hp):Kp R H H:=λ_ _ h _=>h
theorem Kp.same{R:Addr->Prop}{H H':Hp}(s:aR H H'):Kp R H H':=λa o h _=>s a o h
section
variable {K:Fg} {RT Y old R:Addr->Prop} {σ:Sg} {σV:L2.St} {H H':Hp}
theorem Kp.seqL(k:Kp R H H'){a:Addr}{xs:List V}(n:¬ R a)(h:SqL K H a xs):SqL K H' a xs:=by
 rcases h with(h|⟨o,h⟩)|h
 . exact .inl (.inl (k _ _ h n))
 . exact .inl (.inr ⟨o,k _ _ h n⟩)
 . exact .inr h
theorem Kp.seqT(k:Kp R H H')(hR:∀a,R a->RtO H a){a:Addr}{xs:List V}(h:SqT K H a xs):SqT K H' a xs:=by
 have no:∀{o:HO},H a=some o->(∀ys,o≠.lst ys)->(∀φ,o≠.ext φ)->¬ R a:=λ{o} e n1 n2 z=>by
  rcases hR a z with⟨ys,e'⟩|⟨ys,e'⟩
  . rw[e] at e';cases e';exact n1 _ rfl
  . rw[e] at e';cases e';exact n2 _ rfl
 rcases h with(h|⟨o,h⟩)|h
 . exact .inl (.inl (k _ _ h (no h (λ_ z=>by cases z) λ_ z=>by cases z)))
 . exact .inl (.inr ⟨o,k _ _ h (no h (λ_ z=>by cases z) λ_ z=>by cases z)⟩)
 . exact .inr h
theorem Reps.kp{ex:Addr->Prop}{ds:List D}{xs:List V}(r:Reps K H ex ds xs)(k:Kp R H H')(hR:∀a,R a->RtO H a)(hx:∀a,R a->ex a):Reps K H' ex ds xs:=
 r.keep λa o e hl hn=>k a o e λz=>by
  rcases hR a z with⟨ys,e'⟩|⟨ys,e'⟩
  . rw[e] at e'
    cases e'
    exact hl ys rfl (hx a z)
  . rw[e] at e'
    cases e'
    exact hn _ rfl
theorem Rep.kp{ex:Addr->Prop}{d:D}{x:V}(r:Rep K H ex d x)(k:Kp R H H')(hR:∀a,R a->RtO H a)(hx:∀a,R a->ex a):Rep K H' ex d x:=
 r.keep λa o e hl hn=>k a o e λz=>by
  rcases hR a z with⟨ys,e'⟩|⟨ys,e'⟩
  . rw[e] at e'
    cases e'
    exact hl ys rfl (hx a z)
  . rw[e] at e'
    cases e'
    exact hn _ rfl
def rtF(RT:Addr->Prop)(σ:Sg)(σV:L2.St)(al:List Nat)(a:Addr):Prop:=RT a/\¬ alR σ σV al a
theorem eM:∀(al:List Nat) (σ:Sg) (i:Nat),(freeze σ al)[i]? = (σ[i]?).map λs=>if i∈al then s.freeze else s
 | [],σ,i=>by cases q:σ[i]? <;> simp[freeze,q]
 | j::al,σ,i=>by
  rw[freeze,eM al]
  cases qj:σ[j]? with
  | none=>
   simp only
   cases q:σ[i]? with
   | none=>rfl
   | some s=>
    have hne:i≠j:=λe=>by subst e;rw[q] at qj;cases qj
    simp[hne]
  | some sj=>
   simp only
   by_cases hij:i=j
   . subst hij
     have hl:i<σ.length:=(List.getElem?_eq_some_iff.mp qj).1
     rw[List.getElem?_set_self hl,qj]
     simp only[Option.map_some,List.mem_cons,true_or,if_true]
     split
     . cases sj <;> rfl
     . rfl
   . rw[List.getElem?_set_ne (Ne.symm hij)]
     simp[hij]
theorem oM:∀(al:List Nat) (σ:Sg),(freeze σ al).length=σ.length
 | [],σ=>rfl
 | j::al,σ=>by
  rw[freeze,oM al]
  split
  . rw[List.length_set]
  . rfl
theorem freeze_sh{al:List Nat}{i:Nat}{pa:Bool}{d:D}(h:(freeze σ al)[i]? = some (.sh pa d)):σ[i]? = some (.sh pa d)\/∃ds,i∈al/\σ[i]? = some (.own pa ds)/\d=.lst ds:=by
 rw[eM] at h
 cases q:σ[i]? with
 | none=>rw[q] at h;cases h
 | some s=>
  rw[q] at h
  have h:(if i∈al then s.freeze else s)=.sh pa d:=Option.some.inj h
  split at h
  . rename_i hi
    cases s with
    | dead=>cases h
    | sh pa' d'=>cases h;exact .inl rfl
    | own pa' ds'=>cases h;exact .inr ⟨ds',hi,rfl,rfl⟩
    | dct _=>cases h
    | par _ _=>cases h
  . exact .inl (by rw[h])
theorem eN{al:List Nat}{i:Nat}{pa:Bool}{ds:List D}(h:(freeze σ al)[i]? = some (.own pa ds)):σ[i]? = some (.own pa ds)/\i∉al:=by
 rw[eM] at h
 cases q:σ[i]? with
 | none=>rw[q] at h;cases h
 | some s=>
  rw[q] at h
  have h:(if i∈al then s.freeze else s)=.own pa ds:=Option.some.inj h
  split at h
  . cases s <;> cases h
  . rename_i hi
    exact⟨by rw[h],hi⟩
theorem yR{al:List Nat}{i:Nat}{ds:List (NK×D)}(h:(freeze σ al)[i]? = some (.dct ds)):σ[i]? = some (.dct ds):=by
 rw[eM] at h
 cases q:σ[i]? with
 | none=>rw[q] at h;cases h
 | some s=>
  rw[q] at h
  have h:(if i∈al then s.freeze else s)=.dct ds:=Option.some.inj h
  split at h
  . cases s with
    | dct d=>exact congrArg some h
    | _=>cases h
  . rw[h]
theorem yS{al:List Nat}{i:Nat}{ds es:List D}(h:(freeze σ al)[i]? = some (.par ds es)):σ[i]? = some (.par ds es):=by
 rw[eM] at h
 cases q:σ[i]? with
 | none=>rw[q] at h;cases h
 | some s=>
  rw[q] at h
  have h:(if i∈al then s.freeze else s)=.par ds es:=Option.some.inj h
  split at h
  . cases s with
    | par d e=>exact congrArg some h
    | _=>cases h
  . rw[h]
theorem Sx.frz(S:Sx K RT Y old σ σV H)(al:List Nat):Sx K (rtF RT σ σV al) Y old (freeze σ al) σV H where
 sh:=λi pa d h=>by
  rcases freeze_sh h with h|⟨ds,hi,ho,e⟩
  . obtain⟨v,h1,h2⟩:=S.sh i pa d h
    exact⟨v,h1,h2.weak λa z=>z.elim (λz=>.inl z.1) .inr⟩
  . subst e
    obtain⟨a,xs,h1,h2,h3,h4,h5⟩:=S.own i pa ds ho
    refine⟨.ref a,h1,a,xs,rfl,SqL.of h2,⟨?_,λ_=>h2⟩,h5.weak λa z=>z.elim (λz=>.inl z.1) .inr⟩
    rintro (z|z|⟨_,z⟩)
    . exact z.2 ⟨i,hi,⟨pa,ds,ho⟩,h1⟩
    . exact h4 (S.yo a z)
    . exact h4 z
 own:=λi pa ds h=>by
  obtain⟨h,hi⟩:=eN h
  obtain⟨a,xs,h1,h2,h3,h4,h5⟩:=S.own i pa ds h
  refine⟨a,xs,h1,h2,⟨h3,?_⟩,h4,h5.weak λa z=>z.elim (λz=>.inl z.1) .inr⟩
  rintro ⟨j,hj,⟨pa',ds',q⟩,q'⟩
  have:=S.inj i j pa pa' ds ds' a h q h1 q'
  subst this
  exact hi hj
 trk:=λa z=>S.trk a (z.elim (λz=>.inl z.1) .inr)
 yo:=S.yo
 tk:=S.tk
 rt:=λa z=>S.rt a z.1
 inj:=λi j pa pa' ds ds' a h1 h2 h3 h4=>S.inj i j pa pa' ds ds' a (eN h1).1 (eN h2).1 h3 h4
 len:=by rw[oM];exact S.len
 dx:=S.dx.imp id (λ_ _ e=>⟨yR e,rfl⟩) (λ_ _ _ _ _ _ e=>e) (λa xs e z o=>⟨e,z,λ⟨j,_,⟨pa,ds,q⟩,q'⟩=>by
  obtain⟨b,ys,h1,h2,h3,h4,h5⟩:=S.own j pa ds q
  rw[q'] at h1
  cases h1
  rw[e] at h2
  cases h2⟩) (λ_ _ r=>r) (λ_ _ _ e=>⟨yS e,rfl⟩) (λ_ _ _ _ _ _ _ _ e=>e) λp xs e z=>⟨e,⟨z.1,λ⟨j,_,⟨pa,ds,q⟩,q'⟩=>z.2.2 j pa ds q q'⟩,z.2.1,λk pa ds q=>z.2.2 k pa ds (eN q).1⟩
theorem Tk.new{p:Addr}{o:HO}(t:Tk K H)(h:K.lookup p=none):Tk K (upd H p o):=λb hb=>by
 by_cases e:b=p
 . rw[e];exact h
 . rw[aP e] at hb;exact t b hb
def Nw(K:Fg)(H:Hp)(a:Addr):Prop:=H a=none/\K.lookup a=none
theorem aFz{a:Addr}{xs:List V}(q:SqL K H a xs):¬ Nw K H a:=by
 rintro ⟨n,k⟩
 rcases q with(q|⟨o,q⟩)|⟨o,its,m,q,_⟩
 . rw[n] at q;cases q
 . rw[n] at q;cases q
 . rw[k] at q;cases q
theorem Reps.outN{ex:Addr->Prop}{d:List D}{v:List V}(h:Reps K H ex d v):Reps K H (λb=>ex b\/Nw K H b) d v:=
 Reps.imp (λ_ _ q=>q) (λb xs nb q=>⟨λz=>z.elim nb (aFz q),q⟩) (λ⟨c,h1,h2⟩=>⟨c,h1,h2.resolve_right λz=>h1 z.2⟩) (λ_ _ _ q=>q) (λ_ _ q=>q) d v h
theorem RvN.sub{ex:Addr->Prop}{v:Vl}{d:D}{x:V}(h:Rep K H' (λa=>exV RT Y old σ σV v.pa v.al a\/ex a) d x):Rep K H' (λa=>exV RT Y old σ σV (v.sub d).pa (v.sub d).al a\/ex a) (v.sub d).d x:=by
 unfold Vl.sub
 by_cases hn:noL d=true
 . rw[if_pos hn]
   exact Rep.free d x hn h
 . rw[if_neg hn]
   exact h
structure aBD (K:Fg) (RT Y old:Addr->Prop) (σ:Sg) (σV:L2.St) (H1:Hp) (J:L2.It) (xs:List Vl) (al:List Nat):Prop where
 sub:∀v∈xs,∀j∈v.al,j∈al
 nofr:∀v∈xs,v.fr=false
 ok:∀(R:Addr->Prop),(∀b,R b->rtF RT σ σV al b)->∀(i:Nat) (H:Hp),Kp R H1 H->(i<xs.length->J.go i H)/\(xs.length<=i->J.stop i H)/\∀x H',J.yld i H x H'->∀v,xs[i]? = some v->aR H H'/\(Tk K H->Tk K H')/\Rep K H' (λa=>exV RT Y old σ σV v.pa v.al a\/Nw K H1 a) v.d x
theorem yT{v:Vl}{d:D}:∀j∈(v.sub d).al,j∈v.al:=by
 unfold Vl.sub Vl.cl
 split
 . intro j hj;cases hj
 . intro j hj;exact hj
theorem tJ{v:Vl}{d:D}:(v.sub d).fr=false:=by
 unfold Vl.sub Vl.cl
 split <;> rfl
theorem lW{x:Vl}{ds:List D}{i:Nat}{v:Vl}(h:(items x ds)[i]? = some v):∃d,ds[i]? = some d/\v=x.sub d:=by
 unfold items at h
 rw[List.getElem?_map] at h
 cases q:ds[i]? with
 | none=>rw[q] at h;cases h
 | some d=>rw[q] at h;exact⟨d,rfl,(Option.some.inj h).symm⟩
theorem oN{al:List Nat}{pa:Bool}{b:Addr}(h:rtF RT σ σV al b):exV RT Y old σ σV pa al b:=.inl h
theorem aFA(S:Sx K RT Y old σ σV H){x:Vl}{ds:List D}{a:Addr}{xs:List V}(q:SqL K H a xs)(n:¬ exV RT Y old σ σV x.pa x.al a)(r:Reps K H (exV RT Y old σ σV x.pa x.al) ds xs) :
 aBD K RT Y old σ σV H (Itl K a) (items x ds) x.al where
 sub:=λv hv j hj=>by
  obtain⟨d,_,e⟩:=List.mem_map.mp hv
  subst e
  exact yT j hj
 nofr:=λv hv=>by
  obtain⟨d,_,e⟩:=List.mem_map.mp hv
  subst e
  exact tJ
 ok:=λR hR i H1 k=>by
  have q1:SqL K H1 a xs:=k.seqL (λz=>n (oN (hR a z))) q
  have r1:Reps K H1 (λa=>exV RT Y old σ σV x.pa x.al a\/Nw K H a) ds xs:=r.outN.kp k (λb z=>S.rt b (hR b z).1) λb z=>.inl (oN (hR b z))
  have hl:(items x ds).length=xs.length:=by unfold items;rw[lM,r.length]
  refine⟨λhi=>⟨xs,xs[i]'(by omega),q1,List.getElem?_eq_getElem (by omega)⟩,λhi=>⟨xs,q1,by omega⟩,λy H' hy v hv=>?_⟩
  obtain⟨e,hy⟩:=hy
  subst e
  obtain⟨d,hd,e⟩:=lW hv
  subst e
  obtain⟨y',hy',ry⟩:=r1.get hd
  rw[hy xs q1] at hy'
  cases hy'
  exact⟨aR.refl _,id,RvN.sub ry⟩
theorem aHU(S:Sx K RT Y old σ σV H){x:Vl}{ds:List D}{a:Addr}{xs:List V}(q:SqT K H a xs)(r:Reps K H (exV RT Y old σ σV x.pa x.al) ds xs) :
 aBD K RT Y old σ σV H (Itt K a) (items x ds) x.al where
 sub:=λv hv j hj=>by
  obtain⟨d,_,e⟩:=List.mem_map.mp hv
  subst e
  exact yT j hj
 nofr:=λv hv=>by
  obtain⟨d,_,e⟩:=List.mem_map.mp hv
  subst e
  exact tJ
 ok:=λR hR i H1 k=>by
  have q1:SqT K H1 a xs:=k.seqT (λb z=>S.rt b (hR b z).1) q
  have r1:Reps K H1 (λa=>exV RT Y old σ σV x.pa x.al a\/Nw K H a) ds xs:=r.outN.kp k (λb z=>S.rt b (hR b z).1) λb z=>.inl (oN (hR b z))
  have hl:(items x ds).length=xs.length:=by unfold items;rw[lM,r.length]
  refine⟨λhi=>⟨xs,xs[i]'(by omega),q1,List.getElem?_eq_getElem (by omega)⟩,λhi=>⟨xs,q1,by omega⟩,λy H' hy v hv=>?_⟩
  obtain⟨e,hy⟩:=hy
  subst e
  obtain⟨d,hd,e⟩:=lW hv
  subst e
  obtain⟨y',hy',ry⟩:=r1.get hd
  rw[hy xs q1] at hy'
  cases hy'
  exact⟨aR.refl _,id,RvN.sub ry⟩
theorem aDm{lo:Int}{m:Nat}{xs:List Vl}(hx:xs=((List.range m).map λ(k:Nat)=>Vl.cl (.int (lo+(k:Int))))):aBD K RT Y old σ σV H (Itr lo m) xs [] where
 sub:=λv hv j hj=>by
  subst hx
  obtain⟨d,_,e⟩:=List.mem_map.mp hv
  subst e
  exact hj
 nofr:=λv hv=>by
  subst hx
  obtain⟨d,_,e⟩:=List.mem_map.mp hv
  subst e
  rfl
 ok:=λR hR i H1 k=>by
  have hl:xs.length=m:=by rw[hx,lM,List.length_range]
  refine⟨λhi=>(show i<m by omega),λhi=>(show m<=i by omega),λy H' hy v hv=>?_⟩
  obtain⟨e,hy⟩:=hy
  subst e hy
  subst hx
  rw[List.getElem?_map] at hv
  have hi:i<m:=by
   have:=(List.getElem?_eq_some_iff.mp (show((List.range m).map λ(k:Nat)=>Vl.cl (.int (lo+(k:Int))))[i]? = some v by rw[List.getElem?_map];exact hv)).1
   simpa using this
  rw[List.getElem?_range hi] at hv
  cases hv
  exact⟨aR.refl _,id,rfl⟩
theorem aHV{z:Str}{xs:List Vl}(hx:xs=(z.cps.toList.map λn=>Vl.cl (.str ⟨#[n]⟩))):aBD K RT Y old σ σV H (Its z) xs [] where
 sub:=λv hv j hj=>by
  subst hx
  obtain⟨d,_,e⟩:=List.mem_map.mp hv
  subst e
  exact hj
 nofr:=λv hv=>by
  subst hx
  obtain⟨d,_,e⟩:=List.mem_map.mp hv
  subst e
  rfl
 ok:=λR hR i H1 k=>by
  have hl:xs.length=z.cps.size:=by rw[hx,lM,Array.length_toList]
  refine⟨λhi=>(show i<z.cps.size by omega),λhi=>(show z.cps.size<=i by omega),λy H' hy v hv=>?_⟩
  obtain⟨e,c,hc,hy⟩:=hy
  subst e hy
  subst hx
  rw[List.getElem?_map,Array.getElem?_toList,hc] at hv
  cases hv
  exact⟨aR.refl _,id,rfl⟩
theorem kQ:∀(as:List D) (j:Int),(eA j as).length=as.length
 | [],_=>rfl
 | _::as,j=>by rw[eA,lC,kQ as,lC]
theorem rE:∀{as:List D} {i:Nat} {j:Int} {a:D},as[i]? = some a->(eA j as)[i]? = some (.tup [.int (j+(i:Int)),a])
 | [],_,_,_,h=>by simp at h
 | _::_,0,j,_,h=>by
  simp at h
  subst h
  simp[eA]
 | _::as,i+1,j,a,h=>by
  have:=rE (as:=as) (i:=i) (j:=j+1) (a:=a) (by simpa using h)
  rw[eA,gS,this]
  have e:j+1+(i:Int)=j+((i+1:Nat):Int):=by omega
  rw[e]
theorem aFB(S:Sx K RT Y old σ σV H){k:Bool}{as:List D}{a:Addr}{xs:List V}{x:Vl}(qa:Sq k K H a xs)(na:k=true->¬ exV RT Y old σ σV x.pa x.al a)(ra:Reps K H (exV RT Y old σ σV x.pa x.al) as xs) :
 aBD K RT Y old σ σV H (Ite K k a) (items x (eA 0 as)) x.al where
 sub:=λv hv j hj=>by
  obtain⟨d,_,e⟩:=List.mem_map.mp hv
  subst e
  exact yT j hj
 nofr:=λv hv=>by
  obtain⟨d,_,e⟩:=List.mem_map.mp hv
  subst e
  exact tJ
 ok:=λR hR i H1 kp=>by
  have qa1:Sq k K H1 a xs:=by
   cases k with
   | true=>exact kp.seqL (λz=>na rfl (oN (hR a z))) qa
   | false=>exact kp.seqT (λb z=>S.rt b (hR b z).1) qa
  have ra1:Reps K H1 (λa=>exV RT Y old σ σV x.pa x.al a\/Nw K H a) as xs:=ra.outN.kp kp (λb z=>S.rt b (hR b z).1) λb z=>.inl (oN (hR b z))
  have hl:(items x (eA 0 as)).length=xs.length:=by unfold items;rw[lM,kQ,ra.length]
  refine⟨λhi=>⟨xs,xs[i]'(by omega),qa1,List.getElem?_eq_getElem (by omega)⟩,λhi=>⟨xs,qa1,by omega⟩,λy H' hy v hv=>?_⟩
  obtain⟨p,z,rfl,hp,hk,rfl,hh⟩:=hy
  obtain⟨d,hd,e⟩:=lW hv
  subst e
  obtain⟨d1,hd1,rd1⟩:=ra1.get' (hh xs qa1)
  rw[rE hd1,Int.zero_add] at hd
  cases hd
  have sm:aR H1 (upd H1 p (.tup [.int i,z])):=aR.new hp
  refine⟨sm,λtk=>tk.new hk,RvN.sub (v:=x) ?_⟩
  exact⟨p,[.int i,z],rfl,SqT.of bW,.cons rfl (.cons (rd1.grow sm) .nil)⟩
end
section
variable {X:Cx} {P:Pg} {Γ:Ct} {n:Nat} {RT Y old:Addr->Prop} {σ:Sg} {tg:Expr}
def wI(X:Cx)(P:Pg)(n:Nat)(RT Y old:Addr->Prop)(σ:Sg)(it:Hp.It):TI:=λσV H R=>Sx X.K RT Y old σ σV H/\RE (walk P (call P n) σ it) λxs=>∀J H1,Tk X.K H1->aR H H1->aBD X.K RT Y old σ σV H1 J xs.1 xs.2->R J H1
theorem tK{iter:Expr}{t t':TI}(h:PI X tg iter t)(f:∀σV H R,Tk X.K H->t' σV H R->t σV H λJ H'=>Tk X.K H'->R J H'):PI X tg iter t':=λpins s σV H R I hw=>
 thn (h pins s σV H _ I (f σV H R I.tk hw)) λv s1 h1=>thn h1 λitv s2 ⟨it,fp,tn,J,H',e,I',T,st,fo,q⟩=>⟨it,fp,tn,J,H',e,I',T,st,fo,q I'.tk⟩
theorem aKp{c:E}{e:Expr}(ha:PE X e (WE X P n RT Y old σ c)):PI X tg e (wI X P n RT Y old σ (.seq c)):=by
 refine tK (aHS ha) λσV H RR t ⟨S,h⟩=>?_
 have h:=RE.bind' (show RE (ev P (call P n) σ c >>= λx=>(match x.d with
  | .lst ds=>R.ok (items x ds,x.al)
  | .tup ds=>R.ok (items x ds,x.al)
  | .str a=>R.iff (decide (a.length<=lim)) (R.ok (a.cps.toList.map λn=>Vl.cl (.str ⟨#[n]⟩),[]))
  | _=>.bad)) _ from h)
 refine wE.one S h λx u H1 hx t1 S1 r1=>?_
 have rv:=r1.rv S
 split at hx
 . rename_i ds d1
   obtain⟨a,xs,e,q,nn,r⟩:=rv.lst d1
   exact .inl ⟨a,e,.inl ⟨⟨xs,q⟩,λt'=>hx _ _ t' r1.1 (aFA S1 q nn r)⟩⟩
 . rename_i ds d1
   obtain⟨a,xs,e,q,r⟩:=rv.tup d1
   exact .inl ⟨a,e,.inr ⟨⟨xs,q⟩,λt'=>hx _ _ t' r1.1 (aHU S1 q r)⟩⟩
 . rename_i z d1
   obtain⟨c,hx⟩:=hx.iff
   exact .inr ⟨z,rv.str d1,λt'=>hx _ _ t' r1.1 (aHV rfl)⟩
 . exact hx.elim
theorem oO(i j:Int):(fG i j).map Vl.cl=(List.range (j-i).toNat).map λ(k:Nat)=>Vl.cl (.int (i+(k:Int))):=by
 unfold fG
 rw[List.map_map]
 rfl
theorem lX{k:Int}(h:aM k=true):-(2 ^ 62)<=k/\k<2 ^ 62:=by
 unfold aM at h
 simp only[bA,decide_eq_true_eq] at h
 exact h
theorem aHW(M:Mc X P Γ n){b:E}{e:Expr}{f:Str}{p pos:Pos}(hf:f=("range" : Str))(hg:eI Γ f=true)(ha:PE X e (WE X P n RT Y old σ b))(hp:bD e=true):PI X tg (.Call (.Name f p) [e] [] pos) (wI X P n RT Y old σ (.rng (.c (.int 0)) b)):=by
 subst hf
 refine tK (aBf (M.gl hg) (M.md.blt _ (by decide +kernel)) (oJ ha aAn hp) (aD hp)) λσV H RR t ⟨S,h⟩=>?_
 have h:RE (ev P (call P n) σ b) λy=>RE (match (D.int 0),y.d with|.int i,.int j=>R.iff (aM i&&aM j) (R.ok ((fG i j).map Vl.cl,[]))|_,_=>.bad) _:=
  RE.bind' (show RE (ev P (call P n) σ b >>= λy=>(match (D.int 0),y.d with|.int i,.int j=>R.iff (aM i&&aM j) (R.ok ((fG i j).map Vl.cl,[]))|_,_=>.bad)) _ from h)
 refine⟨S,?_⟩
 show RE (ev P (call P n) σ b >>= λx=>evs P (call P n) σ .nil >>= λxs=>R.ok (x::xs)) _
 rw[RE.bind]
 refine h.mono λy hy=>?_
 split at hy
 . rename_i i j e1 e2
   cases e1
   obtain⟨c,hy⟩:=hy.iff
   rw[bA] at c
   have c2:=lX c.2
   intro us H1 t1 s1 r1
   obtain⟨u,r',eu,ru,hr⟩:=r1
   rw[show r'=[] from hr] at eu
   subst eu
   refine⟨j,by rw[ru.int e2],c2.1,c2.2,λt'=>hy _ _ t' s1 (aDm ?_)⟩
   rw[oO]
   simp
 . exact hy.elim
theorem aHX(M:Mc X P Γ n){a b:E}{ea eb:Expr}{f:Str}{p pos:Pos}(hf:f=("range" : Str))(hg:eI Γ f=true)(ha:PE X ea (WE X P n RT Y old σ a))(hb:PE X eb (WE X P n RT Y old σ b))(hpa:bD ea=true)(hpb:bD eb=true) :
 PI X tg (.Call (.Name f p) [ea,eb] [] pos) (wI X P n RT Y old σ (.rng a b)):=by
 subst hf
 refine tK (aBg (M.gl hg) (M.md.blt _ (by decide +kernel)) (oJ ha (oJ hb aAn hpb) hpa) (by rw[aD hpa,aD hpb];rfl) (aD hpb)) λσV H RR t ⟨S,h⟩=>?_
 have h:=RE.bind' (show RE (ev P (call P n) σ a >>= λx=>ev P (call P n) σ b >>= λy=>(match x.d,y.d with|.int i,.int j=>R.iff (aM i&&aM j) (R.ok ((fG i j).map Vl.cl,[]))|_,_=>.bad)) _ from h)
 refine⟨S,?_⟩
 show RE (ev P (call P n) σ a >>= λx=>evs P (call P n) σ (.cons b .nil) >>= λxs=>R.ok (x::xs)) _
 rw[RE.bind]
 refine h.mono λx hx=>?_
 rw[RE.bind]
 show RE (ev P (call P n) σ b >>= λx=>evs P (call P n) σ .nil >>= λxs=>R.ok (x::xs)) _
 rw[RE.bind]
 refine(RE.bind' hx).mono λy hy=>?_
 split at hy
 . rename_i i j e1 e2
   obtain⟨c,hy⟩:=hy.iff
   rw[bA] at c
   have c1:=lX c.1
   have c2:=lX c.2
   intro us H1 t1 s1 r1
   obtain⟨u,r',eu,ru,u2,r2,eu2,ru2,hr⟩:=r1
   rw[show r2=[] from hr] at eu2
   subst eu2
   subst eu
   refine⟨i,j,by rw[ru.int e1,ru2.int e2],⟨c1.1,c1.2,c2.1,c2.2⟩,λt'=>hy _ _ t' s1 (aDm ?_)⟩
   rw[oO]
 . exact hy.elim
theorem aHY{σV:L2.St}{H:Hp}{x:Vl}{u:V}{ds:List D}(hx:Rv X.K RT Y old σ σV H x u)(h:jV x.d=some ds):∃(k:Bool) (a:Addr) (xs:List V),u=.ref a/\Sq k X.K H a xs/\(k=true->¬ exV RT Y old σ σV x.pa x.al a)/\Reps X.K H (exV RT Y old σ σV x.pa x.al) ds xs:=by
 unfold jV at h
 split at h
 . rename_i ds' d1
   cases h
   obtain⟨a,xs,e,q,nn,r⟩:=hx.lst d1
   exact⟨true,a,xs,e,q,λ_=>nn,r⟩
 . rename_i ds' d1
   cases h
   obtain⟨a,xs,e,q,r⟩:=hx.tup d1
   exact⟨false,a,xs,e,q,(λz=>absurd z bN),r⟩
 . cases h
theorem aHZ(M:Mc X P Γ n){a:E}{ea:Expr}{f:Str}{p pos:Pos}{elts:List Expr}{tk:Nat}{tp:Pos}(hf:f=("enumerate" : Str))(hg:eI Γ f=true)(ha:PE X ea (WE X P n RT Y old σ a))(hpa:bD ea=true) :
 PI X (.Tuple elts tk tp) (.Call (.Name f p) [ea] [] pos) (wI X P n RT Y old σ (.enum a)):=by
 subst hf
 refine tK (aFy (M.gl hg) (M.md.blt _ (by decide +kernel)) (oJ ha aAn hpa) (aD hpa)) λσV H RR t ⟨S,h⟩=>?_
 have h:=RE.bind' (show RE (ev P (call P n) σ a >>= λx=>(match jV x.d with|some as=>R.ok (items x (eA 0 as),x.al)|none=>.bad)) _ from h)
 refine⟨S,?_⟩
 show RE (ev P (call P n) σ a >>= λx=>evs P (call P n) σ .nil >>= λxs=>R.ok (x::xs)) _
 rw[RE.bind]
 refine h.mono λx hx=>?_
 split at hx
 . rename_i as e1
   intro us H1 t1 s1 r1
   obtain⟨u,r',eu,ru,hr⟩:=r1
   rw[show r'=[] from hr] at eu
   subst eu
   obtain⟨k,a1,xs,rfl,qa,na,ra⟩:=aHY ru e1
   exact⟨k,a1,xs,rfl,qa,λt'=>hx _ _ t' s1 (aFB (S.grow s1 t1) qa na ra)⟩
 . exact hx.elim
end
section
variable {X:Cx} {P:Pg} {n:Nat} {Γ:Ct} {RT Y old:Addr->Prop} {σ:Sg}
end
def gs:List Nat->TGs
 | []=>aJq
 | i::is=>aGp (qQ i) (gs is)
def gT(K:Fg):T->TG
 | .n i=>qQ i
 | .t is=>aJr K is.length (gs is)
section
variable {K:Fg} {RT Y old:Addr->Prop} {σ:Sg} {σV:L2.St} {H H':Hp}
theorem set_some{α:Type}{l:List α}{i j:Nat}{x y:α}(e:(l.set i x)[j]? = some y):(i=j/\x=y/\i<l.length)\/(i≠j/\l[j]? = some y):=by
 by_cases hij:i=j
 . subst hij
   have hl:i<(l.set i x).length:=(List.getElem?_eq_some_iff.mp e).1
   rw[List.length_set] at hl
   rw[List.getElem?_set_self hl] at e
   cases e
   exact .inl ⟨rfl,rfl,hl⟩
 . rw[List.getElem?_set_ne hij] at e
   exact .inr ⟨hij,e⟩
theorem Sx.setSh(S:Sx K RT Y old σ σV H){i:Nat}{pa:Bool}{d:D}{u:V}(h:Rep K H (λa=>RT a\/exB Y old pa a) d u):Sx K RT Y old (σ.set i (.sh pa d)) (σV.set i (some u)) H where
 sh:=λj pa' d' e=>by
  rcases set_some e with⟨rfl,e,hl⟩|⟨hij,e⟩
  . cases e
    exact⟨u,List.getElem?_set_self (by rw[<-S.len];exact hl),h⟩
  . obtain⟨v,h1,h2⟩:=S.sh j pa' d' e
    exact⟨v,by rw[List.getElem?_set_ne hij];exact h1,h2⟩
 own:=λj pa' ds e=>by
  rcases set_some e with⟨rfl,e,hl⟩|⟨hij,e⟩
  . cases e
  . obtain⟨a,xs,h1,h2⟩:=S.own j pa' ds e
    exact⟨a,xs,by rw[List.getElem?_set_ne hij];exact h1,h2⟩
 trk:=S.trk
 yo:=S.yo
 tk:=S.tk
 rt:=S.rt
 inj:=λj j' pa' pa'' ds ds' a e1 e2 e3 e4=>by
  rcases set_some e1 with⟨_,e,_⟩|⟨n1,e1⟩
  . cases e
  rcases set_some e2 with⟨_,e,_⟩|⟨n2,e2⟩
  . cases e
  rw[List.getElem?_set_ne n1] at e3
  rw[List.getElem?_set_ne n2] at e4
  exact S.inj j j' pa' pa'' ds ds' a e1 e2 e3 e4
 len:=by rw[List.length_set,List.length_set];exact S.len
 dx:=S.dx.imp id (λj ds e=>by
  rcases set_some e with⟨_,z,_⟩|⟨hij,e⟩
  . cases z
  . exact⟨e,List.getElem?_set_ne hij⟩) (λ_ _ _ _ _ _ e=>e) (λ_ _ e z _=>⟨e,z⟩) (λ_ _ r=>r) (λj ds es e=>by
  rcases set_some e with⟨_,z,_⟩|⟨hij,e⟩
  . cases z
  . exact⟨e,List.getElem?_set_ne hij⟩) (λ_ _ _ _ _ _ _ _ e=>e) λp xs e z=>⟨e,z.1,z.2.1,λk pa' ds q=>by
  rcases set_some q with⟨_,w,_⟩|⟨hij,q⟩
  . cases w
  . rw[List.getElem?_set_ne hij];exact z.2.2 k pa' ds q⟩
theorem Rep.out{ex:Addr->Prop}{d:D}{v:V}{a:Addr}(h:Rep K H ex d v)(n:H a=none)(k:K.lookup a=none):Rep K H (λb=>b=a\/ex b) d v:=
 Rep.imp (λ_ _ q=>q) (λb xs nb q=>⟨λz=>z.elim (λz=>by
  subst z
  rcases q with(q|⟨o,q⟩)|⟨o,its,m,q,_⟩
  . rw[n] at q;cases q
  . rw[n] at q;cases q
  . rw[k] at q;cases q) nb,q⟩) (λ⟨c,h1,h2⟩=>⟨c,h1,h2.resolve_left λz=>h1 (by rw[z];exact k)⟩) (λ_ _ _ q=>q) (λ_ _ q=>q) d v h
theorem Reps.out{ex:Addr->Prop}{d:List D}{v:List V}{a:Addr}(h:Reps K H ex d v)(n:H a=none)(k:K.lookup a=none):Reps K H (λb=>b=a\/ex b) d v:=
 Reps.imp (λ_ _ q=>q) (λb xs nb q=>⟨λz=>z.elim (λz=>by
  subst z
  rcases q with(q|⟨o,q⟩)|⟨o,its,m,q,_⟩
  . rw[n] at q;cases q
  . rw[n] at q;cases q
  . rw[k] at q;cases q) nb,q⟩) (λ⟨c,h1,h2⟩=>⟨c,h1,h2.resolve_left λz=>h1 (by rw[z];exact k)⟩) (λ_ _ _ q=>q) (λ_ _ q=>q) d v h
theorem Sx.storeOwn(S:Sx K RT Y old σ σV H){i:Nat}{a:Addr}{xs:List V}{ds:List D}{pa:Bool}(s:aR H H')(t:Tk K H')(hn:H a=none)(ha:H' a=some (.lst xs))(r:Reps K H' (λb=>(RT b\/b=a)\/exB Y old pa b) ds xs) :
 Sx K (λb=>RT b\/b=a) Y old (σ.set i (.own pa ds)) (σV.set i (some (.ref a))) H' where
 sh:=λj pa' d' e=>by
  rcases set_some e with⟨rfl,e,hl⟩|⟨hij,e⟩
  . cases e
  . obtain⟨v,h1,h2⟩:=S.sh j pa' d' e
    refine⟨v,by rw[List.getElem?_set_ne hij];exact h1,((h2.out hn (t a (by rw[ha];simp))).grow s).weak λb z=>?_⟩
    rcases z with(z|z)|z
    . exact .inr (.inl z)
    . exact .inl z
    . exact .inr (.inr z)
 own:=λj pa' ds' e=>by
  rcases set_some e with⟨rfl,e,hl⟩|⟨hij,e⟩
  . cases e
    exact⟨a,xs,List.getElem?_set_self (by rw[<-S.len];exact hl),ha,.inr rfl,λz=>S.trk a (.inr (.inr z)) hn (t a (by rw[ha];simp)),r⟩
  . obtain⟨a',xs',h1,h2,h3,h4,h5⟩:=S.own j pa' ds' e
    refine⟨a',xs',by rw[List.getElem?_set_ne hij];exact h1,s _ _ h2,.inl h3,h4,((h5.out hn (t a (by rw[ha];simp))).grow s).weak λb z=>?_⟩
    rcases z with(z|z)|z
    . exact .inr (.inl z)
    . exact .inl z
    . exact .inr (.inr z)
 trk:=λb z q=>by
  rcases z with(z|z)|z
  . exact S.trk b (.inl z) (s.free q)
  . rw[z,ha] at q;cases q
  . exact S.trk b (.inr z) (s.free q)
 yo:=S.yo
 tk:=t
 rt:=λb z=>by
  rcases z with z|z
  . exact(S.rt b z).grow s
  . rw[z];exact .inl ⟨xs,ha⟩
 inj:=λj j' pa' pa'' ds1 ds2 c e1 e2 e3 e4=>by
  have fr:∀{j:Nat} {pa:Bool} {ds:List D},σ[j]? = some (.own pa ds)->σV[j]? = some (some (.ref a))->False:=λ{j pa ds} e q=>by
   obtain⟨a',xs',h1,h2,_⟩:=S.own j pa ds e
   rw[q] at h1
   cases h1
   rw[hn] at h2;cases h2
  rcases set_some e1 with⟨rfl,e,hl⟩|⟨n1,e1⟩
  . rcases set_some e2 with⟨rfl,_,_⟩|⟨n2,e2⟩
    . rfl
    . rw[List.getElem?_set_self (by rw[<-S.len];exact hl)] at e3
      cases e3
      rw[List.getElem?_set_ne n2] at e4
      exact(fr e2 e4).elim
  . rw[List.getElem?_set_ne n1] at e3
    rcases set_some e2 with⟨rfl,e,hl⟩|⟨n2,e2⟩
    . rw[List.getElem?_set_self (by rw[<-S.len];exact hl)] at e4
      cases e4
      exact(fr e1 e3).elim
    . rw[List.getElem?_set_ne n2] at e4
      exact S.inj j j' pa' pa'' ds1 ds2 c e1 e2 e3 e4
 len:=by rw[List.length_set,List.length_set];exact S.len
 dx:=S.dx.imp id (λj ds e=>by
  rcases set_some e with⟨_,z,_⟩|⟨hij,e⟩
  . cases z
  . exact⟨e,List.getElem?_set_ne hij⟩) (λ_ _ _ _ _ _ e=>e) (λb ys e z _=>⟨s _ _ e,.inl z⟩) (λ_ _ r=>aR.seqT s r) (λj ds es e=>by
  rcases set_some e with⟨_,z,_⟩|⟨hij,e⟩
  . cases z
  . exact⟨e,List.getElem?_set_ne hij⟩) (λ_ _ _ _ _ _ _ _ e=>e) λp ys e z=>⟨s _ _ e,.inl z.1,z.2.1,λk pa' ds q w=>by
  rcases set_some q with⟨rfl,_,hl⟩|⟨hij,q⟩
  . rw[List.getElem?_set_self (by rw[<-S.len];exact hl)] at w
    cases w
    rw[hn] at e;cases e
  . rw[List.getElem?_set_ne hij] at w;exact z.2.2 k pa' ds q w⟩
theorem iX{v:Vl}(h:v.fr=false):v.slot=.sh v.pa v.d:=by
 unfold Vl.slot
 rw[h]
theorem aFC{v:Vl}{ds:List D}(h:v.fr=true)(hd:v.d=.lst ds):v.slot=.own v.pa ds:=by
 unfold Vl.slot
 rw[h,hd]
theorem Sx.store(S:Sx K RT Y old σ σV H){v:Vl}{u:V}(ro:Ro K RT Y old σ σV H H' v u)(t:Tk K H')(i:Nat) :
 ∃RT',Sx K RT' Y old ((freeze σ v.al).set i v.slot) (σV.set i (some u)) H'/\∀b,RT' b->RT b\/H b=none:=by
 by_cases hf:v.fr=true
 . obtain⟨s,h⟩:=ro
   rw[if_pos hf] at h
   obtain⟨a,xs,ds,e1,e2,e3,e4,r⟩:=h
   subst e1
   rw[aFC hf e2]
   refine⟨_,(S.frz v.al).storeOwn s t e3.1 e4 (r.weak λb z=>?_),λb z=>z.elim (λz=>.inl z.1) λz=>.inr (by rw[z];exact e3.1)⟩
   rcases z with(z|z)|z
   . exact .inr (.inl z)
   . exact .inl z
   . exact .inr (.inr z)
 . rw[iX (by simpa using hf)]
   exact⟨_,((S.grow ro.1 t).frz v.al).setSh (ro.rv S),λb z=>.inl z.1⟩
theorem aGD:∀{is:List Nat} {us:List V} {σV:L2.St} {H:Hp} {Q:L2.St->Hp->Prop},is.length=us.length->Q ((is.zip us).foldl (λs p=>s.set p.1 (some p.2)) σV) H->gs is us σV H Q
 | [],[],_,_,_,_,h=>⟨rfl,h⟩
 | [],_::_,_,_,_,e,_=>by simp at e
 | _::_,[],_,_,_,e,_=>by simp at e
 | i::is,u::us,σV,H,Q,e,h=>⟨u,us,rfl,aGD (is:=is) (us:=us) (by simpa using e) h⟩
theorem vT{v:Vl}{d:D}:(v.sub d).slot=.sh (!noL d&&v.pa) d:=by
 rw[iX tJ]
 unfold Vl.sub Vl.cl
 split
 . rename_i h;rw[h];rfl
 . rename_i h
   have:noL d=false:=by simpa using h
   rw[this];rfl
theorem Sx.setAll{v:Vl}:∀{is:List Nat} {ds:List D} {us:List V} {σ:Sg} {σV:L2.St},Sx K RT Y old σ σV H->Reps K H (λa=>RT a\/exB Y old v.pa a) ds us ->
 Sx K RT Y old ((is.zip ds).foldl (λσ p=>σ.set p.1 (v.sub p.2).slot) σ) ((is.zip us).foldl (λs p=>s.set p.1 (some p.2)) σV) H
 | [],_,_,_,_,S,_=>S
 | _::_,[],us,_,_,S,r=>by rw[show us=[] from r];exact S
 | i::is,d::ds,us,σ,σV,S,r=>by
  obtain⟨x,r',e,h1,h2⟩:=r
  subst e
  refine Sx.setAll (v:=v) (is:=is) (ds:=ds) (us:=r') ?_ h2
  show Sx K RT Y old (σ.set i (v.sub d).slot) (σV.set i (some x)) H
  rw[vT]
  refine S.setSh ?_
  cases hn:noL d with
  | true=>exact Rep.free d x hn h1
  | false=>exact h1
theorem lY{α:Type}{β:Type}(f:β->α):∀{is:List Nat} {bs:List β} {l:List α} {j:Nat},j∉is->((is.zip bs).foldl (λs p=>s.set p.1 (f p.2)) l)[j]? = l[j]?
 | [],_,_,_,_=>rfl
 | _::_,[],_,_,_=>rfl
 | i::is,b::bs,l,j,h=>by
  have h':i≠j/\j∉is:=by
   refine⟨λe=>h (by simp[e]),λz=>h (List.mem_cons_of_mem _ z)⟩
  rw[List.zip_cons_cons,List.foldl_cons,lY f (is:=is) (bs:=bs) h'.2,List.getElem?_set_ne h'.1]
theorem vU{α:Type}{β:Type}(f:β->α):∀{is:List Nat} {bs:List β} {l:List α},((is.zip bs).foldl (λs p=>s.set p.1 (f p.2)) l).length=l.length
 | [],_,_=>rfl
 | _::_,[],_=>rfl
 | i::is,b::bs,l=>by rw[List.zip_cons_cons,List.foldl_cons,vU f (is:=is) (bs:=bs),List.length_set]
theorem fold_mem{α:Type}{β:Type}(f:β->α):∀{is:List Nat} {bs:List β} {l:List α} {j:Nat} {x:α},((is.zip bs).foldl (λs p=>s.set p.1 (f p.2)) l)[j]? = some x->l[j]? = some x\/∃b,x=f b
 | [],_,_,_,_,h=>.inl h
 | _::_,[],_,_,_,h=>.inl h
 | i::is,b::bs,l,j,x,h=>by
  rw[List.zip_cons_cons,List.foldl_cons] at h
  rcases fold_mem f (is:=is) (bs:=bs) h with q|q
  . rcases set_some q with⟨_,e,_⟩|⟨_,e⟩
    . exact .inr ⟨b,e.symm⟩
    . exact .inl e
  . exact .inr q
theorem oP{v:Vl}{is:List Nat}{σ2:Sg}(e:cC σ v (.t is)=.ok σ2):∃ds,v.d=.tup ds/\ds.length=is.length/\σ2=(is.zip ds).foldl (λσ p=>σ.set p.1 (v.sub p.2).slot) σ:=by
 unfold cC at e
 simp only at e
 split at e
 . rename_i ds hd
   split at e
   . rename_i hl
     cases e
     exact⟨ds,hd,hl,rfl⟩
   . cases e
 . cases e
theorem oQ{v:Vl}{i:Nat}{σ2:Sg}(e:cC σ v (.n i)=.ok σ2):σ2=σ.set i v.slot:=by
 cases(show R.ok (σ.set i v.slot)=R.ok σ2 from e)
 rfl
theorem aDn{v:Vl}{t:T}{σ2:Sg}{j:Nat}(e:cC σ v t=.ok σ2)(h:j∉tIx t):σ2[j]? = σ[j]? := by
 cases t with
 | n i=>
  rw[oQ e]
  exact List.getElem?_set_ne λz=>h (by simp[tIx,z])
 | t is=>
  obtain⟨ds,_,_,e⟩:=oP e
  rw[e]
  exact lY (λd=>(v.sub d).slot) h
theorem aDo{v:Vl}{t:T}{σ2:Sg}(e:cC σ v t=.ok σ2):σ2.length=σ.length:=by
 cases t with
 | n i=>rw[oQ e,List.length_set]
 | t is=>
  obtain⟨ds,_,_,e⟩:=oP e
  rw[e]
  exact vU (λd=>(v.sub d).slot)
theorem aDp{v:Vl}{t:T}{σ2:Sg}{j:Nat}{pa:Bool}{ds:List D}(hf:v.fr=false)(e:cC σ v t=.ok σ2)(h:σ2[j]? = some (.own pa ds)):σ[j]? = some (.own pa ds):=by
 cases t with
 | n i=>
  rw[oQ e,iX hf] at h
  rcases set_some h with⟨_,e,_⟩|⟨_,e⟩
  . cases e
  . exact e
 | t is=>
  obtain⟨ds',_,_,e⟩:=oP e
  rw[e] at h
  rcases fold_mem (λd=>(v.sub d).slot) h with q|⟨b,q⟩
  . exact q
  . rw[vT] at q;cases q
theorem aDq(S:Sx K RT Y old σ σV H){t:T}{v:Vl}{u:V}{Q:L2.St->Hp->Prop}{σ2:Sg}(hfr:v.fr=false)(h:Rep K H (λa=>RT a\/exB Y old v.pa a) v.d u)(e:cC σ v t=.ok σ2)
 (q:∀σ2V,Sx K RT Y old σ2 σ2V H->(∀j,j∉tIx t->σ2V[j]? = σV[j]?)->Q σ2V H):gT K t u σV H Q:=by
 cases t with
 | n i=>
  rw[oQ e,iX hfr] at q
  exact q _ (S.setSh h) λj hj=>List.getElem?_set_ne λz=>hj (by simp[tIx,z])
 | t is=>
  obtain⟨ds,hd,hl,e⟩:=oP e
  rw[hd] at h
  obtain⟨a,xs,rfl,hq,r⟩:=h
  have l2:=r.length
  refine⟨a,xs,rfl,hq,by omega,aGD (by omega) (q _ ?_ λj hj=>?_)⟩
  . rw[e];exact S.setAll r
  . exact lY (λd=>some d) hj
end
section
variable {X:Cx} {P:Pg} {Γ:Ct} {n:Nat} {RT Y old:Addr->Prop} {σ:Sg} {tg:Expr} {pos:Pos}
theorem vV(M:Mc X P Γ n):∀{is:List Nat} {es:List Expr},is.length=es.length->((is.zip es).all λp=>match p.2 with|.Name x _=>bP Γ p.1 x|_=>false)=true ->
 PGs X es (gs is)/\(assignEach es X.env).length=is.length/\(assignEach es X.env).findIdx? (·.1)=none
 | [],[],_,_=>⟨aES,rfl,rfl⟩
 | [],_::_,e,_=>by simp at e
 | _::_,[],e,_=>by simp at e
 | i::is,e::es,hl,h=>by
  rw[List.zip_cons_cons,List.all_cons,bA] at h
  obtain⟨h1,h2,h3⟩:=vV M (is:=is) (es:=es) (by simpa using hl) h.2
  cases e with
  | Name x p=>
   have hs:bP Γ i x=true:=h.1
   unfold bP at hs
   simp only[bA,beq_iff_eq] at hs
   have e1:assignEach (.Name x p::es) X.env=(false,assign (.Name x p) X.env)::assignEach es X.env:=rfl
   refine⟨aCl (aAa M.nd (by rw[M.N];exact hs.1.1) (M.loc hs.1.2) (M.st x hs.1.2)) h1 (by rw[e1];rfl),?_,?_⟩
   . rw[e1,lC,lC,h2]
   . rw[e1,List.findIdx?_cons]
     simp[h3]
  | _=>cases h.1
theorem aFD(M:Mc X P Γ n){t:T}(h:qK Γ t tg=true):PG X tg (gT X.K t):=by
 cases t with
 | n i=>
  cases tg with
  | Name x p=>
   have hs:bP Γ i x=true:=h
   unfold bP at hs
   simp only[bA,beq_iff_eq] at hs
   exact aAa M.nd (by rw[M.N];exact hs.1.1) (M.loc hs.1.2) (M.st x hs.1.2)
  | _=>cases h
 | t is=>
  cases tg with
  | Tuple es k p=>
   have h:(is.length==es.length&&(is.zip es).all λp=>match p.2 with|.Name x _=>bP Γ p.1 x|_=>false)=true:=h
   rw[bA,beq_iff_eq] at h
   obtain⟨h1,h2,h3⟩:=vV M h.1 h.2
   exact aHe M.calm h1 h2 h3
  | _=>cases h
def ch0(k:Nat)(caps:List Nat)(σ:Sg):Sg:=List.replicate k .dead++caps.map λi=>(σ[i]?).getD .dead
theorem ch0_get{k:Nat}{caps:List Nat}{σ:Sg}{j:Nat}{s:Sl}(h:(ch0 k caps σ)[j]? = some s):s=.dead\/∃j' i,j=k+j'/\caps[j']? = some i/\σ[i]? = some s:=by
 unfold ch0 at h
 by_cases hj:j<k
 . rw[List.getElem?_append_left (by simpa using hj),List.getElem?_replicate,if_pos hj] at h
   cases h
   exact .inl rfl
 . rw[List.getElem?_append_right (by simpa using hj),List.length_replicate,List.getElem?_map] at h
   cases e:caps[j-k]? with
   | none=>rw[e] at h;cases h
   | some i=>
    rw[e] at h
    have h':(σ[i]?).getD .dead=s:=Option.some.inj h
    cases q:σ[i]? with
    | none=>rw[q] at h';exact .inl h'.symm
    | some z=>rw[q] at h';exact .inr ⟨j-k,i,by omega,e,by rw[q];exact congrArg some h'⟩
theorem aDr{k:Nat}{caps:List Nat}{σ:Sg}{j:Nat}{s:Sl}(hj:j<k)(h:(ch0 k caps σ)[j]? = some s):s=.dead:=by
 unfold ch0 at h
 rw[List.getElem?_append_left (by simpa using hj),List.getElem?_replicate,if_pos hj] at h
 cases h
 rfl
theorem nH{k:Nat}{caps:List Nat}{σV:L2.St}{j i:Nat}{v:V}(e:caps[j]? = some i)(h:σV[i]? = some (some v)):(jY k caps σV)[k+j]? = some (some v):=by
 unfold jY
 rw[List.getElem?_append_right (by simp),List.length_replicate,List.getElem?_map,Nat.add_sub_cancel_left,e]
 show some ((σV[i]?).getD none)=_
 rw[h];rfl
theorem nI{k:Nat}{caps:List Nat}{σV:L2.St}{j i:Nat}{v:V}(e:caps[j]? = some i)(h:(jY k caps σV)[k+j]? = some (some v)):σV[i]? = some (some v):=by
 unfold jY at h
 rw[List.getElem?_append_right (by simp),List.length_replicate,List.getElem?_map,Nat.add_sub_cancel_left,e] at h
 have h':(σV[i]?).getD none=some v:=Option.some.inj h
 cases q:σV[i]? with
 | none=>rw[q] at h';cases h'
 | some z=>rw[q] at h';exact congrArg some h'
theorem iY{α:Type}:∀{l:List α},l.Nodup->∀{i j:Nat} {x:α},l[i]? = some x->l[j]? = some x->i=j
 | [],_,_,_,_,h,_=>by simp at h
 | a::l,hn,0,0,_,_,_=>rfl
 | a::l,hn,0,j+1,x,h1,h2=>by
  have e:a=x:=by simpa using h1
  have:x∈l:=mG (by simpa using h2)
  subst e
  exact absurd this (List.nodup_cons.mp hn).1
 | a::l,hn,i+1,0,x,h1,h2=>by
  have e:a=x:=by simpa using h2
  have:x∈l:=mG (by simpa using h1)
  subst e
  exact absurd this (List.nodup_cons.mp hn).1
 | a::l,hn,i+1,j+1,x,h1,h2=>congrArg (·+1) (iY (List.nodup_cons.mp hn).2 (i:=i) (j:=j) (x:=x) (by simpa using h1) (by simpa using h2))
theorem Sx.child{K:Fg}{σV:L2.St}{H:Hp}(S:Sx K RT Y old σ σV H){k:Nat}{caps:List Nat}(nd:caps.Nodup):Sx K RT Y old (ch0 k caps σ) (jY k caps σV) H where
 sh:=λj pa d e=>by
  rcases ch0_get e with z|⟨j',i,rfl,hc,hs⟩
  . cases z
  . obtain⟨v,h1,h2⟩:=S.sh i pa d hs
    exact⟨v,nH hc h1,h2⟩
 own:=λj pa ds e=>by
  rcases ch0_get e with z|⟨j',i,rfl,hc,hs⟩
  . cases z
  . obtain⟨a,xs,h1,h2⟩:=S.own i pa ds hs
    exact⟨a,xs,nH hc h1,h2⟩
 trk:=S.trk
 yo:=S.yo
 tk:=S.tk
 rt:=S.rt
 inj:=λj1 j2 pa pa' ds ds' a e1 e2 e3 e4=>by
  rcases ch0_get e1 with z|⟨j1',i1,rfl,hc1,hs1⟩
  . cases z
  rcases ch0_get e2 with z|⟨j2',i2,rfl,hc2,hs2⟩
  . cases z
  have:=S.inj i1 i2 pa pa' ds ds' a hs1 hs2 (nI hc1 e3) (nI hc2 e4)
  subst this
  rw[iY nd hc1 hc2]
 len:=by
  unfold ch0 jY
  rw[lA,lA,lM,lM,List.length_replicate,List.length_replicate]
 dx:=S.dx.imp (λj=>(caps[j-k]?).getD 0) (λj ds e=>by
  rcases ch0_get e with z|⟨j',i,rfl,hc,hs⟩
  . cases z
  . rw[Nat.add_sub_cancel_left,hc]
    refine⟨hs,?_⟩
    obtain⟨a,xs,h1,_⟩:=S.dx.at' i ds hs
    rw[nH hc h1]
    exact h1.symm) (λj1 j2 ds ds' e1 e2 q=>by
  rcases ch0_get e1 with z|⟨j1',i1,rfl,hc1,_⟩
  . cases z
  rcases ch0_get e2 with z|⟨j2',i2,rfl,hc2,_⟩
  . cases z
  rw[Nat.add_sub_cancel_left,Nat.add_sub_cancel_left,hc1,hc2] at q
  have q:i1=i2:=q
  subst q
  rw[iY nd hc1 hc2]) (λ_ _ e z _=>⟨e,z⟩) (λ_ _ r=>r) (λj ds es e=>by
  rcases ch0_get e with z|⟨j',i,rfl,hc,hs⟩
  . cases z
  . rw[Nat.add_sub_cancel_left,hc]
    refine⟨hs,?_⟩
    obtain⟨a,_,_,_,_,h1,_⟩:=S.dx.at2 i ds es hs
    rw[nH hc h1]
    exact h1.symm) (λj1 j2 ds es ds' es' e1 e2 q=>by
  rcases ch0_get e1 with z|⟨j1',i1,rfl,hc1,_⟩
  . cases z
  rcases ch0_get e2 with z|⟨j2',i2,rfl,hc2,_⟩
  . cases z
  rw[Nat.add_sub_cancel_left,Nat.add_sub_cancel_left,hc1,hc2] at q
  have q:i1=i2:=q
  subst q
  rw[iY nd hc1 hc2]) λp xs e z=>⟨e,z.1,z.2.1,λj pa ds q w=>by
  rcases ch0_get q with v|⟨j',i,rfl,hc,hs⟩
  . cases v
  . exact z.2.2 i pa ds hs (nI hc w)⟩
theorem Sx.forget{K:Fg}{σ':Sg}{σV:L2.St}{H:Hp}(S:Sx K RT Y old σ σV H)(hl:σ'.length=σ.length)(h:∀(j:Nat) (s:Sl),σ'[j]? = some s->s=.dead\/σ[j]? = some s):Sx K RT Y old σ' σV H where
 sh:=λj pa d e=>by
  rcases h j _ e with z|z
  . cases z
  . exact S.sh j pa d z
 own:=λj pa d e=>by
  rcases h j _ e with z|z
  . cases z
  . exact S.own j pa d z
 trk:=S.trk
 yo:=S.yo
 tk:=S.tk
 rt:=S.rt
 inj:=λj1 j2 pa pa' ds ds' a e1 e2 e3 e4=>by
  rcases h j1 _ e1 with z|z1
  . cases z
  rcases h j2 _ e2 with z|z2
  . cases z
  exact S.inj j1 j2 pa pa' ds ds' a z1 z2 e3 e4
 len:=by rw[hl];exact S.len
 dx:=S.dx.imp id (λj ds e=>(h j _ e).elim (λz=>by cases z) λz=>⟨z,rfl⟩) (λ_ _ _ _ _ _ e=>e) (λ_ _ e z _=>⟨e,z⟩) (λ_ _ r=>r) (λj ds es e=>(h j _ e).elim (λz=>by cases z) λz=>⟨z,rfl⟩) (λ_ _ _ _ _ _ _ _ e=>e) λp xs e z=>⟨e,z.1,z.2.1,λk pa ds q=>(h k _ q).elim (λw=>by cases w) λw=>z.2.2 k pa ds w⟩
def wTs(X:Cx)(P:Pg)(n:Nat)(RT Y old:Addr->Prop)(σ:Sg)(cs:Es):TT:=λσV H Q=>Sx X.K RT Y old σ σV H/\RE (tsts P (call P n) σ cs) λk=>∀H',Tk X.K H'->aR H H'->Q k H'
theorem aIa:PTs X [] (wTs X P n RT Y old σ .nil):=λpins s σV H Q I ⟨S,h⟩=>aFr pins s σV H Q I ((show ∀H',Tk X.K H'->aR H H'->Q true H' from h) H I.tk (aR.refl H))
theorem aIb{c:E}{e:Expr}(h:PT X e (WT X P n RT Y old σ c)):PTs X [e] (wTs X P n RT Y old σ (.cons c .nil)):=λpins s σV H Q I ⟨S,hh⟩=>aFs h pins s σV H Q I ⟨S,by
 have hh:=RE.bind' (show RE (tst P (call P n) σ c >>= λx=>if x=true then tsts P (call P n) σ .nil else R.ok false) _ from hh)
 refine hh.mono λk hk=>?_
 cases k with
 | true=>exact hk
 | false=>exact hk⟩
theorem Rvs.append{K:Fg}{σV:L2.St}{H:Hp}:∀{vs ws:List Vl} {us zs:List V},Rvs K RT Y old σ σV H vs us->Rvs K RT Y old σ σV H ws zs->Rvs K RT Y old σ σV H (vs++ws) (us++zs)
 | [],_,_,_,h,q=>by rw[show _=[] from h];exact q
 | v::vs,_,_,_,h,q=>by
  obtain⟨u,r,e,h1,h2⟩:=h
  subst e
  exact⟨u,_,rfl,h1,Rvs.append h2 q⟩
def lv(k:Nat)(caps al:List Nat)(v:Vl):Vl:=⟨v.d,false,v.pa,al++v.al.filterMap λj=>caps[j-k]?⟩
theorem vW{f:Vl->R (Option Vl)}{x:Vl}{xs rs:List Vl}(h:eF f (x::xs)=.ok rs):∃y ys,f x=.ok y/\eF f xs=.ok ys/\rs=(match y with|some y=>y::ys|none=>ys):=by
 have h:(f x >>= λy=>eF f xs >>= λys=>(match y with|some y=>R.ok (y::ys)|none=>R.ok ys))=R.ok rs:=h
 cases q1:f x with
 | ok y=>
  rw[q1] at h
  have h:(eF f xs >>= λys=>(match y with|some y=>R.ok (y::ys)|none=>R.ok ys))=R.ok rs:=h
  cases q2:eF f xs with
  | ok ys=>
   rw[q2] at h
   refine⟨y,ys,rfl,rfl,?_⟩
   cases y with
   | none=>cases(show R.ok ys=R.ok rs from h);rfl
   | some y=>cases(show R.ok (y::ys)=R.ok rs from h);rfl
  | exc z=>rw[q2] at h;cases h
  | bad=>rw[q2] at h;cases h
 | exc z=>rw[q1] at h;cases h
 | bad=>rw[q1] at h;cases h
theorem R.bind_ok{α β:Type}{x:R α}{f:α->R β}{b:β}(h:(x >>= f)=.ok b):∃a,x=.ok a/\f a=.ok b:=by
 cases x with
 | ok a=>exact⟨a,rfl,h⟩
 | exc z=>cases h
 | bad=>cases h
theorem aDs{k:Nat}{caps:List Nat}{t:T}{it:Hp.It}{cond:Es}{elt:E}(hnd:caps.Nodup)(hk:∀i∈tIx t,i<k){σV:L2.St}{H:Hp}{Q:VK}(hw:WE X P n RT Y old σ (.comp k caps t it cond elt) σV H Q) :
 aCZ k caps (wI X P n RT Y old σ it) (gT X.K t) (λσV H Q=>∃RT Y old σ1,wTs X P n RT Y old σ1 cond σV H Q) (λσV H Q=>∃RT Y old σ1,WE X P n RT Y old σ1 elt σV H Q) σV H λv H'=>Tk X.K H'->Q v H':=by
 obtain⟨S,h⟩:=hw
 let f:List Nat->Vl->R (Option Vl):=λal x=>cC (ch0 k caps (freeze σ al)) x t >>= λσ1=>tsts P (call P n) σ1 cond >>= λb=>if b=true then (ev P (call P n) σ1 elt >>= λy=>R.ok (some y)) else R.ok none
 have h:=RE.bind' (show RE (walk P (call P n) σ it >>= λxs=>eF (f xs.2) xs.1 >>= λvs=>R.iff (decide (vs.length<=lim)) (R.ok (kL k caps xs.2 vs))) (Wn X RT Y old σ σV H Q) from h)
 refine⟨S,h.mono λxs hx J H1 t1 s1 ok=>?_⟩
 obtain⟨vs,evs,hv⟩:=(RE.bind' hx).eq
 obtain⟨hl,hq⟩:=hv.iff
 have hl:=of_decide_eq_true hl
 have hq:Wn X RT Y old σ σV H Q (kL k caps xs.2 vs):=hq
 have S1:=S.grow s1 t1
 have Sf:=S1.frz xs.2
 refine⟨λi m ys σ1V Hc=>m=xs.1.length-i/\i<=xs.1.length/\aR H1 Hc/\Tk X.K Hc/\Sx X.K (rtF RT σ σV xs.2) Y old (ch0 k caps (freeze σ xs.2)) σ1V Hc/\(∀j,k<=j->σ1V[j]? = (jY k caps σV)[j]?) /\
  ∃ws rs,vs=ws++rs/\eF (f xs.2) (xs.1.drop i)=.ok rs/\Rvs X.K RT Y old σ σV Hc (ws.map (lv k caps xs.2)) ys,⟨_,rfl,Nat.zero_le _,aR.refl _,t1,Sf.child hnd,λ_ _=>rfl,[],vs,rfl,evs,rfl⟩,?_⟩
 rintro i m ys σ1V Hc ⟨hm,hi,sc,tc,Sc,hcap,ws,rs,evs',ego,rvs⟩
 have okc:=ok.ok (λ_=>False) (λ_ z=>z.elim) i Hc (Kp.same sc)
 have hly:=rvs.length
 rw[lM] at hly
 have hws:ws.length<=vs.length:=by rw[evs',lA];omega
 by_cases hlt:i<xs.1.length
 . refine .inr ⟨okc.1 hlt,by rw[<-hly,sizeLine_eq];have:lim=1000000:=rfl;omega,λx H' hy=>?_⟩
   have hxi:xs.1[i]? = some xs.1[i]:=List.getElem?_eq_getElem hlt
   obtain⟨sm,tkf,rv⟩:=okc.2.2 x H' hy xs.1[i] hxi
   have rv:Rep X.K H' (exV RT Y old σ σV xs.1[i].pa xs.1[i].al) xs.1[i].d x:=Rep.weak rv λa z=>.inl z
   rw[List.drop_eq_getElem_cons hlt] at ego
   obtain⟨yo,ys',ef,ego',ers⟩:=vW ego
   obtain⟨σ1,eσ,ef⟩:=R.bind_ok ef
   obtain⟨b,eb,ef⟩:=R.bind_ok ef
   have hmem:xs.1[i]∈xs.1:=List.getElem_mem hlt
   have hnf:=ok.nofr _ hmem
   have rep:Rep X.K H' (λa=>rtF RT σ σV xs.2 a\/exB Y old xs.1[i].pa a) xs.1[i].d x:=Rep.weak rv λa z=>by
    rcases z with z|z
    . exact .inl ⟨z.1,λq=>z.2 (q.mono (ok.sub _ hmem))⟩
    . exact .inr z
   refine aDq (Sc.grow sm (tkf tc)) hnf rep eσ λσ2V S2 hkeep=>⟨_,_,_,σ1,S2,?_⟩
   rw[eb]
   intro H3 t3 s3
   have capk:∀j,k<=j->σ2V[j]? = (jY k caps σV)[j]? := λj hj=>by
    rw[hkeep j λz=>absurd (hk j z) (Nat.not_lt.mpr hj),hcap j hj]
   have back:∀{H5:Hp},Sx X.K (rtF RT σ σV xs.2) Y old σ1 σ2V H5->Sx X.K (rtF RT σ σV xs.2) Y old (ch0 k caps (freeze σ xs.2)) σ2V H5:=λ{H5} S5=>S5.forget (aDo eσ).symm λj s hs=>by
    by_cases hj:j∈tIx t
    . exact .inl (aDr (hk j hj) hs)
    . exact .inr (by rw[aDn eσ hj];exact hs)
   cases b with
   | false=>
    rw[if_neg bN] at ef ⊢
    cases(show R.ok none=R.ok yo from ef)
    have ers:rs=ys':=ers
    subst ers
    exact⟨_,by omega,rfl,hlt,sc.trans (sm.trans s3),t3,back (S2.grow s3 t3),capk,ws,rs,evs',ego',rvs.grow (sm.trans s3)⟩
   | true=>
    rw[if_pos rfl] at ef ⊢
    obtain⟨y,ey,ef⟩:=R.bind_ok ef
    cases(show R.ok (some y)=R.ok yo from ef)
    have ers:rs=y::ys':=ers
    subst ers
    refine⟨_,_,_,σ1,S2.grow s3 t3,?_⟩
    rw[ey]
    intro u H4 t4 ro4
    have s4:=ro4.1
    have rv4:Rep X.K H4 (exV (rtF RT σ σV xs.2) Y old σ1 σ2V y.pa y.al) y.d u:=ro4.rv (S2.grow s3 t3)
    refine⟨_,by omega,rfl,hlt,sc.trans (sm.trans (s3.trans s4)),t4,back ((S2.grow s3 t3).grow s4 t4),capk,ws++[y],ys',by rw[evs'];simp,ego',?_⟩
    rw[List.map_append]
    refine(rvs.grow (sm.trans (s3.trans s4))).append ⟨u,[],rfl,?_,rfl⟩
    show Rep X.K H4 (exV RT Y old σ σV y.pa (xs.2++y.al.filterMap λj=>caps[j-k]?)) y.d u
    refine rv4.weak λc z=>?_
    rcases z with⟨z1,z2⟩|z
    . refine .inl ⟨⟨z1,λq=>z2 (q.mono λj hj=>List.mem_append_left _ hj)⟩,λq=>z2 ?_⟩
      obtain⟨j,hj,⟨pa,ds,ho⟩,hV⟩:=q
      have ho:=aDp hnf eσ ho
      rcases ch0_get ho with z|⟨j',i',rfl,hc,hs⟩
      . cases z
      . rw[capk _ (Nat.le_add_right _ _)] at hV
        refine⟨i',List.mem_append_right _ (List.mem_filterMap.mpr ⟨k+j',hj,by rw[Nat.add_sub_cancel_left];exact hc⟩),⟨pa,ds,(eN hs).1⟩,nI hc hV⟩
    . exact .inr z
 . have hie:i=xs.1.length:=by omega
   subst hie
   rw[List.drop_length] at ego
   cases(show R.ok []=R.ok rs from ego)
   rw[List.append_nil] at evs'
   subst evs'
   refine .inl ⟨okc.2.1 (Nat.le_refl _),by rw[<-hly];exact eV hl,λp hp t'=>hq _ _ t' ?_⟩
   have Sc':=S.grow (s1.trans sc) tc
   have emap:(vs.map (lv k caps xs.2)).map (·.d)=vs.map (·.d):=by rw[List.map_map];rfl
   have rr:Reps X.K Hc (exV RT Y old σ σV (eZ vs) (xs.2++(cQ vs).filterMap λj=>caps[j-k]?)) (vs.map (·.d)) ys:=by
    rw[<-emap]
    refine rvs.reps λv hv=>?_
    obtain⟨w,hw,e⟩:=List.mem_map.mp hv
    subst e
    refine⟨λz=>vL hw z,λj hj=>?_⟩
    rcases List.mem_append.mp hj with z|z
    . exact List.mem_append_left _ z
    . obtain⟨j',hj',e⟩:=List.mem_filterMap.mp z
      exact List.mem_append_right _ (List.mem_filterMap.mpr ⟨j',mS hw j' hj',e⟩)
   unfold kL
   split
   . rename_i hn
     exact(Ro.fresh hp t' rfl rfl Sc' (Reps.free _ _ hn rr)).from (s1.trans sc)
   . exact(Ro.fresh hp t' rfl rfl Sc' rr).from (s1.trans sc)
theorem aIc(M:Mc X P Γ n){k:Nat}{caps:List Nat}{t:T}{it:Hp.It}{cond:Es}{elt:E}{e iter:Expr}{ifs:List Expr}{scope:Scope}{N':List Str}(CS:dW X scope k caps N')(hnd:caps.Nodup)(hk:∀i∈tIx t,i<k)
 (hi:PI X tg iter (wI X P n RT Y old σ it))
 (hch:∀C s₀ H₀ ex,PG (eE X scope N' C s₀ H₀ ex) tg (gT X.K t)/\(∀RT Y old σ1,PTs (eE X scope N' C s₀ H₀ ex) ifs (wTs X P n RT Y old σ1 cond))/\∀RT Y old σ1,PE (eE X scope N' C s₀ H₀ ex) e (WE X P n RT Y old σ1 elt))
 (hs:∀x,foldedSetIterable iter X.env x=pure x):PE X (.ListComp e [⟨tg,iter,ifs,0⟩] scope pos) (WE X P n RT Y old σ (.comp k caps t it cond elt)):=by
 refine(aAl (g:=gT X.K t) (tt:=λσV H Q=>∃RT Y old σ1,wTs X P n RT Y old σ1 cond σV H Q) (te:=λσV H Q=>∃RT Y old σ1,WE X P n RT Y old σ1 elt σV H Q) CS M.calm hi (λC s₀ H₀ ex=>?_) hs).imp λσV H Q t0 hw=>aDs hnd hk hw
 . obtain⟨h1,h2,h3⟩:=hch C s₀ H₀ ex
   exact⟨h1,λpins s σV H Q I ⟨RT,Y,old,σ1,hw⟩=>h2 RT Y old σ1 pins s σV H Q I hw,λpins s σV H Q I ⟨RT,Y,old,σ1,hw⟩=>h3 RT Y old σ1 pins s σV H Q I hw⟩
end
section
variable {X:Cx} {P:Pg} {Γ:Ct} {n:Nat} {RT Y old:Addr->Prop} {σ:Sg} {tg:Expr} {pos:Pos}
theorem aAo{α:Type}:∀l:List α,(List.range l.length).filterMap (λm=>l[m]?)=l
 | []=>rfl
 | a::l=>by
  rw[lC,List.range_succ_eq_map,List.filterMap_cons_some (f:=λm=>(a::l)[m]?) (a:=0) (b:=a) rfl,List.filterMap_map]
  exact congrArg (a::·) (aAo l)
theorem vX{α β:Type}{f g:α->Option β}:∀{l:List α},(∀x∈l,f x=g x)->l.filterMap f=l.filterMap g
 | [],_=>rfl
 | a::l,h=>by
  rw[List.filterMap_cons,List.filterMap_cons,h a List.mem_cons_self,vX λx hx=>h x (List.mem_cons_of_mem _ hx)]
theorem aDt(its:List Value):slicePick its.toArray none none (some (-1))=its.reverse.toArray:=by
 unfold slicePick sliceBounds sliceRange
 simp only[Option.getD_some,List.size_toArray]
 congr 1
 simp only[show ¬ ((-1:Int)>0) by decide,if_false]
 have e:(if (its.length:Int)-1>-1 then ((its.length:Int)-1 - -1 - -1-1) / (- -1) else 0).toNat=its.length:=by
  by_cases h:(its.length:Int)-1>-1
  . rw[if_pos h]
    have:((its.length:Int)-1 - -1 - -1-1) / (- -1)=(its.length:Int):=by
     rw[show(- -1:Int)=1 by decide,Int.ediv_one];omega
    rw[this,Int.toNat_natCast]
  . rw[if_neg h]
    omega
 rw[e,List.filterMap_map]
 have z:=aAo its.reverse
 rw[List.length_reverse] at z
 refine Eq.trans (vX λm hm=>?_) z
 have hm:m<its.length:=List.mem_range.mp hm
 show its.toArray[((its.length:Int)-1+-1*(m:Int)).toNat]? = its.reverse[m]?
 rw[List.getElem?_reverse hm,show((its.length:Int)-1+-1*(m:Int)).toNat=its.length-1-m by omega]
 simp
theorem vY:∀{ds es:List D},noLs ds=true->noLs es=true->noLs (ds++es)=true
 | [],_,_,h=>h
 | d::ds,es,h1,h2=>by
  rw[List.cons_append,noLs]
  rw[noLs,bA] at h1
  rw[h1.1,vY h1.2 h2]
  rfl
theorem vZ:∀{ds:List D},noLs ds=true->noLs ds.reverse=true
 | [],h=>h
 | d::ds,h=>by
  rw[List.reverse_cons]
  rw[noLs,bA] at h
  exact vY (vZ h.2) (by rw[noLs,h.1];rfl)
theorem aKq{a:E}{ea:Expr}{kk:Nat}{p p2 p3:Pos}(ha:PE X ea (WE X P n RT Y old σ a)):PE X (.Subscript ea (.Slice none none (some (.UnaryOp .USub (.Constant (.int 1) kk p) p3)) p2) pos) (WE X P n RT Y old σ (.rvs a)):=by
 intro pins s σV H Q I hw
 obtain⟨S,h⟩:=hw
 have h:=RE.bind' (show RE (ev P (call P n) σ a >>= λx=>(match x.d with
  | .lst ds=>R.ok (⟨.lst ds.reverse,true,x.pa&&!noLs ds,if noLs ds then [] else x.al⟩:Vl)
  | _=>.bad)) _ from h)
 refine Subscript_ (thn (ha pins s σV H (λu H1=>∃a' xs,u=.ref a'/\SqL X.K H1 a' xs/\∀p,H1 p=none->Tk X.K (upd H1 p (.lst xs.reverse))->Q (.ref p) (upd H1 p (.lst xs.reverse))) I (wE.one S h λx u H1 hx t1 S1 r1=>?_)) λv s1 ⟨x,H1,I1,r1,a',xs,e,hq,q⟩=>?_)
 . split at hx
   . rename_i ds d1
     obtain⟨a',xs,e,qq,_,r⟩:=(r1.rv S).lst d1
     refine⟨a',xs,e,qq,λp hp t'=>(show Wn X RT Y old σ σV H Q _ from hx) _ _ t' ((Ro.fresh hp t' rfl rfl S1 ?_).from r1.1)⟩
     have rr:=r.reverse
     by_cases hn:noLs ds=true
     . exact Reps.free _ _ (vZ hn) rr
     . show Reps X.K H1 (exV RT Y old σ σV (x.pa&&!noLs ds) (if noLs ds=true then [] else x.al)) _ _
       have hn':noLs ds=false:=by simpa using hn
       rw[hn',if_neg bN,Bool.not_false,Bool.and_true]
       exact rr
   . exact hx.elim
 . subst e
   cases r1
   refine wpAny_Slice ?_
   rw[evalPart_none]
   refine wpAny_pure (wpAny_pure ?_)
   rw[evalPart_some]
   refine thn (aJv aHo aCe pins s1 σV H1 (λv H'=>v=.int (-1)/\H'=H1) I1 ?_) λvk s2 ⟨y,H2,I2,r2,e1,e2⟩=>?_
   . exact⟨1,rfl,rfl,rfl⟩
   subst e1 e2
   obtain⟨tk,rfl⟩:=r2
   have I3:L2.Inv X pins σV H2 { s2 with heap:=s2.heap.push { cls:=.type "slice",data:=.fields #[.none,.none,.int (-1) tk] } }:=I2.kept (t':=s2.toks) λb ob q=>Heap.get?_push_of_some _ q
   obtain⟨its,rv,ht,hz⟩:=I3.list hq
   have hlen:=rv.length
   refine tail_any (ops:=[.ref a',.ref s2.heap.objs.size]) ht.isList.typeIs slot_list_getitem.lookup ?_ (by with_unfolding_all rfl)
   refine wpAny_getItem_list_slice ht.isList (Heap.IsSliceOf.new ..) .none .none (.int (-1) tk) (by intro z;cases z) ?_ (by rw[List.size_toArray] <;> omega)
   rw[aDt its]
   have l2:aY xs.reverse its.reverse:=rv.reverse
   have I4:=I3.laid (t':=s2.toks) (o:=.lst xs.reverse) (h':=_) (λb ob q=>Heap.get?_push_of_some _ q) (Nat.le_refl _) ⟨by rw[List.length_reverse];exact hz,_,0,l2,Heap.get?_push_size _ rfl⟩
   exact⟨.ref _,_,I4,rfl,q _ (I3.hok.fresh (Nat.le_refl _)) I4.tk⟩
end
end Hp
end
noncomputable section
set_option maxHeartbeats 8000000
namespace Hp
open PySem PySem.Spec PyProof.Rows L2
section
variable {P:Pg} {n:Nat}
theorem wB{X:Cx}{Γ:Ct}(M:Mc X P Γ n)(scope:Scope):(relabel scope X.env).names=oA Γ.sc scope.names:=by
 unfold relabel oA
 simp only
 refine List.map_congr_left λp hp=>?_
 obtain⟨m,k⟩:=p
 have e1:(X.env.scope.kind==ScopeKind.function)=true:=by rw[M.fk];rfl
 have e2:X.env.kindOf m=Γ.sc.lookup m:=by unfold Env.kindOf;rw[M.sc]
 simp only[e1,e2,Bool.and_true]
abbrev chN(Γ:Ct)(tg:Expr)(caps:List Nat):List Str:=fT tg++caps.filterMap λi=>Γ.N[i]?
abbrev yU(Γ:Ct)(tg:Expr)(caps:List Nat)(scope:Scope):Ct:={ Γ with N:=chN Γ tg caps,sc:=oA Γ.sc scope.names,fn:=false }
structure aDu (Γ:Ct) (tg:Expr) (caps:List Nat) (scope:Scope) (k:Nat) (t:T):Prop where
 len:(fT tg).length=k
 lt:∀i∈caps,i<Γ.N.length
 ndc:caps.Nodup
 kind:scope.kind=.function
 nd:(chN Γ tg caps).Nodup
 cap:∀x∈caps.filterMap (λi=>Γ.N[i]?),scope.names.lookup x=some .free/\Γ.sc.lookup x=some .cell
 all:∀p∈scope.names,p.2≠.cell/\(p.2=.local->scope.names.lookup p.1=some .local)/\(p.2=.free->Γ.sc.lookup p.1=some .cell)
 tk:∀i∈tIx t,i<k
theorem tL{N:List Str}:∀{caps:List Nat},(∀i∈caps,i<N.length)->∀{j i:Nat},caps[j]? = some i->(caps.filterMap λi=>N[i]?)[j]? = N[i]?/\(caps.filterMap λi=>N[i]?).length=caps.length
 | [],_,_,_,h=>by simp at h
 | c::cs,hl,j,i,h=>by
  have hc:N[c]? = some N[c]! := by
   have:=hl c List.mem_cons_self
   simp[this]
  rw[List.filterMap_cons_some hc]
  have hl':∀i∈cs,i<N.length:=λi hi=>hl i (List.mem_cons_of_mem _ hi)
  have len:(cs.filterMap λi=>N[i]?).length=cs.length:=by
   cases cs with
   | nil=>rfl
   | cons c' cs'=>exact(tL hl' (j:=0) (i:=c') rfl).2
  refine⟨?_,by rw[lC,lC,len]⟩
  cases j with
  | zero=>
   have e:c=i:=by simpa using h
   subst e
   rw[gZ,hc]
  | succ j=>
   rw[gS]
   exact(tL hl' (j:=j) (i:=i) (by simpa using h)).1
theorem aId{N:List Str}{caps:List Nat}(h:∀i∈caps,i<N.length):(caps.filterMap λi=>N[i]?).length=caps.length:=by
 cases caps with
 | nil=>rfl
 | cons c cs=>exact(tL h (j:=0) (i:=c) rfl).2
theorem aDu.scope{X:Cx}{Γ:Ct}{tg:Expr}{caps:List Nat}{scope:Scope}{k:Nat}{t:T}(O:aDu Γ tg caps scope k t)(M:Mc X P Γ n):dW X scope k caps (chN Γ tg caps) where
 kind:=O.kind
 nocell:=λy hy=>(O.all y hy).1
 loc:=λy hy e=>(O.all y hy).2.1 e
 free:=λm hm=>.inl (by
  have:=(O.all _ hm).2.2 rfl
  show X.env.scope.names.lookup m=_
  rw[M.sc];exact this)
 len:=by rw[lA,O.len,aId O.lt]
 cap:=λj i e=>by
  have hi:=O.lt i (mG e)
  have hx:Γ.N[i]? = some Γ.N[i]:=List.getElem?_eq_getElem hi
  have hg:=(tL O.lt e).1
  rw[hx] at hg
  obtain⟨h1,h2⟩:=O.cap _ (mG hg)
  refine⟨Γ.N[i],?_,by rw[M.N];exact hx,h1,?_⟩
  . show(fT tg++_)[k+j]? = _
    rw[List.getElem?_append_right (by rw[O.len];omega),O.len,Nat.add_sub_cancel_left]
    exact hg
  . show X.env.scope.names.lookup _=_
    rw[M.sc];exact h2
 ndp:=M.nd
theorem aDu.mc{X:Cx}{Γ:Ct}{tg:Expr}{caps:List Nat}{scope:Scope}{k:Nat}{t:T}(O:aDu Γ tg caps scope k t)(M:Mc X P Γ n)(C:Addr)(s₀:Shared)(H₀:Hp)(ex:List Addr) :
 Mc (eE X scope (chN Γ tg caps) C s₀ H₀ ex) P (yU Γ tg caps scope) n where
 md:=⟨M.md.fn,M.md.blt,M.md.cns,M.md.tab⟩
 N:=rfl
 nd:=O.nd
 sc:=wB M scope
 calm:=M.calm
 room:=M.room
 xe:=rfl
 st:=λx h=>.inr (by
  show(relabel scope X.env).names.lookup x=_
  rw[wB M scope]
  unfold vH at h
  have h:(match (oA Γ.sc scope.names).lookup x with|some .local=>true|some .cell=>false|_=>false)=true:=h
  split at h
  . rename_i e;exact e
  . cases h
  . cases h)
 fk:=O.kind
theorem wC{Γ:Ct}{tt:Bool}{a b:E}{e:Expr}:chkI Γ tt (.rng a b) e=oS (qL e) λp=>(p.1==("range" : Str))&&eI Γ p.1&&(match p.2 with
 | [x]=>yH a&&aX Γ b x
 | [x,y]=>aX Γ a x&&aX Γ b y
 | _=>false):=rfl
theorem rF{Γ:Ct}{tt:Bool}{a:E}{e:Expr}:chkI Γ tt (.enum a) e=oS (qL e) λp=>(match p.2 with
 | [x]=>tt&&(p.1==("enumerate" : Str))&&eI Γ p.1&&aX Γ a x
 | _=>false):=rfl
theorem jZ{Γ:Ct}{tt:Bool}{it:Hp.It}{e:Expr}(h:chkI Γ tt it e=true):bD e=true:=by
 cases it with
 | seq c=>exact aZ (c:=c) (by exact h)
 | rng a b=>rw[wC] at h;obtain⟨_,⟨_,_,rfl⟩,_⟩:=aC h;rfl
 | zip a b=>cases h
 | enum a=>rw[rF] at h;obtain⟨_,⟨_,_,rfl⟩,_⟩:=aC h;rfl
 | rev a=>cases h
theorem aFE{X:Cx}{e:Expr}{c:E}{RT Y old:Addr->Prop}{σ:Sg}(h:tst P (call P n) σ c=.bad):PT X e (WT X P n RT Y old σ c):=λpins s σV H Q I ⟨S,hh⟩=>by
 rw[h] at hh
 exact hh.elim
theorem eX{a b c:Bool}(h:(a&&b&&c)=true):a=true/\b=true/\c=true:=by
 cases a <;> cases b <;> cases c <;> first|exact⟨rfl,rfl,rfl⟩|cases h
theorem eJ{a b:Bool}(h:(a&&b)=true):a=true/\b=true:=by
 cases a <;> cases b <;> first|exact⟨rfl,rfl⟩|cases h
theorem aDv{a b c d:Bool}(h:(a&&b&&c&&d)=true):a=true/\b=true/\c=true/\d=true:=by
 obtain⟨h1,h2,h3⟩:=eX h
 obtain⟨h1,h4⟩:=eJ h1
 exact⟨h1,h4,h2,h3⟩
theorem aBE{a b c d e:Bool}(h:(a&&b&&c&&d&&e)=true):a=true/\b=true/\c=true/\d=true/\e=true:=by
 obtain⟨h1,h2,h3,h4⟩:=aDv h
 obtain⟨h1,h5⟩:=eJ h1
 exact⟨h1,h5,h2,h3,h4⟩
theorem aAp{Γ:Ct}{k:Nat}{caps:List Nat}{t:T}{it:Hp.It}{cond:Es}{elt:E}{e:Expr}(h:aX Γ (.comp k caps t it cond elt) e=true) :
 ∃el tg iter ifs scope pos,e=.ListComp el [⟨tg,iter,ifs,0⟩] scope pos/\aDu Γ tg caps scope k t/\ifs.length<=1/\qK (yU Γ tg caps scope) t tg=true/\chkI Γ (rA tg) it iter=true/\chkEs (yU Γ tg caps scope) cond ifs=true/\aX (yU Γ tg caps scope) elt el=true:=by
 obtain⟨⟨el,gens,scope⟩,h1,g⟩:=aC h
 clear h
 obtain⟨pos,rfl⟩:=h1
 have h:=g
 clear g
 rcases gens with _|⟨⟨tg,iter,ifs,as⟩,_|⟨_,_⟩⟩
 . cases h
 . have h:(as==0&&(fT tg).length==k&&(caps.all λi=>decide (i<Γ.N.length))&&decide caps.Nodup&&scope.kind==.function&&decide (fT tg++caps.filterMap λi=>Γ.N[i]?).Nodup &&
    ((caps.filterMap λi=>Γ.N[i]?).all λx=>scope.names.lookup x==some .free&&Γ.sc.lookup x==some .cell) &&
    (scope.names.all λp=>p.2 != .cell&&(p.2 != .local||scope.names.lookup p.1==some .local)&&(p.2 != .free||Γ.sc.lookup p.1==some .cell)) &&
    ((tIx t).all λi=>decide (i<k))&&decide (ifs.length<=1) &&
    qK (yU Γ tg caps scope) t tg&&chkI Γ (rA tg) it iter&&chkEs (yU Γ tg caps scope) cond ifs&&aX (yU Γ tg caps scope) elt el)=true:=by
    exact h
   simp only[bA,beq_iff_eq,List.all_eq_true,decide_eq_true_eq,Bool.or_eq_true,bne_iff_ne,ne_eq] at h
   obtain⟨⟨⟨⟨⟨⟨⟨⟨⟨⟨⟨⟨⟨h0,h1⟩,h2⟩,h3⟩,h4⟩,h5⟩,h6⟩,h7⟩,h8⟩,h9⟩,h10⟩,h11⟩,h12⟩,h13⟩:=h
   subst h0
   refine⟨el,tg,iter,ifs,scope,pos,rfl,⟨h1,h2,h3,h4,h5,h6,λp hp=>?_,h8⟩,h9,h10,h11,h12,h13⟩
   obtain⟨⟨q1,q2⟩,q3⟩:=h7 p hp
   exact⟨q1,λe=>q2.resolve_left λz=>z e,λe=>q3.resolve_left λz=>z e⟩
 . cases h
abbrev PEc(P:Pg)(n:Nat)(c:E):Prop:=∀{X:Cx} {Γ:Ct},Mc X P Γ n->∀{e:Expr},aX Γ c e=true->∀(RT Y old:Addr->Prop) (σ:Sg),PE X e (WE X P n RT Y old σ c)
abbrev PTc(P:Pg)(n:Nat)(c:E):Prop:=∀{X:Cx} {Γ:Ct},Mc X P Γ n->∀{e:Expr},aX Γ c e=true->∀(RT Y old:Addr->Prop) (σ:Sg),PT X e (WT X P n RT Y old σ c)
abbrev PWc(P:Pg)(n:Nat)(c:E):Prop:=∀{X:Cx} {Γ:Ct},Mc X P Γ n->∀{o:BoolOp} {xs:List Expr} {pos:Pos},aX Γ c (.BoolOp o xs pos)=true->∀(RT Y old:Addr->Prop) (σ:Sg),PW X (.BoolOp o xs pos) (WT X P n RT Y old σ c)
structure Q3 (P:Pg) (n:Nat) (c:E):Prop where
 e:PEc P n c
 t:PTc P n c
 w:PWc P n c
structure QA (P:Pg) (n:Nat) (cs:Es):Prop where
 a:∀{X:Cx} {Γ:Ct},Mc X P Γ n->∀{es:List Expr},chkEs Γ cs es=true->∀(RT Y old:Addr->Prop) (σ:Sg),PA X es (WA X P n RT Y old σ cs)
 o:∀{X:Cx} {Γ:Ct},Mc X P Γ n->∀{e:Option Expr},chkO Γ cs e=true->∀(RT Y old:Addr->Prop) (σ:Sg),PO X e (wO X P n RT Y old σ cs)
 ts:∀{X:Cx} {Γ:Ct},Mc X P Γ n->∀{es:List Expr},es.length<=1->chkEs Γ cs es=true->∀(RT Y old:Addr->Prop) (σ:Sg),PTs X es (wTs X P n RT Y old σ cs)
abbrev QI(P:Pg)(n:Nat)(it:Hp.It):Prop:=∀{X:Cx} {Γ:Ct},Mc X P Γ n->∀{tg e:Expr},chkI Γ (rA tg) it e=true->∀(RT Y old:Addr->Prop) (σ:Sg),PI X tg e (wI X P n RT Y old σ it)
theorem Q3.of{c:E}(h:PEc P n c)(hd:∀σ,tst P (call P n) σ c=.bad)(hw:∀{Γ:Ct} {o:BoolOp} {xs:List Expr} {pos:Pos},aX Γ c (.BoolOp o xs pos)=false):Q3 P n c:=
 ⟨h,λ{X Γ} M {e} z RT Y old σ=>aFE (hd σ),λ{X Γ} M {o xs pos} z RT Y old σ=>absurd (hw.symm.trans z) bN⟩
theorem n_c{d:D}:Q3 P n (.c d):=by
 have h0:∀{Γ:Ct} {e:Expr},aX Γ (.c d) e=true->(∃c k p,e=.Constant c k p/\eqC d c=true)\/∃x p,e=.Name x p/\eI Γ x=true/\cT x=true/\∃d',Γ.cns.lookup x=some d'/\eqK d d'=true:=λ{Γ e} h=>by
  rcases(Bool.or_eq_true _ _).mp (show(oS (asC e) (eqC d)||oS (asN e) λx=>eI Γ x&&cT x&&oB (Γ.cns.lookup x) (eqK d))=true from h) with h|h
  . obtain⟨c,h1,g⟩:=aC h
    clear h
    obtain⟨k,p,rfl⟩:=h1
    have h:=g
    clear g
    exact .inl ⟨c,k,p,rfl,h⟩
  . obtain⟨x,h1,g⟩:=aC h
    clear h
    obtain⟨p,rfl⟩:=h1
    have h:=g
    clear g
    obtain⟨h1,h2,h3⟩:=eX h
    obtain⟨d',q1,q2⟩:=aDb h3
    exact .inr ⟨x,p,rfl,h1,h2,d',q1,q2⟩
 have k:PEc P n (.c d):=λ{X Γ} M {e} h RT Y old σ=>by
  rcases h0 h with⟨c,j,p,rfl,g⟩|⟨x,p,rfl,h1,h2,d',q,h3⟩
  . exact s_c g
  . have e:=aHK h3
    subst e
    obtain⟨u,v,m,r,hr⟩:=M.md.cns x d q
    refine(aEN (M.gl h1) m r (aS h2)).imp λσV H Q t ⟨S,hh⟩ t'=>?_
    exact(show Wn _ RT Y old σ σV H Q (Vl.cl d) from hh) v H t' (Ro.val (aR.refl H) (hr H))
 refine⟨k,λ{X Γ} M {e} h RT Y old σ=>?_,λ{X Γ} M {o xs pos} h RT Y old σ=>absurd h bN⟩
 refine mT (k M h RT Y old σ) ?_ λp hp=>hp
 rcases h0 h with⟨c,j,p,rfl,h⟩|⟨x,p,rfl,_⟩ <;> (intro _;rfl)
theorem n_v{i:Nat}:Q3 P n (.v i):=by
 have k:PEc P n (.v i):=λ{X Γ} M {e} h RT Y old σ=>by
  obtain⟨x,h1,g⟩:=aC h
  clear h
  obtain⟨p,rfl⟩:=h1
  have h:=g
  clear g
  have h:bO _ i x=true:=h
  unfold bO at h
  obtain⟨h1,h2,h3⟩:=eX h
  exact s_v (by rw[M.N];exact eq_of_beq h1) (M.vis h2) (aS h3) (eB h3)
 refine⟨k,λ{X Γ} M {e} h RT Y old σ=>?_,λ{X Γ} M {o xs pos} h RT Y old σ=>absurd h bN⟩
 refine mT (k M h RT Y old σ) ?_ λp hp=>RE.bind' (show RE (bH σ i >>= λx=>eR x) p from hp)
 obtain⟨x,⟨p,rfl⟩,_⟩:=aC h
 intro _;rfl
theorem aNb{o:Operator}{a b:E}(ha:Q3 P n a)(hb:Q3 P n b):Q3 P n (.op o a b):=Q3.of (λ{X Γ} M {e} h RT Y old σ=>by
 obtain⟨⟨l,o',r⟩,h1,g⟩:=aC h
 clear h
 obtain⟨p,rfl⟩:=h1
 have h:=g
 clear g
 obtain⟨h1,h2,h3⟩:=eX h
 have e:o=o':=eq_of_beq h1
 subst e
 exact aMZ (ha.e M h2 RT Y old σ) (hb.e M h3 RT Y old σ)) (λ_=>rfl) rfl
theorem aNc{a:E}(ha:Q3 P n a):Q3 P n (.nt a):=by
 have h0:∀{Γ:Ct} {e:Expr},aX Γ (.nt a) e=true->∃x p,e=.UnaryOp .Not x p/\aX Γ a x=true:=λ{Γ e} h=>by
  obtain⟨⟨o,x⟩,h1,g⟩:=aC h
  clear h
  obtain⟨p,rfl⟩:=h1
  have h:=g
  clear g
  obtain⟨h1,h2⟩:=eJ h
  have e:o=.Not:=eq_of_beq h1
  subst e
  exact⟨x,p,rfl,h2⟩
 refine⟨λ{X Γ} M {e} h RT Y old σ=>?_,λ{X Γ} M {e} h RT Y old σ=>?_,λ{X Γ} M {o xs pos} h RT Y old σ=>absurd h bN⟩
 . obtain⟨x,p,rfl,g⟩:=h0 h
   exact aKa (ha.e M g RT Y old σ)
 . obtain⟨x,p,rfl,g⟩:=h0 h
   exact lU (ha.t M g RT Y old σ)
theorem aAq{Γ:Ct}{a b:E}{w:BoolOp}{xs:List Expr}{p:Pos}(h:(match xs with
 | [x,y]=>aX Γ a x&&aX Γ b y
 | x::y::z::r=>aX Γ a x&&aX Γ b (.BoolOp w (y::z::r) p)
 | _=>false)=true):∃x y r,xs=x::y::r/\aX Γ a x=true/\((r=[]/\aX Γ b y=true)\/aX Γ b (.BoolOp w (y::r) p)=true):=by
 rcases xs with _|⟨x,_|⟨y,_|⟨z,r⟩⟩⟩
 . cases h
 . cases h
 . obtain⟨h1,h2⟩:=eJ h
   exact⟨x,y,[],rfl,h1,.inl ⟨rfl,h2⟩⟩
 . obtain⟨h1,h2⟩:=eJ h
   exact⟨x,y,z::r,rfl,h1,.inr h2⟩
theorem aNd{a b:E}(ha:Q3 P n a)(hb:Q3 P n b):Q3 P n (.an a b):=by
 have kw:PWc P n (.an a b):=λ{X Γ} M {o xs pos} h RT Y old σ=>by
  obtain⟨h1,h2⟩:=eJ h
  have e:o=.And:=eq_of_beq h1
  subst e
  obtain⟨x,y,r,rfl,g1,g2⟩:=aAq h2
  rcases g2 with⟨rfl,g2⟩|g2
  . exact aKk (ha.t M g1 RT Y old σ) (aEO (hb.t M g2 RT Y old σ))
  . exact aKk (ha.t M g1 RT Y old σ) (hb.w M g2 RT Y old σ)
 refine⟨λ{X Γ} M {e} h RT Y old σ=>?_,λ{X Γ} M {e} h RT Y old σ=>?_,kw⟩
 . obtain⟨⟨o,xs,pos⟩,h1,g⟩:=aC h
   clear h
   obtain rfl:=h1
   have h:=g
   clear g
   obtain⟨h1,h2⟩:=eJ h
   have e:o=.And:=eq_of_beq h1
   subst e
   obtain⟨x,y,r,e,g1,g2⟩:=aAq h2
   have e:xs=x::y::r:=e
   subst e
   rcases g2 with⟨rfl,g2⟩|g2
   . exact aKb (ha.e M g1 RT Y old σ) (aCf (hb.e M g2 RT Y old σ))
   . exact aKb (ha.e M g1 RT Y old σ) (hb.e M g2 RT Y old σ)
 . obtain⟨⟨o,xs,pos⟩,rfl,_⟩:=aC h
   exact(kw M h RT Y old σ).pt
theorem aKr{a b:E}(ha:Q3 P n a)(hb:Q3 P n b):Q3 P n (.orr a b):=by
 have kw:PWc P n (.orr a b):=λ{X Γ} M {o xs pos} h RT Y old σ=>by
  obtain⟨h1,h2⟩:=eJ h
  have e:o=.Or:=eq_of_beq h1
  subst e
  obtain⟨x,y,r,rfl,g1,g2⟩:=aAq h2
  rcases g2 with⟨rfl,g2⟩|g2
  . exact aGC (ha.t M g1 RT Y old σ) (aGW (hb.t M g2 RT Y old σ))
  . exact aGC (ha.t M g1 RT Y old σ) (hb.w M g2 RT Y old σ)
 refine⟨λ{X Γ} M {e} h RT Y old σ=>?_,λ{X Γ} M {e} h RT Y old σ=>?_,kw⟩
 . obtain⟨⟨o,xs,pos⟩,h1,g⟩:=aC h
   clear h
   obtain rfl:=h1
   have h:=g
   clear g
   obtain⟨h1,h2⟩:=eJ h
   have e:o=.Or:=eq_of_beq h1
   subst e
   obtain⟨x,y,r,e,g1,g2⟩:=aAq h2
   have e:xs=x::y::r:=e
   subst e
   rcases g2 with⟨rfl,g2⟩|g2
   . exact aGB (ha.e M g1 RT Y old σ) (aCf (hb.e M g2 RT Y old σ))
   . exact aGB (ha.e M g1 RT Y old σ) (hb.e M g2 RT Y old σ)
 . obtain⟨⟨o,xs,pos⟩,rfl,_⟩:=aC h
   exact(kw M h RT Y old σ).pt
theorem aKs{t a b:E}(ht:Q3 P n t)(ha:Q3 P n a)(hb:Q3 P n b):Q3 P n (.ife t a b):=Q3.of (λ{X Γ} M {e} h RT Y old σ=>by
 obtain⟨⟨t',a',b'⟩,h1,g⟩:=aC h
 clear h
 obtain⟨p,rfl⟩:=h1
 have h:=g
 clear g
 obtain⟨h1,h2,h3⟩:=eX h
 exact aKc (ht.t M h1 RT Y old σ) (ha.e M h2 RT Y old σ) (hb.e M h3 RT Y old σ)) (λ_=>rfl) rfl
theorem aKt{o:CmpOp}{a b:E}(ha:Q3 P n a)(hb:Q3 P n b):Q3 P n (.cmp o a b):=by
 have h0:∀{Γ:Ct} {e:Expr},aX Γ (.cmp o a b) e=true->∃l r p,e=.Compare l [o] [r] p/\aX Γ a l=true/\aX Γ b r=true:=λ{Γ e} h=>by
  obtain⟨⟨l,os,rs⟩,h1,g⟩:=aC h
  clear h
  obtain⟨p,rfl⟩:=h1
  have h:=g
  clear g
  rcases os with _|⟨o',_|⟨_,_⟩⟩
  . cases h
  . rcases rs with _|⟨r,_|⟨_,_⟩⟩
    . cases h
    . obtain⟨h1,h2,h3⟩:=eX h
      have e:o=o':=eq_of_beq h1
      subst e
      exact⟨l,r,p,rfl,h2,h3⟩
    . cases h
  . cases h
 refine⟨λ{X Γ} M {e} h RT Y old σ=>?_,λ{X Γ} M {e} h RT Y old σ=>?_,λ{X Γ} M {o xs pos} h RT Y old σ=>absurd h bN⟩
 . obtain⟨l,r,p,rfl,h2,h3⟩:=h0 h
   exact aKd M (ha.e M h2 RT Y old σ) (hb.e M h3 RT Y old σ) (aZ h3)
 . obtain⟨l,r,p,rfl,h2,h3⟩:=h0 h
   exact gW M (ha.e M h2 RT Y old σ) (hb.e M h3 RT Y old σ) (aZ h3)
theorem aIe{a:E}{j:Nat}(ha:Q3 P n a):Q3 P n (.dnin a j):=by
 have h0:∀{Γ:Ct} {e:Expr},aX Γ (.dnin a j) e=true->∃l x p q,e=.Compare l [.NotIn] [.Name x q] p/\aX Γ a l=true/\bO Γ j x=true:=λ{Γ e} h=>by
  obtain⟨⟨l,os,rs⟩,h1,g⟩:=aC h
  clear h
  obtain⟨p,rfl⟩:=h1
  have h:=g
  clear g
  rcases os with _|⟨o',_|⟨_,_⟩⟩
  . cases h
  . rcases rs with _|⟨r,_|⟨_,_⟩⟩
    . cases h
    . obtain⟨h1,h2,h3⟩:=eX h
      have e:CmpOp.NotIn=o':=eq_of_beq h1
      subst e
      obtain⟨x,⟨q,e2⟩,h4⟩:=aC h3
      have e2:r=.Name x q:=e2
      subst e2
      exact⟨l,x,p,q,rfl,h2,h4⟩
    . cases h
  . cases h
 refine⟨λ{X Γ} M {e} h RT Y old σ=>?_,λ{X Γ} M {e} h RT Y old σ=>?_,λ{X Γ} M {o xs pos} h RT Y old σ=>absurd h bN⟩
 . obtain⟨l,x,p,q,rfl,h2,h3⟩:=h0 h
   exact aHL M h3 (ha.e M h2 RT Y old σ)
 . obtain⟨l,x,p,q,rfl,h2,h3⟩:=h0 h
   exact aHM M h3 (ha.e M h2 RT Y old σ)
theorem aIf{o1 o2:CmpOp}{a b c:E}(ha:Q3 P n a)(hb:Q3 P n b)(hc:Q3 P n c):Q3 P n (.cmp2 o1 o2 a b c):=by
 have h0:∀{Γ:Ct} {e:Expr},aX Γ (.cmp2 o1 o2 a b c) e=true->∃l m r p,e=.Compare l [o1,o2] [m,r] p/\aX Γ a l=true/\aX Γ b m=true/\aX Γ c r=true:=λ{Γ e} h=>by
  obtain⟨⟨l,os,rs⟩,h1,g⟩:=aC h
  clear h
  obtain⟨p,rfl⟩:=h1
  have h:=g
  clear g
  rcases os with _|⟨o1',_|⟨o2',_|⟨_,_⟩⟩⟩
  . cases h
  . cases h
  . rcases rs with _|⟨m,_|⟨r,_|⟨_,_⟩⟩⟩
    . cases h
    . cases h
    . obtain⟨h1,h2,h3,h4,h5⟩:=aBE h
      have e:o1=o1':=eq_of_beq h1
      subst e
      have e:o2=o2':=eq_of_beq h2
      subst e
      exact⟨l,m,r,p,rfl,h3,h4,h5⟩
    . cases h
  . cases h
 refine⟨λ{X Γ} M {e} h RT Y old σ=>?_,λ{X Γ} M {e} h RT Y old σ=>?_,λ{X Γ} M {o xs pos} h RT Y old σ=>absurd h bN⟩
 . obtain⟨l,m,r,p,rfl,h3,h4,h5⟩:=h0 h
   exact aHO M (ha.e M h3 RT Y old σ) (hb.e M h4 RT Y old σ) (hc.e M h5 RT Y old σ) (aZ h5)
 . obtain⟨l,m,r,p,rfl,h3,h4,h5⟩:=h0 h
   exact aHP M (ha.e M h3 RT Y old σ) (hb.e M h4 RT Y old σ) (hc.e M h5 RT Y old σ) (aZ h5)
theorem aKu{a b:E}(ha:Q3 P n a)(hb:Q3 P n b):Q3 P n (.idx a b):=by
 have k:PEc P n (.idx a b):=λ{X Γ} M {e} h RT Y old σ=>by
  obtain⟨⟨x,i⟩,h1,g⟩:=aC h
  clear h
  obtain⟨p,rfl⟩:=h1
  have h:=g
  clear g
  obtain⟨h1,h2⟩:=eJ h
  exact aKe (ha.e M h1 RT Y old σ) (hb.e M h2 RT Y old σ) (aZ h2)
 refine⟨k,λ{X Γ} M {e} h RT Y old σ=>?_,λ{X Γ} M {o xs pos} h RT Y old σ=>absurd h bN⟩
 refine mT (k M h RT Y old σ) ?_ λp hp=>?_
 . obtain⟨⟨x,i⟩,⟨p,rfl⟩,_⟩:=aC h
   intro _;rfl
 . have hp:=RE.bind' (show RE (ev P (call P n) σ a >>= λx=>ev P (call P n) σ b >>= λy=>bM x y >>= λz=>eR z) p from hp)
   show RE (ev P (call P n) σ a >>= λx=>ev P (call P n) σ b >>= λy=>bM x y) _
   rw[RE.bind]
   refine hp.mono λx hx=>?_
   rw[RE.bind]
   exact(RE.bind' hx).mono λy hy=>RE.bind' hy
theorem aKv{a:E}{lo hi:Es}(ha:Q3 P n a)(hl:QA P n lo)(hh:QA P n hi):Q3 P n (.sli a lo hi):=Q3.of (λ{X Γ} M {e} h RT Y old σ=>by
 obtain⟨⟨x,i⟩,h1,g⟩:=aC h
 clear h
 obtain⟨p,rfl⟩:=h1
 have h:=g
 clear g
 obtain⟨⟨l,u⟩,h1,g⟩:=aC h
 clear h
 obtain⟨p2,e2⟩:=h1
 have h:=g
 clear g
 have e2:i=.Slice l u none p2:=e2
 subst e2
 obtain⟨h1,h2,h3⟩:=eX h
 exact aKn (ha.e M h1 RT Y old σ) (hl.o M h2 RT Y old σ) (hh.o M h3 RT Y old σ)) (λ_=>rfl) rfl
theorem aKw{es:Es}(ha:QA P n es):Q3 P n (.tup es):=Q3.of (λ{X Γ} M {e} h RT Y old σ=>by
 obtain⟨xs,h1,g⟩:=aC h
 clear h
 obtain⟨k,p,rfl⟩:=h1
 have h:=g
 clear g
 obtain⟨h1,h2⟩:=eJ h
 exact aKf (ha.a M h2 RT Y old σ) h2 (of_decide_eq_true h1)) (λ_=>rfl) rfl
theorem aKx{es:Es}(ha:QA P n es):Q3 P n (.lst es):=Q3.of (λ{X Γ} M {e} h RT Y old σ=>by
 obtain⟨xs,h1,g⟩:=aC h
 clear h
 obtain⟨p,rfl⟩:=h1
 have h:=g
 clear g
 obtain⟨h1,h2⟩:=eJ h
 exact aKg (ha.a M h2 RT Y old σ) h2 (of_decide_eq_true h1)) (λ_=>rfl) rfl
theorem aIg{f:Nat}{es:Es}(ha:QA P n es):Q3 P n (.call f es):=by
 have k:PEc P n (.call f es):=λ{X Γ} M {e} h RT Y old σ=>by
  obtain⟨⟨x,xs⟩,h1,g⟩:=aC h
  clear h
  obtain⟨p1,p2,rfl⟩:=h1
  have h:=g
  clear g
  obtain⟨h1,h2,h3,h4⟩:=aDv h
  exact aHN M (eq_of_beq h1) h2 h3 (ha.a M h4 RT Y old σ) (eC h4) h4
 refine⟨k,λ{X Γ} M {e} h RT Y old σ=>?_,λ{X Γ} M {o xs pos} h RT Y old σ=>absurd h bN⟩
 refine mT (k M h RT Y old σ) ?_ λp hp=>?_
 . obtain⟨⟨x,xs⟩,⟨p1,p2,rfl⟩,_⟩:=aC h
   intro _;rfl
 . have hp:=RE.bind' (show RE (evs P (call P n) σ es >>= λvs=>call P n f (vs.map (·.d)) >>= λr=>eR (hG vs r)) p from hp)
   show RE (evs P (call P n) σ es >>= λvs=>call P n f (vs.map (·.d)) >>= λr=>R.ok (hG vs r)) _
   rw[RE.bind]
   refine hp.mono λx hx=>?_
   rw[RE.bind]
   exact(RE.bind' hx).mono λy hy=>hy
theorem aFF{f i:Nat}{es:Es}(ha:QA P n es):Q3 P n (.callP f i es):=by
 have k:PEc P n (.callP f i es):=λ{X Γ} M {e} h RT Y old σ=>by
  obtain⟨⟨x,xs⟩,h1,g⟩:=aC h
  clear h
  obtain⟨p1,p2,rfl⟩:=h1
  have h:=g
  clear g
  obtain⟨h1,h2,h3,h4⟩:=aDv h
  cases xs with
  | nil=>cases h4
  | cons y ys=>
   obtain⟨h4,h5⟩:=eJ h4
   obtain⟨z,⟨q,e2⟩,h6⟩:=aC h4
   have e2:y=.Name z q:=e2
   subst e2
   exact aFw M (eq_of_beq h1) h2 h3 h6 (ha.a M h5 RT Y old σ) (eC h5)
 refine⟨k,λ{X Γ} M {e} h RT Y old σ=>?_,λ{X Γ} M {o xs pos} h RT Y old σ=>absurd h bN⟩
 refine mT (k M h RT Y old σ) ?_ λp hp=>?_
 . obtain⟨⟨x,xs⟩,⟨p1,p2,rfl⟩,_⟩:=aC h
   intro _;rfl
 . have hp:=RE.bind' (show RE (evs P (call P n) σ es >>= λvs=>vG σ i >>= λd=>call P n f (d::vs.map (·.d)) >>= λr=>jW r >>= λx=>eR x) p from hp)
   show RE (evs P (call P n) σ es >>= λvs=>vG σ i >>= λd=>call P n f (d::vs.map (·.d)) >>= λr=>jW r) _
   rw[RE.bind]
   refine hp.mono λx hx=>?_
   rw[RE.bind]
   refine(RE.bind' hx).mono λd hd=>?_
   rw[RE.bind]
   exact(RE.bind' hd).mono λy hy=>RE.bind' hy
theorem aKy{i:Nat}:Q3 P n (.pnn i):=by
 have h0:∀{Γ:Ct} {e:Expr},aX Γ (.pnn i) e=true->∃x p p' q c k,e=.Compare (.Name x q) [.IsNot] [.Constant c k p'] p/\bO Γ i x=true/\eqC .non c=true:=λ{Γ e} h=>by
  obtain⟨⟨l,os,rs⟩,h1,g⟩:=aC h
  clear h
  obtain⟨p,rfl⟩:=h1
  have h:=g
  clear g
  rcases os with _|⟨o',_|⟨_,_⟩⟩
  . cases h
  . rcases rs with _|⟨r,_|⟨_,_⟩⟩
    . cases h
    . obtain⟨h1,h2,h3⟩:=eX h
      have e:CmpOp.IsNot=o':=eq_of_beq h1
      subst e
      obtain⟨x,⟨q,e2⟩,h4⟩:=aC h2
      have e2:l=.Name x q:=e2
      subst e2
      obtain⟨c,⟨k,p',e3⟩,h5⟩:=aC h3
      have e3:r=.Constant c k p':=e3
      subst e3
      exact⟨x,p,p',q,c,k,rfl,h4,h5⟩
    . cases h
  . cases h
 refine⟨λ{X Γ} M {e} h RT Y old σ=>?_,λ{X Γ} M {e} h RT Y old σ=>?_,λ{X Γ} M {o xs pos} h RT Y old σ=>absurd h bN⟩
 . obtain⟨x,p,p',q,c,k,rfl,h2,h3⟩:=h0 h
   exact aKh M h2 h3
 . obtain⟨x,p,p',q,c,k,rfl,h2,h3⟩:=h0 h
   exact aKi M h2 h3
theorem aNe{b:Bi}{es:Es}(ha:QA P n es):Q3 P n (.bi b es):=by
 have k:PEc P n (.bi b es):=λ{X Γ} M {e} h RT Y old σ=>by
  obtain⟨⟨x,xs⟩,h1,g⟩:=aC h
  clear h
  obtain⟨p1,p2,rfl⟩:=h1
  have h:=g
  clear g
  obtain⟨h,h6⟩:=eJ h
  obtain⟨h1,h2,h3,h4,h5⟩:=aBE h
  cases xs with
  | nil=>cases h5
  | cons y ys=>exact aNa M h1 (eq_of_beq h2) h3 h4 (ha.a M h6 RT Y old σ) (eC h6)
 refine⟨k,λ{X Γ} M {e} h RT Y old σ=>?_,λ{X Γ} M {o xs pos} h RT Y old σ=>absurd h bN⟩
 refine mT (k M h RT Y old σ) ?_ λp hp=>?_
 . obtain⟨⟨x,xs⟩,⟨p1,p2,rfl⟩,_⟩:=aC h
   intro _;rfl
 . have hp:=RE.bind' (show RE (evs P (call P n) σ es >>= λvs=>biD b vs >>= λx=>eR x) p from hp)
   show RE (evs P (call P n) σ es >>= λvs=>biD b vs) _
   rw[RE.bind]
   exact hp.mono λx hx=>RE.bind' hx
theorem aKz{m:Mt}{o:E}{es:Es}(ho:Q3 P n o)(ha:QA P n es):Q3 P n (.mth m o es):=by
 have k:PEc P n (.mth m o es):=λ{X Γ} M {e} h RT Y old σ=>by
  obtain⟨⟨eo,a,xs,l⟩,h1,g⟩:=aC h
  clear h
  obtain⟨ap,cp,rfl,hl⟩:=h1
  have h:=g
  clear g
  obtain⟨h,h7⟩:=eJ h
  obtain⟨h,h6⟩:=eJ h
  obtain⟨h1,h2,h3,h4,h5⟩:=aBE h
  have ea:aCS m=a:=eq_of_beq h2
  subst ea
  rw[show l=true from h4] at hl
  rcases xs with _|⟨x,_|⟨_,_⟩⟩
  . cases h5
  . have hp:bD x=true:=by have:=eC h7;simpa using this
    cases m with
    | join=>exact aHR (ho.e M h6 RT Y old σ) (ha.a M h7 RT Y old σ) h3 hl hp
    | _=>cases h1
  . have:=of_decide_eq_true h5;simp at this
 refine⟨k,λ{X Γ} M {e} h RT Y old σ=>?_,λ{X Γ} M {o xs pos} h RT Y old σ=>absurd h bN⟩
 refine mT (k M h RT Y old σ) ?_ λp hp=>?_
 . obtain⟨⟨eo,a,xs,l⟩,⟨ap,cp,rfl,_⟩,_⟩:=aC h
   intro _;rfl
 . have hp:=RE.bind' (show RE (ev P (call P n) σ o >>= λx=>evs P (call P n) σ es >>= λys=>mtD m x ys >>= λz=>eR z) p from hp)
   show RE (ev P (call P n) σ o >>= λx=>evs P (call P n) σ es >>= λys=>mtD m x ys) _
   rw[RE.bind]
   refine hp.mono λx hx=>?_
   rw[RE.bind]
   exact(RE.bind' hx).mono λy hy=>RE.bind' hy
theorem aKA{a:E}{cs:List Cl}(ha:Q3 P n a):Q3 P n (.isi a cs):=by
 have k:PEc P n (.isi a cs):=λ{X Γ} M {e} h RT Y old σ=>by
  obtain⟨⟨f,xs⟩,h1,g⟩:=aC h
  clear h
  obtain⟨p1,p2,rfl⟩:=h1
  have h:=g
  clear g
  rcases cs with _|⟨c,_|⟨_,_⟩⟩
  . cases h
  . rcases xs with _|⟨x,_|⟨y,_|⟨_,_⟩⟩⟩
    . cases h
    . cases h
    . obtain⟨h1,h2,h3,h4,h5⟩:=aBE h
      unfold aGz at h5
      split at h5
      . rename_i z p3
        obtain⟨q1,q2,q3⟩:=eX h5
        have hc:∃cv,vO c=some cv:=by cases c <;> first|exact⟨_,rfl⟩|cases h3
        obtain⟨cv,hc⟩:=hc
        exact aKj M (eq_of_beq h1) h2 hc (eq_of_beq q1) q2 q3 (ha.e M h4 RT Y old σ) (aZ h4)
      . cases h5
    . cases h
  . cases h
 refine⟨k,λ{X Γ} M {e} h RT Y old σ=>?_,λ{X Γ} M {o xs pos} h RT Y old σ=>absurd h bN⟩
 refine mT (k M h RT Y old σ) ?_ λp hp=>?_
 . obtain⟨⟨x,xs⟩,⟨p1,p2,rfl⟩,_⟩:=aC h
   intro _;rfl
 . have hp:=RE.bind' (show RE (ev P (call P n) σ a >>= λx=>(match isI cs P x.d with|some k=>R.ok k|none=>.bad)) p from hp)
   show RE (ev P (call P n) σ a >>= λx=>(match isI cs P x.d with|some k=>R.ok (Vl.cl (.bl k))|none=>.bad)) _
   rw[RE.bind]
   refine hp.mono λx hx=>?_
   cases q:isI cs P x.d with
   | none=>rw[q] at hx;exact hx.elim
   | some k=>rw[q] at hx;exact hx
theorem aIh{k:Nat}{caps:List Nat}{t:T}{it:Hp.It}{cond:Es}{elt:E}(hi:QI P n it)(hc:QA P n cond)(he:Q3 P n elt):Q3 P n (.comp k caps t it cond elt):=Q3.of (λ{X Γ} M {e} h RT Y old σ=>by
 obtain⟨el,tg,iter,ifs,scope,pos,rfl,O,h1,h2,h3,h4,h5⟩:=aAp h
 refine aIc M (O.scope M) O.ndc O.tk (hi M h3 RT Y old σ) (λC s₀ H₀ ex=>?_) (lT (jZ h3))
 have M':=O.mc M C s₀ H₀ ex
 exact⟨aFD M' h2,λRT Y old σ1=>hc.ts M' h1 h4 RT Y old σ1,λRT Y old σ1=>he.e M' h5 RT Y old σ1⟩) (λ_=>rfl) rfl
theorem iD{c:E}(h:∀{Γ:Ct} {e:Expr},aX Γ c e=false):Q3 P n c:=
 ⟨λ{X Γ} M {e} z=>absurd (h.symm.trans z) bN,λ{X Γ} M {e} z=>absurd (h.symm.trans z) bN,λ{X Γ} M {o xs pos} z=>absurd (h.symm.trans z) bN⟩
theorem aKB:QA P n .nil:=by
 refine⟨λ{X Γ} M {es} h RT Y old σ=>?_,λ{X Γ} M {e} h RT Y old σ=>?_,λ{X Γ} M {es} hl h RT Y old σ=>?_⟩
 . cases es with
   | nil=>exact aAn
   | cons _ _=>exact nf h
 . cases e with
   | none=>exact aKl
   | some _=>exact nf h
 . cases es with
   | nil=>exact aIa
   | cons _ _=>exact nf h
theorem aIi{c:E}{cs:Es}(hc:Q3 P n c)(hs:QA P n cs):QA P n (.cons c cs):=by
 refine⟨λ{X Γ} M {es} h RT Y old σ=>?_,λ{X Γ} M {e} h RT Y old σ=>?_,λ{X Γ} M {es} hl h RT Y old σ=>?_⟩
 . cases es with
   | nil=>exact nf h
   | cons e es=>
    obtain⟨h1,h2⟩:=eJ h
    exact oJ (hc.e M h1 RT Y old σ) (hs.a M h2 RT Y old σ) (aZ h1)
 . cases cs with
   | nil=>cases e with
    | none=>exact nf h
    | some e=>exact aKm (hc.e M (by exact h) RT Y old σ)
   | cons _ _=>cases e <;> exact nf h
 . cases es with
   | nil=>exact nf h
   | cons e es=>
    obtain⟨h1,h2⟩:=eJ h
    cases es with
    | nil=>cases cs with
     | nil=>exact aIb (hc.t M h1 RT Y old σ)
     | cons _ _=>exact absurd h2 bN
    | cons _ _=>simp at hl
theorem aKC{c:E}(hc:Q3 P n c):QI P n (.seq c):=λ{X Γ} M {tg e} h RT Y old σ=>aKp (hc.e M (by exact h) RT Y old σ)
theorem aKD{a b:E}(ha:Q3 P n a)(hb:Q3 P n b):QI P n (.rng a b):=λ{X Γ} M {tg e} h RT Y old σ=>by
 rw[wC] at h
 obtain⟨⟨f,xs⟩,h1,g⟩:=aC h
 clear h
 obtain⟨p1,p2,rfl⟩:=h1
 have h:=g
 clear g
 obtain⟨h1,h2,h3⟩:=eX h
 rcases xs with _|⟨x,_|⟨y,_|⟨_,_⟩⟩⟩
 . cases h3
 . obtain⟨h3,h4⟩:=eJ h3
   have ez:a=.c (.int 0):=by
    unfold yH at h3
    split at h3
    . rw[eq_of_beq h3]
    . cases h3
   rw[ez]
   exact aHW M (eq_of_beq h1) h2 (hb.e M h4 RT Y old σ) (aZ h4)
 . obtain⟨h3,h4⟩:=eJ h3
   exact aHX M (eq_of_beq h1) h2 (ha.e M h3 RT Y old σ) (hb.e M h4 RT Y old σ) (aZ h3) (aZ h4)
 . cases h3
theorem aIj{a:E}(ha:Q3 P n a):QI P n (.enum a):=λ{X Γ} M {tg e} h RT Y old σ=>by
 rw[rF] at h
 obtain⟨⟨f,xs⟩,h1,g⟩:=aC h
 clear h
 obtain⟨p1,p2,rfl⟩:=h1
 have h:=g
 clear g
 rcases xs with _|⟨x,_|⟨_,_⟩⟩
 . cases h
 . obtain⟨h0,h1,h2,h3⟩:=aDv h
   unfold rA at h0
   split at h0
   . exact aHZ M (eq_of_beq h1) h2 (ha.e M h3 RT Y old σ) (aZ h3)
   . cases h0
 . cases h
theorem aKE{a:E}(ha:Q3 P n a):Q3 P n (.rvs a):=Q3.of (λ{X Γ} M {e} h RT Y old σ=>by
 obtain⟨⟨x,ix⟩,h1,g⟩:=aC h
 clear h
 obtain⟨p,rfl⟩:=h1
 obtain⟨c,⟨_,_,_,_,e2⟩,g⟩:=aC g
 have e2:ix=_:=e2
 subst e2
 exact aKq (ha.e M g RT Y old σ)) (λ_=>rfl) rfl
theorem aGE{it:Hp.It}(z:∀Γ tt e,chkI Γ tt it e=false):QI P n it:=by
 intro X Γ M tg e h RT Y old σ
 rw[z] at h
 cases h
mutual
theorem qE:(c:E)->Q3 P n c
 | .c _=>n_c
 | .v _=>n_v
 | .op _ a b=>aNb (qE a) (qE b)
 | .neg _=>iD rfl
 | .nt a=>aNc (qE a)
 | .an a b=>aNd (qE a) (qE b)
 | .orr a b=>aKr (qE a) (qE b)
 | .ife t a b=>aKs (qE t) (qE a) (qE b)
 | .cmp _ a b=>aKt (qE a) (qE b)
 | .dnin a _=>aIe (qE a)
 | .dget _ _=>iD rfl
 | .dlen _=>iD rfl
 | .rvs a=>aKE (qE a)
 | .cmp2 _ _ a b c=>aIf (qE a) (qE b) (qE c)
 | .idx a b=>aKu (qE a) (qE b)
 | .sli a lo hi=>aKv (qE a) (qA lo) (qA hi)
 | .tup es=>aKw (qA es)
 | .lst es=>aKx (qA es)
 | .dic _ _=>iD rfl
 | .call _ es=>aIg (qA es)
 | .callP _ _ es=>aFF (qA es)
 | .pnn _=>aKy
 | .bi _ es=>aNe (qA es)
 | .mth _ o es=>aKz (qE o) (qA es)
 | .isi a _=>aKA (qE a)
 | .attr _ _=>iD rfl
 | .comp _ _ _ it cond elt=>aIh (qI it) (qA cond) (qE elt)
 | .numset _=>iD rfl
 | .tget _ _=>iD rfl
 | .lzip _ _=>iD rfl
theorem qA:(cs:Es)->QA P n cs
 | .nil=>aKB
 | .cons c cs=>aIi (qE c) (qA cs)
theorem qI:(it:Hp.It)->QI P n it
 | .seq c=>aKC (qE c)
 | .rng a b=>aKD (qE a) (qE b)
 | .zip _ _=>aGE λ_ _ _=>rfl
 | .enum a=>aIj (qE a)
 | .rev _=>aGE λ_ _ _=>rfl
end
theorem sE(c:E):PEc P n c:=(qE c).e
theorem sT(c:E):PTc P n c:=(qE c).t
theorem sTs(cs:Es):∀{X:Cx} {Γ:Ct},Mc X P Γ n->∀{es:List Expr},es.length<=1->chkEs Γ cs es=true->∀(RT Y old:Addr->Prop) (σ:Sg),PTs X es (wTs X P n RT Y old σ cs):=(qA cs).ts
theorem sI(it:Hp.It):QI P n it:=qI it
end
end Hp
end
noncomputable section
set_option maxHeartbeats 4000000
namespace Hp
open PySem PySem.Spec PyProof.Rows L2
def dL(K:Fg)(RT Y old:Addr->Prop)(H:Hp)(σ':Sg)(Q:L2.St->Hp->Prop):Prop:=
 ∀(RT':Addr->Prop) (σV':L2.St) (H':Hp),Kp RT H H'->(∀b,RT' b->RT b\/H b=none)->Sx K RT' Y old σ' σV' H'->Q σV' H'
def Rtv(K:Fg)(Y old:Addr->Prop)(H':Hp)(v:Vl)(u:V):Prop:=
 if v.fr=true then ∃a xs ds,u=.ref a/\v.d=.lst ds/\¬ old a/\H' a=some (.lst xs)/\Reps K H' (λb=>b=a\/exB Y old v.pa b) ds xs
 else Rep K H' (exB Y old v.pa) v.d u
def oR(K:Fg)(RT Y old:Addr->Prop)(H:Hp)(v:Vl)(Q:VK):Prop:=∀(u:V) (H':Hp),Kp RT H H'->Tk K H'->Rtv K Y old H' v u->Q u H'
def OE(K:Fg)(RT Y old:Addr->Prop)(H:Hp)(o:O)(D:Ends):Prop:=match o with
 | .next σ'=>dL K RT Y old H σ' D.nx
 | .brk σ'=>dL K RT Y old H σ' D.bk
 | .cnt σ'=>dL K RT Y old H σ' D.ct
 | .ret v=>oR K RT Y old H v D.rt
 | .exc _ _=>False
 | .bad=>False
def wS(X:Cx)(RT Y old:Addr->Prop)(σ:Sg)(o:O):TS:=λD σV H=>Sx X.K RT Y old σ σV H/\OE X.K RT Y old H o D
section
variable {K:Fg} {RT RT' RT'' Y old:Addr->Prop} {σ:Sg} {σV:L2.St} {H H1 H2:Hp} {o:O} {D D':Ends}
theorem Kp.chain(a:Kp RT H H1)(s:∀b,RT' b->RT b\/H b=none)(b:Kp RT' H1 H2):Kp RT H H2:=λc o e n=>b c o (a c o e n) λz=>(s c z).elim n λq=>by rw[q] at e;cases e
theorem gD(a:Kp RT H H1)(s1:∀b,RT' b->RT b\/H b=none)(s2:∀b,RT'' b->RT' b\/H1 b=none):∀b,RT'' b->RT b\/H b=none:=λb z=>by
 rcases s2 b z with q|q
 . exact s1 b q
 . by_cases hr:RT b
   . exact .inl hr
   . refine .inr ?_
     cases e:H b with
     | none=>rfl
     | some o=>rw[a b o e hr] at q;cases q
theorem dL.mono{σ':Sg}{Q:L2.St->Hp->Prop}(a:Kp RT H H1)(s:∀b,RT' b->RT b\/H b=none)(h:dL K RT Y old H σ' Q):dL K RT' Y old H1 σ' Q:=λRT2 σV2 H2 k n S=>h RT2 σV2 H2 (a.chain s k) (gD a s n) S
theorem OE.mono(a:Kp RT H H1)(s:∀b,RT' b->RT b\/H b=none)(h:OE K RT Y old H o D):OE K RT' Y old H1 o D:=by
 cases o with
 | next σ'=>exact dL.mono a s h
 | brk σ'=>exact dL.mono a s h
 | cnt σ'=>exact dL.mono a s h
 | ret v=>exact λu H2 k t r=>(show oR K RT Y old H v D.rt from h) u H2 (a.chain s k) t r
 | exc x σ'=>exact h
 | bad=>exact h
theorem bE:∀b,RT b->RT b\/H b=none:=λ_ z=>.inl z
def tkE(K:Fg)(D:Ends):Ends:=⟨λσ H=>Tk K H->D.nx σ H,λv H=>Tk K H->D.rt v H,λσ H=>Tk K H->D.bk σ H,λσ H=>Tk K H->D.ct σ H⟩
theorem OE.from{α:Type}{x:R α}{f:α->O}(h:OE K RT Y old H (O.from σ x f) D):RE x λa=>OE K RT Y old H (f a) D:=by
 cases x with
 | ok a=>exact h
 | exc e=>exact h
 | bad=>exact h
end
section
variable {X:Cx} {st:Stmt} {t t':TS}
theorem aGF{pins:List (Addr×Obj)}{D:Ends}{f:Flow}{s':Shared}(h:SP X pins (tkE X.K D) f s'):SP X pins D f s':=by
 cases f with
 | next=>obtain⟨σ',H',I,q⟩:=h;exact⟨σ',H',I,q I.tk⟩
 | brk=>obtain⟨σ',H',I,q⟩:=h;exact⟨σ',H',I,q I.tk⟩
 | cont=>obtain⟨σ',H',I,q⟩:=h;exact⟨σ',H',I,q I.tk⟩
 | ret u=>obtain⟨v,σ',H',I,r,q⟩:=h;exact⟨v,σ',H',I,r,q I.tk⟩
theorem cJ(h:PS X st t)(f:∀D σV H,Tk X.K H->t' D σV H->t (tkE X.K D) σV H):PS X st t':=λpins s σV H D I hw=>thn (h pins s σV H _ I (f D σV H I.tk hw)) λfl s' q=>aGF q
theorem tM{sts:List Stmt}(h:PSs X sts t)(f:∀D σV H,Tk X.K H->t' D σV H->t (tkE X.K D) σV H):PSs X sts t':=λpins s σV H D I hw=>thn (h pins s σV H _ I (f D σV H I.tk hw)) λfl s' q=>aGF q
theorem tN{Y old:Addr->Prop}{sts:List Stmt}{f:Sg->O}(h:∀RT σ,PSs X sts (wS X RT Y old σ (f σ))):PSs X sts (λD σV H=>∃RT σ,wS X RT Y old σ (f σ) D σV H):=λpins s σV H D I ⟨RT,σ,hw⟩=>h RT σ pins s σV H D I hw
end
section
variable {X:Cx} {P:Pg} {Γ:Ct} {n:Nat} {RT Y old:Addr->Prop} {σ:Sg} {pos:Pos}
theorem dL.tkE{σ':Sg}{Q:L2.St->Hp->Prop}{H:Hp}(h:dL X.K RT Y old H σ' Q):dL X.K RT Y old H σ' λσ H=>Tk X.K H->Q σ H:=λRT' σV' H' k n S _=>h RT' σV' H' k n S
theorem OE.tkE{o:O}{D:Ends}{H:Hp}(h:OE X.K RT Y old H o D):OE X.K RT Y old H o (tkE X.K D):=by
 cases o with
 | next σ'=>exact dL.tkE h
 | brk σ'=>exact dL.tkE h
 | cnt σ'=>exact dL.tkE h
 | ret v=>exact λu H2 k t r _=>(show oR X.K RT Y old H v D.rt from h) u H2 k t r
 | exc x σ'=>exact h
 | bad=>exact h
theorem aKF:PSs X [] (wS X RT Y old σ (exs P (call P n) σ .nil)):=tM aEP λD σV H t ⟨S,h⟩ _=>(show dL X.K RT Y old H σ D.nx from h) RT σV H (Kp.refl RT H) bE S
theorem aIk{s:S}{ss:Ss}{x:Stmt}{xs:List Stmt}(h1:∀RT σ,PS X x (wS X RT Y old σ (ex P (call P n) σ s)))(h2:∀RT σ,PSs X xs (wS X RT Y old σ (exs P (call P n) σ ss))) :
 PSs X (x::xs) (wS X RT Y old σ (exs P (call P n) σ (.cons s ss))):=by
 refine tM (aCh (h1 RT σ) (tN h2)) λD σV H t ⟨S,h⟩=>?_
 have h:OE X.K RT Y old H ((ex P (call P n) σ s).on λσ'=>exs P (call P n) σ' ss) D:=h
 refine⟨S,?_⟩
 cases q:ex P (call P n) σ s with
 | next σ'=>
  rw[q] at h
  exact λRT' σV' H' k nn S'=>⟨RT',σ',S',(OE.mono k nn (show OE X.K RT Y old H (exs P (call P n) σ' ss) D from h)).tkE⟩
 | brk σ'=>rw[q] at h;exact OE.tkE (D:=D) (o:=.brk σ') h
 | cnt σ'=>rw[q] at h;exact OE.tkE (D:=D) (o:=.cnt σ') h
 | ret v=>rw[q] at h;exact OE.tkE (D:=D) (o:=.ret v) h
 | exc e σ'=>rw[q] at h;exact h
 | bad=>rw[q] at h;exact h
theorem aIl:PS X (.Pass pos) (wS X RT Y old σ (ex P (call P n) σ .pass)):=cJ aEQ λD σV H t ⟨S,h⟩ _=>(show dL X.K RT Y old H σ D.nx from h) RT σV H (Kp.refl RT H) bE S
theorem aKG:PS X (.Break pos) (wS X RT Y old σ (ex P (call P n) σ .brk)):=cJ aCi λD σV H t ⟨S,h⟩ _=>(show dL X.K RT Y old H σ D.bk from h) RT σV H (Kp.refl RT H) bE S
theorem aKH:PS X (.Continue pos) (wS X RT Y old σ (ex P (call P n) σ .cnt)):=cJ uR λD σV H t ⟨S,h⟩ _=>(show dL X.K RT Y old H σ D.ct from h) RT σV H (Kp.refl RT H) bE S
theorem aKI{st:Stmt}{c:Nat}{k:Bool}{es:Es}:PS X st (wS X RT Y old σ (ex P (call P n) σ (.rse c k es))):=cJ aCk λD σV H t ⟨S,h⟩=>by
 have h:OE X.K RT Y old H (O.from σ (evs P (call P n) σ es) λvs=>.exc (.err c (if k then vs.map (·.d) else [])) σ) D:=h
 obtain⟨vs,_,q⟩:=(OE.from h).eq
 exact q
theorem aAr{pa:Bool}{al:List Nat}{σV:L2.St}{b:Addr}(h:exB Y old pa b):exV RT Y old σ σV pa al b:=.inr h
theorem Ro.rtv{H H':Hp}{σV:L2.St}{v:Vl}{u:V}(S:Sx X.K RT Y old σ σV H)(ro:Ro X.K RT Y old σ σV H H' v u):Rtv X.K Y old H' v u:=by
 unfold Rtv
 by_cases hf:v.fr=true
 . rw[if_pos hf]
   obtain⟨s,h⟩:=ro
   rw[if_pos hf] at h
   obtain⟨a,xs,ds,e1,e2,e3,e4,r⟩:=h
   exact⟨a,xs,ds,e1,e2,λz=>S.trk a (.inr (.inr z)) e3.1 e3.2,e4,r.weak λb z=>z.elim .inl λz=>.inr (aAr z)⟩
 . rw[if_neg hf]
   exact Rep.weak (ro.rv S) λb z=>aAr z
theorem aKJ{c:E}{e:Expr}(he:PE X e (WE X P n RT Y old σ c)):PS X (.Return (some e) pos) (wS X RT Y old σ (ex P (call P n) σ (.ret c))):=by
 refine cJ (aCj he) λD σV H t ⟨S,h⟩=>?_
 have h:=OE.from (show OE X.K RT Y old H (O.from σ (ev P (call P n) σ c) .ret) D from h)
 exact wE.one S h λx u H1 hx t1 S1 r1 _=>(show oR X.K RT Y old H x D.rt from hx) u H1 (Kp.same r1.1) t1 (r1.rtv S)
theorem aIm:PS X (.Return none pos) (wS X RT Y old σ (ex P (call P n) σ .retN)):=cJ aER λD σV H t ⟨S,h⟩ _=>(show oR X.K RT Y old H (.cl .non) D.rt from h) .non H (Kp.refl RT H) t rfl
theorem aIn{i:Nat}{x:Str}{p:Pos}(M:Mc X P Γ n)(hx:bO Γ i x=true):PS X (.Return (some (.Name x p)) pos) (wS X RT Y old σ (ex P (call P n) σ (.retv i))):=by
 have hpe:PE X (.Name x p) (aBd i):=by
  unfold bO at hx
  obtain⟨h1,h2,h3⟩:=eX hx
  exact hU (by rw[M.N];exact eq_of_beq h1) (M.vis h2) (aS h3) (eB h3)
 refine cJ (aCj hpe) λD σV H t ⟨S,h⟩=>?_
 have h:OE X.K RT Y old H (match σ[i]? with|some (.own pa ds)=>.ret ⟨.lst ds,true,pa,[]⟩|_=>O.from σ (bH σ i) .ret) D:=h
 unfold bH at h
 cases e:σ[i]? with
 | none=>rw[e] at h;exact h.elim
 | some sl=>
  rw[e] at h
  cases sl with
  | dead=>exact h.elim
  | dct _=>exact h.elim
  | par _ _=>exact h.elim
  | own pa ds=>
   obtain⟨a,xs,h1,h2,h3,h4,h5⟩:=S.own i pa ds e
   refine⟨.ref a,h1,λ_=>(show oR X.K RT Y old H ⟨.lst ds,true,pa,[]⟩ D.rt from h) _ H (Kp.refl RT H) t ?_⟩
   unfold Rtv
   rw[if_pos rfl]
   exact⟨a,xs,ds,rfl,rfl,h4,h2,h5.weak λb z=>z.elim (λz=>.inl (by rw[z];exact h3)) .inr⟩
  | sh pa d=>
   obtain⟨v,h1,h2⟩:=S.sh i pa d e
   refine⟨v,h1,λ_=>(show oR X.K RT Y old H ⟨d,false,pa&&!noL d,[]⟩ D.rt from h) v H (Kp.refl RT H) t ?_⟩
   unfold Rtv
   rw[if_neg bN]
   show Rep X.K H (exB Y old (pa&&!noL d)) d v
   cases hn:noL d with
   | true=>exact Rep.free d v hn h2
   | false=>
    refine h2.weak λb z=>.inr ?_
    rw[Bool.not_false,Bool.and_true] at z
    exact z
theorem aNf{c:E}{e:Expr}(he:PE X e (WE X P n RT Y old σ c))(hs:oC e=false):PS X (.Expr e pos) (wS X RT Y old σ (ex P (call P n) σ (.ex c))):=by
 refine cJ (kI he (by cases e <;> first|rfl|cases hs)) λD σV H t ⟨S,h⟩=>?_
 have h:=OE.from (show OE X.K RT Y old H (O.from σ (ev P (call P n) σ c) λ_=>.next σ) D from h)
 exact wE.one S h λx u H1 hx t1 S1 r1 _=>(show dL X.K RT Y old H σ D.nx from hx) RT σV H1 (Kp.same r1.1) bE S1
theorem aNg{c:E}{a b:Ss}{e:Expr}{xa xb:List Stmt}(hc:PT X e (WT X P n RT Y old σ c))(ha:∀RT σ,PSs X xa (wS X RT Y old σ (exs P (call P n) σ a)))(hb:∀RT σ,PSs X xb (wS X RT Y old σ (exs P (call P n) σ b))) :
 PS X (.If e xa xb pos) (wS X RT Y old σ (ex P (call P n) σ (.iff c a b))):=by
 refine cJ (aJp hc (ha RT σ) (hb RT σ)) λD σV H t ⟨S,h⟩=>?_
 have h:=OE.from (show OE X.K RT Y old H (O.from σ (tst P (call P n) σ c) λk=>if k=true then exs P (call P n) σ a else exs P (call P n) σ b) D from h)
 refine⟨S,h.mono λk hk H1 t1 s1=>?_⟩
 cases k with
 | true=>rw[if_pos rfl] at hk ⊢;exact⟨S.grow s1 t1,(OE.mono (Kp.same s1) bE hk).tkE⟩
 | false=>rw[if_neg bN] at hk ⊢;exact⟨S.grow s1 t1,(OE.mono (Kp.same s1) bE hk).tkE⟩
theorem tO{σV:L2.St}{H H1:Hp}{v:Vl}{u:V}{t:T}{D:Ends}(S:Sx X.K RT Y old σ σV H)(t1:Tk X.K H1)(r1:Ro X.K RT Y old σ σV H H1 v u)(h:OE X.K RT Y old H (O.from σ (cC (freeze σ v.al) v t) .next) D):gT X.K t u σV H1 D.nx:=by
 obtain⟨σ2,e,hp⟩:=(OE.from h).eq
 have hp:dL X.K RT Y old H σ2 D.nx:=hp
 clear h
 cases t with
 | n i=>
  obtain⟨RT',S',hsub⟩:=S.store r1 t1 i
  rw[oQ e] at hp
  exact hp RT' _ H1 (Kp.same r1.1) hsub S'
 | t is=>
  obtain⟨ds,hd,hl,e'⟩:=oP e
  have Sf:=(S.grow r1.1 t1).frz v.al
  have hr:Rep X.K H1 (λa=>rtF RT σ σV v.al a\/exB Y old v.pa a) v.d u:=r1.rv S
  have hf:v.fr=false\/v.fr=true:=by cases v.fr <;> simp
  rcases hf with hf|hf
  . exact aDq Sf hf hr e λσ2V S2 _=>hp _ _ _ (Kp.same r1.1) (λb z=>.inl z.1) S2
  . have:=r1.2
    rw[if_pos hf] at this
    obtain⟨a,xs,ds',_,e2,_⟩:=this
    rw[hd] at e2;cases e2
theorem aIo{c:E}{e:Expr}{i:Nat}{x:Str}{p:Pos}(M:Mc X P Γ n)(hx:bP Γ i x=true)(he:PE X e (WE X P n RT Y old σ c))(hs:oC e=false):PS X (.Assign [.Name x p] e pos) (wS X RT Y old σ (ex P (call P n) σ (.set (.n i) c))):=by
 unfold bP at hx
 obtain⟨h1,h2,h3⟩:=eX hx
 refine cJ (lJ (i:=i) M.nd (by rw[M.N];exact eq_of_beq h1) (M.loc h2) he (by cases e <;> first|rfl|cases hs) (M.st x h2)) λD σV H t ⟨S,h⟩=>?_
 have h:=OE.from (show OE X.K RT Y old H (O.from σ (ev P (call P n) σ c) λv=>O.from σ (cC (freeze σ v.al) v (.n i)) .next) D from h)
 exact wE.one S h λv u H1 hv t1 S1 r1=>tO (t:=.n i) S t1 r1 (OE.tkE hv)
theorem aIp{c:E}{e:Expr}{is:List Nat}{es:List Expr}{k:Nat}{p:Pos}(M:Mc X P Γ n)(hx:qK Γ (.t is) (.Tuple es k p)=true)(he:PE X e (WE X P n RT Y old σ c))(hs:yI e=false):PS X (.Assign [.Tuple es k p] e pos) (wS X RT Y old σ (ex P (call P n) σ (.set (.t is) c))):=by
 refine cJ (xN he (aFD M hx) (by cases e <;> rfl) (by cases e <;> first|rfl|cases hs)) λD σV H t ⟨S,h⟩=>?_
 have h:=OE.from (show OE X.K RT Y old H (O.from σ (ev P (call P n) σ c) λv=>O.from σ (cC (freeze σ v.al) v (.t is)) .next) D from h)
 exact wE.one S h λv u H1 hv t1 S1 r1=>tO (t:=.t is) S t1 r1 (OE.tkE hv)
theorem aBF{i:Nat}{x:Str}{p cpos:Pos}(M:Mc X P Γ n)(hx:bP Γ i x=true){k:Nat}{caps:List Nat}{t:T}{it:Hp.It}{cond:Es}{elt:E}{e tg iter:Expr}{ifs:List Expr}{scope:Scope}{N':List Str}(CS:dW X scope k caps N')(hnd:caps.Nodup)(hk:∀i∈tIx t,i<k)
 (hi:PI X tg iter (wI X P n RT Y old σ it))
 (hch:∀C s₀ H₀ ex,PG (eE X scope N' C s₀ H₀ ex) tg (gT X.K t)/\(∀RT Y old σ1,PTs (eE X scope N' C s₀ H₀ ex) ifs (wTs X P n RT Y old σ1 cond))/\∀RT Y old σ1,PE (eE X scope N' C s₀ H₀ ex) e (WE X P n RT Y old σ1 elt))
 (hs:∀x,foldedSetIterable iter X.env x=pure x):PS X (.Assign [.Name x p] (.ListComp e [⟨tg,iter,ifs,0⟩] scope cpos) pos) (wS X RT Y old σ (ex P (call P n) σ (.set (.n i) (.comp k caps t it cond elt)))):=by
 unfold bP at hx
 obtain⟨h1,h2,h3⟩:=eX hx
 refine cJ (yM (g:=gT X.K t) (tt:=λσV H Q=>∃RT Y old σ1,wTs X P n RT Y old σ1 cond σV H Q) (te:=λσV H Q=>∃RT Y old σ1,WE X P n RT Y old σ1 elt σV H Q) CS M.calm hi (λC s₀ H₀ ex=>?_) hs M.nd (by rw[M.N];exact eq_of_beq h1) (M.loc h2) (M.st x h2)) λD σV H t0 ⟨S,h⟩=>?_
 . obtain⟨h1,h2,h3⟩:=hch C s₀ H₀ ex
   exact⟨h1,λpins s σV H Q I ⟨RT,Y,old,σ1,hw⟩=>h2 RT Y old σ1 pins s σV H Q I hw,λpins s σV H Q I ⟨RT,Y,old,σ1,hw⟩=>h3 RT Y old σ1 pins s σV H Q I hw⟩
 . have h:=OE.from (show OE X.K RT Y old H (O.from σ (ev P (call P n) σ (.comp k caps t it cond elt)) λv=>O.from σ (cC (freeze σ v.al) v (.n i)) .next) D from h)
   exact aDs (Q:=λv H'=>qQ i v σV H' D.nx) hnd hk ⟨S,h.mono λv hv u H1 t1 r1=>tO (t:=.n i) S t1 r1 hv⟩
theorem Sx.mut{K:Fg}{σV:L2.St}{H:Hp}(S:Sx K RT Y old σ σV H){i:Nat}{pa pa':Bool}{ds ds':List D}{a:Addr}{xs':List V}(e:σ[i]? = some (.own pa ds))(ha:σV[i]? = some (some (.ref a)))(r:Reps K H (λb=>RT b\/exB Y old pa' b) ds' xs') :
 Sx K RT Y old (σ.set i (.own pa' ds')) σV (upd H a (.lst xs')):=by
 obtain⟨a',xs,h1,h2,h3,h4,h5⟩:=S.own i pa ds e
 rw[ha] at h1
 cases h1
 have ks:∀{ex:Addr->Prop},∀b o,H b=some o->(∀ys,o=.lst ys->¬ (RT b\/ex b))->(∀φ,o≠.ext φ)->upd H a (.lst xs') b=some o:=λ{ex} b o q hl _=>by
  rw[aP λz=>by subst z;rw[h2] at q;cases q;exact hl xs rfl (.inl h3)]
  exact q
 exact {
  sh:=λj pb d q=>by
   rcases set_some q with⟨_,z,_⟩|⟨_,q⟩
   . cases z
   . obtain⟨v,g1,g2⟩:=S.sh j pb d q
     exact⟨v,g1,g2.keep ks⟩
  own:=λj pb dd q=>by
   rcases set_some q with⟨rfl,z,_⟩|⟨hne,q⟩
   . cases z
     exact⟨a,xs',ha,bW,h3,h4,r.keep ks⟩
   . obtain⟨b,ys,g1,g2,g3,g4,g5⟩:=S.own j pb dd q
     have hb:b≠a:=λz=>by
      subst z
      exact hne (S.inj i j pa pb ds dd b e q ha g1)
     exact⟨b,ys,g1,by rw[aP hb];exact g2,g3,g4,g5.keep ks⟩
  trk:=λb z q=>by
   by_cases hb:b=a
   . rw[hb,bW] at q;cases q
   . rw[aP hb] at q;exact S.trk b z q
  yo:=S.yo
  tk:=λb z=>by
   by_cases hb:b=a
   . rw[hb];exact S.tk a (by rw[h2];simp)
   . rw[aP hb] at z;exact S.tk b z
  rt:=λb z=>by
   by_cases hb:b=a
   . rw[hb];exact .inl ⟨xs',bW⟩
   . unfold RtO;rw[aP hb];exact S.rt b z
  inj:=λj j' pb pb' dd dd' b q1 q2=>by
   have get:∀{j:Nat} {pb:Bool} {dd:List D},(σ.set i (.own pa' ds'))[j]? = some (.own pb dd)->∃p2 d2,σ[j]? = some (.own p2 d2):=λ{j pb dd} q=>by
    rcases set_some q with⟨rfl,_,_⟩|⟨_,q⟩
    . exact⟨pa,ds,e⟩
    . exact⟨pb,dd,q⟩
   obtain⟨_,_,z1⟩:=get q1
   obtain⟨_,_,z2⟩:=get q2
   exact S.inj j j' _ _ _ _ b z1 z2
  len:=by rw[List.length_set];exact S.len
  dx:=S.dx.imp id (λj dd q=>by
   rcases set_some q with⟨_,z,_⟩|⟨_,q⟩
   . cases z
   . exact⟨q,rfl⟩) (λ_ _ _ _ _ _ e=>e) (λb ys q z _=>⟨by rw[aP λw=>by rw[w,h2] at q;cases q];exact q,z⟩) (λb ks z=>Kp.seqT (R:=λb=>b=a) (λb o q n=>by rw[aP n];exact q) (λb z=>.inl ⟨xs,by rw[z];exact h2⟩) z) (λj dd ee q=>by
   rcases set_some q with⟨_,z,_⟩|⟨_,q⟩
   . cases z
   . exact⟨q,rfl⟩) (λ_ _ _ _ _ _ _ _ e=>e) λp ys q z=>⟨by rw[aP λw=>z.2.2 i pa ds e (by rw[w];exact ha)];exact q,z.1,z.2.1,λk pb dd w=>by
   rcases set_some w with⟨rfl,_,_⟩|⟨_,w⟩
   . exact z.2.2 i pa ds e
   . exact z.2.2 k pb dd w⟩ }
theorem Kp.upd{H H1:Hp}{a:Addr}{xs:List V}(s:aR H H1)(h:RT a):Kp RT H (upd H1 a (.lst xs)):=λb o e nn=>by
 rw[aP λz=>nn (by rw[z];exact h)]
 exact s b o e
theorem aDw{i:Nat}{pa:Bool}{ds:List D}(h:gB σ i=some (pa,ds)):σ[i]? = some (.own pa ds):=by
 unfold gB at h
 split at h
 . rename_i q;cases h;exact q
 . cases h
theorem tP{i:Nat}{v:Vl}{f:List D->Option (List D)}{H:Hp}{D:Ends}(h:OE X.K RT Y old H (put σ i v f) D):∃pa ds ds',σ[i]? = some (.own pa ds)/\i∉v.al/\f ds=some ds'/\ds'.length<=lim/\dL X.K RT Y old H ((freeze σ v.al).set i (.own (pa||v.pa) ds')) D.nx:=by
 unfold put at h
 split at h
 . rename_i pa ds q
   have q:=eN (aDw q)
   split at h
   . rename_i ds' q2
     split at h
     . rename_i hl
       exact⟨pa,ds,ds',q.1,q.2,q2,hl,h⟩
     . exact h.elim
   . exact h.elim
 . exact h.elim
theorem nJ{pa pb:Bool}{b:Addr}(h:exB Y old (pa||pb) b):exB Y old pa b:=h.imp_right λz=>⟨by cases pa <;> simp_all,z.2⟩
theorem aAs{pa pb:Bool}{b:Addr}(h:exB Y old (pa||pb) b):exB Y old pb b:=h.imp_right λz=>⟨by cases pb <;> simp_all,z.2⟩
theorem tQ{i:Nat}{m:Str}{c:Expr}{xs:List Expr}(h:nC Γ i m c=some xs):∃x p ap cp,c=.Call (.Attribute (.Name x p) m ap) xs [] cp/\bO Γ i x=true/\(ap.endLine==cp.line)=true:=by
 unfold nC at h
 split at h
 . rename_i x p a ap xs' cp
   split at h
   . rename_i q
     obtain⟨q1,q2,q3⟩:=eX q
     cases h
     have e:a=m:=eq_of_beq q1
     subst e
     exact⟨x,p,ap,cp,rfl,q2,q3⟩
   . cases h
 . cases h
theorem gN{i:Nat}{x:Str}{p:Pos}(M:Mc X P Γ n)(hx:bO Γ i x=true):PE X (.Name x p) (aBd i):=by
 unfold bO at hx
 obtain⟨h1,h2,h3⟩:=eX hx
 exact hU (by rw[M.N];exact eq_of_beq h1) (M.vis h2) (aS h3) (eB h3)
theorem tR:lim<sizeLine:=by rw[sizeLine_eq];decide
theorem kR{i:Nat}{al:List Nat}{pa:Bool}{ds:List D}{σV:L2.St}{H H1:Hp}{b:Addr}{xs:List V}(S:Sx X.K RT Y old σ σV H)(s1:aR H H1)(q1:σ[i]? = some (.own pa ds))(h1:σV[i]? = some (some (.ref b)))(h2:H b=some (.lst xs)) :
 Reps X.K H1 (λc=>rtF RT σ σV al c\/exB Y old pa c) ds xs:=by
 obtain⟨b',xs',g1,g2,g3,g4,g5⟩:=S.own i pa ds q1
 rw[h1] at g1
 cases g1
 rw[h2] at g2
 cases g2
 exact(g5.grow s1).weak λc z=>z.elim (λz=>.inl z.1) .inr
theorem kT{i:Nat}{v:Vl}{pa:Bool}{ds ds':List D}{σV:L2.St}{H H1:Hp}{b:Addr}{xs':List V}{Q:L2.St->Hp->Prop}(S:Sx X.K RT Y old σ σV H)(s1:aR H H1)(t1:Tk X.K H1)(q1:σ[i]? = some (.own pa ds))(q2:i∉v.al)(h1:σV[i]? = some (some (.ref b)))
 (r:Reps X.K H1 (λc=>rtF RT σ σV v.al c\/exB Y old (pa||v.pa) c) ds' xs') (hpost:dL X.K RT Y old H ((freeze σ v.al).set i (.own (pa||v.pa) ds')) Q):Q σV (upd H1 b (.lst xs')):=by
 obtain⟨b',xs,g1,g2,g3,g4,g5⟩:=S.own i pa ds q1
 rw[h1] at g1
 cases g1
 have e':(freeze σ v.al)[i]? = some (.own pa ds):=by
  rw[eM,q1]
  simp[q2]
 exact hpost _ σV _ (Kp.upd s1 g3) (λc z=>.inl z.1) (((S.grow s1 t1).frz v.al).mut e' h1 r)
theorem aDx{σV:L2.St}{H1:Hp}{v:Vl}{u:V}{pa:Bool}(h:Rv X.K RT Y old σ σV H1 v u):Rep X.K H1 (λc=>rtF RT σ σV v.al c\/exB Y old (pa||v.pa) c) v.d u:=Rep.weak h λc z=>z.imp id aAs
theorem aKK{i:Nat}{c:E}{e a:Expr}(M:Mc X P Γ n)(hc:nC Γ i "append" e=some [a])(ha:PE X a (WE X P n RT Y old σ c))(hp:bD a=true):PS X (.Expr e pos) (wS X RT Y old σ (ex P (call P n) σ (.app i c))):=by
 obtain⟨x,p,ap,cp,rfl,hx,hl⟩:=tQ hc
 refine cJ (kI (aAe PySem.F.plainAttrs_list PySem.F.slot_list_append PySem.F.type_list_append qV (gN M hx) (iR ha nT (aD hp)) rfl (by rw[aD hp];rfl) hl (aD hp) rfl)) λD σV H t ⟨S,h⟩=>?_
 have h:=OE.from (show OE X.K RT Y old H (O.from σ (ev P (call P n) σ c) λv=>put σ i v λds=>some (ds++[v.d])) D from h)
 obtain⟨v,ee,h⟩:=h.eq
 obtain⟨pa,ds,ds',q1,q2,q3,q4,hpost⟩:=tP h
 cases q3
 obtain⟨b,xs,h1,h2,h3,h4,h5⟩:=S.own i pa ds q1
 refine⟨.ref b,h1,.inl ⟨rfl,xs,SqL.of h2⟩,S,?_⟩
 rw[ee]
 intro u H1 t1 r1
 have hlen:=h5.length
 refine⟨b,xs,u,rfl,rfl,r1.1 _ _ h2,?_,λ_=>?_⟩
 . rw[lA,List.length_singleton] at q4
   have:=tR
   omega
 . exact kT S r1.1 t1 q1 q2 h1 (((kR S r1.1 q1 h1 h2).weak λc z=>z.imp id nJ).append (.cons (aDx (r1.rv S)) .nil)) hpost
theorem aKL{i:Nat}{c:E}{e a:Expr}(M:Mc X P Γ n)(hc:nC Γ i "extend" e=some [a])(ha:PE X a (WE X P n RT Y old σ c))(hp:bD a=true):PS X (.Expr e pos) (wS X RT Y old σ (ex P (call P n) σ (.ext i c))):=by
 obtain⟨x,p,ap,cp,rfl,hx,hl⟩:=tQ hc
 refine cJ (kI (aAe PySem.F.plainAttrs_list PySem.F.slot_list_extend PySem.F.type_list_extend aBl (gN M hx) (iR ha nT (aD hp)) rfl (by rw[aD hp];rfl) hl (aD hp) rfl)) λD σV H t ⟨S,h⟩=>?_
 have h:=OE.from (show OE X.K RT Y old H (O.from σ (ev P (call P n) σ c) λv=>(match qZ v with|some (v',ds')=>put σ i v' λds=>some (ds++ds')|none=>.bad)) D from h)
 obtain⟨v,ee,h⟩:=h.eq
 unfold qZ at h
 cases hf:v.fr with
 | false=>rw[hf] at h;exact h.elim
 | true=>
  rw[hf] at h
  cases hd:v.d with
  | lst es=>
   rw[hd] at h
   obtain⟨pa,ds,ds',q1,q2,q3,q4,hpost⟩:=tP h
   cases q3
   obtain⟨b,xs,h1,h2,h3,h4,h5⟩:=S.own i pa ds q1
   refine⟨.ref b,h1,.inl ⟨rfl,xs,SqL.of h2⟩,S,?_⟩
   rw[ee]
   intro u H1 t1 r1
   have hr:=r1.2
   rw[if_pos hf] at hr
   obtain⟨a',ys,es',e1,e2,e3,e4,r⟩:=hr
   rw[hd] at e2
   cases e2
   subst e1
   have hlen:=h5.length
   have hlen2:=r.length
   refine⟨b,a',xs,ys,rfl,rfl,r1.1 _ _ h2,e4,?_,λ_=>?_⟩
   . rw[lA] at q4
     have:=tR
     omega
   . refine kT S r1.1 t1 q1 q2 h1 (((kR S r1.1 q1 h1 h2).weak λc z=>z.imp id nJ).append ?_) hpost
     have rr:=fN (r.weak λb z=>.inr z)
     exact rr.weak λc z=>z.imp id aAs
  | _=>rw[hd] at h;exact h.elim
theorem aKM{i:Nat}{e:Expr}(M:Mc X P Γ n)(hc:nC Γ i "reverse" e=some []):PS X (.Expr e pos) (wS X RT Y old σ (ex P (call P n) σ (.rev i))):=by
 obtain⟨x,p,ap,cp,rfl,hx,hl⟩:=tQ hc
 refine cJ (kI (aHw PySem.F.plainAttrs_list PySem.F.slot_list_reverse PySem.F.type_list_reverse xY (gN M hx) rfl hl)) λD σV H t ⟨S,h⟩=>?_
 obtain⟨pa,ds,ds',q1,q2,q3,q4,hpost⟩:=tP (show OE X.K RT Y old H (put σ i (.cl .non) λds=>some ds.reverse) D from h)
 cases q3
 obtain⟨b,xs,h1,h2,h3,h4,h5⟩:=S.own i pa ds q1
 exact⟨.ref b,h1,.inl ⟨rfl,xs,SqL.of h2⟩,b,xs,rfl,rfl,h2,λ_=>kT S (aR.refl H) t q1 q2 h1 (((kR S (aR.refl H) q1 h1 h2).weak λc z=>z.imp id nJ).reverse) hpost⟩
theorem aFG{i:Nat}{ck c:E}{x:Str}{p p2:Pos}{ix v:Expr}(M:Mc X P Γ n)(hx:bO Γ i x=true)(hk:PE X ix (WE X P n RT Y old σ ck))(he:PE X v (WE X P n RT Y old σ c))(hpl:bD ix=true):PS X (.Assign [.Subscript (.Name x p) ix p2] v pos) (wS X RT Y old σ (ex P (call P n) σ (.setIx i ck c))):=by
 refine cJ (xN he (aCm (gN M hx) hk aCz (by intro _;cases ix <;> first|rfl|cases hpl)) (by cases v <;> rfl) (by cases v <;> rfl)) λD σV H t ⟨S,h⟩=>?_
 have h:=OE.from (show OE X.K RT Y old H (O.from σ (ev P (call P n) σ c) λv=>O.from σ (ev P (call P n) σ ck) λkv=>(match kv.d with
  | .int k=>put σ i v λds=>(match ixN ds.length k with|some j=>some (ds.set j v.d)|none=>none)
  | _=>.bad)) D from h)
 refine wE.one S h λv u H1 hv t1 S1 r1=>?_
 obtain⟨kv,ek,hv⟩:=(OE.from hv).eq
 cases hd:kv.d with
 | int k=>
  rw[hd] at hv
  obtain⟨pa,ds,ds',q1,q2,q3,q4,hpost⟩:=tP hv
  obtain⟨b,xs,h1,h2,h3,h4,h5⟩:=S.own i pa ds q1
  cases hj:ixN ds.length k with
  | none=>rw[hj] at q3;cases q3
  | some j=>
   rw[hj] at q3
   cases q3
   refine⟨.ref b,h1,S1,?_⟩
   rw[ek]
   intro uk H2 t2 r2
   have hlen:=h5.length
   refine⟨b,xs,k,j,rfl,(r2.rv S1).int hd,r2.1 _ _ (r1.1 _ _ h2),by rw[<-hlen,<-tG];exact hj,λ_=>?_⟩
   have s2:=r1.1.trans r2.1
   refine kT S s2 t2 q1 q2 h1 (((kR S s2 q1 h1 h2).weak λc z=>z.imp id nJ).set j (aDx ((r1.rv S).grow r2.1))) hpost
 | _=>rw[hd] at hv;exact hv.elim
theorem Sx.move{K:Fg}{σV:L2.St}{H:Hp}(S:Sx K RT Y old σ σV H){i j:Nat}{pa:Bool}{ds:List D}{a:Addr}(e:σ[j]? = some (.own pa ds))(hij:i≠j)(ha:σV[j]? = some (some (.ref a))):Sx K RT Y old ((σ.set j .dead).set i (.own pa ds)) (σV.set i (some (.ref a))) H where
 sh:=λk pb d q=>by
  rcases set_some q with⟨_,z,_⟩|⟨n1,q⟩
  . cases z
  rcases set_some q with⟨_,z,_⟩|⟨n2,q⟩
  . cases z
  obtain⟨v,g1,g2⟩:=S.sh k pb d q
  exact⟨v,by rw[List.getElem?_set_ne n1];exact g1,g2⟩
 own:=λk pb dd q=>by
  rcases set_some q with⟨rfl,z,hl⟩|⟨n1,q⟩
  . cases z
    obtain⟨b,xs,g1,g2,g3⟩:=S.own j pa ds e
    rw[ha] at g1
    cases g1
    rw[List.length_set] at hl
    exact⟨a,xs,List.getElem?_set_self (by rw[<-S.len];exact hl),g2,g3⟩
  rcases set_some q with⟨_,z,_⟩|⟨n2,q⟩
  . cases z
  obtain⟨b,xs,g1,g2⟩:=S.own k pb dd q
  exact⟨b,xs,by rw[List.getElem?_set_ne n1];exact g1,g2⟩
 trk:=S.trk
 yo:=S.yo
 tk:=S.tk
 rt:=S.rt
 inj:=λk k' pb pb' dd dd' b q1 q2 v1 v2=>by
  have get:∀{k:Nat} {pb:Bool} {dd:List D},((σ.set j .dead).set i (.own pa ds))[k]? = some (.own pb dd)->(σV.set i (some (.ref a)))[k]? = some (some (.ref b))->(k=i/\b=a)\/(k≠i/\k≠j/\σ[k]? = some (.own pb dd)/\σV[k]? = some (some (.ref b))):=λ{k pb dd} q v=>by
   rcases set_some q with⟨rfl,z,hl⟩|⟨n1,q⟩
   . rw[List.length_set] at hl
     rw[List.getElem?_set_self (by rw[<-S.len];exact hl)] at v
     cases v
     exact .inl ⟨rfl,rfl⟩
   rcases set_some q with⟨_,z,_⟩|⟨n2,q⟩
   . cases z
   rw[List.getElem?_set_ne n1] at v
   exact .inr ⟨Ne.symm n1,Ne.symm n2,q,v⟩
  rcases get q1 v1 with⟨e1,b1⟩|⟨n1,m1,o1,w1⟩
  . rcases get q2 v2 with⟨e2,_⟩|⟨n2,m2,o2,w2⟩
    . rw[e1,e2]
    . subst b1
      exact absurd (S.inj k' j _ _ _ _ b o2 e w2 ha) m2
  . rcases get q2 v2 with⟨e2,b2⟩|⟨n2,m2,o2,w2⟩
    . subst b2
      exact absurd (S.inj k j _ _ _ _ b o1 e w1 ha) m1
    . exact S.inj k k' _ _ _ _ b o1 o2 w1 w2
 len:=by rw[List.length_set,List.length_set,List.length_set];exact S.len
 dx:=S.dx.imp id (λk dd q=>by
  rcases set_some q with⟨_,z,_⟩|⟨n1,q⟩
  . cases z
  rcases set_some q with⟨_,z,_⟩|⟨n2,q⟩
  . cases z
  exact⟨q,List.getElem?_set_ne n1⟩) (λ_ _ _ _ _ _ e=>e) (λ_ _ e z _=>⟨e,z⟩) (λ_ _ r=>r) (λk dd ee q=>by
  rcases set_some q with⟨_,z,_⟩|⟨n1,q⟩
  . cases z
  rcases set_some q with⟨_,z,_⟩|⟨n2,q⟩
  . cases z
  exact⟨q,List.getElem?_set_ne n1⟩) (λ_ _ _ _ _ _ _ _ e=>e) λp xs q z=>⟨q,z.1,z.2.1,λk pb dd q w=>by
  rcases set_some q with⟨rfl,_,hl⟩|⟨n1,q⟩
  . rw[List.length_set] at hl
    rw[List.getElem?_set_self (by rw[<-S.len];exact hl)] at w
    cases w
    exact z.2.2 j pa ds e ha
  rcases set_some q with⟨_,v,_⟩|⟨n2,q⟩
  . cases v
  rw[List.getElem?_set_ne n1] at w
  exact z.2.2 k pb dd q w⟩
theorem aKN{i j:Nat}{x y:Str}{p p2:Pos}(M:Mc X P Γ n)(hx:bP Γ i x=true)(hy:bO Γ j y=true):PS X (.Assign [.Name x p] (.Name y p2) pos) (wS X RT Y old σ (ex P (call P n) σ (.mov i j))):=by
 unfold bP at hx
 obtain⟨h1,h2,h3⟩:=eX hx
 refine cJ (lJ (i:=i) M.nd (by rw[M.N];exact eq_of_beq h1) (M.loc h2) (gN M hy) rfl (M.st x h2)) λD σV H t ⟨S,h⟩=>?_
 have h:OE X.K RT Y old H (match σ[j]? with
  | some (.own pa ds)=>if i=j then .bad else .next ((σ.set j .dead).set i (.own pa ds))
  | some (.sh pa d)=>.next (σ.set i (.sh (pa&&!noL d) d))
  | _=>.bad) D:=h
 cases e:σ[j]? with
 | none=>rw[e] at h;exact h.elim
 | some sl=>
  rw[e] at h
  cases sl with
  | dead=>exact h.elim
  | dct _=>exact h.elim
  | par _ _=>exact h.elim
  | own pa ds=>
   by_cases hij:i=j
   . have h:OE X.K RT Y old H (if i=j then .bad else .next ((σ.set j .dead).set i (.own pa ds))) D:=h
     rw[if_pos hij] at h;exact h.elim
   . have h:OE X.K RT Y old H (if i=j then .bad else .next ((σ.set j .dead).set i (.own pa ds))) D:=h
     rw[if_neg hij] at h
     obtain⟨a,xs,g1,g2⟩:=S.own j pa ds e
     exact⟨.ref a,g1,λ_=>(show dL X.K RT Y old H _ D.nx from h) RT _ H (Kp.refl RT H) bE (S.move e hij g1)⟩
  | sh pa d=>
   obtain⟨v,g1,g2⟩:=S.sh j pa d e
   refine⟨v,g1,λ_=>(show dL X.K RT Y old H (σ.set i (.sh (pa&&!noL d) d)) D.nx from h) RT _ H (Kp.refl RT H) bE (S.setSh ?_)⟩
   cases hn:noL d with
   | true=>exact Rep.free d v hn g2
   | false=>rw[Bool.not_false,Bool.and_true];exact g2
theorem aKO{t:T}{it:Hp.It}{b:Ss}{tg iter:Expr}{body:List Stmt}(M:Mc X P Γ n)(hx:qK Γ t tg=true)(hi:PI X tg iter (wI X P n RT Y old σ it))(hb:∀RT σ,PSs X body (wS X RT Y old σ (exs P (call P n) σ b)))(hs:∀x,foldedSetIterable iter X.env x=pure x) :
 PS X (.For tg iter body [] pos) (wS X RT Y old σ (ex P (call P n) σ (.for t it b))):=by
 have hp:PassesOwn (model X.prog X.w) X.A X.env X.xe:=by rw[M.xe];exact PassesOwn.never
 refine cJ (aHh hp M.calm hi (aFD M hx) (tN hb) hs) λD0 σV H t0 ⟨S,h⟩=>?_
 have h:=OE.tkE h
 revert h
 generalize tkE X.K D0=D
 intro h
 let f:Sg->Vl->O:=λσ x=>O.from σ (cC σ x t) λσ'=>exs P (call P n) σ' b
 have h:=OE.from (show OE X.K RT Y old H (O.from σ (walk P (call P n) σ it) λxs=>dQ f xs.1 (freeze σ xs.2)) D from h)
 refine⟨S,h.mono λxs hx J H1 t1 s1 ok=>?_⟩
 have S1:=S.grow s1 t1
 have Sf:=S1.frz xs.2
 refine⟨λi m σ1V Hc=>m=xs.1.length-i/\i<=xs.1.length/\∃RT1 σ1,Kp (rtF RT σ σV xs.2) H1 Hc/\(∀b,RT1 b->rtF RT σ σV xs.2 b\/H1 b=none)/\Sx X.K RT1 Y old σ1 σ1V Hc/\OE X.K RT1 Y old Hc (dQ f (xs.1.drop i) σ1) D,
  ⟨_,rfl,Nat.zero_le _,rtF RT σ σV xs.2,freeze σ xs.2,Kp.refl _ _,bE,Sf,OE.mono (Kp.same s1) (λb z=>.inl z.1) hx⟩,?_⟩
 rintro i m σ1V Hc ⟨hm,hi,RT1,σ1,kp,hsub,Sc,ho⟩
 have okc:=ok.ok (rtF RT σ σV xs.2) (λ_ z=>z) i Hc kp
 by_cases hlt:i<xs.1.length
 . refine .inr ⟨okc.1 hlt,λσ' H'=>xs.1.length-(i+1)=xs.1.length-(i+1)/\i+1<=xs.1.length/\∃RT1 σ1,Kp (rtF RT σ σV xs.2) H1 H'/\(∀b,RT1 b->rtF RT σ σV xs.2 b\/H1 b=none)/\Sx X.K RT1 Y old σ1 σ' H'/\OE X.K RT1 Y old H' (dQ f (xs.1.drop (i+1)) σ1) D,
    λσ' H' hN=>⟨_,by omega,hN⟩,λx H' hy=>?_⟩
   have hxi:xs.1[i]? = some xs.1[i]:=List.getElem?_eq_getElem hlt
   obtain⟨sm,tkf,rv⟩:=okc.2.2 x H' hy xs.1[i] hxi
   have hmem:xs.1[i]∈xs.1:=List.getElem_mem hlt
   rw[List.drop_eq_getElem_cons hlt] at ho
   have Sc':=Sc.grow sm (tkf Sc.tk)
   have rep:Rep X.K H' (λa=>RT1 a\/exB Y old xs.1[i].pa a) xs.1[i].d x:=rv.weak λa z=>by
    rcases z with z|z
    . rcases hsub a z with q|q
      . exact .inl (.inl ⟨q.1,λw=>q.2 (w.mono (ok.sub _ hmem))⟩)
      . exact .inr ⟨q,Sc.tk a (Sc.rt a z).ne⟩
    . exact .inl (.inr z)
   have ho:OE X.K RT1 Y old Hc (match f σ1 xs.1[i] with
    | .next σ'=>dQ f (xs.1.drop (i+1)) σ'
    | .cnt σ'=>dQ f (xs.1.drop (i+1)) σ'
    | .brk σ'=>.next σ'
    | o=>o) D:=ho
   cases hset:cC σ1 xs.1[i] t with
   | exc e=>rw[show f σ1 xs.1[i]=.exc e σ1 by show O.from σ1 (cC σ1 xs.1[i] t) _=_;rw[hset];rfl] at ho;exact ho.elim
   | bad=>rw[show f σ1 xs.1[i]=.bad by show O.from σ1 (cC σ1 xs.1[i] t) _=_;rw[hset];rfl] at ho;exact ho.elim
   | ok σ2=>
    rw[show f σ1 xs.1[i]=exs P (call P n) σ2 b by show O.from σ1 (cC σ1 xs.1[i] t) _=_;rw[hset];rfl] at ho
    refine aDq Sc' (ok.nofr _ hmem) rep hset λσ2V S2 _=>⟨RT1,σ2,S2,?_⟩
    have kS:Kp RT1 Hc H':=Kp.same sm
    have again:∀{σ':Sg} {RT':Addr->Prop} {σV':L2.St} {H'':Hp},Kp RT1 H' H''->(∀b,RT' b->RT1 b\/H' b=none)->Sx X.K RT' Y old σ' σV' H''->OE X.K RT1 Y old Hc (dQ f (xs.1.drop (i+1)) σ') D ->
     (xs.1.length-(i+1)=xs.1.length-(i+1)/\i+1<=xs.1.length/\∃RT1 σ1,Kp (rtF RT σ σV xs.2) H1 H''/\(∀b,RT1 b->rtF RT σ σV xs.2 b\/H1 b=none)/\Sx X.K RT1 Y old σ1 σV' H''/\OE X.K RT1 Y old H'' (dQ f (xs.1.drop (i+1)) σ1) D):=λ{σ' RT' σV' H''} k2 s2 S3 h3=>by
     have k3:Kp RT1 Hc H'':=kS.chain bE k2
     have s3:∀b,RT' b->RT1 b\/Hc b=none:=gD kS bE s2
     exact⟨rfl,hlt,RT',σ',kp.chain hsub k3,gD kp hsub s3,S3,OE.mono k3 s3 h3⟩
    cases q:exs P (call P n) σ2 b with
    | next σ'=>rw[q] at ho;exact λRT' σV' H'' k2 s2 S3=>again k2 s2 S3 ho
    | cnt σ'=>rw[q] at ho;exact λRT' σV' H'' k2 s2 S3=>again k2 s2 S3 ho
    | brk σ'=>rw[q] at ho;exact dL.mono kS bE (show dL X.K RT1 Y old Hc σ' D.nx from ho)
    | ret v=>rw[q] at ho;exact OE.mono (o:=.ret v) kS bE ho
    | exc e σ'=>rw[q] at ho;exact ho.elim
    | bad=>rw[q] at ho;exact ho.elim
 . have hie:i=xs.1.length:=by omega
   subst hie
   rw[List.drop_length] at ho
   exact .inl ⟨okc.2.1 (Nat.le_refl _),(show dL X.K RT1 Y old Hc σ1 D.nx from ho) RT1 σ1V Hc (Kp.refl _ _) bE Sc⟩
theorem aKP{c:E}{b:Ss}{e:Expr}{body:List Stmt}(M:Mc X P Γ n)(hc:∀RT σ,PT X e (WT X P n RT Y old σ c))(hb:∀RT σ,PSs X body (wS X RT Y old σ (exs P (call P n) σ b))):PS X (.While e body [] pos) (wS X RT Y old σ (ex P (call P n) σ (.whl c b))):=by
 have hp:PassesOwn (model X.prog X.w) X.A X.env X.xe:=by rw[M.xe];exact PassesOwn.never
 refine cJ (aCn hp (tc:=λσV H Q=>∃RT σ,WT X P n RT Y old σ c σV H Q) (λpins s σV H Q I ⟨RT,σ,hw⟩=>hc RT σ pins s σV H Q I hw) (tN hb)) λD0 σV H t0 ⟨S,h⟩=>?_
 have h:=OE.tkE h
 revert h
 generalize tkE X.K D0=D
 intro h
 have h:OE X.K RT Y old H (fA (λσ=>tst P (call P n) σ c) (λσ=>exs P (call P n) σ b) fZ σ) D:=h
 refine⟨λm σ1V Hc=>∃RT1 σ1,Sx X.K RT1 Y old σ1 σ1V Hc/\OE X.K RT1 Y old Hc (fA (λσ=>tst P (call P n) σ c) (λσ=>exs P (call P n) σ b) m σ1) D,⟨fZ,RT,σ,S,h⟩,?_⟩
 rintro m σ1V Hc ⟨RT1,σ1,Sc,ho⟩
 cases m with
 | zero=>exact ho.elim
 | succ m=>
  have ho:=OE.from (show OE X.K RT1 Y old Hc (O.from σ1 (tst P (call P n) σ1 c) λk=>if k=true then (match exs P (call P n) σ1 b with
   | .next σ'=>fA (λσ=>tst P (call P n) σ c) (λσ=>exs P (call P n) σ b) m σ'
   | .cnt σ'=>fA (λσ=>tst P (call P n) σ c) (λσ=>exs P (call P n) σ b) m σ'
   | .brk σ'=>.next σ'
   | o=>o) else .next σ1) D from ho)
  refine⟨RT1,σ1,Sc,ho.mono λk hk H1 t1 s1=>?_⟩
  have S1:=Sc.grow s1 t1
  have kS:Kp RT1 Hc H1:=Kp.same s1
  cases k with
  | false=>
   rw[if_neg bN] at hk
   exact aHy ((show dL X.K RT1 Y old Hc σ1 D.nx from hk) RT1 σ1V H1 kS bE S1)
  | true=>
   rw[if_pos rfl] at hk
   refine aJK ⟨λσV' H'=>∃RT1 σ1,Sx X.K RT1 Y old σ1 σV' H'/\OE X.K RT1 Y old H' (fA (λσ=>tst P (call P n) σ c) (λσ=>exs P (call P n) σ b) m σ1) D,λσ' H' hN=>⟨m,Nat.lt_succ_self m,hN⟩,RT1,σ1,S1,?_⟩
   cases q:exs P (call P n) σ1 b with
   | next σ'=>rw[q] at hk;exact λRT' σV' H'' k2 s2 S3=>⟨RT',σ',S3,OE.mono (kS.chain bE k2) (gD kS bE s2) hk⟩
   | cnt σ'=>rw[q] at hk;exact λRT' σV' H'' k2 s2 S3=>⟨RT',σ',S3,OE.mono (kS.chain bE k2) (gD kS bE s2) hk⟩
   | brk σ'=>rw[q] at hk;exact dL.mono kS bE (show dL X.K RT1 Y old Hc σ' D.nx from hk)
   | ret v=>rw[q] at hk;exact OE.mono (o:=.ret v) kS bE hk
   | exc e σ'=>rw[q] at hk;exact hk.elim
   | bad=>rw[q] at hk;exact hk.elim
end
section
variable {X:Cx} {P:Pg} {Γ:Ct} {n:Nat} {RT Y old:Addr->Prop} {σ:Sg} {pos:Pos}
end
section
variable {X:Cx} {P:Pg} {Γ:Ct} {n:Nat} {RT Y old:Addr->Prop} {σ:Sg} {pos:Pos} {l:Nat} {K:Fg} {H:Hp} {σV:L2.St}
theorem Sx.putDct(S:Sx K RT Y old σ σV H){p:Addr}(hn:H p=none){xs0:List NE}{ks0:List (NK×D)}(t:Tk K (upd H p (dN p xs0)))(hk0:xs0.map pj=ks0.map kV)(hx0:∀x∈xs0,cV K H x.1 x.2.1)(i:Nat):Sx K (λb=>RT b\/b=p) Y old (σ.set i (.dct ks0)) (σV.set i (some (.ref p))) (upd H p (dN p xs0)):=by
 have s:aR H (upd H p (dN p xs0)):=aR.new hn
 have ha:upd H p (dN p xs0) p=some (dN p xs0):=bW
 have hk:=t p (by rw[ha];simp)
 have w:∀{pa:Bool} b,(RT b\/b=p)\/exB Y old pa b->b=p\/RT b\/exB Y old pa b:=λ{pa} b z=>by
  rcases z with(z|z)|z
  . exact .inr (.inl z)
  . exact .inl z
  . exact .inr (.inr z)
 exact {
  sh:=λj pa d e=>by
   rcases set_some e with⟨_,z,_⟩|⟨hij,e⟩
   . cases z
   . obtain⟨v,h1,h2⟩:=S.sh j pa d e
     exact⟨v,by rw[List.getElem?_set_ne hij];exact h1,((h2.out hn hk).grow s).weak w⟩
  own:=λj pa ds e=>by
   rcases set_some e with⟨_,z,_⟩|⟨hij,e⟩
   . cases z
   . obtain⟨b,ys,h1,h2,h3,h4,h5⟩:=S.own j pa ds e
     exact⟨b,ys,by rw[List.getElem?_set_ne hij];exact h1,s _ _ h2,.inl h3,h4,((h5.out hn hk).grow s).weak w⟩
  trk:=λb z q=>by
   rcases z with(z|z)|z
   . exact S.trk b (.inl z) (s.free q)
   . rw[z,ha] at q;cases q
   . exact S.trk b (.inr z) (s.free q)
  yo:=S.yo
  tk:=t
  rt:=λb z=>by
   rcases z with z|z
   . exact(S.rt b z).grow s
   . rw[z];exact .inr ⟨xs0,ha⟩
  inj:=λj j' pa' pa'' ds ds' a e1 e2 e3 e4=>by
   rcases set_some e1 with⟨_,e,_⟩|⟨n1,e1⟩
   . cases e
   rcases set_some e2 with⟨_,e,_⟩|⟨n2,e2⟩
   . cases e
   rw[List.getElem?_set_ne n1] at e3
   rw[List.getElem?_set_ne n2] at e4
   exact S.inj j j' pa' pa'' ds ds' a e1 e2 e3 e4
  len:=by rw[List.length_set,List.length_set];exact S.len
  dx:={
   at':=λj ds e=>by
    rcases set_some e with⟨rfl,z,hl⟩|⟨hij,e⟩
    . cases z
      exact⟨p,xs0,List.getElem?_set_self (by rw[<-S.len];exact hl),ha,.inr rfl,λz=>S.trk p (.inr (.inr z)) hn (t p (by rw[ha];simp)),hk0,λx hx=>cV.imp (λ_ _ r=>aR.seqT s r) (hx0 x hx)⟩
    . obtain⟨a,xs,h1,h2,h3,h4,h5,h6⟩:=S.dx.at' j ds e
      exact⟨a,xs,by rw[List.getElem?_set_ne hij];exact h1,s _ _ h2,.inl h3,h4,h5,λx hx=>cV.imp (λ_ _ r=>aR.seqT s r) (h6 x hx)⟩
   inj:=λj j' ds ds' a e1 e2 e3 e4=>by
    have fr:∀{j:Nat} {ds:List (NK×D)},σ[j]? = some (.dct ds)->σV[j]? = some (some (.ref p))->False:=λ{j ds} e q=>by
     obtain⟨a',xs',h1,h2,_⟩:=S.dx.at' j ds e
     rw[q] at h1
     cases h1
     rw[hn] at h2;cases h2
    rcases set_some e1 with⟨rfl,e,hl⟩|⟨n1,e1⟩
    . rcases set_some e2 with⟨rfl,_,_⟩|⟨n2,e2⟩
      . rfl
      . rw[List.getElem?_set_self (by rw[<-S.len];exact hl)] at e3
        cases e3
        rw[List.getElem?_set_ne n2] at e4
        exact(fr e2 e4).elim
    . rw[List.getElem?_set_ne n1] at e3
      rcases set_some e2 with⟨rfl,e,hl⟩|⟨n2,e2⟩
      . rw[List.getElem?_set_self (by rw[<-S.len];exact hl)] at e4
        cases e4
        exact(fr e1 e3).elim
      . rw[List.getElem?_set_ne n2] at e4
        exact S.dx.inj j j' ds ds' a e1 e2 e3 e4
   at2:=λj ds es e=>by
    rcases set_some e with⟨_,z,_⟩|⟨hij,e⟩
    . cases z
    . obtain⟨a,b,xs,vx,vy,h1,ha',hb,qb,hl,r1,r2⟩:=S.dx.at2 j ds es e
      have pt:∀{q:Addr},Pt RT old σ σV q->Pt (λb=>RT b\/b=p) old (σ.set i (.dct ks0)) (σV.set i (some (.ref p))) q:=λ{q} z=>⟨.inl z.1,z.2.1,λk pa dd w=>by
       rcases set_some w with⟨_,v,_⟩|⟨hik,w⟩
       . cases v
       . rw[List.getElem?_set_ne hik];exact z.2.2 k pa dd w⟩
      exact⟨a,b,xs,vx,vy,by rw[List.getElem?_set_ne hij];exact h1,aR.seqT s ha',s _ _ hb,pt qb,hl,r1.grow s,r2.grow s⟩
   one:=λj j' ds es ds' es' e1 e2=>by
    rcases set_some e1 with⟨_,z,_⟩|⟨_,e1⟩
    . cases z
    rcases set_some e2 with⟨_,z,_⟩|⟨_,e2⟩
    . cases z
    exact S.dx.one j j' ds es ds' es' e1 e2 } }
theorem aIq{i:Nat}{x:Str}{p p2:Pos}(M:Mc X P Γ n)(hx:bP Γ i x=true):PS X (.Assign [.Name x p] (.Dict [] [] p2) pos) (wS X RT Y old σ (ex P (call P n) σ (.dnew i))):=by
 unfold bP at hx
 obtain⟨h1,h2,h3⟩:=eX hx
 refine cJ (lJ (i:=i) M.nd (by rw[M.N];exact eq_of_beq h1) (M.loc h2) aCG rfl (M.st x h2)) λD σV H t ⟨S,h⟩=>?_
 exact λq hq t'=>(show dL X.K RT Y old H (σ.set i (.dct [])) D.nx from h) (λb=>RT b\/b=q) _ _ (Kp.same (aR.new hq)) (λb z=>z.imp id λz=>by rw[z];exact hq) (S.putDct hq t' rfl (λx hx=>by cases hx) i)
theorem Sx.mutD(S:Sx K RT Y old σ σV H){i:Nat}{kvs kvs':List (NK×D)}{a:Addr}{xs xs':List NE}(e:σ[i]? = some (.dct kvs))(ha:σV[i]? = some (some (.ref a)))(hax:H a=some (dN a xs))(haR:RT a)(hao:¬ old a)(r1:xs'.map pj=kvs'.map kV)(r:∀x∈xs',cV K H x.1 x.2.1) :
 Sx K RT Y old (σ.set i (.dct kvs')) σV (upd H a (dN a xs')):=by
 have kp:Kp (λb=>b=a) H (upd H a (dN a xs')):=λb o q n=>by rw[aP n];exact q
 have hR:∀b,b=a->RtO H b:=λb z=>.inr ⟨xs,by rw[z];exact hax⟩
 have hl:∀{b:Addr} {ys:List V},H b=some (.lst ys)->b≠a:=λ{b ys} q z=>by rw[z,hax] at q;cases q
 exact {
  sh:=λj pb d q=>by
   rcases set_some q with⟨_,z,_⟩|⟨_,q⟩
   . cases z
   . obtain⟨v,g1,g2⟩:=S.sh j pb d q
     exact⟨v,g1,g2.kp kp hR λb z=>.inl (by rw[z];exact haR)⟩
  own:=λj pb dd q=>by
   rcases set_some q with⟨_,z,_⟩|⟨_,q⟩
   . cases z
   . obtain⟨b,ys,g1,g2,g3,g4,g5⟩:=S.own j pb dd q
     exact⟨b,ys,g1,kp b _ g2 (hl g2),g3,g4,g5.kp kp hR λb z=>.inl (by rw[z];exact haR)⟩
  trk:=λb z q=>by
   by_cases hb:b=a
   . rw[hb,bW] at q;cases q
   . rw[aP hb] at q;exact S.trk b z q
  yo:=S.yo
  tk:=λb z=>by
   by_cases hb:b=a
   . rw[hb];exact S.tk a (by rw[hax];simp)
   . rw[aP hb] at z;exact S.tk b z
  rt:=λb z=>by
   by_cases hb:b=a
   . rw[hb];exact .inr ⟨xs',bW⟩
   . unfold RtO;rw[aP hb];exact S.rt b z
  inj:=λj j' pa' pa'' ds ds' b e1 e2 e3 e4=>by
   rcases set_some e1 with⟨_,e,_⟩|⟨n1,e1⟩
   . cases e
   rcases set_some e2 with⟨_,e,_⟩|⟨n2,e2⟩
   . cases e
   exact S.inj j j' pa' pa'' ds ds' b e1 e2 e3 e4
  len:=by rw[List.length_set];exact S.len
  dx:={
   at':=λj ds q=>by
    rcases set_some q with⟨rfl,z,_⟩|⟨hij,q⟩
    . cases z
      exact⟨a,xs',ha,bW,haR,hao,r1,λx hx=>cV.imp (λ_ _ z=>kp.seqT hR z) (r x hx)⟩
    . obtain⟨b,ys,h1,h2,h3,h4,h5,h6⟩:=S.dx.at' j ds q
      have hb:b≠a:=λz=>by
       subst z
       exact hij (S.dx.inj i j kvs ds b e q ha h1)
      exact⟨b,ys,h1,kp b _ h2 hb,h3,h4,h5,λx hx=>cV.imp (λ_ _ z=>kp.seqT hR z) (h6 x hx)⟩
   inj:=λj j' dd dd' b q1 q2=>by
    have get:∀{j:Nat} {dd:List (NK×D)},(σ.set i (.dct kvs'))[j]? = some (.dct dd)->∃d2,σ[j]? = some (.dct d2):=λ{j dd} q=>by
     rcases set_some q with⟨rfl,_,_⟩|⟨_,q⟩
     . exact⟨kvs,e⟩
     . exact⟨dd,q⟩
    obtain⟨_,z1⟩:=get q1
    obtain⟨_,z2⟩:=get q2
    exact S.dx.inj j j' _ _ b z1 z2
   at2:=λj ds es q=>by
    rcases set_some q with⟨_,z,_⟩|⟨hij,q⟩
    . cases z
    . obtain⟨a',b,zs,vx,vy,h1,ha',hb,qb,hn2,r1,r2⟩:=S.dx.at2 j ds es q
      have pt:∀{q:Addr},Pt RT old σ σV q->Pt RT old (σ.set i (.dct kvs')) σV q:=λ{q} z=>⟨z.1,z.2.1,λk pa dd w=>by
       rcases set_some w with⟨_,v,_⟩|⟨_,w⟩
       . cases v
       . exact z.2.2 k pa dd w⟩
      exact⟨a',b,zs,vx,vy,h1,kp.seqT hR ha',kp _ _ hb (hl hb),pt qb,hn2,Reps.noT (λ_ _ z=>kp.seqT hR z) ds zs hn2.1 r1,Reps.noT (λ_ _ z=>kp.seqT hR z) es _ hn2.2 r2⟩
   one:=λj j' ds es ds' es' e1 e2=>by
    rcases set_some e1 with⟨_,z,_⟩|⟨_,e1⟩
    . cases z
    rcases set_some e2 with⟨_,z,_⟩|⟨_,e2⟩
    . cases z
    exact S.dx.one j j' ds es ds' es' e1 e2 } }
theorem aDy(ks:List (NK×D))(k:NK×D):sX (ks.map kV) (kV k)=(eL ks k).map kV:=by
 have e:(ks.map kV).map (·.1)=ks.map (·.1):=by rw[List.map_map];rfl
 unfold sX eL
 rw[e]
 show(if k.1∈_ then _ else _)=_
 split
 . rw[List.map_map,List.map_map]
   refine List.map_congr_left λx _=>?_
   show(if x.1=k.1 then _ else _)=kV (if x.1=k.1 then _ else _)
   split <;> rfl
 . rw[List.map_append];rfl
theorem aAt:∀(ks acc:List (NK×D)),(ks.map kV).foldl sX (acc.map kV)=(ks.foldl eL acc).map kV
 | [],_=>rfl
 | k::ks,acc=>by
  rw[mC,List.foldl_cons,aDy,aAt ks];rfl
theorem putN_mem{xs:List NE}{k:NK}{b:Addr}{v:V}{x:NE}(h:x∈jK xs k b v):(∃y∈xs,y.1=x.1/\y.2.1=x.2.1)\/x=(k,b,v):=by
 unfold jK at h
 split at h
 . obtain⟨y,hy,e⟩:=List.mem_map.mp h
   refine .inl ⟨y,hy,?_⟩
   rw[<-e]
   split <;> exact⟨rfl,rfl⟩
 . rcases List.mem_append.mp h with z|z
   . exact .inl ⟨x,z,rfl,rfl⟩
   . exact .inr (List.mem_singleton.mp z)
theorem aIr{i:Nat}{c:E}{x:Str}{p p2:Pos}{ix v:Expr}(M:Mc X P Γ n)(hx:bO Γ i x=true)(hk:PE X ix (WE X P n RT Y old σ c))(he:PE X v (WE X P n RT Y old σ (.c (.bl true))))(hpl:bD ix=true) :
 PS X (.Assign [.Subscript (.Name x p) ix p2] v pos) (wS X RT Y old σ (ex P (call P n) σ (.dput i c))):=by
 refine cJ (xN he (aCm (gN M hx) hk (aHz (by have:=M.units;omega)) (by intro _;cases ix <;> first|rfl|cases hpl)) (by cases v <;> rfl) (by cases v <;> rfl)) λD σV H t ⟨S,h⟩=>?_
 have h:=OE.from (show OE X.K RT Y old H (O.from σ (ev P (call P n) σ c) λv=>(match σ[i]?,lR v.d with
  | some (.dct ks),some k=>if ks.length<lim then .next (σ.set i (.dct (eL ks (k,.bl true)))) else .bad
  | _,_=>.bad)) D from h)
 obtain⟨kv,ek,h⟩:=h.eq
 refine wE.one (p:=λx=>x=.cl (.bl true)) S rfl λw u H1 hw t1 S1 r1=>?_
 subst hw
 have hu:u=.bl true:=(r1.rv S)
 subst hu
 split at h
 . rename_i ks k e1 e2
   split at h
   . rename_i hl
     obtain⟨ad,xs,g1,g2,g3,g4,g5,g6⟩:=S.dx.at' i ks e1
     refine⟨.ref ad,g1,S1,?_⟩
     rw[ek]
     intro uk H2 t2 r2
     have s2:=r1.1.trans r2.1
     have S2:=S.grow s2 t2
     obtain⟨b,rfl,hb⟩:=yN e2 (r2.rv S1)
     have g6':∀x∈xs,cV X.K H2 x.1 x.2.1:=λx hx=>cV.imp (λ_ _ r=>aR.seqT s2 r) (g6 x hx)
     have hlen:xs.length=ks.length:=by have:=congrArg List.length g5;rwa [lM,lM] at this
     refine⟨ad,b,xs,k,rfl,rfl,s2 _ _ g2,g6',hb,by have:=tR;omega,λt3=>?_⟩
     refine(show dL X.K RT Y old H (σ.set i (.dct (eL ks (k,.bl true)))) D.nx from h) RT _ _ (λb' o q nn=>by rw[aP λz=>nn (by rw[z];exact g3)];exact s2 _ _ q) bE ?_
     refine S2.mutD e1 g1 (s2 _ _ g2) g3 g4 (by rw[vA,g5];exact aDy ks (k,.bl true)) λx hx=>?_
     rcases putN_mem hx with z|z
     . obtain⟨y,hy,e1,e2⟩:=z
       rw[<-e1,<-e2];exact g6' y hy
     . rw[z];exact hb
   . exact h.elim
 . exact h.elim
theorem aFH{ex:Addr->Prop}{d:D}{u:V}(h:aHD d=true)(r:Rep K H ex d u):u=dV d:=by
 cases d <;> first|exact r|cases h
theorem mV{ex:Addr->Prop}:∀{ds:List D} {ks:List (NK×D)} {xs:List V},gL ds=some ks->Reps K H ex ds xs->Paired (aCJ K H) xs (ks.map kV)
 | [],ks,xs,h,r=>by
  cases h
  rw[show xs=[] from r]
  exact .nil
 | d::ds,ks,xs,h,r=>by
  obtain⟨x,r',e,h1,h2⟩:=r
  subst e
  unfold gL at h
  split at h
  . rename_i he;cases he
  . rename_i k v ds' he
    cases he
    split at h
    . rename_i a q e1 e0 e2
      cases h
      obtain⟨c,ys,rfl,q1,y1,r1,rfl,hk,y2,r2,rfl,hb,z⟩:=h1
      have z:r2=[]:=z
      have hb:y2=dV v:=aFH e0 hb
      subst z hb
      obtain⟨b,rfl,hb⟩:=yN e1 hk
      exact .cons ⟨c,b,rfl,q1,hb⟩ (mV e2 h2)
    . cases h
  . cases h
theorem aFI{i:Nat}{c:E}{x f:Str}{p p2 p3:Pos}{y:Expr}(M:Mc X P Γ n)(hx:bP Γ i x=true)(hf:f=("dict" : Str))(hg:eI Γ f=true)(hy:PE X y (WE X P n RT Y old σ c))(hp:bD y=true) :
 PS X (.Assign [.Name x p] (.Call (.Name f p2) [y] [] p3) pos) (wS X RT Y old σ (ex P (call P n) σ (.dfrom i c))):=by
 unfold bP at hx
 obtain⟨h1,h2,h3⟩:=eX hx
 subst hf
 refine cJ (lJ (i:=i) M.nd (by rw[M.N];exact eq_of_beq h1) (M.loc h2) (iS (yC (by have:=M.units;omega) M.room.hd) (M.gl hg) (M.md.blt _ (by decide)) (by decide +kernel) (iR hy nT (aD hp)) (by decide) (by decide) (aD hp) rfl) rfl (M.st x h2)) λD σV H t ⟨S,h⟩=>?_
 have h:=OE.from (show OE X.K RT Y old H (O.from σ (ev P (call P n) σ c) λv=>(match v.fr,v.d with
  | true,.lst ds=>(match gL ds with
   | some ks=>.next (σ.set i (.dct (ks.foldl eL [])))
   | none=>.bad)
  | _,_=>.bad)) D from h)
 refine wE.one S h λv u H1 hv t1 S1 r1=>?_
 split at hv
 . rename_i ds e1 e2
   split at hv
   . rename_i ks e3
     have r2:=r1.2
     rw[if_pos e1] at r2
     obtain⟨a,xs,ds',rfl,e4,e5,e6,rr⟩:=r2
     rw[e2] at e4
     cases e4
     refine⟨a,xs,ks.map kV,rfl,e6,mV e3 rr,λq hq xs' k1 k2 t'=>?_⟩
     exact(show dL X.K RT Y old H (σ.set i (.dct (ks.foldl eL []))) D.nx from hv) (λb=>RT b\/b=q) _ _ (Kp.same (r1.1.trans (aR.new hq))) (λb z=>z.imp id λz=>by rw[z];exact r1.1.free hq) (S1.putDct hq t' (k1.trans (aAt ks [])) k2 i)
   . exact hv.elim
 . exact hv.elim
end
section
variable {X:Cx} {P:Pg} {Γ:Ct} {n:Nat} {RT Y old:Addr->Prop} {σ:Sg} {pos:Pos} {l:Nat} {K:Fg} {H H':Hp} {σV:L2.St}
theorem oT(h:aCN σ=true){j:Nat}{ds es:List D}(e:σ[j]? = some (.par ds es)):False:=by
 have:=List.all_eq_true.mp h _ (mG e)
 cases this
theorem Sx.putTld(S:Sx K RT Y old σ σV H)(s:aR H H')(t:Tk K H'){a b:Addr}{xs:List V}{vx vy:V}{ds es:List D}(nb:H b=none)(ha:SqT K H' a [vx,.ref b,vy])(hb:H' b=some (.lst xs))(n1:noLs ds=true)(n2:noLs es=true)
 (r1:Reps K H' (λ_=>False) ds xs) (r2:Reps K H' (λ_=>False) es [vx,vy]) (np:aCN σ=true) (i:Nat):Sx K (λq=>RT q\/q=b) Y old (σ.set i (.par ds es)) (σV.set i (some (.ref a))) H':=by
 have kb:=t b (by rw[hb];simp)
 have w:∀{pa:Bool} q,(RT q\/q=b)\/exB Y old pa q->q=b\/RT q\/exB Y old pa q:=λ{pa} q z=>by
  rcases z with(z|z)|z
  . exact .inr (.inl z)
  . exact .inl z
  . exact .inr (.inr z)
 have pt:Pt (λq=>RT q\/q=b) old (σ.set i (.par ds es)) (σV.set i (some (.ref a))) b:=⟨.inr rfl,λo=>S.trk b (.inr (.inr o)) nb kb,λk pa dd e v=>by
  rcases set_some e with⟨_,f,_⟩|⟨hik,e⟩
  . cases f
  . rw[List.getElem?_set_ne hik] at v
    obtain⟨b',_,h1,h2,_⟩:=S.own k pa dd e
    rw[v] at h1
    cases h1
    rw[nb] at h2;cases h2⟩
 exact {
  sh:=λj pa d e=>by
   rcases set_some e with⟨_,z,_⟩|⟨hij,e⟩
   . cases z
   . obtain⟨v,h1,h2⟩:=S.sh j pa d e
     exact⟨v,by rw[List.getElem?_set_ne hij];exact h1,((h2.out nb kb).grow s).weak w⟩
  own:=λj pa dd e=>by
   rcases set_some e with⟨_,z,_⟩|⟨hij,e⟩
   . cases z
   . obtain⟨b',zs,h1,h2,h3,h4,h5⟩:=S.own j pa dd e
     exact⟨b',zs,by rw[List.getElem?_set_ne hij];exact h1,s _ _ h2,.inl h3,h4,((h5.out nb kb).grow s).weak w⟩
  trk:=λq z f=>by
   rcases z with(z|z)|z
   . exact S.trk q (.inl z) (s.free f)
   . rw[z,hb] at f;cases f
   . exact S.trk q (.inr z) (s.free f)
  yo:=S.yo
  tk:=t
  rt:=λq z=>by
   rcases z with z|z
   . exact(S.rt q z).grow s
   . rw[z];exact .inl ⟨xs,hb⟩
  inj:=λj j' pa' pa'' dd dd' q e1 e2 e3 e4=>by
   rcases set_some e1 with⟨_,e,_⟩|⟨n1,e1⟩
   . cases e
   rcases set_some e2 with⟨_,e,_⟩|⟨n2,e2⟩
   . cases e
   rw[List.getElem?_set_ne n1] at e3
   rw[List.getElem?_set_ne n2] at e4
   exact S.inj j j' pa' pa'' dd dd' q e1 e2 e3 e4
  len:=by rw[List.length_set,List.length_set];exact S.len
  dx:={
   at':=λj dd e=>by
    rcases set_some e with⟨_,z,_⟩|⟨hij,e⟩
    . cases z
    . obtain⟨q,zs,h1,h2,h3,h4,h5,h6⟩:=S.dx.at' j dd e
      exact⟨q,zs,by rw[List.getElem?_set_ne hij];exact h1,s _ _ h2,.inl h3,h4,h5,λx hx=>cV.imp (λ_ _ r=>aR.seqT s r) (h6 x hx)⟩
   inj:=λj j' dd dd' q e1 e2 e3 e4=>by
    rcases set_some e1 with⟨_,e,_⟩|⟨n1,e1⟩
    . cases e
    rcases set_some e2 with⟨_,e,_⟩|⟨n2,e2⟩
    . cases e
    rw[List.getElem?_set_ne n1] at e3
    rw[List.getElem?_set_ne n2] at e4
    exact S.dx.inj j j' dd dd' q e1 e2 e3 e4
   at2:=λj dd ee e=>by
    rcases set_some e with⟨rfl,z,hl⟩|⟨hij,e⟩
    . cases z
      exact⟨a,b,xs,vx,vy,List.getElem?_set_self (by rw[<-S.len];exact hl),ha,hb,pt,⟨n1,n2⟩,r1,r2⟩
    . exact(oT np e).elim
   one:=λj j' dd ee dd' ee' e1 e2=>by
    rcases set_some e1 with⟨h1,_,_⟩|⟨_,e1⟩
    . rcases set_some e2 with⟨h2,_,_⟩|⟨_,e2⟩
      . exact h1.symm.trans h2
      . exact(oT np e2).elim
    . exact(oT np e1).elim } }
theorem aKQ{i f:Nat}{cs:Es}{x y:Str}{p p2 p3:Pos}{e:Expr}{es:List Expr}(M:Mc X P Γ n)(hx:bP Γ i x=true)(hf:Γ.fns[f]? = some y)(hg:eI Γ y=true)(ho:cT y=true)(ha:PA X (e::es) (WA X P n RT Y old σ cs))(hp:(e::es).all bD=true) :
 PS X (.Assign [.Name x p] (.Call (.Name y p2) (e::es) [] p3) pos) (wS X RT Y old σ (ex P (call P n) σ (.tld i f cs))):=by
 obtain⟨fa,fd,ps,h1,h2,h3,h4⟩:=M.md.fn f y hf
 unfold bP at hx
 obtain⟨x1,x2,x3⟩:=eX hx
 have hp':bD e=true/\es.all bD=true:=by simpa using hp
 refine cJ (lJ (i:=i) M.nd (by rw[M.N];exact eq_of_beq x1) (M.loc x2) (sK h4 M.room (M.gl hg) h1 h2 h3 .nil aAf ha (aS ho) (aD hp'.1) (dB hp'.2)) rfl (M.st x x2)) λD σV H t ⟨S,h⟩=>?_
 have h:=OE.from (show OE X.K RT Y old H (O.from σ (evs P (call P n) σ cs) λvs=>O.from σ (call P n f (vs.map (·.d))) λr=>match aCO σ r with
  | some s=>.next (σ.set i s)
  | none=>.bad) D from h)
 refine⟨S,h.mono λvs hv us H1 t1 s1 r1=>?_⟩
 have S1:=S.grow s1 t1
 refine⟨vs.map (·.d),λb=>Od X.K H1 b/\exV RT Y old σ σV (eZ vs) (cQ vs) b,λa z=>z.1,by rw[List.append_nil];exact r1.all.weak λa z=>z.2,(OE.from hv).mono λr hr u H' t' s' rr _=>?_⟩
 obtain⟨d,fr,pa⟩:=r
 unfold aCO at hr
 simp only at hr
 split at hr
 . rename_i s0 e0
   split at e0
   . cases e0
     unfold Rr at rr
     rw[if_neg (by simp)] at rr
     have hu:u=.non:=rr
     subst hu
     refine(show dL X.K RT Y old H (σ.set i (.sh false .non)) D.nx from hr) RT _ _ (Kp.same (s1.trans s')) bE ((S1.grow s' t').setSh rfl)
   . rename_i x' ds y'
     split at e0
     . rename_i hc
       cases e0
       simp only[bA] at hc
       obtain⟨⟨c1,c2⟩,c3⟩:=hc
       unfold Rr at rr
       rw[if_neg (by simp)] at rr
       obtain⟨a,ws,rfl,qa,vx,w1,rfl,k1,vl,w2,rfl,⟨b,xs,rfl,_,⟨nb,hd⟩,k2⟩,vy,w3,rfl,k3,e3⟩:=rr
       rw[show w3=[] from e3] at qa
       have hk:X.K.lookup fa≠none:=λz=>by simp[PySem.W.keepIn,z] at h2
       have hb:=hd ⟨fa,hk,.inr ⟨rfl,λ_=>hk⟩⟩
       obtain⟨n1,n2⟩:=aDf (K:=X.K) (H:=H1) (a:=b) λz=>nb (.inr ⟨rfl,z⟩)
       have c1':noL x'=true/\noL y'=true:=by simpa[noLs] using c1
       refine(show dL X.K RT Y old H (σ.set i (.par ds [x',y'])) D.nx from hr) (λq=>RT q\/q=b) _ _ (Kp.same (s1.trans s')) (λz w=>w.imp id λw=>by rw[w];exact s1.free n1) ?_
       exact S1.putTld s' t' n1 qa hb c2 c1 (Reps.free _ _ c2 k2) ⟨vx,_,rfl,Rep.free _ _ c1'.1 k1,vy,_,rfl,Rep.free _ _ c1'.2 k3,rfl⟩ c3 i
     . cases e0
   . cases e0
 . exact hr.elim
theorem Sx.mutP(S:Sx K RT Y old σ σV H){i:Nat}{ds es ds':List D}{p a:Addr}{xs0 xs':List V}{vx vy:V}(e:σ[i]? = some (.par ds es))(hp:H p=some (.lst xs0))(pp:Pt RT old σ σV p)
 (g1:σV[i]? = some (some (.ref a))) (ha:SqT K H a [vx,.ref p,vy]) (n1:noLs ds'=true) (n2:noLs es=true) (r1:Reps K H (λ_=>False) ds' xs') (r2:Reps K H (λ_=>False) es [vx,vy]) :
 Sx K RT Y old (σ.set i (.par ds' es)) σV (upd H p (.lst xs')):=by
 have kp:Kp (λb=>b=p) H (upd H p (.lst xs')):=λb o q n=>by rw[aP n];exact q
 have hR:∀b,b=p->RtO H b:=λb z=>.inl ⟨xs0,by rw[z];exact hp⟩
 have pt:∀{q:Addr},Pt RT old σ σV q->Pt RT old (σ.set i (.par ds' es)) σV q:=λ{q} z=>⟨z.1,z.2.1,λk pa dd w=>by
  rcases set_some w with⟨_,v,_⟩|⟨_,w⟩
  . cases v
  . exact z.2.2 k pa dd w⟩
 have hd:∀{b:Addr} {ys:List NE},H b=some (dN b ys)->b≠p:=λ{b ys} q z=>by rw[z,hp] at q;cases q
 have par:∀{j:Nat} {dd ee:List D},(σ.set i (.par ds' es))[j]? = some (.par dd ee)->j=i:=λ{j dd ee} q=>by
  rcases set_some q with⟨z,_,_⟩|⟨_,q⟩
  . exact z.symm
  . exact S.dx.one j i _ _ _ _ q e
 exact {
  sh:=λj pb d q=>by
   rcases set_some q with⟨_,z,_⟩|⟨_,q⟩
   . cases z
   . obtain⟨v,g1,g2⟩:=S.sh j pb d q
     exact⟨v,g1,g2.kp kp hR λb z=>.inl (by rw[z];exact pp.1)⟩
  own:=λj pb dd q=>by
   rcases set_some q with⟨_,z,_⟩|⟨_,q⟩
   . cases z
   . obtain⟨b,ys,g1,g2,g3,g4,g5⟩:=S.own j pb dd q
     exact⟨b,ys,g1,kp b _ g2 (λz=>pp.2.2 j pb dd q (by rw[<-z];exact g1)),g3,g4,g5.kp kp hR λb z=>.inl (by rw[z];exact pp.1)⟩
  trk:=λb z q=>by
   by_cases hb:b=p
   . rw[hb,bW] at q;cases q
   . rw[aP hb] at q;exact S.trk b z q
  yo:=S.yo
  tk:=λb z=>by
   by_cases hb:b=p
   . rw[hb];exact S.tk p (by rw[hp];simp)
   . rw[aP hb] at z;exact S.tk b z
  rt:=λb z=>by
   by_cases hb:b=p
   . rw[hb];exact .inl ⟨xs',bW⟩
   . unfold RtO;rw[aP hb];exact S.rt b z
  inj:=λj j' pa' pa'' dd dd' b e1 e2 e3 e4=>by
   rcases set_some e1 with⟨_,e,_⟩|⟨n1,e1⟩
   . cases e
   rcases set_some e2 with⟨_,e,_⟩|⟨n2,e2⟩
   . cases e
   exact S.inj j j' pa' pa'' dd dd' b e1 e2 e3 e4
  len:=by rw[List.length_set];exact S.len
  dx:={
   at':=λj dd q=>by
    rcases set_some q with⟨_,z,_⟩|⟨_,q⟩
    . cases z
    . obtain⟨b,ys,h1,h2,h3,h4,h5,h6⟩:=S.dx.at' j dd q
      exact⟨b,ys,h1,kp b _ h2 (hd h2),h3,h4,h5,λx hx=>cV.imp (λ_ _ z=>kp.seqT hR z) (h6 x hx)⟩
   inj:=λj j' dd dd' b e1 e2=>by
    rcases set_some e1 with⟨_,e,_⟩|⟨n1,e1⟩
    . cases e
    rcases set_some e2 with⟨_,e,_⟩|⟨n2,e2⟩
    . cases e
    exact S.dx.inj j j' dd dd' b e1 e2
   at2:=λj dd ee q=>by
    have hj:=par q
    subst hj
    rcases set_some q with⟨_,z,_⟩|⟨hij,_⟩
    . cases z
      exact⟨a,p,xs',vx,vy,g1,kp.seqT hR ha,bW,pt pp,⟨n1,n2⟩,Reps.noT (λ_ _ z=>kp.seqT hR z) _ _ n1 r1,Reps.noT (λ_ _ z=>kp.seqT hR z) _ _ n2 r2⟩
    . exact absurd rfl hij
   one:=λj j' dd ee dd' ee' e1 e2=>(par e1).trans (par e2).symm } }
theorem rG:∀{ds:List D} {d:D},noLs ds=true->noL d=true->noLs (ds++[d])=true
 | [],d,_,h=>by simp[noLs,h]
 | e::ds,d,h,h2=>by
  simp only[noLs,bA,List.cons_append] at h ⊢
  exact⟨h.1,rG h.2 h2⟩
theorem aIs{i:Nat}{c:E}{x:Str}{p p1 ap cp:Pos}{ix a:Expr}(M:Mc X P Γ n)(hx:bO Γ i x=true)(hk:PE X ix (WE X P n RT Y old σ (.c (.int 1))))(hpk:bD ix=true)(ha:PE X a (WE X P n RT Y old σ c))(hp:bD a=true)(hl:(ap.endLine==cp.line)=true) :
 PS X (.Expr (.Call (.Attribute (.Subscript (.Name x p) ix p1) "append" ap) [a] [] cp) pos) (wS X RT Y old σ (ex P (call P n) σ (.appP i c))):=by
 refine cJ (kI (aAe PySem.F.plainAttrs_list PySem.F.slot_list_append PySem.F.type_list_append qV (aGs aCy (gN M hx) hk (oG hpk)) (iR ha nT (aD hp)) rfl (by rw[aD hp];rfl) hl (aD hp) rfl)) λD σV H t ⟨S,h⟩=>?_
 have h:=OE.from (show OE X.K RT Y old H (O.from σ (ev P (call P n) σ c) λv=>(match σ[i]?,noL v.d with
  | some (.par ds es),true=>if ds.length<lim then .next (σ.set i (.par (ds++[v.d]) es)) else .bad
  | _,_=>.bad)) D from h)
 obtain⟨v,ee,h⟩:=h.eq
 split at h
 . rename_i ds es e1 e2
   split at h
   . rename_i hlim
     obtain⟨qa,qb,xs,vx,vy,g1,ha',hb,pb,⟨n1,n2⟩,r1,r2⟩:=S.dx.at2 i ds es e1
     refine⟨.ref qa,g1,?_⟩
     refine wE.one (p:=λx=>x=.cl (.int 1)) S rfl λw u H1 hw t1 S1 rr=>?_
     subst hw
     have hu:u=.int 1:=(rr.rv S)
     subst hu
     refine⟨qa,[vx,.ref qb,vy],1,.ref qb,rfl,rfl,aR.seqT rr.1 ha',rfl,?_⟩
     have l1:=r1.length
     have hsl:=tR
     refine⟨.inl ⟨rfl,xs,SqL.of (rr.1 _ _ hb)⟩,S1,?_⟩
     rw[ee]
     intro u H2 t2 rv
     have s2:=rr.1.trans rv.1
     have S2:=S1.grow rv.1 t2
     refine⟨qb,xs,u,rfl,rfl,s2 _ _ hb,by omega,λ_=>?_⟩
     refine(show dL X.K RT Y old H (σ.set i (.par (ds++[v.d]) es)) D.nx from h) RT _ _ (λb' o q nn=>by rw[aP λw=>nn (by rw[w];exact pb.1)];exact s2 _ _ q) bE ?_
     exact S2.mutP e1 (s2 _ _ hb) pb g1 (aR.seqT s2 ha') (rG n1 e2) n2 ((r1.grow s2).append ⟨u,[],rfl,Rep.free _ _ e2 (rv.rv S1),rfl⟩) (r2.grow s2)
   . exact h.elim
 . exact h.elim
end
section
variable {P:Pg} {n:Nat} {Y old:Addr->Prop}
theorem aDz{Γ:Ct}{is:List Nat}{tg:Expr}(h:qK Γ (.t is) tg=true):∃es k p,tg=.Tuple es k p:=by
 cases tg with
 | Tuple es k p=>exact⟨es,k,p,rfl⟩
 | _=>cases h
theorem aBG{Γ:Ct}{i:Nat}{tg:Expr}(h:qK Γ (.n i) tg=true):∃x p,tg=.Name x p/\bP Γ i x=true:=by
 cases tg with
 | Name x p=>exact⟨x,p,rfl,h⟩
 | _=>cases h
theorem aBH{Γ:Ct}{c:E}{e:Expr}(h:aX Γ c e=true)(hc:oC e=true):∃k caps t it cond elt,c=.comp k caps t it cond elt:=by
 cases c with
 | comp k caps t it cond elt=>exact⟨k,caps,t,it,cond,elt,rfl⟩
 | c d=>
  rcases(Bool.or_eq_true _ _).mp (show(oS (asC e) (eqC d)||oS (asN e) λx=>eI Γ x&&cT x&&oB (Γ.cns.lookup x) (eqK d))=true from h) with h|h
  . obtain⟨_,⟨_,_,rfl⟩,_⟩:=aC h;cases hc
  . obtain⟨_,⟨_,rfl⟩,_⟩:=aC h;cases hc
 | v i=>obtain⟨_,⟨_,rfl⟩,_⟩:=aC h;cases hc
 | op o a b=>obtain⟨_,⟨_,rfl⟩,_⟩:=aC h;cases hc
 | neg _=>cases h
 | nt a=>obtain⟨_,⟨_,rfl⟩,_⟩:=aC h;cases hc
 | an a b=>obtain⟨_,rfl,_⟩:=aC h;cases hc
 | orr a b=>obtain⟨_,rfl,_⟩:=aC h;cases hc
 | ife t a b=>obtain⟨_,⟨_,rfl⟩,_⟩:=aC h;cases hc
 | cmp o a b=>obtain⟨_,⟨_,rfl⟩,_⟩:=aC h;cases hc
 | dnin a j=>obtain⟨_,⟨_,rfl⟩,_⟩:=aC h;cases hc
 | dget _ _=>cases h
 | dlen _=>cases h
 | rvs a=>obtain⟨_,⟨_,rfl⟩,_⟩:=aC h;cases hc
 | cmp2 o1 o2 a b c=>obtain⟨_,⟨_,rfl⟩,_⟩:=aC h;cases hc
 | idx a b=>obtain⟨_,⟨_,rfl⟩,_⟩:=aC h;cases hc
 | sli a lo hi=>obtain⟨_,⟨_,rfl⟩,_⟩:=aC h;cases hc
 | tup es=>obtain⟨_,⟨_,_,rfl⟩,_⟩:=aC h;cases hc
 | lst es=>obtain⟨_,⟨_,rfl⟩,_⟩:=aC h;cases hc
 | call f es=>obtain⟨_,⟨_,_,rfl⟩,_⟩:=aC h;cases hc
 | callP f i es=>obtain⟨_,⟨_,_,rfl⟩,_⟩:=aC h;cases hc
 | pnn i=>obtain⟨_,⟨_,rfl⟩,_⟩:=aC h;cases hc
 | bi b es=>obtain⟨_,⟨_,_,rfl⟩,_⟩:=aC h;cases hc
 | mth m o es=>obtain⟨_,⟨_,_,rfl,_⟩,_⟩:=aC h;cases hc
 | isi a cs=>obtain⟨_,⟨_,_,rfl⟩,_⟩:=aC h;cases hc
 | numset _=>cases h
 | tget _ _=>cases h
 | lzip _ _=>cases h
 | dic ks vs=>cases h
 | attr _ _=>cases h
theorem m1{Γ:Ct}{i:Nat}{m:Str}{c:Expr}{f:Expr->Bool}(h:(match nC Γ i m c with|some [a]=>f a|_=>false)=true):∃a,nC Γ i m c=some [a]/\f a=true:=by
 split at h
 . rename_i a q;exact⟨a,q,h⟩
 . cases h
theorem m0{Γ:Ct}{i:Nat}{m:Str}{c:Expr}(h:(match nC Γ i m c with|some []=>true|_=>false)=true):nC Γ i m c=some []:=by
 split at h
 . rename_i q;exact q
 . cases h
abbrev QS(P:Pg)(n:Nat)(Y old:Addr->Prop)(c:S):Prop:=∀{X:Cx} {Γ:Ct},Mc X P Γ n->∀{st:Stmt},fB Γ c st=true->∀(RT:Addr->Prop) (σ:Sg),PS X st (wS X RT Y old σ (ex P (call P n) σ c))
abbrev QSs(P:Pg)(n:Nat)(Y old:Addr->Prop)(c:Ss):Prop:=∀{X:Cx} {Γ:Ct},Mc X P Γ n->∀{st:List Stmt},chkSs Γ c st=true->∀(RT:Addr->Prop) (σ:Sg),PSs X st (wS X RT Y old σ (exs P (call P n) σ c))
theorem aKR{t:T}{e:E}:QS P n Y old (.set t e):=λ{X Γ} M {st} h RT σ=>by
 unfold fB at h
 obtain⟨⟨tg,v⟩,⟨p,rfl⟩,g⟩:=aC h
 clear h
 obtain⟨h1,h2,h3⟩:=eX g
 clear g
 cases t with
 | n i=>
  obtain⟨x,p,e1,hx⟩:=aBG h1
  have e1:tg=.Name x p:=e1
  subst e1
  cases hc:oC v with
  | false=>exact aIo M hx (sE e M h2 RT Y old σ) hc
  | true=>
   obtain⟨k,caps,t,it,cond,elt,rfl⟩:=aBH h2 hc
   obtain⟨el,tg,iter,ifs,scope,cpos,e2,O,g1,g2,g3,g4,g5⟩:=aAp h2
   have e2:v=.ListComp el [⟨tg,iter,ifs,0⟩] scope cpos:=e2
   subst e2
   refine aBF M hx (O.scope M) O.ndc O.tk (sI it M g3 RT Y old σ) (λC s₀ H₀ ex=>?_) (lT (jZ g3))
   have M':=O.mc M C s₀ H₀ ex
   exact⟨aFD M' g2,λRT Y old σ1=>sTs cond M' g1 g4 RT Y old σ1,λRT Y old σ1=>sE elt M' g5 RT Y old σ1⟩
 | t is=>
  obtain⟨es,k,p,e1⟩:=aDz h1
  have e1:tg=.Tuple es k p:=e1
  subst e1
  refine aIp M h1 (sE e M h2 RT Y old σ) ?_
  have:(false||!yI v)=true:=h3
  simpa using this
theorem aKS{i j:Nat}:QS P n Y old (.mov i j):=λ{X Γ} M {st} h RT σ=>by
 unfold fB at h
 obtain⟨⟨tg,v⟩,⟨p,rfl⟩,g⟩:=aC h
 clear h
 obtain⟨x,⟨p1,e1⟩,g⟩:=aC g
 obtain⟨y,⟨p2,e2⟩,g⟩:=aC g
 have e1:tg=.Name x p1:=e1
 have e2:v=.Name y p2:=e2
 subst e1 e2
 obtain⟨h1,h2⟩:=eJ g
 exact aKN M h1 h2
theorem aIt{i:Nat}:QS P n Y old (.dnew i):=λ{X Γ} M {st} h RT σ=>by
 unfold fB at h
 obtain⟨⟨tg,v⟩,⟨p,rfl⟩,g⟩:=aC h
 clear h
 obtain⟨x,⟨p1,e1⟩,g⟩:=aC g
 have e1:tg=.Name x p1:=e1
 subst e1
 obtain⟨h1,h2⟩:=eJ g
 obtain⟨_,⟨p2,e2⟩,_⟩:=aC h2
 have e2:v=.Dict [] [] p2:=e2
 subst e2
 exact aIq M h1
theorem aIu{i:Nat}{e:E}:QS P n Y old (.dput i e):=λ{X Γ} M {st} h RT σ=>by
 unfold fB at h
 obtain⟨⟨tg,v⟩,⟨p,rfl⟩,g⟩:=aC h
 clear h
 obtain⟨⟨o,ix⟩,⟨p1,e1⟩,g⟩:=aC g
 obtain⟨x,⟨p2,e2⟩,g⟩:=aC g
 have e1:tg=.Subscript o ix p1:=e1
 have e2:o=.Name x p2:=e2
 subst e1 e2
 obtain⟨h1,h2,h3⟩:=eX g
 exact aIr M h1 (sE e M h2 RT Y old σ) (sE (.c (.bl true)) M h3 RT Y old σ) (aZ h2)
theorem aFJ{i:Nat}{e:E}:QS P n Y old (.dfrom i e):=λ{X Γ} M {st} h RT σ=>by
 unfold fB at h
 obtain⟨⟨tg,v⟩,⟨p,rfl⟩,g⟩:=aC h
 clear h
 obtain⟨x,⟨p1,e1⟩,g⟩:=aC g
 obtain⟨⟨f,ys⟩,⟨p2,p3,e2⟩,g⟩:=aC g
 have e1:tg=.Name x p1:=e1
 have e2:v=.Call (.Name f p2) ys [] p3:=e2
 subst e1 e2
 obtain⟨h1,h2,h3,h4⟩:=aDv g
 rcases ys with _|⟨y,_|⟨_,_⟩⟩
 . cases h4
 . exact aFI M h1 (eq_of_beq h2) h3 (sE e M h4 RT Y old σ) (aZ h4)
 . cases h4
theorem aKT{i f:Nat}{es:Es}:QS P n Y old (.tld i f es):=λ{X Γ} M {st} h RT σ=>by
 unfold fB at h
 obtain⟨⟨tg,v⟩,⟨p,rfl⟩,g⟩:=aC h
 clear h
 obtain⟨x,⟨p1,e1⟩,g⟩:=aC g
 obtain⟨⟨y,ys⟩,⟨p2,p3,e2⟩,g⟩:=aC g
 have e1:tg=.Name x p1:=e1
 have e2:v=.Call (.Name y p2) ys [] p3:=e2
 subst e1 e2
 obtain⟨g,h6⟩:=eJ g
 obtain⟨h1,h2,h3,h4,h5⟩:=aBE g
 cases ys with
 | nil=>cases h5
 | cons z ys=>exact aKQ M h1 (eq_of_beq h2) h3 h4 ((qA es).a M h6 RT Y old σ) (eC h6)
theorem aIv{i:Nat}{e:E}:QS P n Y old (.appP i e):=λ{X Γ} M {st} h RT σ=>by
 unfold fB at h
 obtain⟨c,⟨p,rfl⟩,g⟩:=aC h
 clear h
 obtain⟨⟨o,m,as,l⟩,⟨ap,cp,e1,el⟩,g⟩:=aC g
 obtain⟨⟨y,ix⟩,⟨p1,e2⟩,g⟩:=aC g
 obtain⟨x,⟨p2,e3⟩,g⟩:=aC g
 have e2:o=.Subscript y ix p1:=e2
 have e3:y=.Name x p2:=e3
 have e1:c=.Call (.Attribute o m ap) as [] cp:=e1
 have el:(ap.endLine==cp.line)=l:=el
 subst e3
 subst e2
 subst e1
 obtain⟨h1,h2,h3,h4,h5⟩:=aBE g
 have h3:m=("append" : Str):=eq_of_beq h3
 subst h3
 rcases as with _|⟨a,_|⟨_,_⟩⟩
 . cases h5
 . exact aIs M h1 (sE (.c (.int 1)) M h2 RT Y old σ) (aZ h2) (sE e M h5 RT Y old σ) (aZ h5) h4
 . cases h5
theorem aFK{i:Nat}{k e:E}:QS P n Y old (.setIx i k e):=λ{X Γ} M {st} h RT σ=>by
 unfold fB at h
 obtain⟨⟨tg,v⟩,⟨p,rfl⟩,g⟩:=aC h
 clear h
 obtain⟨⟨o,ix⟩,⟨p1,e1⟩,g⟩:=aC g
 obtain⟨x,⟨p2,e2⟩,g⟩:=aC g
 have e1:tg=.Subscript o ix p1:=e1
 have e2:o=.Name x p2:=e2
 subst e1 e2
 obtain⟨h1,h2,h3⟩:=eX g
 exact aFG M h1 (sE k M h2 RT Y old σ) (sE e M h3 RT Y old σ) (aZ h2)
theorem aKU{i:Nat}{e:E}:QS P n Y old (.app i e):=λ{X Γ} M {st} h RT σ=>by
 unfold fB at h
 obtain⟨c,⟨p,rfl⟩,g⟩:=aC h
 obtain⟨a,h1,h2⟩:=m1 (f:=λa=>aX Γ e a) g
 exact aKK M h1 (sE e M h2 RT Y old σ) (aZ h2)
theorem aKV{i:Nat}{e:E}:QS P n Y old (.ext i e):=λ{X Γ} M {st} h RT σ=>by
 unfold fB at h
 obtain⟨c,⟨p,rfl⟩,g⟩:=aC h
 obtain⟨a,h1,h2⟩:=m1 (f:=λa=>aX Γ e a) g
 exact aKL M h1 (sE e M h2 RT Y old σ) (aZ h2)
theorem aKW{i:Nat}:QS P n Y old (.rev i):=λ{X Γ} M {st} h RT σ=>by
 unfold fB at h
 obtain⟨c,⟨p,rfl⟩,g⟩:=aC h
 exact aKM M (m0 g)
theorem aKX{e:E}:QS P n Y old (.ret e):=λ{X Γ} M {st} h RT σ=>by
 unfold fB at h
 obtain⟨r,⟨p,rfl⟩,g⟩:=aC h
 clear h
 obtain⟨v,e1,g⟩:=aDb g
 subst e1
 exact aKJ (sE e M g RT Y old σ)
theorem aIw{i:Nat}:QS P n Y old (.retv i):=λ{X Γ} M {st} h RT σ=>by
 unfold fB at h
 obtain⟨r,⟨p,rfl⟩,g⟩:=aC h
 clear h
 obtain⟨v,e1,g⟩:=aDb g
 subst e1
 obtain⟨x,⟨p1,e2⟩,g⟩:=aC g
 have e2:v=.Name x p1:=e2
 subst e2
 exact aIn M g
theorem aIx:QS P n Y old .retN:=λ{X Γ} M {st} h RT σ=>by
 unfold fB at h
 obtain⟨r,⟨p,rfl⟩,g⟩:=aC h
 cases r with
 | none=>exact aIm
 | some _=>cases g
theorem aKY{c:E}{a b:Ss}(ha:QSs P n Y old a)(hb:QSs P n Y old b):QS P n Y old (.iff c a b):=λ{X Γ} M {st} h RT σ=>by
 unfold fB at h
 obtain⟨⟨t,x,y⟩,⟨p,rfl⟩,g⟩:=aC h
 obtain⟨h1,h2,h3⟩:=eX g
 exact aNg (sT c M h1 RT Y old σ) (ha M h2) (hb M h3)
theorem aKZ{t:T}{it:Hp.It}{b:Ss}(hb:QSs P n Y old b):QS P n Y old (.for t it b):=λ{X Γ} M {st} h RT σ=>by
 unfold fB at h
 obtain⟨⟨tg,iter,body⟩,⟨p,rfl⟩,g⟩:=aC h
 obtain⟨h1,h2,h3⟩:=eX g
 exact aKO M h1 (sI it M h2 RT Y old σ) (hb M h3) (lT (jZ h2))
theorem aLa{c:E}{b:Ss}(hb:QSs P n Y old b):QS P n Y old (.whl c b):=λ{X Γ} M {st} h RT σ=>by
 unfold fB at h
 obtain⟨⟨t,body⟩,⟨p,rfl⟩,g⟩:=aC h
 obtain⟨h1,h2⟩:=eJ g
 exact aKP M (λRT σ=>sT c M h1 RT Y old σ) (hb M h2)
theorem aLb:QS P n Y old .brk:=λ{X Γ} M {st} h RT σ=>by
 unfold fB at h
 obtain⟨_,⟨p,rfl⟩,_⟩:=aC h
 exact aKG
theorem aLc:QS P n Y old .cnt:=λ{X Γ} M {st} h RT σ=>by
 unfold fB at h
 obtain⟨_,⟨p,rfl⟩,_⟩:=aC h
 exact aKH
theorem aIy:QS P n Y old .pass:=λ{X Γ} M {st} h RT σ=>by
 unfold fB at h
 obtain⟨_,⟨p,rfl⟩,_⟩:=aC h
 exact aIl
theorem aNh{e:E}:QS P n Y old (.ex e):=λ{X Γ} M {st} h RT σ=>by
 unfold fB at h
 obtain⟨v,⟨p,rfl⟩,g⟩:=aC h
 obtain⟨h1,h2⟩:=eJ g
 exact aNf (sE e M h1 RT Y old σ) (by simpa using h2)
theorem aLd{c:Nat}{k:Bool}{es:Es}:QS P n Y old (.rse c k es):=by
 intro X Γ M st h RT σ
 exact aKI
theorem wD{c:S}(z:∀Γ st,fB Γ c st=false):QS P n Y old c:=by
 intro X Γ M st h RT σ
 rw[z] at h
 cases h
theorem aLe:QSs P n Y old .nil:=λ{X Γ} M {st} h RT σ=>by
 cases st with
 | nil=>exact aKF
 | cons _ _=>exact nf h
theorem aIz{c:S}{cs:Ss}(hc:QS P n Y old c)(hs:QSs P n Y old cs):QSs P n Y old (.cons c cs):=λ{X Γ} M {st} h RT σ=>by
 cases st with
 | nil=>exact nf h
 | cons x xs=>
  obtain⟨h1,h2⟩:=eJ h
  exact aIk (hc M h1) (hs M h2)
mutual
theorem sS:(c:S)->QS P n Y old c
 | .set _ _=>aKR
 | .mov _ _=>aKS
 | .setIx _ _ _=>aFK
 | .dnew _=>aIt
 | .dput _ _=>aIu
 | .dfrom _ _=>aFJ
 | .tld _ _ _=>aKT
 | .appP _ _=>aIv
 | .app _ _=>aKU
 | .ext _ _=>aKV
 | .pop _ _ _=>wD λ_ _=>rfl
 | .clr _=>wD λ_ _=>rfl
 | .ins _ _ _=>wD λ_ _=>rfl
 | .rev _=>aKW
 | .appCall _ _ _=>wD λ_ _=>rfl
 | .ret _=>aKX
 | .retv _=>aIw
 | .retN=>aIx
 | .iff _ a b=>aKY (sSs a) (sSs b)
 | .for _ _ b=>aKZ (sSs b)
 | .whl _ b=>aLa (sSs b)
 | .brk=>aLb
 | .cnt=>aLc
 | .pass=>aIy
 | .ex _=>aNh
 | .rse _ _ _=>aLd
 | .try _ _=>wD λ_ _=>rfl
theorem sSs:(c:Ss)->QSs P n Y old c
 | .nil=>aLe
 | .cons c cs=>aIz (sS c) (sSs cs)
end
end
structure Tx where
 x:Str
 qual:Str
 st:Stmt
 N:List Str
def rH(Γ:Ct)(F:Fn)(t:Tx):Bool:=
 t.N.length==F.ns&&decide (F.np<=F.ns)&&decide t.N.Nodup&&(cD t.st).kind==.function&&!(cD t.st).isCoroutine&&!(cD t.st).isGenerator &&
 ((t.N.take F.np).all λx=>(cD t.st).names.lookup x==some .local||(cD t.st).names.lookup x==some .cell)&&((cD t.st).names.all λp=>p.2 != .free) &&
 chkSs { Γ with N:=t.N,sc:=(cD t.st).names,fn:=true } F.body (iU t.st)
def iE(Γ:Ct):List Fn->List Tx->Bool
 | [],[]=>true
 | F::Fs,t::ts=>rH Γ F t&&iE Γ Fs ts
 | _,_=>false
theorem gO{Γ:Ct}:∀{Fs:List Fn} {ts:List Tx},iE Γ Fs ts=true->∀{f:Nat} {t:Tx},ts[f]? = some t->∃F,Fs[f]? = some F/\rH Γ F t=true
 | [],[],_,_,_,e=>by simp at e
 | [],_::_,h,_,_,_=>by cases h
 | _::_,[],h,_,_,_=>by cases h
 | F::Fs,t::ts,h,0,t',e=>by
  obtain⟨h1,h2⟩:=eJ (show(rH Γ F t&&iE Γ Fs ts)=true from h)
  have e':t=t':=by simpa using e
  subst e'
  exact⟨F,rfl,h1⟩
 | F::Fs,t::ts,h,f+1,t',e=>by
  obtain⟨h1,h2⟩:=eJ (show(rH Γ F t&&iE Γ Fs ts)=true from h)
  obtain⟨F',q1,q2⟩:=gO h2 (f:=f) (t:=t') (by simpa using e)
  exact⟨F',by simpa using q1,q2⟩
section
variable {prog:Program} {w:World} {K:Fg} {mg:Str->Option Value} {base:Heap} {P:Pg} {Γ:Ct} {txs:List Tx}
structure Top (prog:Program) (w:World) (K:Fg) (mg:Str->Option Value) (P:Pg) (Γ:Ct) (txs:List Tx):Prop where
 fn:∀(f:Nat) (t:Tx),txs[f]? = some t->∃fa fd,mg t.x=some (.ref fa)/\Fun K t.x t.qual t.st fa fd/\∀F,P.fns[f]? = some F->jP K fd (t.N.take F.np) []
 fns:∀(f:Nat) (x:Str),Γ.fns[f]? = some x->∃t,txs[f]? = some t/\t.x=x
 blt:∀x∈bltNames,mg x=none
 cns:∀(x:Str) (d:D),Γ.cns.lookup x=some d->∃u v,mg x=some u/\cA v u/\∀H ex,Rep K H ex d v
 tab:∀(i:Nat) (x:Str),Γ.tbs[i]? = some x->∃a t,mg x=some (.ref a)/\P.tabs[i]? = some t/\aCU prog w K a t
 chk:iE Γ P.fns txs=true
theorem aAu{k f:Nat}{F:Fn}(hF:P.fns[f]? = some F){vs:List V}{H:Hp}{Q:VK}{E:XK}(h:spF K P (k+1) f vs H Q E):vs.length=F.np:=by
 obtain⟨ds,Y,_,r,hr⟩:=h
 obtain⟨x,e,_⟩:=hr.eq
 have e:yF P (call P k) f ds=.ok x:=e
 unfold yF at e
 rw[hF] at e
 have e:(if ds.length=F.np then _ else R.bad)=R.ok x:=e
 split at e
 . rename_i hl;rw[<-r.length];exact hl
 . cases e
theorem aDA{ds:List D}{vs:List V}{H:Hp}{Y:Addr->Prop}{m:Nat}(hY:∀a,Y a->Od K H a)(t:Tk K H)(r:Reps K H Y ds vs):Sx K (λ_=>False) Y (λb=>Od K H b) ((ds.map λd=>Sl.sh true d)++List.replicate m Sl.dead) (vs.map some++List.replicate m none) H:=by
 have len:=r.length
 have get:∀{i:Nat} {s:Sl},((ds.map λd=>Sl.sh true d)++List.replicate m Sl.dead)[i]? = some s->s=.dead\/∃d,s=.sh true d/\ds[i]? = some d:=λ{i s} e=>by
  by_cases hi:i<ds.length
  . rw[List.getElem?_append_left (by simpa using hi),List.getElem?_map,List.getElem?_eq_getElem hi] at e
    cases e
    exact .inr ⟨ds[i],rfl,List.getElem?_eq_getElem hi⟩
  . rw[List.getElem?_append_right (by simpa using hi),List.getElem?_replicate] at e
    split at e
    . cases e;exact .inl rfl
    . cases e
 exact {
  sh:=λi pa d e=>by
   rcases get e with z|⟨d',z,q⟩
   . cases z
   . cases z
     obtain⟨v,hv,rv⟩:=r.get q
     have hi:i<vs.length:=(List.getElem?_eq_some_iff.mp hv).1
     refine⟨v,?_,rv.weak λa z=>?_⟩
     . rw[List.getElem?_append_left (by simpa using hi),List.getElem?_map,hv];rfl
     . rcases z with z|z|⟨z,_⟩
       . exact z.elim
       . exact z
       . cases z
  own:=λi pa ds' e=>by
   rcases get e with z|⟨d',z,q⟩
   . cases z
   . cases z
  trk:=λa z=>by
   rcases z with z|z|z
   . exact z.elim
   . exact hY a z
   . exact z
  yo:=hY
  tk:=t
  rt:=λ_ z=>z.elim
  inj:=λi j pa pa' ds1 ds2 a e=>by
   rcases get e with z|⟨d',z,q⟩
   . cases z
   . cases z
  len:=by rw[lA,lA,lM,lM,List.length_replicate,List.length_replicate,len]
  dx:={
   at':=λi ds' e=>by
    rcases get e with z|⟨d',z,q⟩
    . cases z
    . cases z
   inj:=λi j ds1 ds2 a e=>by
    rcases get e with z|⟨d',z,q⟩
    . cases z
    . cases z
   at2:=λi ds es e=>by
    rcases get e with z|⟨d',z,q⟩
    . cases z
    . cases z
   one:=λi j ds es ds' es' e=>by
    rcases get e with z|⟨d',z,q⟩
    . cases z
    . cases z } }
theorem aAv{k f:Nat}{t:Tx}{F:Fn}{fa:Addr}{fd:FuncData}(hmd:∀(f:Nat) (x:Str),Γ.fns[f]? = some x->∃fa fd ps,mg x=some (.ref fa)/\PySem.W.keepIn K (.ref fa)=true/\jP K fd ps []/\nA prog w K mg base CX0 k fa fd ps (spF K P k f))
 (hblt:∀x∈bltNames,mg x=none) (hcns:∀(x:Str) (d:D),Γ.cns.lookup x=some d->∃u v,mg x=some u/\cA v u/\∀H ex,Rep K H ex d v) (htab:∀(i:Nat) (x:Str),Γ.tbs[i]? = some x->∃a t,mg x=some (.ref a)/\P.tabs[i]? = some t/\aCU prog w K a t) (h2:Fun K t.x t.qual t.st fa fd) (hF:P.fns[f]? = some F) (hc:rH Γ F t=true) :
 nA prog w K mg base CX0 (k+1) fa fd (t.N.take F.np) (spF K P (k+1) f):=by
 unfold rH at hc
 simp only[bA,beq_iff_eq,decide_eq_true_eq,Bool.not_eq_true',List.all_eq_true,Bool.or_eq_true,bne_iff_ne,ne_eq] at hc
 obtain⟨⟨⟨⟨⟨⟨⟨⟨c1,c2⟩,c3⟩,c4⟩,c5⟩,c6⟩,c7⟩,c8⟩,c9⟩:=hc
 have lt:(t.N.take F.np).length=F.np:=by rw[List.length_take];omega
 have sc:nG t.N (t.N.take F.np) (cD t.st):=⟨c4,c5,c6,c3,by rw[lt],c7,c8⟩
 refine h2.ok sc (λvs H Q E h=>by rw[lt];exact aAu hF h) λcdv A outer s H vs Q E hr h=>?_
 have hlen:=aAu hF h
 obtain⟨ds,Y,hY,r,hq⟩:=h
 have M:Mc (xU CX0 prog w K mg base t.N t.qual (cD t.st) fa cdv A outer s H E).nox P { Γ with N:=t.N,sc:=(cD t.st).names,fn:=true } k:={
  md:=⟨hmd,hblt,hcns,htab⟩
  N:=rfl
  nd:=c3
  sc:=rfl
  calm:=rfl
  room:=hr
  xe:=rfl
  st:=λ_ _=>.inl rfl
  fk:=c4 }
 obtain⟨res,er,hq⟩:=hq.eq
 have er:yF P (call P k) f ds=.ok res:=er
 unfold yF at er
 rw[hF] at er
 have er:(if ds.length=F.np then (match exs P (call P k) ((ds.map λd=>Sl.sh true d)++List.replicate (F.ns-F.np) Sl.dead) F.body with
  | .ret v=>R.ok (v.d,v.fr,v.pa)
  | .next _=>R.ok (.non,false,false)
  | .exc x _=>R.exc x
  | _=>R.bad) else R.bad)=R.ok res:=er
 have hdl:ds.length=F.np:=by rw[r.length];exact hlen
 rw[if_pos hdl] at er
 refine⟨_,tM (t':=λD σV H'=>Tk K H'->wS _ (λ_=>False) Y (λb=>Od K H b) ((ds.map λd=>Sl.sh true d)++List.replicate (F.ns-F.np) Sl.dead) (exs P (call P k) ((ds.map λd=>Sl.sh true d)++List.replicate (F.ns-F.np) Sl.dead) F.body) D σV H') (sSs (Y:=Y) (old:=λb=>Od K H b) F.body M c9 (λ_=>False) ((ds.map λd=>Sl.sh true d)++List.replicate (F.ns-F.np) Sl.dead)) (λD σV H' tk hw=>⟨(hw tk).1,OE.tkE (hw tk).2⟩),λtk=>⟨?_,?_⟩⟩
 . have e:L2.start t.N vs=vs.map some++List.replicate (F.ns-F.np) none:=by unfold L2.start;rw[hlen,c1]
   rw[e]
   exact aDA hY tk r
 . have same:∀{H':Hp},Kp (λ_=>False) H H'->aR H H':=λk b o e=>k b o e id
   show OE K (λ_=>False) Y (λb=>Od K H b) H (exs P (call P k) ((ds.map λd=>Sl.sh true d)++List.replicate (F.ns-F.np) Sl.dead) F.body) _
   cases q:exs P (call P k) ((ds.map λd=>Sl.sh true d)++List.replicate (F.ns-F.np) Sl.dead) F.body with
   | next σ'=>
    rw[q] at er
    cases(show R.ok (D.non,false,false)=R.ok res from er)
    exact λRT' σV' H' kp sub S'=>hq .non H' S'.tk (same kp) (show(if false=true then _ else _) from aHy rfl)
   | ret v=>
    rw[q] at er
    cases(show R.ok (v.d,v.fr,v.pa)=R.ok res from er)
    refine λu H' kp tk' rt=>hq u H' tk' (same kp) ?_
    unfold Rr
    unfold Rtv at rt
    cases hfr:v.fr with
    | true=>
     rw[hfr,if_pos rfl] at rt
     obtain⟨a,xs,ds',e1,e2,e3,e4,rr⟩:=rt
     exact aJK ⟨a,xs,ds',e1,e2,aDf e3,e4,rr⟩
    | false=>
     rw[hfr,if_neg bN] at rt
     exact aHy rt
   | brk σ'=>rw[q] at er;cases er
   | cnt σ'=>rw[q] at er;cases er
   | exc e σ'=>rw[q] at er;cases er
   | bad=>rw[q] at er;cases er
theorem aDB(T:Top prog w K mg P Γ txs):∀(k f:Nat) (x:Str),Γ.fns[f]? = some x->∃fa fd ps,mg x=some (.ref fa)/\PySem.W.keepIn K (.ref fa)=true/\jP K fd ps []/\nA prog w K mg base CX0 k fa fd ps (spF K P k f)
 | 0,f,x,hf=>by
  obtain⟨t,ht,rfl⟩:=T.fns f x hf
  obtain⟨fa,fd,h1,h2,h3⟩:=T.fn f t ht
  obtain⟨F,hF,_⟩:=gO T.chk ht
  have no:∀vs H Q E,¬ spF K P 0 f vs H Q E:=λvs H Q E h=>by
   obtain⟨ds,Y,_,r,hr⟩:=h
   exact hr
  exact⟨fa,fd,_,h1,h2.kp,h3 F hF,λvs H Q E h=>absurd h (no vs H Q E),λA outer s H args us vs Q E _ _ _ _ h=>absurd h (no vs H Q E)⟩
 | k+1,f,x,hf=>by
  obtain⟨t,ht,rfl⟩:=T.fns f x hf
  obtain⟨fa,fd,h1,h2,h3⟩:=T.fn f t ht
  obtain⟨F,hF,hc⟩:=gO T.chk ht
  exact⟨fa,fd,_,h1,h2.kp,h3 F hF,aAv (λf x hf=>aDB T k f x hf) T.blt T.cns T.tab h2 hF hc⟩
theorem aIA(T:Top prog w K mg P Γ txs){f:Nat}{t:Tx}{F:Fn}{fa:Addr}{fd:FuncData}(ht:txs[f]? = some t)(hF:P.fns[f]? = some F)(h2:Fun K t.x t.qual t.st fa fd)(k:Nat):nA prog w K mg base CX0 (k+1) fa fd (t.N.take F.np) (spF K P (k+1) f):=by
 obtain⟨F',hF',hc⟩:=gO T.chk ht
 rw[hF] at hF'
 cases hF'
 exact aAv (aDB T k) T.blt T.cns T.tab h2 hF hc
theorem aIB{k f:Nat}{K:Fg}{H:Hp}{a:Addr}{ns:List Int}(hO:aFf H)(hS:SqL K H a (ns.map V.int))(h:∃fr pa,call P k f [.lst (ns.map D.int)]=.ok (.bl true,fr,pa)) :
 spF K P k f [.ref a] H (λv _=>v=.bl true) λ_ _ _=>False:=by
 obtain⟨fr,pa,e⟩:=h
 have ri:∀(ns:List Int),Reps K H (λ_=>False) (ns.map D.int) (ns.map V.int):=by
  intro ns
  induction ns with
  | nil=>exact .nil
  | cons i ns ih=>exact .cons rfl ih
 refine⟨[.lst (ns.map D.int)],λ_=>False,λ_ z=>z.elim,.cons ⟨a,_,rfl,hS,⟨id,λ⟨_,_,z⟩=>z.elim⟩,ri ns⟩ .nil,?_⟩
 rw[e]
 intro u H' _ _ rr
 unfold Rr at rr
 cases fr with
 | true=>
  rw[if_pos rfl] at rr
  obtain⟨_,_,_,_,e2,_⟩:=rr
  cases e2
 | false=>
  rw[if_neg bN] at rr
  exact rr
end
end Hp
end
noncomputable section
namespace Hh
open PySem PySem.W PySem.Calls PyProof.Rows
def go(st:SharedT->Thread->Option (SharedT×Thread))(ok:Thread->Bool)(n:Nat):SharedT->Thread->Option SharedT:=
 @Nat.rec (λ_=>SharedT->Thread->Option SharedT) (λ_ _=>none) (λ_ ih s t=>match through t with
  | true=>some s
  | false=>match ok t with
   | false=>none
   | true=>match st s t with
    | some (s',t')=>ih s' t'
    | none=>none) n
theorem nP{tb:String->Option Builtin}{p:Program}{w:World}{n₀:Nat}{ann:Option Value}:∀(n:Nat) (s s':SharedT) (t:Thread),go (stepT (denote tb) p w) (stepOk n₀ ann) n s t=some s'->topRun tb p w n₀ ann n s.abs t=some s'.abs
 | 0,_,_,_,h=>by cases h
 | n+1,s,s',t,h=>by
  have h:(match through t with
   | true=>some s
   | false=>match stepOk n₀ ann t with
    | false=>none
    | true=>match stepT (denote tb) p w s t with
     | some (s',t')=>go (stepT (denote tb) p w) (stepOk n₀ ann) n s' t'
     | none=>none)=some s':=h
  unfold topRun
  cases ht:through t with
  | true=>rw[ht] at h;cases h;rfl
  | false=>
   rw[ht] at h
   cases hk:stepOk n₀ ann t with
   | false=>rw[hk] at h;cases h
   | true=>
    rw[hk] at h
    cases hs:stepT (denote tb) p w s t with
    | none=>rw[hs] at h;cases h
    | some r=>obtain⟨s₂,t₂⟩:=r;rw[hs] at h;rw[stepT_spec hs];exact nP n _ _ _ h
def bt(l:List Obj)(n:Nat):Nat->Nat->BT:=
 @Nat.rec (λ_=>Nat->Nat->BT) (λ_ _=>.nil) (λ_ ih a b=>match l[b]? with
  | some o=>.node o (ih (2*a) (a+b)) (ih (2*a) (2*a+b))
  | none=>.nil) n
end Hh
namespace Hh
open PySem PySem.W PySem.Calls PyProof.Rows
def aDC{α:Type}(p q:Program)(loose:List Str)(Xt:Shared->Bool)(Yf:Shared->α)(h0:Heap)(s:Shared):=
 ((staticsOk (importedModules p.main.body) h0 s.heap&&namesBound p s.heap&&gensDone s&&laidKept h0 s.heap),openSeen q loose (importedModules p.main.body) Xt true s,Yf s)
theorem aFL{p q:Program}{loose:List Str}{Xt:Shared->Bool}{α:Type}{Yf:Shared->α}{Ya:World->α}{N m₀:Nat}{ann:Option Value}{T₀:Params->BT}{l₀:Life}(e:opening p=plainProg p.main.scope.names)(hN:Nat.ble 600 N=true)(f:∀s,fenceModules? p s=some s)
 (hb:∀P,absHeap (T₀ P) m₀ l₀=boot_heap P) (hz:∀P:Params,((boot_heap P).isNs mainGlobals,(boot_heap P).objs.size,(boot_heap P).nsMap mainGlobals "__annotations__")=(true,m₀,ann))
 (h:∀(w:World) (os:OsState),(go (stepT (denote treeTable) p w) (stepOk m₀ ann) N ⟨T₀ w.params,m₀,l₀,Array.mk [],boot_drawn,boot_toks,os⟩ (topStub p)).map (λs=>aDC p q loose Xt Yf (boot_heap w.params) s.abs)=some (true,openGood q loose,Ya w)):LeftO p q loose Xt Yf Ya N:=λw=>by
 obtain⟨⟨hh,gs,d,k,os⟩,e1,e2⟩:=Option.map_eq_some_iff.mp (boot_open e hN f w)
 simp only[Prod.mk.injEq] at e2
 obtain⟨rfl,rfl,rfl,rfl⟩:=e2
 obtain⟨s,g1,g2⟩:=Option.map_eq_some_iff.mp (h w os)
 have r:=nP N _ _ _ g1
 have r:topRun treeTable p w m₀ ann N ⟨boot_heap w.params,Array.mk [],boot_drawn,boot_toks,os⟩ (topStub p)=some s.abs:=by
  rw[<-hb];exact r
 have z:=hz w.params
 simp only[Prod.mk.injEq] at z
 obtain⟨z1,z2,z3⟩:=z
 unfold aDC at g2
 simp only[Prod.mk.injEq] at g2
 obtain⟨l1,l2,l3⟩:=g2
 have t:topFrom treeTable p w N ⟨boot_heap w.params,Array.mk [],boot_drawn,boot_toks,os⟩=some s.abs:=by
  unfold topFrom
  dsimp only
  rw[z1,z2,z3,r]
  show(match staticsOk (importedModules p.main.body) (boot_heap w.params) s.abs.heap&&namesBound p s.abs.heap&&gensDone s.abs&&laidKept (boot_heap w.params) s.abs.heap with|true=>_|false=>_)=_
  rw[l1]
 unfold openEnds
 rw[e1]
 show(topFrom treeTable p w N _).map _=_
 rw[t]
 exact congrArg some (Prod.ext l2 l3)
def T0(P:Params):BT:=bt (boot_heap P).objs.toList 5 1 0
theorem aIC:∀P,absHeap (T0 P) 11 {}=boot_heap P:=λP=>by kernel_rfl
theorem aFM:∀P:Params,((boot_heap P).isNs mainGlobals,(boot_heap P).objs.size,(boot_heap P).nsMap mainGlobals "__annotations__")=(true,11,some (.ref 6)):=λP=>by kernel_rfl
abbrev aLf:=@PySem.W.Fast.tw10156331382660048174
abbrev qOk:=@PySem.W.Fast.tw6613529449190102663
abbrev aNi:=@PySem.W.Fast.tw11892475500146522536
abbrev aNj:=@PySem.W.Fast.tw14364793385576792824
abbrev aLg:=@PySem.W.Fast.tw4187177175401517315
abbrev aLh:=@PySem.W.Fast.tw5923862056798008813
def aNk{α:Type}(p q:Program)(loose:List Str)(Yf:Shared->α)(N:Nat)(w:World)(os:OsState):=
 (go (aLf (aNi aNj) p w) (qOk 11 (some (.ref 6))) N ⟨T0 w.params,11,{},Array.mk [],boot_drawn,boot_toks,os⟩ (topStub p)).map λs=>
  ((staticsOk (aLh p.main.body) (boot_heap w.params) s.abs.heap&&namesBound p s.abs.heap&&gensDone s.abs&&laidKept (boot_heap w.params) s.abs.heap),aLg q loose (aLh p.main.body) (λ_=>true) true s.abs,Yf s.abs)
theorem aID{p q:Program}{loose:List Str}{α:Type}{Yf:Shared->α}{Ya:World->α}{N:Nat}(e:opening p=plainProg p.main.scope.names)(hN:Nat.ble 600 N=true)(f:∀s,fenceModules? p s=some s)
 (h:∀w os,aNk p q loose Yf N w os=some (true,openGood q loose,Ya w)):LeftO p q loose (λ_=>true) Yf Ya N:=by
 refine aFL e hN f aIC aFM λw os=>?_
 unfold aDC
 rw[PySem.W.Fast.te10156331382660048174,PySem.W.Fast.te6613529449190102663,PySem.W.Fast.te11892475500146522536,PySem.W.Fast.te14364793385576792824,PySem.W.Fast.te4187177175401517315,PySem.W.Fast.te5923862056798008813]
 exact h w os
end Hh
end
noncomputable section
namespace Hh
open PySem PySem.W PySem.Calls PyProof.Rows L2 Hp
def oU(h:Heap):PySem.W.Frag:=(List.range h.objs.size).filterMap λa=>(h.get? a).map λo=>(a,o)
theorem oV{α:Type}(f:Nat->Option α)(a:Nat):∀n,((List.range n).filterMap λi=>(f i).map λo=>(i,o)).lookup a=if a<n then f a else none
 | 0=>rfl
 | n+1=>by
  rw[List.range_succ,List.filterMap_append,List.lookup_append,oV f a n]
  by_cases h:a<n
  . rw[if_pos h,if_pos (Nat.lt_succ_of_lt h)]
    cases q:f a with
    | some o=>rfl
    | none=>
     have hne:(a==n)=false:=beq_eq_false_iff_ne.mpr (Nat.ne_of_lt h)
     cases q2:f n with
     | none=>simp[q2]
     | some o=>simp[q2,List.lookup,hne]
  . rw[if_neg h]
    by_cases e:a=n
    . subst e
      rw[if_pos (Nat.lt_succ_self _)]
      cases q:f a with
      | none=>simp[q]
      | some o=>simp[q,List.lookup]
    . rw[if_neg (by omega)]
      have hne:(a==n)=false:=beq_eq_false_iff_ne.mpr e
      cases q2:f n with
      | none=>simp[q2]
      | some o=>simp[q2,List.lookup,hne]
theorem eT(h:Heap)(a:Addr):(oU h).lookup a=h.get? a:=by
 unfold oU
 rw[oV]
 by_cases q:a<h.objs.size
 . rw[if_pos q]
 . rw[if_neg q]
   cases e:h.get? a with
   | none=>rfl
   | some o=>exact absurd (Heap.lt_size e) q
theorem aAw{h h':Heap}(k:∀b o,h.get? b=some o->h'.get? b=some o):(oU h).In h':=λa o e=>k a o (by rw[<-eT];exact e)
def oW(h:Heap)(x:Str):Option (Option Value):=match h.get? mainGlobals with
 | some ⟨_,_,.dict es _,_⟩=>(match es.toList.find? (λe=>match e.key with|.str y _=>Fast.sEq y x|_=>false) with
  | some e=>some (some e.val)
  | none=>if es.toList.any (·.refKey) then none else some none)
 | _=>none
theorem aDD(v:Value)(x:Str):v.isStr x=(match v with|.str y _=>Fast.sEq y x|_=>false):=by
 cases v with
 | str y t=>
  show(y==x)=Fast.sEq y x
  rw[Bool.eq_iff_iff,beq_iff_eq,Fast.sEq_iff]
 | _=>rfl
theorem iZ(h:Heap)(x:Str):nsIn (oU h) mainGlobals x=oW h x:=by
 unfold nsIn oW
 rw[eT]
 simp only[aDD]
 rfl
def oX(h:Heap)(cd:Value):Option Str:=match cd with
 | .ref c=>(match h.get? c with
  | some ⟨_,_,.fields vs,_⟩=>(match vs.toList with|_::.str n _::_=>some n|_=>none)
  | _=>none)
 | _=>none
theorem aBI{h:Heap}{cd:Value}{q:Str}(e:oX h cd=some q):codeIn (oU h) cd q=true:=by
 unfold oX at e
 unfold codeIn
 split at e
 . rename_i c
   simp only[eT]
   split at e
   . rename_i vs _ ho
     rw[ho]
     split at e
     . rename_i a n t r hv
       cases e
       simp only[hv,beq_self_eq_true]
     . cases e
   . cases e
 . cases e
abbrev Pin:=Str×Str×Arguments×FuncBody×Scope×Addr×List (Str×Addr)×Value×Addr×Option Str
def yV(h:Heap)(x:Str):Option Pin:=match oW h x with
 | some (some (.ref a))=>(match h.get? a with
  | some ⟨_,_,.func fd,_⟩=>some (fd.name,fd.qualname,fd.params,fd.body,fd.scope,fd.globals,fd.closure,fd.defaults,fd.builtins,oX h fd.code)
  | _=>none)
 | _=>none
def dO(s:Stmt):Str:=match s with
 | .FunctionDef x _ _ _ _ _ _ _ _ _=>x
 | _=>⟨#[]⟩
def aDE(st:Stmt):Pin:=(dO st,dO st,iT st,.stmts (iU st),cD st,mainGlobals,[],.none,builtinsNs,some (dO st))
theorem aFN{h:Heap}{st:Stmt}(e:yV h (dO st)=some (aDE st)):∃fa fd,nsIn (oU h) mainGlobals (dO st)=some (some (.ref fa))/\Fun (oU h) (dO st) (dO st) st fa fd:=by
 unfold yV at e
 split at e
 . rename_i a hn
   split at e
   . rename_i c d fd sl ho
     obtain⟨n,qn,ps,b,sc,g,cl,df,kd,doc,pm,an,cd,ct,bn⟩:=fd
     unfold aDE at e
     simp only[Option.some.injEq,Prod.mk.injEq] at e
     obtain⟨rfl,rfl,rfl,rfl,rfl,rfl,rfl,rfl,rfl,hc⟩:=e
     refine⟨a,_,by rw[iZ];exact hn,⟨⟨c,d,kd,doc,pm,an,cd,ct,sl,rfl,by rw[eT];exact ho,aBI hc⟩,?_⟩⟩
     unfold keepIn
     simp only[eT,ho]
   . cases e
 . cases e
theorem wF{α:Type}{x:Str}{u:α}:∀{ps:List Str} {us:List α},ps.Nodup->ps.length=us.length->(x,u)∈ps.zip us->(ps.zip us).lookup x=some u
 | [],_,_,_,h=>by simp at h
 | p::ps,[],_,h,_=>by simp at h
 | p::ps,v::us,hn,hl,h=>by
  rw[List.zip_cons_cons] at h ⊢
  obtain⟨h1,h2⟩:=List.nodup_cons.mp hn
  rcases List.mem_cons.mp h with h|h
  . cases h;simp[List.lookup]
  . have hx:x∈ps:=(List.of_mem_zip h).1
    have:(x==p)=false:=beq_eq_false_iff_ne.mpr λz=>h1 (z▸hx)
    simp only[List.lookup,this]
    exact wF h2 (by simpa using hl) h
theorem aDF{α:Type}(L:List (Str×α)):∀{ps:List Str} {us:List α},ps.length=us.length->(∀p∈ps.zip us,L.lookup p.1=some p.2)->(ps.filterMap λn=>(L.lookup n).map (n,·))=ps.zip us
 | [],_,_,_=>by simp
 | p::ps,[],h,_=>by simp at h
 | p::ps,v::us,hl,h=>by
  rw[List.zip_cons_cons,List.filterMap_cons,h (p,v) (by simp),aDF L (ps:=ps) (us:=us) (by simpa using hl) λq hq=>h q (by rw[List.zip_cons_cons];exact List.mem_cons_of_mem _ hq)]
  rfl
theorem aDG{α:Type}(L:List (Str×α)):∀{ps:List Str} {us:List α},ps.length=us.length->(∀p∈ps.zip us,L.lookup p.1=some p.2)->(ps.filter λn=>(L.lookup n).isNone)=[]
 | [],_,_,_=>by simp
 | p::ps,[],h,_=>by simp at h
 | p::ps,v::us,hl,h=>by
  rw[List.filter_cons,h (p,v) (by simp),aDG L (ps:=ps) (us:=us) (by simpa using hl) λq hq=>h q (by rw[List.zip_cons_cons];exact List.mem_cons_of_mem _ hq)]
  rfl
def jA(a:Arguments)(ps:List Str):Bool:=match a with
 | ⟨[],as,none,[],[],none,[]⟩=>decide (as.map (·.arg)=ps)&&decide ps.Nodup
 | _=>false
theorem oY{x q:Str}{a:Arguments}{b:List Stmt}{sc:Scope}{kV doc pm:Value}{an:Option Addr}{cdv ct:Value}{ps:List Str}{us:List Value}(h:jA a ps=true)(hl:us.length=ps.length) :
 bindArgs (fnOf x q a b sc .none kV doc pm an cdv ct) ⟨us,[]⟩=pure (ps.zip us):=by
 unfold jA at h
 split at h
 . rename_i as
   obtain⟨h1,h2⟩:=Bool.and_eq_true_iff.mp h
   have h1:=of_decide_eq_true h1
   have h2:=of_decide_eq_true h2
   have z:∀p∈ps.zip us,(ps.zip us).lookup p.1=some p.2:=λp hp=>wF h2 hl.symm hp
   have e1:=aDG (ps.zip us) hl.symm z
   have e2:=aDF (ps.zip us) hl.symm z
   unfold bindArgs
   have e3:∀s:Value,s=.none->(seqItems? s)=pure none:=λs e=>by subst e;rfl
   simp only[mN,List.nil_append,h1,e3,List.forIn_nil,pure_bind,hl,gt_iff_lt,Nat.lt_irrefl,decide_false,Bool.false_and,Option.getD_none,lN,Nat.zero_sub,List.drop_nil,Nat.sub_zero,List.take_length,e1,List.isEmpty_nil,Bool.not_true,List.drop_length,List.zip_nil_right,List.append_nil,e2,if_false,bF]
 . cases h
def wG(s:Stmt):Bool:=match s with
 | .FunctionDef _ _ _ _ _ _ _ _ _ _=>true
 | _=>false
def aDH:D->Value->Bool
 | .int i,.int j _=>decide (i=j)
 | .str a,.str b _=>Fast.sEq a b
 | .non,.none=>true
 | .bl a,.bool b=>a==b
 | _,_=>false
def yW(h:Heap)(c:Str×D):Bool:=match oW h c.1 with
 | some (some u)=>aDH c.2 u
 | _=>false
def kU(p:Program)(cns:List (Str×D))(h:Heap):List (Option Pin)×List (Option (Option Value))×Bool:=
 ((p.main.body.filter wG).map (λst=>yV h (dO st)),bltNames.map (oW h),cns.all (yW h))
def oZ(p:Program):List (Option Pin)×List (Option (Option Value))×Bool:=
 ((p.main.body.filter wG).map (λst=>some (aDE st)),bltNames.map (λ_=>some none),true)
def wH(p:Program)(i:Nat):Stmt:=p.main.body.getD i (.Pass ⟨0,0,0,0⟩)
def nD(p:Program)(c:Nat×List Str):Tx:=⟨dO (wH p c.1),dO (wH p c.1),wH p c.1,c.2⟩
theorem aIE{p:Program}{i:Nat}(h:wG (wH p i)=true):wH p i∈p.main.body:=by
 unfold wH at h ⊢
 rw[List.getD_eq_getElem?_getD] at h ⊢
 cases e:p.main.body[i]? with
 | none=>rw[e] at h;cases h
 | some s=>exact mG e
theorem aFO{h:Heap}{c:Str×D}(e:yW h c=true):∃u v,nsIn (oU h) mainGlobals c.1=some (some u)/\cA v u/\∀H ex,Rep (oU h) H ex c.2 v:=by
 unfold yW at e
 split at e
 . rename_i u hn
   obtain⟨x,d⟩:=c
   have e:aDH d u=true:=e
   unfold aDH at e
   split at e
   . cases of_decide_eq_true e;exact⟨_,.int _,(iZ _ _).trans hn,⟨_,rfl⟩,λ_ _=>rfl⟩
   . cases Fast.sEq_iff.mp e;exact⟨_,.str _,(iZ _ _).trans hn,⟨_,rfl⟩,λ_ _=>rfl⟩
   . exact⟨_,.non,(iZ _ _).trans hn,rfl,λ_ _=>rfl⟩
   . cases eq_of_beq e;exact⟨_,.bl _,(iZ _ _).trans hn,rfl,λ_ _=>rfl⟩
   . cases e
 . cases e
theorem aIF{prog p:Program}{w:World}{h0 h:Heap}{mg:Str->Option Value}{P:Pg}{Γ:Ct}{ix:List (Nat×List Str)}{cns:List (Str×D)}(S:kU p cns h0=oZ p)(k:∀b o,h0.get? b=some o->h.get? b=some o)(G:h.Ns mainGlobals mg)
 (hi:(ix.all λc=>wG (wH p c.1))=true) (h1:Γ.fns=(ix.map (nD p)).map (·.x)) (h2:Γ.cns=cns) (h3:Γ.tbs=[]) (hb:((P.fns.zip (ix.map (nD p))).all λq=>jA (iT q.2.st) (q.2.N.take q.1.np))=true) (chk:iE Γ P.fns (ix.map (nD p))=true) :
 Top prog w (oU h0) mg P Γ (ix.map (nD p)):=by
 unfold kU oZ at S
 simp only[Prod.mk.injEq] at S
 obtain⟨s1,s2,s3⟩:=S
 have X:=aAw k
 exact {
  fn:=λf t ht=>by
   rw[List.getElem?_map] at ht
   obtain⟨c,hc,rfl⟩:=Option.map_eq_some_iff.mp ht
   have hd:=List.all_eq_true.mp hi c (mG hc)
   obtain⟨fa,fd,g1,g2⟩:=aFN (List.map_inj_left.mp s1 _ (List.mem_filter.mpr ⟨aIE hd,hd⟩))
   refine⟨fa,fd,mg_of X G g1,g2,λF hF=>g2.binds λkV doc pm an cdv ct us hl=>oY (List.all_eq_true.mp hb (F,nD p c) (mG (i:=f) ?_)) hl⟩
   rw[List.getElem?_zip_eq_some]
   exact⟨hF,by rw[List.getElem?_map,hc];rfl⟩
  fns:=λf x hx=>by
   rw[h1,List.getElem?_map] at hx
   obtain⟨t,ht,rfl⟩:=Option.map_eq_some_iff.mp hx
   exact⟨t,ht,rfl⟩
  blt:=λx hx=>mg_none_of X G ((iZ h0 x).trans (List.map_inj_left.mp s2 x hx))
  cns:=λx d hx=>by
   rw[h2] at hx
   obtain⟨u,v,g1,g2⟩:=aFO (List.all_eq_true.mp s3 _ (PySem.mem_of_lookup hx))
   exact⟨u,v,mg_of X G g1,g2⟩
  tab:=λi x hx=>by rw[h3] at hx;simp at hx
  chk:=chk }
theorem aDI{l:PySem.W.OpenLaw}{n k:Nat}{q:Program}{loose:List Str}{XP:(Str->Option Value)->Heap->Prop}{YP:World->Heap->Prop}{d:DefRec}{sp:PySem.W.Frag->Sp}{x:Str}(hn:l.most=some n)(hn2:n<=sizeLine)(hdf:d.params.defaults=[])(hr:jU k callerA)
 (F:∀(w:World) (mg:Str->Option Value) (fa:Addr) (h:Heap),YP w h->h.Ns mainGlobals mg->mg d.name=some (.ref fa)->∃K:PySem.W.Frag,K.In h/\∃fd:FuncData,(∀(s:Shared) (u:Value),BindsTo s fd ⟨[u],[]⟩ [(x,u)])/\∀base:Heap,K.In base->base.Ns mainGlobals mg->nA l.prog w K mg base CX0 k fa fd [x] (sp K))
 (hsp:∀(K:PySem.W.Frag) (H:Hp) (a:Addr) (ns:List Int),ns.length<=n->aFf H->SqL K H a (ns.map V.int)->sp K [.ref a] H (λv _=>v=.bl true) λ_ _ _=>False):PySem.W.WalkO q loose XP YP l.row.toRowW d [] (λf vs=>PySem.call f vs):=by
 refine Att.attach_call hn hdf λw s₀ s₁ mg mb fa o pm cd doc a vs ns G Y ho hd hcd hmg hobj hints hlen hg=>?_
 obtain⟨K,KX,fd,hb,hF⟩:=F w mg fa _ Y G.T.g hmg
 exact aCD KX G.T.g G.T.b G.T.builtins G.T.nolimit hg hobj hints (Nat.le_trans hlen hn2) hr hF hb (λH hO hS=>hsp K H a ns hlen hO hS) λ_ _ _ z=>z
def lst(p:Program):Stmt:=p.main.body.getLastD (.Pass ⟨0,0,0,0⟩)
def aAx(p:Program):Program:={ p with main:={ p.main with body:=[lst p] } }
def aDJ(p:Program):List Str:=(p.main.scope.names.map (·.1)).filter λx=>!(Fast.sEq x (dO (lst p)))
def aIG(s:Stmt):Pos:=match s with
 | .FunctionDef _ _ _ _ _ _ _ _ _ p=>p
 | _=>⟨0,0,0,0⟩
def kA(p:Program):DefRec:=⟨dO (lst p),iT (lst p),iU (lst p),cD (lst p),aIG (lst p)⟩
theorem aIH{l:PySem.W.OpenLaw}{P:Pg}{cns:List (Str×D)}{ix:List (Nat×List Str)}{k f N:Nat}{x:Str}{sl:List Str}(said:l.row.wellSaid=true)(left:LeftO l.prog (aAx l.prog) (aDJ l.prog) (λ_=>true) (λs=>kU l.prog cns s.heap) (λ_=>oZ l.prog) N)
 (hdef:defOf (aAx l.prog) l.name=some (kA l.prog,[])) (hp:l.prog.theDef l.name=some ((kA l.prog).params,(kA l.prog).body,(kA l.prog).scope)) (hk:kwWritten? (kA l.prog).params.kwonlyargs (kA l.prog).params.kw_defaults=some []) (hwr:(!l.writes||([]:WRecords).isEmpty)=true)
 (ok:(chainsOk (aAx l.prog)&&opensWell l.prog&&(frees l.row.toRowW&&l.row.within.isEmpty))=true) (hb:l.prog.bare) (hw:l.row.toRowW.promised) (hn:l.most=some 63) (hdf:(kA l.prog).params.defaults=[])
 (hi:(ix.all λc=>wG (wH l.prog c.1))=true) (hbd:((P.fns.zip (ix.map (nD l.prog))).all λq=>jA (iT q.2.st) (q.2.N.take q.1.np))=true) (chk:iE ⟨[],[],(ix.map (nD l.prog)).map (·.x),cns,[],true,[]⟩ P.fns (ix.map (nD l.prog))=true)
 (hr:jU (k+1) callerA) (hx:(ix.map (nD l.prog))[f]? = some ⟨dO (lst l.prog),dO (lst l.prog),lst l.prog,x::sl⟩) (hnp:(P.fns[f]?).map (·.np)=some 1)
 (pure:∀ns:List Int,ns.length<=63->∃fr pa,Hp.call P (k+1) f [.lst (ns.map D.int)]=.ok (.bl true,fr,pa)):l.row.Holds:=by
 refine holds_open (XP:=λ_ _=>True) (YP:=λ_ h=>∃h0,kU l.prog cns h0=oZ l.prog/\∀b o,h0.get? b=some o->h.get? b=some o) left (λw s e=>⟨s.heap,e,λ_ _ z=>z⟩) (λw h h' ⟨h0,e,k⟩ k'=>⟨h0,e,λb o z=>k' b o (k b o z)⟩) (λ_ _=>trivial) (λ_ _ _ _ _=>trivial) hdef hp hk (λ_ _=>recFacts_nil rfl) hwr said ok hb hw ?_
 obtain⟨F,hF,hFn⟩:=Option.map_eq_some_iff.mp hnp
 refine aDI (sp:=λK=>spF K P (k+1) f) (x:=x) hn (by decide) hdf hr (λw mg fa h ⟨h0,e,kk⟩ G hmg=>?_) λK H a ns hl hO hS=>aIB hO hS (pure ns hl)
 have T:=aIF (prog:=l.prog) (w:=w) (P:=P) (Γ:=⟨[],[],(ix.map (nD l.prog)).map (·.x),cns,[],true,[]⟩) e kk G hi rfl rfl rfl hbd chk
 obtain⟨fa',fd,g1,g2,g3⟩:=T.fn f _ hx
 have e:=hmg.symm.trans g1
 cases e
 have b:=g3 F hF
 refine⟨oU h0,aAw kk,fd,λs u=>?_,λbase _ _=>?_⟩
 . obtain⟨oc,od,kV,doc,pm,an,cdv,ct,osl,rfl,lk,hcd⟩:=g2.ex
   refine .of_eq ((oY (ps:=[x]) ?_ rfl).trans rfl)
   have:=List.all_eq_true.mp hbd (F,_) (mG (i:=f) (List.getElem?_zip_eq_some.mpr ⟨hF,hx⟩))
   rw[hFn] at this
   exact this
 . have:=aIA (base:=base) T hx hF g2 k
   rw[hFn] at this
   exact this
end Hh
end
noncomputable section
namespace Hp
open PySem (Str Operator CmpOp)
section
variable {P:Pg} {cl:Caller} {σ:Sg}
@[simp] theorem aA {α β:Type} (a:α) (f:α->R β):((R.ok a:R α) >>= f)=f a:=id rfl
@[simp] theorem gE {α:Type} (x:R α):R.iff true x=x:=id rfl
@[simp] theorem aNN {α:Type} (x:α):R.of (some x)=.ok x:=id rfl
@[simp] theorem aT {α:Type} (a:α) (f:α->O):O.from σ (.ok a) f=f a:=id rfl
@[simp] theorem jN (f:Sg->O):(O.next σ).on f=f σ:=id rfl
@[simp] theorem fJ (v:Vl) (f:Sg->O):(O.ret v).on f=.ret v:=id rfl
@[simp] theorem cI (d:D):ev P cl σ (.c d)=.ok (.cl d):=id rfl
@[simp] theorem bV (i:Nat):ev P cl σ (.v i)=bH σ i:=id rfl
@[simp] theorem cR (o:Operator) (a b:E):ev P cl σ (.op o a b)=(ev P cl σ a >>= λx=>ev P cl σ b >>= λy=>opD o x y):=id rfl
@[simp] theorem aNl (a:E):ev P cl σ (.neg a)=(ev P cl σ a >>= λx=>match x.d with|.int i=>.ok (.cl (.int (-i)))|_=>.bad):=id rfl
@[simp] theorem aLi (a:E):ev P cl σ (.nt a)=(ev P cl σ a >>= λx=>eR x >>= λk=>.ok (.cl (.bl (!k)))):=id rfl
@[simp] theorem aGG (a b:E):ev P cl σ (.an a b)=(ev P cl σ a >>= λx=>match x.d with|.bl true=>ev P cl σ b|.bl false=>.ok (.cl (.bl false))|_=>.bad):=id rfl
@[simp] theorem aII (a b:E):ev P cl σ (.orr a b)=(ev P cl σ a >>= λx=>match x.d with|.bl true=>.ok (.cl (.bl true))|.bl false=>ev P cl σ b|_=>.bad):=id rfl
@[simp] theorem yX (t a b:E):ev P cl σ (.ife t a b)=(tst P cl σ t >>= λx=>if x then ev P cl σ a else ev P cl σ b):=id rfl
@[simp] theorem yY (o:CmpOp) (a b:E):ev P cl σ (.cmp o a b)=(ev P cl σ a >>= λx=>ev P cl σ b >>= λy=>match dJ o x.d y.d with|some k=>.ok (.cl (.bl k))|none=>.bad):=id rfl
@[simp] theorem aMd (o o':CmpOp) (a b c:E):ev P cl σ (.cmp2 o o' a b c)=(ev P cl σ a >>= λx=>ev P cl σ b >>= λy=>match dJ o x.d y.d with
 | some true=>ev P cl σ c >>= λz=>(match dJ o' y.d z.d with|some k=>.ok (.cl (.bl k))|none=>.bad)
 | some false=>.ok (.cl (.bl false))
 | none=>.bad):=id rfl
@[simp] theorem cX (a b:E):ev P cl σ (.idx a b)=(ev P cl σ a >>= λx=>ev P cl σ b >>= λy=>bM x y):=id rfl
@[simp] theorem cY (es:Es):ev P cl σ (.tup es)=(evs P cl σ es >>= λvs=>.ok (jQ vs)):=id rfl
@[simp] theorem gP (es:Es):ev P cl σ (.lst es)=(evs P cl σ es >>= λvs=>.ok (mR vs)):=id rfl
@[simp] theorem aU (f:Nat) (es:Es):ev P cl σ (.call f es)=(evs P cl σ es >>= λvs=>cl f (vs.map (·.d)) >>= λr=>.ok (hG vs r)):=id rfl
@[simp] theorem gX (b:Bi) (es:Es):ev P cl σ (.bi b es)=(evs P cl σ es >>= λvs=>biD b vs):=id rfl
@[simp] theorem aIJ (m:Mt) (o:E) (es:Es):ev P cl σ (.mth m o es)=(ev P cl σ o >>= λx=>evs P cl σ es >>= λys=>mtD m x ys):=id rfl
@[simp] theorem aNm (a:E) (cs:List Cl):ev P cl σ (.isi a cs)=(ev P cl σ a >>= λx=>match isI cs P x.d with|some k=>.ok (.cl (.bl k))|none=>.bad):=id rfl
@[simp] theorem tS (a:E) (h:E):ev P cl σ (.sli a .nil (.cons h .nil))=(ev P cl σ a >>= λx=>ev P cl σ h >>= λh=>match h.d with|.int h=>.iff (aM h) (eS x none (some h))|_=>.bad):=by
 show(ev P cl σ a >>= λx=>evs P cl σ .nil >>= λl=>evs P cl σ (.cons h .nil) >>= λh=>_)=_
 cases ev P cl σ a with
 | ok x=>
  show(evs P cl σ (.cons h .nil) >>= λh=>_)=(ev P cl σ h >>= λh=>_)
  show((ev P cl σ h >>= λx=>evs P cl σ .nil >>= λxs=>R.ok (x::xs)) >>= λh=>_)=_
  cases ev P cl σ h <;> rfl
 | exc e=>rfl
 | bad=>rfl
theorem tU(k:Nat)(caps:List Nat)(t:T)(it:It)(cond:Es)(elt:E):ev P cl σ (.comp k caps t it cond elt)=(walk P cl σ it >>= λxs=>
 eF (λx=>cC (List.replicate k .dead++caps.map λi=>((freeze σ xs.2)[i]?).getD .dead) x t >>= λσ1=>tsts P cl σ1 cond >>= λk=>if k then (ev P cl σ1 elt >>= λy=>.ok (some y)) else .ok none) xs.1 >>= λvs=>
 .iff (decide (vs.length<=lim)) (.ok (kL k caps xs.2 vs))):=rfl
@[simp] theorem aJg (a:E):ev P cl σ (.numset a)=(ev P cl σ a >>= λx=>match x.d with
 | .lst ds=>(match tD ds with|some ks=>.iff (decide (ds.length<=1000)) (.ok (.cl (.int (aCL ks).length)))|none=>.bad)
 | _=>.bad):=id rfl
@[simp] theorem aI:evs P cl σ .nil=.ok []:=id rfl
@[simp] theorem aB (e:E) (es:Es):evs P cl σ (.cons e es)=(ev P cl σ e >>= λx=>evs P cl σ es >>= λxs=>.ok (x::xs)):=id rfl
@[simp] theorem aIK (a:E):tst P cl σ (.nt a)=(tst P cl σ a >>= λx=>.ok (!x)):=id rfl
@[simp] theorem kB (a b:E):tst P cl σ (.an a b)=(tst P cl σ a >>= λx=>if x then tst P cl σ b else .ok false):=id rfl
@[simp] theorem nK (a b:E):tst P cl σ (.orr a b)=(tst P cl σ a >>= λx=>if x then .ok true else tst P cl σ b):=id rfl
@[simp] theorem aNJ (d:D):tst P cl σ (.c d)=eR (.cl d):=id rfl
@[simp] theorem aNK (i:Nat):tst P cl σ (.v i)=(bH σ i >>= λx=>eR x):=id rfl
@[simp] theorem bX (o:CmpOp) (a b:E):tst P cl σ (.cmp o a b)=(ev P cl σ a >>= λx=>ev P cl σ b >>= λy=>match dJ o x.d y.d with|some k=>.ok k|none=>.bad):=id rfl
@[simp] theorem wJ (o o':CmpOp) (a b c:E):tst P cl σ (.cmp2 o o' a b c)=(ev P cl σ a >>= λx=>ev P cl σ b >>= λy=>match dJ o x.d y.d with
 | some true=>ev P cl σ c >>= λz=>(match dJ o' y.d z.d with|some k=>.ok k|none=>.bad)
 | some false=>.ok false
 | none=>.bad):=id rfl
@[simp] theorem iF (f:Nat) (es:Es):tst P cl σ (.call f es)=(evs P cl σ es >>= λvs=>cl f (vs.map (·.d)) >>= λr=>eR (hG vs r)):=id rfl
@[simp] theorem aMe (a:E) (cs:List Cl):tst P cl σ (.isi a cs)=(ev P cl σ a >>= λx=>match isI cs P x.d with|some k=>.ok k|none=>.bad):=id rfl
@[simp] theorem aMf (a b:E):tst P cl σ (.idx a b)=(ev P cl σ a >>= λx=>ev P cl σ b >>= λy=>bM x y >>= λz=>eR z):=id rfl
@[simp] theorem aDK:tsts P cl σ .nil=.ok true:=id rfl
@[simp] theorem aBJ (e:E) (es:Es):tsts P cl σ (.cons e es)=(tst P cl σ e >>= λx=>if x then tsts P cl σ es else .ok false):=id rfl
@[simp] theorem wK (a b:E):walk P cl σ (.rng a b)=(ev P cl σ a >>= λx=>ev P cl σ b >>= λy=>match x.d,y.d with|.int i,.int j=>.iff (aM i&&aM j) (.ok ((fG i j).map .cl,[]))|_,_=>.bad):=id rfl
@[simp] theorem cO (e:E):walk P cl σ (.seq e)=(ev P cl σ e >>= λx=>match x.d with
 | .lst ds=>.ok (items x ds,x.al)
 | .tup ds=>.ok (items x ds,x.al)
 | .str a=>.iff (decide (a.length<=lim)) (.ok (a.cps.toList.map λn=>.cl (.str ⟨#[n]⟩),[]))
 | _=>.bad):=id rfl
@[simp] theorem aLj (a b:E):walk P cl σ (.zip a b)=(ev P cl σ a >>= λx=>ev P cl σ b >>= λy=>match jV x.d,jV y.d with
 | some as,some bs=>.ok (items ⟨.non,false,x.pa||y.pa,x.al++y.al⟩ (aCM as bs),x.al++y.al)
 | _,_=>.bad):=id rfl
@[simp] theorem bY (t:T) (e:E):ex P cl σ (.set t e)=O.from σ (ev P cl σ e) λv=>O.from σ (cC (freeze σ v.al) v t) .next:=id rfl
@[simp] theorem kC (i:Nat) (e:E):ex P cl σ (.app i e)=O.from σ (ev P cl σ e) λv=>put σ i v λds=>some (ds++[v.d]):=id rfl
@[simp] theorem aIL (i:Nat) (e:E):ex P cl σ (.ext i e)=O.from σ (ev P cl σ e) λv=>match qZ v with|some (v',ds')=>put σ i v' λds=>some (ds++ds')|none=>.bad:=id rfl
@[simp] theorem aNn (i:Nat):ex P cl σ (.clr i)=put σ i (.cl .non) λ_=>some []:=id rfl
@[simp] theorem aDL (i:Nat) (k e:E):ex P cl σ (.setIx i k e)=O.from σ (ev P cl σ e) λv=>O.from σ (ev P cl σ k) λkv=>match kv.d with
 | .int k=>put σ i v λds=>(match ixN ds.length k with|some j=>some (ds.set j v.d)|none=>none)
 | _=>.bad:=id rfl
@[simp] theorem dC (e:E):ex P cl σ (.ret e)=O.from σ (ev P cl σ e) .ret:=id rfl
@[simp] theorem dD (c:E) (a b:Ss):ex P cl σ (.iff c a b)=O.from σ (tst P cl σ c) λk=>if k then exs P cl σ a else exs P cl σ b:=id rfl
theorem yZ(t:T)(it:It)(b:Ss):ex P cl σ (.for t it b)=O.from σ (walk P cl σ it) λxs=>dQ (λσ x=>O.from σ (cC σ x t) λσ'=>exs P cl σ' b) xs.1 (freeze σ xs.2):=rfl
@[simp] theorem aNo (i j:Nat):ex P cl σ (.mov i j)=(match σ[j]? with
 | some (.own pa ds)=>if i=j then .bad else .next ((σ.set j .dead).set i (.own pa ds))
 | some (.sh pa d)=>.next (σ.set i (.sh (pa&&!noL d) d))
 | _=>.bad):=id rfl
@[simp] theorem aMg (i:Nat):ex P cl σ (.retv i)=(match σ[i]? with|some (.own pa ds)=>.ret ⟨.lst ds,true,pa,[]⟩|_=>O.from σ (bH σ i) .ret):=id rfl
@[simp] theorem aLk (i:Nat) (k:E):ex P cl σ (.pop none i (some k))=O.from σ (ev P cl σ k >>= λv=>match v.d with|.int k=>.iff (aM k) (.ok (some k))|_=>.bad) λk=>O.from σ (aCP σ i k) λr=>.next r.2:=id rfl
@[simp] theorem aL:exs P cl σ .nil=.next σ:=id rfl
@[simp] theorem aV (s:S) (ss:Ss):exs P cl σ (.cons s ss)=(ex P cl σ s).on λσ'=>exs P cl σ' ss:=id rfl
end
theorem aG{P:Pg}{cl:Caller}{f:Nat}{F:Fn}{ds:List D}(hF:P.fns[f]? = some F)(hl:ds.length=F.np){v:Vl}
 (h:exs P cl ((ds.map λd=>Sl.sh true d)++List.replicate (F.ns-F.np) Sl.dead) F.body=.ret v):yF P cl f ds=.ok (v.d,v.fr,v.pa):=by
 unfold yF
 rw[hF]
 simp only[hl,if_true,h]
theorem wL{f:Sg->Vl->O}:∀(xs:List Vl) (I:Nat->Sg->Prop) (σ:Sg),I 0 σ->(∀(i:Nat) (h:i<xs.length) (σ:Sg),I i σ->∃σ',f σ xs[i]=.next σ'/\I (i+1) σ')->∃σ',dQ f xs σ=.next σ'/\I xs.length σ'
 | [],I,σ,h0,_=>⟨σ,rfl,h0⟩
 | x::xs,I,σ,h0,hs=>by
  obtain⟨σ1,e1,h1⟩:=hs 0 (by simp) σ h0
  obtain⟨σ2,e2,h2⟩:=wL xs (λi=>I (i+1)) σ1 h1 λi h σ hI=>by
   have:=hs (i+1) (by simpa using h) σ hI
   simpa using this
  refine⟨σ2,?_,by simpa using h2⟩
  have e1:f σ x=.next σ1:=by simpa using e1
  unfold dQ
  rw[e1]
  exact e2
theorem pA{f:Vl->R (Option Vl)}{g:Vl->Vl}:∀{xs:List Vl},(∀x∈xs,f x=.ok (some (g x)))->eF f xs=.ok (xs.map g)
 | [],_=>rfl
 | x::xs,h=>by
  have h1:=h x List.mem_cons_self
  have h2:=pA (f:=f) (g:=g) (xs:=xs) λy hy=>h y (List.mem_cons_of_mem _ hy)
  show(f x >>= λy=>eF f xs >>= λys=>(match y with|some y=>R.ok (y::ys)|none=>R.ok ys))=_
  rw[h1,h2]
  rfl
theorem aIM(n:Nat):(fG 0 (n:Int)).map Vl.cl=(List.range n).map λ(k:Nat)=>Vl.cl (.int (k:Int)):=by
 unfold fG
 rw[List.map_map]
 simp
theorem aFP{P:Pg}{cl:Caller}{σ:Sg}{k:Nat}{caps:List Nat}{t:T}{it:It}{elt:E}{xs:List Vl}{al:List Nat}(g:Vl->Vl)(hw:walk P cl σ it=.ok (xs,al))(hl:xs.length<=lim)
 (hb:∀x∈xs,∃σ1,cC (List.replicate k .dead++caps.map λi=>((freeze σ al)[i]?).getD .dead) x t=.ok σ1/\ev P cl σ1 elt=.ok (g x)):ev P cl σ (.comp k caps t it .nil elt)=.ok (kL k caps al (xs.map g)):=by
 rw[tU,hw,aA,pA (g:=g) λx hx=>by
  obtain⟨σ1,e1,e2⟩:=hb x hx
  show(cC _ x t >>= λσ1=>_)=_
  rw[e1]
  show(ev P cl σ1 elt >>= λy=>R.ok (some y))=_
  rw[e2]
  rfl]
 have hl2:decide ((xs.map g).length<=lim)=true:=decide_eq_true (by rw[lM];exact hl)
 rw[aA,hl2,gE]
theorem dR{P:Pg}{cl:Caller}{σ:Sg}{t:T}{it:It}{b:Ss}{xs:List Vl}{al:List Nat}(I:Nat->Sg->Prop)(hw:walk P cl σ it=.ok (xs,al))(h0:I 0 (freeze σ al))
 (hs:∀(i:Nat) (h:i<xs.length) (σ:Sg),I i σ->∃σ1 σ',cC σ xs[i] t=.ok σ1/\exs P cl σ1 b=.next σ'/\I (i+1) σ'):∃σ',ex P cl σ (.for t it b)=.next σ'/\I xs.length σ':=by
 rw[yZ,hw]
 refine wL xs I _ h0 λi h σ hI=>?_
 obtain⟨σ1,σ',e1,e2,h'⟩:=hs i h σ hI
 refine⟨σ',?_,h'⟩
 show O.from σ (cC σ xs[i] t) _=_
 rw[e1]
 exact e2
theorem aFQ:aM 0=true:=by decide
theorem kW{n:Nat}(hn:n<=1000000):aM (n:Int)=true:=by
 unfold aM
 rw[bA,decide_eq_true_eq,decide_eq_true_eq]
 exact⟨Int.le_trans (b:=0) (by decide) (Int.natCast_nonneg n),Int.lt_of_le_of_lt (b:=1000000) (by omega) (by decide)⟩
theorem aAy{n:Int}(h0:0<=n)(hn:n<=1000000):aM n=true:=by
 have:=kW (n:=n.toNat) (by omega)
 rwa [Int.toNat_of_nonneg h0] at this
theorem bS{P:Pg}{cl:Caller}{σ:Sg}{a:E}{v:Vl}{n:Nat}(h:ev P cl σ a=.ok v)(hd:v.d=.int n)(hn:n<=1000000):walk P cl σ (.rng (.c (.int 0)) a)=.ok ((List.range n).map λ(k:Nat)=>Vl.cl (.int (k:Int)),[]):=by
 rw[wK,h,cI,aA,aA,hd,<-aIM]
 show R.iff (aM 0&&aM (n:Int)) _=_
 rw[aFQ,kW hn]
 rfl
theorem rJ{k:Nat}{caps al:List Nat}{vs:List Vl}(h:noLs (vs.map (·.d))=true):kL k caps al vs=⟨.lst (vs.map (·.d)),true,false,[]⟩:=by
 unfold kL
 rw[if_pos h]
end Hp
end
noncomputable section
namespace HpS
open Hp PySem
def box(b:Str×Int):D:=.tup [.str b.1,.int b.2]
def aN(bs:List (Str×Int)):List D:=bs.map box
def aE(is:List Int):D:=.tup (is.map D.int)
structure zA (bs:List (Str×Int)):Prop where
 few:bs.length<=5
 one:∀b∈bs,1<=b.2/\b.2<=7
 room:(bs.map λb=>b.2+1).foldl (·*·) 1<=24
def kX(bs:List (Str×Int)):Int:=(bs.map λb=>b.2+1).foldl (·*·) 1
theorem eU:∀is:List Int,noLs (is.map D.int)=true
 | []=>rfl
 | i::is=>by simp[noLs,noL,eU is]
@[simp] theorem aK (is:List Int):noL (aE is)=true:=by simp[aE,noL,eU]
@[simp] theorem tV (b:Str×Int):noL (box b)=true:=by simp[box,noL,noLs]
theorem iG:∀ss:List (List Int),noLs (ss.map aE)=true
 | []=>rfl
 | s::ss=>by simp[noLs,iG ss]
theorem wM{v:Vl}(bs:List (Str×Int)):items v (aN bs)=bs.map λb=>Vl.cl (box b):=by
 simp[items,aN,Vl.sub,Function.comp_def]
theorem tW:∀(xs:List Int) (a:Int),1<=a->(∀x∈xs,1<=x)->a<=xs.foldl (·*·) a
 | [],a,_,_=>Int.le_refl _
 | x::xs,a,ha,h=>by
  have hx:=h x List.mem_cons_self
  have h1:a<=a*x:=by
   have:=Int.mul_le_mul_of_nonneg_left hx (show 0<=a by omega)
   omega
  exact Int.le_trans h1 (tW xs (a*x) (by omega) λy hy=>h y (List.mem_cons_of_mem _ hy))
theorem tX(bs:List (Str×Int))(h:∀b∈bs,1<=b.2)(i:Nat):1<=kX (bs.take i)/\kX (bs.take i)<=kX bs:=by
 have pos:∀(l:List (Str×Int)),(∀b∈l,1<=b.2)->∀x∈l.map (λb=>b.2+1),1<=x:=λl hl x hx=>by
  obtain⟨b,hb,rfl⟩:=List.mem_map.mp hx
  have:=hl b hb
  omega
 have e:bs=bs.take i++bs.drop i:=(List.take_append_drop i bs).symm
 have h1:1<=kX (bs.take i):=tW _ 1 (by omega) (pos _ λb hb=>h b (List.mem_of_mem_take hb))
 refine⟨h1,?_⟩
 have:kX bs=((bs.drop i).map λb=>b.2+1).foldl (·*·) (kX (bs.take i)):=by
  unfold kX
  conv=>lhs;rw[e,List.map_append,List.foldl_append]
 rw[this]
 exact tW _ _ h1 (pos _ λb hb=>h b (List.mem_of_mem_drop hb))
theorem aBK{bs:List (Str×Int)}{i:Nat}(h:i<bs.length):kX (bs.take (i+1))=kX (bs.take i)*(bs[i].2+1):=by
 rw[List.take_succ_eq_append_getElem h]
 unfold kX
 rw[List.map_append,List.foldl_append]
 rfl
def tY:Fn:=⟨1,6,
 (.cons (.set (.n 1) (.lst (.cons (.tup .nil) .nil)))
 (.cons (.for (.t [2,3]) (.seq (.v 0))
  (.cons (.set (.n 4) (.lst .nil))
  (.cons (.for (.n 5) (.seq (.v 1))
   (.cons (.ext 4 (.comp 1 [5] (.n 0) (.rng (.c (.int 0)) (.op .Add (.v 3) (.c (.int 1)))) .nil (.op .Add (.v 1) (.tup (.cons (.v 0) .nil)))))
   .nil))
  (.cons (.mov 1 4)
  .nil))))
 (.cons (.retv 1)
 .nil)))⟩
def dY(b:List Int)(top:Int):List (List Int):=(List.range (top+1).toNat).map λ(h:Nat)=>b++[(h:Int)]
def iH(found:List (List Int))(top:Int):List (List Int):=found.flatMap λb=>dY b top
def aQ(bs:List (Str×Int)):List (List Int):=bs.foldl (λfound b=>iH found b.2) [[]]
theorem fC{bs:List (Str×Int)}{i:Nat}(h:i<bs.length):aQ (bs.take (i+1))=iH (aQ (bs.take i)) bs[i].2:=by
 rw[List.take_succ_eq_append_getElem h]
 unfold aQ
 rw[List.foldl_append]
 rfl
theorem zB(found:List (List Int))(top:Int):(iH found top).length=found.length*(top+1).toNat:=by
 induction found with
 | nil=>simp[iH]
 | cons b r ih=>
  unfold iH at ih ⊢
  rw[List.flatMap_cons,lA,ih,lC,Nat.succ_mul]
  simp[dY]
  omega
theorem pB{bs:List (Str×Int)}(h:zA bs):∀i,i<=bs.length->((aQ (bs.take i)).length:Int)=kX (bs.take i)/\∀s∈aQ (bs.take i),s.length=i
 | 0,_=>by simp[aQ,kX]
 | i+1,hi=>by
  have hi':i<bs.length:=by omega
  obtain⟨h1,h2⟩:=pB h i (by omega)
  obtain⟨g2,g3⟩:=h.one bs[i] (List.getElem_mem hi')
  rw[fC hi',aBK hi',zB]
  refine⟨?_,λs hs=>?_⟩
  . rw[Int.natCast_mul,h1,Int.toNat_of_nonneg (by omega)]
  . obtain⟨b,hb,hs⟩:=List.mem_flatMap.mp hs
    obtain⟨k,_,rfl⟩:=List.mem_map.mp hs
    rw[lA,h2 b hb];rfl
theorem aLl{bs:List (Str×Int)}(h:zA bs)(i:Nat)(hi:i<=bs.length):(aQ (bs.take i)).length<=24:=by
 have h1:=(pB h i hi).1
 have h2:=(tX bs (λb hb=>(h.one b hb).1) i).2
 have h3:kX bs<=24:=h.room
 omega
theorem mW{found:List (List Int)}{top:Int}{j:Nat}(h:j<found.length):(found.take (j+1)).flatMap (λb=>dY b top)=(found.take j).flatMap (λb=>dY b top)++dY found[j] top:=by
 rw[List.take_succ_eq_append_getElem h,List.flatMap_append]
 simp
theorem aFR{found:List (List Int)}{top:Int}(j:Nat):((found.take j).flatMap λb=>dY b top).length<=(iH found top).length:=by
 have e:found=found.take j++found.drop j:=(List.take_append_drop j found).symm
 unfold iH
 conv=>rhs;rw[e,List.flatMap_append,lA]
 omega
theorem eG{v:Vl}(ss:List (List Int)):items v (ss.map aE)=ss.map λs=>Vl.cl (aE s):=by
 simp[items,Vl.sub,Function.comp_def]
theorem aDM{P:Pg}(n:Nat){s0 s1 s2 s4:Sl}{b:List Int}{top:Int}(ht:1<=top)(ht7:top<=7)(hb:b.length<=10) :
 ev P (call P n) [s0,s1,s2,.sh false (.int top),s4,.sh false (aE b)] (.comp 1 [5] (.n 0) (.rng (.c (.int 0)) (.op .Add (.v 3) (.c (.int 1)))) .nil (.op .Add (.v 1) (.tup (.cons (.v 0) .nil))))=.ok ⟨.lst ((dY b top).map aE),true,false,[]⟩:=by
 have hw:walk P (call P n) [s0,s1,s2,.sh false (.int top),s4,.sh false (aE b)] (.rng (.c (.int 0)) (.op .Add (.v 3) (.c (.int 1))))=.ok ((List.range (top+1).toNat).map λ(k:Nat)=>Vl.cl (.int (k:Int)),[]):=by
  refine bS (v:=.cl (.int (top+1))) ?_ ?_ (by omega)
  . simp[bH,Sl.val,opD,Vl.cl,noL]
  . show D.int (top+1)=D.int ((top+1).toNat:Int)
    rw[Int.toNat_of_nonneg (by omega)]
 rw[aFP (λv=>match v.d with|.int k=>.cl (aE (b++[k]))|_=>.cl .non) hw]
 . have e:(((List.range (top+1).toNat).map λ(k:Nat)=>Vl.cl (.int (k:Int))).map λv=>(match v.d with|.int k=>Vl.cl (aE (b++[k]))|_=>Vl.cl .non)).map (·.d)=(dY b top).map aE:=by
    simp[dY,Vl.cl,Function.comp_def]
   rw[rJ (by rw[e];exact iG _),e]
 . simp only[lM,List.length_range];unfold lim;omega
 . intro y hy
   obtain⟨k,hk,rfl⟩:=List.mem_map.mp hy
   have hl:b.length+1<=lim:=by unfold lim;omega
   refine⟨[.sh false (.int k),.sh false (aE b)],?_,?_⟩
   . simp[cC,Vl.cl,Vl.slot,freeze]
   . simp[bH,Sl.val,Vl.cl,opD,jQ,eZ,cQ,aE,noL,hl,eU]
theorem rK{P:Pg}{f:Nat}(hF:P.fns[f]? = some tY)(n:Nat){bs:List (Str×Int)}(h:zA bs):call P (n+1) f [.lst (aN bs)]=.ok (.lst ((aQ bs).map aE),true,false):=by
 obtain⟨σ',e,hI⟩:=dR (P:=P) (cl:=call P n) (σ:=[.sh true (.lst (aN bs)),.own false [.tup []],.dead,.dead,.dead,.dead]) (t:=.t [2,3]) (it:=.seq (.v 0))
  (b:=.cons (.set (.n 4) (.lst .nil)) (.cons (.for (.n 5) (.seq (.v 1)) (.cons (.ext 4 (.comp 1 [5] (.n 0) (.rng (.c (.int 0)) (.op .Add (.v 3) (.c (.int 1)))) .nil (.op .Add (.v 1) (.tup (.cons (.v 0) .nil))))) .nil)) (.cons (.mov 1 4) .nil)))
  (xs:=bs.map λb=>Vl.cl (box b)) (al:=[])
  (λi σ=>∃s2 s3 s4 s5,σ=[.sh true (.lst (aN bs)),.own false ((aQ (bs.take i)).map aE),s2,s3,s4,s5])
  (by simp[bH,Sl.val,wM]) ⟨_,_,_,_,rfl⟩ (λi hi σ hσ=>by
   obtain⟨s2,s3,s4,s5,rfl⟩:=hσ
   have hi':i<bs.length:=by simpa using hi
   obtain⟨g2,g3⟩:=h.one bs[i] (List.getElem_mem hi')
   have hl24:=aLl h (i+1) hi'
   rw[fC hi'] at hl24
   obtain⟨_,hlen⟩:=pB h i (by omega)
   have hfew:=h.few
   obtain⟨σ2,e2,hJ⟩:=dR (P:=P) (cl:=call P n) (σ:=[.sh true (.lst (aN bs)),.own false ((aQ (bs.take i)).map aE),.sh false (.str bs[i].1),.sh false (.int bs[i].2),.own false [],s5]) (t:=.n 5) (it:=.seq (.v 1))
    (b:=.cons (.ext 4 (.comp 1 [5] (.n 0) (.rng (.c (.int 0)) (.op .Add (.v 3) (.c (.int 1)))) .nil (.op .Add (.v 1) (.tup (.cons (.v 0) .nil))))) .nil)
    (xs:=(aQ (bs.take i)).map λs=>Vl.cl (aE s)) (al:=[1])
    (λj σ=>∃s5,σ=[.sh true (.lst (aN bs)),.sh false (.lst ((aQ (bs.take i)).map aE)),.sh false (.str bs[i].1),.sh false (.int bs[i].2),.own false ((((aQ (bs.take i)).take j).flatMap λb=>dY b bs[i].2).map aE),s5])
    (by simp[bH,Sl.val,eG]) ⟨_,by simp[freeze,Sl.freeze];rfl⟩ (λj hj σ hσ=>by
     obtain⟨s5,rfl⟩:=hσ
     have hj':j<(aQ (bs.take i)).length:=by simpa using hj
     have hb:(aQ (bs.take i))[j].length<=10:=by rw[hlen _ (List.getElem_mem hj')];omega
     have hc:=aDM (P:=P) n (s0:=.sh true (.lst (aN bs))) (s1:=.sh false (.lst ((aQ (bs.take i)).map aE))) (s2:=.sh false (.str bs[i].1)) (s4:=.own false ((((aQ (bs.take i)).take j).flatMap λb=>dY b bs[i].2).map aE)) (b:=(aQ (bs.take i))[j]) g2 g3 hb
     have hle:=aFR (found:=aQ (bs.take i)) (top:=bs[i].2) (j+1)
     rw[mW hj',lA] at hle
     have hlim:((((aQ (bs.take i)).take j).flatMap λb=>dY b bs[i].2).map aE++(dY (aQ (bs.take i))[j] bs[i].2).map aE).length<=lim:=by
      rw[lA,lM,lM];unfold lim;omega
     refine⟨[.sh true (.lst (aN bs)),.sh false (.lst ((aQ (bs.take i)).map aE)),.sh false (.str bs[i].1),.sh false (.int bs[i].2),.own false ((((aQ (bs.take i)).take j).flatMap λb=>dY b bs[i].2).map aE),.sh false (aE (aQ (bs.take i))[j])],
      [.sh true (.lst (aN bs)),.sh false (.lst ((aQ (bs.take i)).map aE)),.sh false (.str bs[i].1),.sh false (.int bs[i].2),.own false ((((aQ (bs.take i)).take (j+1)).flatMap λb=>dY b bs[i].2).map aE),.sh false (aE (aQ (bs.take i))[j])],?_,?_,⟨_,rfl⟩⟩
     . simp[cC,Vl.cl,Vl.slot]
     . rw[aV,aIL,hc,aT]
       show(match qZ ⟨.lst ((dY (aQ (bs.take i))[j] bs[i].2).map aE),true,false,[]⟩ with|some (v',ds')=>put _ 4 v' λds=>some (ds++ds')|none=>.bad).on _=_
       simp only[qZ,iG,if_true]
       unfold put
       simp only[freeze,gB,gS,gZ]
       rw[if_pos hlim]
       simp[mW hj'])
   obtain⟨s5',rfl⟩:=hJ
   refine⟨[.sh true (.lst (aN bs)),.own false ((aQ (bs.take i)).map aE),.sh false (.str bs[i].1),.sh false (.int bs[i].2),s4,s5],[.sh true (.lst (aN bs)),.own false ((aQ (bs.take (i+1))).map aE),.sh false (.str bs[i].1),.sh false (.int bs[i].2),.dead,s5'],?_,?_,⟨_,_,_,_,rfl⟩⟩
   . simp[cC,box,Vl.cl,Vl.sub,noL,Vl.slot]
   . have et:(aQ (bs.take i)).take ((aQ (bs.take i)).map λs=>Vl.cl (aE s)).length=aQ (bs.take i):=by simp
     rw[et] at e2
     simp[mR,eZ,cQ,cC,freeze,Vl.slot,e2,fC hi',iH])
 obtain⟨s2,s3,s4,s5,rfl⟩:=hI
 have et:bs.take (bs.map λb=>Vl.cl (box b)).length=bs:=by simp
 rw[et] at e
 refine aG (F:=tY) hF rfl (v:=⟨.lst ((aQ bs).map aE),true,false,[]⟩) ?_
 simp[tY,mR,jQ,eZ,cQ,cC,freeze,Vl.slot,e]
end HpS
end
noncomputable section
namespace Hp
open PySem (Str)
@[simp] theorem aMh (d:D):(⟨d,false,false,[]⟩:Vl)=.cl d:=id rfl
@[simp] theorem bB (d:D):(Vl.cl d).d=d:=id rfl
@[simp] theorem aNL (d:D):(Vl.cl d).fr=false:=id rfl
@[simp] theorem rL (d:D):(Vl.cl d).pa=false:=id rfl
@[simp] theorem dS (d:D):(Vl.cl d).al=[]:=id rfl
@[simp] theorem bQ (d:D):(Vl.cl d).slot=.sh false d:=by cases d <;> rfl
@[simp] theorem aMi (ds:List D) (pa:Bool) (al:List Nat):(⟨.lst ds,true,pa,al⟩:Vl).slot=.own pa ds:=id rfl
@[simp] theorem cP (i:Nat) (d:D):Sl.val i (.sh false d)=.ok (.cl d):=id rfl
@[simp] theorem bC (i:Nat) (pa:Bool) (k:Int):Sl.val i (.sh pa (.int k))=.ok (.cl (.int k)):=by cases pa <;> rfl
@[simp] theorem aMj (i:Nat) (pa:Bool) (k:Str):Sl.val i (.sh pa (.str k))=.ok (.cl (.str k)):=by cases pa <;> rfl
@[simp] theorem mB (i:Nat) (pa:Bool) (k:Bool):Sl.val i (.sh pa (.bl k))=.ok (.cl (.bl k)):=by cases pa <;> rfl
@[simp] theorem aMk (i:Nat) (pa:Bool):Sl.val i (.sh pa .non)=.ok (.cl .non):=by cases pa <;> rfl
@[simp] theorem gQ (i:Nat) (ds:List D):Sl.val i (.sh true (.lst ds))=.ok ⟨.lst ds,false,true,[]⟩:=id rfl
theorem jB(i:Nat)(pa:Bool){d:D}(h:noL d=true):Sl.val i (.sh pa d)=.ok (.cl d):=by unfold Sl.val;simp[h]
@[simp] theorem eP (i:Nat) (pa:Bool) (ds:List D):Sl.val i (.own pa ds)=.ok ⟨.lst ds,false,pa,[i]⟩:=id rfl
@[simp] theorem dP (σ:Sg) (v:Vl) (i:Nat):cC σ v (.n i)=.ok (σ.set i v.slot):=id rfl
@[simp] theorem bI (σ:Sg):freeze σ []=σ:=id rfl
@[simp] theorem aDN (b:Bool):eR (.cl (.bl b))=.ok b:=id rfl
@[simp] theorem cE (args:List Vl) (d:D):hG args (d,false,false)=.cl d:=id rfl
@[simp] theorem tZ (args:List Vl) (d:D):hG args (d,true,false)=⟨d,true,false,[]⟩:=id rfl
@[simp] theorem eY (a b:D):dJ .Eq a b=eqD a b:=id rfl
@[simp] theorem zC (a b:D):dJ .NotEq a b=(eqD a b).map (!·):=id rfl
@[simp] theorem kE (a b:Int):dJ .Lt (.int a) (.int b)=some (decide (a<b)):=id rfl
@[simp] theorem mD (a b:Int):dJ .Gt (.int a) (.int b)=some (decide (b<a)):=id rfl
@[simp] theorem zD (a b:Int):dJ .LtE (.int a) (.int b)=some (decide (a<=b)):=id rfl
@[simp] theorem aIN (a b:Int):dJ .GtE (.int a) (.int b)=some (decide (b<=a)):=id rfl
theorem aFS(n:Nat)(a b:Int):eqF (n+1) (.int a) (.int b)=some (a==b):=rfl
theorem aFT(n:Nat)(a b:List D):eqF (n+1) (.tup a) (.tup b)=fK n a b:=aCK n a b
@[simp] theorem dE (a b:Int):eqD (.int a) (.int b)=some (a==b):=id rfl
@[simp] theorem nL (a b:Str):eqD (.str a) (.str b)=some (a==b):=id rfl
@[simp] theorem aNp (a b:Bool):eqD (.bl a) (.bl b)=some (a==b):=id rfl
@[simp] theorem aMl (P:Pg) (k:Int):isI [.tInt] P (.int k)=some true:=id rfl
@[simp] theorem aLm (P:Pg) (k:Int):isI [.tBool] P (.int k)=some false:=id rfl
@[simp] theorem aMm (P:Pg) (k:Str):isI [.tStr] P (.str k)=some true:=id rfl
@[simp] theorem aMn (P:Pg) (k:List D):isI [.tTuple] P (.tup k)=some true:=id rfl
@[simp] theorem aMo (P:Pg) (k:List D):isI [.tList] P (.lst k)=some true:=id rfl
@[simp] theorem aNq (P:Pg) (k:Bool):isI [.tBool] P (.bl k)=some true:=id rfl
@[simp] theorem add_int (i j:Int):opD .Add (.cl (.int i)) (.cl (.int j))=.ok (.cl (.int (i+j))):=id rfl
@[simp] theorem sub_int (i j:Int):opD .Sub (.cl (.int i)) (.cl (.int j))=.ok (.cl (.int (i-j))):=id rfl
theorem mul_int{i j:Int}(h:eQ i j=true):opD .Mult (.cl (.int i)) (.cl (.int j))=.ok (.cl (.int (i*j))):=by
 show R.iff (eQ i j) _=_
 rw[h];rfl
theorem aAz{i j:Int}(h:aAh j=true):opD .FloorDiv (.cl (.int i)) (.cl (.int j))=.ok (.cl (.int (i / j))):=by
 show R.iff (aAh j) _=_
 rw[h];rfl
theorem kY{i j:Int}(h:0<j):opD .Mod (.cl (.int i)) (.cl (.int j))=.ok (.cl (.int (i % j))):=by
 show R.iff (decide (0<j)) _=_
 rw[decide_eq_true h];rfl
@[simp] theorem cK (ds:List D) (fr pa:Bool) (al:List Nat):biD .len [⟨.lst ds,fr,pa,al⟩]=.ok (.cl (.int ds.length)):=id rfl
@[simp] theorem aFU (ds:List D):biD .len [.cl (.tup ds)]=.ok (.cl (.int ds.length)):=id rfl
@[simp] theorem aLn (ds:List D):biD .len [.cl (.lst ds)]=.ok (.cl (.int ds.length)):=id rfl
end Hp
end
noncomputable section
namespace HpS
open Hp PySem
section
variable {P:Pg} {cl:Caller} {σ σ':Sg}
theorem cs{s:S}{ss:Ss}{o:O}(h:ex P cl σ s=.next σ')(r:exs P cl σ' ss=o):exs P cl σ (.cons s ss)=o:=by rw[aV,h,jN,r]
theorem bJ{i:Nat}{e:E}{d:D}(h:ev P cl σ e=.ok (.cl d)):ex P cl σ (.set (.n i) e)=.next (σ.set i (.sh false d)):=by rw[bY,h,aT,dS,bI,dP,aT,bQ]
theorem bG{e:E}{ss:Ss}{v:Vl}(h:ev P cl σ e=.ok v):exs P cl σ (.cons (.ret e) ss)=.ret v:=by rw[aV,dC,h];rfl
theorem bU{c:E}{a:Ss}(h:tst P cl σ c=.ok false):ex P cl σ (.iff c a .nil)=.next σ:=by rw[dD,h];rfl
theorem cM{c:E}{a b ss:Ss}{v:Vl}(h:tst P cl σ c=.ok true)(r:exs P cl σ a=.ret v):exs P cl σ (.cons (.iff c a b) ss)=.ret v:=by
 rw[aV,dD,h,aT,if_pos rfl,r];rfl
theorem aJ{a b:E}{x y z:Vl}(h:ev P cl σ a=.ok x)(k:ev P cl σ b=.ok y)(e:bM x y=.ok z):ev P cl σ (.idx a b)=.ok z:=by rw[cX,h,aA,k,aA,e]
theorem bK{a:E}{w x:Str}{b:Bool}(h:ev P cl σ a=.ok (.cl (.str w)))(q:(w==x)=b):tst P cl σ (.cmp .Eq a (.c (.str x)))=.ok b:=by
 rw[bX,h,aA,cI,aA,bB,bB,eY,nL,q]
theorem aLo{a:E}{w x:Str}{b:Bool}(h:ev P cl σ a=.ok (.cl (.str w)))(q:(w==x)=b):ev P cl σ (.cmp .Eq a (.c (.str x)))=.ok (.cl (.bl b)):=by
 rw[yY,h,aA,cI,aA,bB,bB,eY,nL,q]
theorem bL{f:Nat}{a b c:E}{x y z:Vl}{d:D}(h1:ev P cl σ a=.ok x)(h2:ev P cl σ b=.ok y)(h3:ev P cl σ c=.ok z)(hc:cl f [x.d,y.d,z.d]=.ok (d,false,false)):ev P cl σ (.call f (.cons a (.cons b (.cons c .nil))))=.ok (.cl d):=by
 have e:evs P cl σ (.cons a (.cons b (.cons c .nil)))=.ok [x,y,z]:=by rw[aB,h1,aA,aB,h2,aA,aB,h3,aA,aI];rfl
 rw[aU,e,aA,show [x,y,z].map (·.d)=[x.d,y.d,z.d] from rfl,hc];rfl
theorem v0_{d:D}{r:Sg}(h:noL d=true):ev P cl (.sh true d::r) (.v 0)=.ok (.cl d):=jB 0 true h
theorem v1_{s:Sl}{d:D}{r:Sg}(h:noL d=true):ev P cl (s::.sh true d::r) (.v 1)=.ok (.cl d):=jB 1 true h
theorem v2_{s t:Sl}{d:D}{r:Sg}(h:noL d=true):ev P cl (s::t::.sh true d::r) (.v 2)=.ok (.cl d):=jB 2 true h
theorem aGH{t a b:E}{k:Bool}{v:Vl}(h:tst P cl σ t=.ok k)(r:(if k then ev P cl σ a else ev P cl σ b)=.ok v):ev P cl σ (.ife t a b)=.ok v:=by rw[yX,h,aA,r]
theorem aLp{a:E}{k:Bool}(h:ev P cl σ a=.ok (.cl (.bl k))):ev P cl σ (.nt a)=.ok (.cl (.bl !k)):=by rw[aLi,h];rfl
theorem aLq{a b:E}{x y:Bool}(h1:ev P cl σ a=.ok (.cl (.bl x)))(h2:ev P cl σ b=.ok (.cl (.bl y))):ev P cl σ (.an a b)=.ok (.cl (.bl (x&&y))):=by
 rw[aGG,h1,aA];cases x
 . rfl
 . exact h2
theorem aDO{a b:E}{x y:Bool}(h1:ev P cl σ a=.ok (.cl (.bl x)))(h2:ev P cl σ b=.ok (.cl (.bl y))):ev P cl σ (.orr a b)=.ok (.cl (.bl (x||y))):=by
 rw[aII,h1,aA];cases x
 . exact h2
 . rfl
theorem dU{o:Operator}{a b:E}{x y z:Vl}(h:ev P cl σ a=.ok x)(k:ev P cl σ b=.ok y)(e:opD o x y=.ok z):ev P cl σ (.op o a b)=.ok z:=by rw[cR,h,aA,k,aA,e]
theorem rM{o:CmpOp}{a b:E}{x y:Vl}{k:Bool}(h:ev P cl σ a=.ok x)(g:ev P cl σ b=.ok y)(e:dJ o x.d y.d=some k):ev P cl σ (.cmp o a b)=.ok (.cl (.bl k)):=by rw[yY,h,aA,g,aA,e]
theorem cZ{b:Bi}{a:E}{x z:Vl}(h:ev P cl σ a=.ok x)(e:biD b [x]=.ok z):ev P cl σ (.bi b (.cons a .nil))=.ok z:=by
 have h2:evs P cl σ (.cons a .nil)=.ok [x]:=by rw[aB,h];rfl
 rw[gX,h2,aA,e]
end
end HpS
end
noncomputable section
namespace Hp
open PySem (Str)
theorem gF{α:Type}{g:α->D}(ng:∀t,noL (g t)=true):∀ts:List α,noLs (ts.map g)=true
 | []=>rfl
 | t::ts=>by rw[mC,noLs,ng t,gF ng ts];rfl
theorem pC{α:Type}{F:Vl->R (Option Vl)}{f:α->Vl}{g:α->D}{p:α->Bool}:∀{ts:List α},(∀t∈ts,F (f t)=.ok (if p t then some (.cl (g t)) else none))->eF F (ts.map f)=.ok ((ts.filter p).map λt=>.cl (g t))
 | [],_=>rfl
 | t::ts,h=>by
  have h1:=h t List.mem_cons_self
  have h2:=pC (F:=F) (f:=f) (g:=g) (p:=p) (ts:=ts) λy hy=>h y (List.mem_cons_of_mem _ hy)
  show(F (f t) >>= λy=>eF F (ts.map f) >>= λys=>(match y with|some y=>R.ok (y::ys)|none=>R.ok ys))=_
  rw[h1,h2]
  cases hp:p t with
  | true=>rw[List.filter_cons_of_pos hp];rfl
  | false=>rw[List.filter_cons_of_neg (by rw[hp];exact bN)];rfl
theorem aAA{α:Type}{g:α->D}(ng:∀t,noL (g t)=true){k:Nat}{caps al:List Nat}(ts:List α):kL k caps al (ts.map λt=>Vl.cl (g t))=⟨.lst (ts.map g),true,false,[]⟩:=by
 have e:(ts.map λt=>Vl.cl (g t)).map (·.d)=ts.map g:=by rw[List.map_map];rfl
 rw[rJ (by rw[e];exact gF ng ts),e]
theorem iI{P:Pg}{cl:Caller}{σ:Sg}{k:Nat}{caps al:List Nat}{T:T}{it:It}{elt:E}{α:Type}{ts:List α}(f:α->Vl)(g:α->D)(ng:∀t,noL (g t)=true)(hw:walk P cl σ it=.ok (ts.map f,al))(hl:ts.length<=lim)
 (hb:∀t∈ts,∃σ1,cC (List.replicate k .dead++caps.map λi=>((freeze σ al)[i]?).getD .dead) (f t) T=.ok σ1/\ev P cl σ1 elt=.ok (.cl (g t))):ev P cl σ (.comp k caps T it .nil elt)=.ok ⟨.lst (ts.map g),true,false,[]⟩:=by
 rw[tU,hw,aA,pC (f:=f) (g:=g) (p:=λ_=>true) λt ht=>by
  obtain⟨σ1,e1,e2⟩:=hb t ht
  show(cC _ (f t) T >>= λσ1=>_)=_
  rw[e1]
  show(ev P cl σ1 elt >>= λy=>R.ok (some y))=_
  rw[e2]
  rfl]
 have hf:ts.filter (λ_=>true)=ts:=List.filter_eq_self.mpr λ_ _=>rfl
 have hl2:decide ((ts.map λt=>Vl.cl (g t)).length<=lim)=true:=decide_eq_true (by rw[lM];exact hl)
 rw[aA,hf,hl2,gE,aAA ng]
theorem uA{P:Pg}{cl:Caller}{σ:Sg}{k:Nat}{caps al:List Nat}{T:T}{it:It}{c elt:E}{α:Type}{ts:List α}(f:α->Vl)(g:α->D)(p:α->Bool)(ng:∀t,noL (g t)=true)(hw:walk P cl σ it=.ok (ts.map f,al))(hl:ts.length<=lim)
 (hb:∀t∈ts,∃σ1,cC (List.replicate k .dead++caps.map λi=>((freeze σ al)[i]?).getD .dead) (f t) T=.ok σ1/\tst P cl σ1 c=.ok (p t)/\ev P cl σ1 elt=.ok (.cl (g t))):ev P cl σ (.comp k caps T it (.cons c .nil) elt)=.ok ⟨.lst ((ts.filter p).map g),true,false,[]⟩:=by
 rw[tU,hw,aA,pC (f:=f) (g:=g) (p:=p) λt ht=>by
  obtain⟨σ1,e1,e2,e3⟩:=hb t ht
  show(cC _ (f t) T >>= λσ1=>_)=_
  rw[e1]
  show(tsts P cl σ1 (.cons c .nil) >>= λk=>if k then (ev P cl σ1 elt >>= λy=>R.ok (some y)) else R.ok none)=_
  rw[aBJ,e2,aA]
  cases hp:p t with
  | true=>rw[if_pos rfl,aDK,aA,if_pos rfl,e3];rfl
  | false=>rfl]
 have hl2:decide (((ts.filter p).map λt=>Vl.cl (g t)).length<=lim)=true:=decide_eq_true (by rw[lM];exact Nat.le_trans (List.length_filter_le _ _) hl)
 rw[aA,hl2,gE,aAA ng]
theorem fD{α:Type}{v:Vl}{g:α->D}(ng:∀t,noL (g t)=true)(ts:List α):items v (ts.map g)=ts.map λt=>Vl.cl (g t):=by
 unfold items
 rw[List.map_map]
 refine List.map_congr_left λt _=>?_
 show Vl.sub v (g t)=_
 unfold Vl.sub
 rw[if_pos (ng t)]
theorem kZ{a b:D}(ha:noL a=true)(hb:noL b=true):noL (.tup [a,b])=true:=by simp[noL,noLs,ha,hb]
theorem aFV{s0 s1:Sl}{r:Sg}{a b:D}(ha:noL a=true)(hb:noL b=true):cC (s0::s1::r) (.cl (.tup [a,b])) (.t [0,1])=.ok (.sh false a::.sh false b::r):=by
 have h1:Vl.sub (.cl (.tup [a,b])) a=.cl a:=by unfold Vl.sub;rw[if_pos ha]
 have h2:Vl.sub (.cl (.tup [a,b])) b=.cl b:=by unfold Vl.sub;rw[if_pos hb]
 unfold cC
 simp only[bB,lC,lN,if_true,List.zip_cons_cons,List.zip_nil_left,List.foldl_cons,List.foldl_nil,h1,h2,bQ,lS,lZ]
@[simp] theorem aMp {P:Pg} {cl:Caller} {σ:Sg} (a b:E):ev P cl σ (.lzip a b)=(ev P cl σ a >>= λx=>ev P cl σ b >>= λy=>match jV x.d,jV y.d with
 | some as,some bs=>.iff (decide (as.length<=lim)) (.ok (aGx x y (aCM as bs)))
 | _,_=>.bad):=id rfl
end Hp
end
noncomputable section
namespace Hp
open PySem (Str Operator CmpOp)
section
variable {P:Pg} {cl:Caller} {σ:Sg}
@[simp] theorem aAB (a l:E):ev P cl σ (.sli a (.cons l .nil) .nil)=(ev P cl σ a >>= λx=>ev P cl σ l >>= λl=>match l.d with|.int l=>.iff (aM l) (eS x (some l) none)|_=>.bad):=by
 show(ev P cl σ a >>= λx=>evs P cl σ (.cons l .nil) >>= λl=>evs P cl σ .nil >>= λh=>_)=_
 cases ev P cl σ a with
 | ok x=>
  show((ev P cl σ l >>= λx=>evs P cl σ .nil >>= λxs=>R.ok (x::xs)) >>= λl=>_)=(ev P cl σ l >>= λl=>_)
  cases ev P cl σ l <;> rfl
 | exc e=>rfl
 | bad=>rfl
@[simp] theorem aMq (a l h:E):ev P cl σ (.sli a (.cons l .nil) (.cons h .nil))=(ev P cl σ a >>= λx=>ev P cl σ l >>= λl=>ev P cl σ h >>= λh=>match l.d,h.d with|.int l,.int h=>.iff (aM l&&aM h) (eS x (some l) (some h))|_,_=>.bad):=by
 show(ev P cl σ a >>= λx=>evs P cl σ (.cons l .nil) >>= λl=>evs P cl σ (.cons h .nil) >>= λh=>_)=_
 cases ev P cl σ a with
 | ok x=>
  show((ev P cl σ l >>= λx=>evs P cl σ .nil >>= λxs=>R.ok (x::xs)) >>= λl=>_)=(ev P cl σ l >>= λl=>_)
  cases ev P cl σ l with
  | ok l=>
   show((ev P cl σ h >>= λx=>evs P cl σ .nil >>= λxs=>R.ok (x::xs)) >>= λh=>_)=(ev P cl σ h >>= λh=>_)
   cases ev P cl σ h <;> rfl
  | exc e=>rfl
  | bad=>rfl
 | exc e=>rfl
 | bad=>rfl
end
theorem dF{n k:Nat}(h:k<n):ixN n (k:Int)=some k:=by
 unfold ixN
 rw[if_pos (Int.natCast_nonneg k),if_pos (by omega)]
 simp
theorem aAC{v:Vl}{is:List Int}{k:Nat}(hv:v.d=.lst (is.map D.int))(h:k<is.length):bM v (.cl (.int (k:Int)))=.ok (.cl (.int (is.getD k 0))):=by
 unfold bM
 rw[hv]
 have hl:(is.map D.int).length=is.length:=by simp
 have e:(is.map D.int)[k]? = some (.int (is.getD k 0)):=by simp[h]
 simp only[bB,hl,dF h,e,Vl.sub,noL,if_true]
def num(c:Int):Nat->Int
 | 0=>c % 2147483647+48271
 | k+1=>(num c k*num c k+48271*num c k+(k:Int)) % 2147483647
def aLr(b:Str×Int):D:=.tup [.str b.1,.int b.2]
@[simp] theorem aLs (b:Str×Int):noL (aLr b)=true:=by simp[aLr,noL,noLs]
end Hp
end
noncomputable section
namespace HpS
open Hp PySem
inductive Sm where
 | num (n:Int)|box (k:Nat)|aft (k:Nat)|two (p:Bool) (a b:Sm)
def pE(p:Bool):Str:=if p then "plus" else "minus"
def Sm.d:Sm->D
 | .num n=>.tup [.str "number",.int n]
 | .box k=>.tup [.str "box",.int k]
 | .aft k=>.tup [.str "after",.int k]
 | .two p a b=>.tup [.str (pE p),a.d,b.d]
def Sm.sz:Sm->Nat
 | .two _ a b=>1+a.sz+b.sz
 | _=>1
def Sm.val(ah be:List Int):Sm->Int
 | .num n=>n
 | .box k=>ah.getD k 0
 | .aft k=>be.getD k 0
 | .two p a b=>if p then a.val ah be+b.val ah be else a.val ah be-b.val ah be
def Sm.wf(c:Nat)(pl:Bool):Sm->Prop
 | .num n=>0<=n/\n<=99
 | .box k=>k<c
 | .aft k=>k<c/\pl=false
 | .two _ a b=>a.wf c pl/\b.wf c pl
theorem Sm.noL:∀s:Sm,Hp.noL s.d=true
 | .num _=>rfl
 | .box _=>rfl
 | .aft _=>rfl
 | .two _ a b=>by simp[Sm.d,Hp.noL,noLs,a.noL,b.noL]
theorem bT{v:Vl}{d:D}(h:Hp.noL d=true):Vl.sub v d=.cl d:=by unfold Vl.sub;rw[if_pos h]
theorem dG(x:D)(r:List D)(h:Hp.noL x=true):bM (.cl (.tup (x::r))) (.cl (.int 0))=.ok (.cl x):=by
 have:ixN (x::r).length 0=some 0:=dF (k:=0) (by simp)
 unfold bM
 simp only[bB,this,gZ,bT h]
theorem fU(x y:D)(r:List D)(h:Hp.noL y=true):bM (.cl (.tup (x::y::r))) (.cl (.int 1))=.ok (.cl y):=by
 have:ixN (x::y::r).length 1=some 1:=dF (k:=1) (by simp)
 unfold bM
 simp only[bB,this,gZ,gS,bT h]
theorem qN(x y z:D)(r:List D)(h:Hp.noL z=true):bM (.cl (.tup (x::y::z::r))) (.cl (.int 2))=.ok (.cl z):=by
 have:ixN (x::y::z::r).length 2=some 2:=dF (k:=2) (by simp)
 unfold bM
 simp only[bB,this,gZ,gS,bT h]
theorem fP{is:List Int}{k:Nat}(h:k<is.length):bM (.cl (aE is)) (.cl (.int (k:Int)))=.ok (.cl (.int (is.getD k 0))):=by
 unfold bM aE
 have hl:(is.map D.int).length=is.length:=by simp
 have e:(is.map D.int)[k]? = some (.int (is.getD k 0)):=by simp[h]
 simp only[bB,hl,dF h,e,Vl.sub,Hp.noL,if_true]
def mE(f:Nat):Fn:=⟨3,6,
 (.cons (.set (.n 3) (.idx (.v 0) (.c (.int 0))))
 (.cons (.iff (.cmp .Eq (.v 3) (.c (.str "number")))
  (.cons (.ret (.idx (.v 0) (.c (.int 1))))
  .nil)
  .nil)
 (.cons (.iff (.cmp .Eq (.v 3) (.c (.str "box")))
  (.cons (.ret (.idx (.v 1) (.idx (.v 0) (.c (.int 1)))))
  .nil)
  .nil)
 (.cons (.iff (.cmp .Eq (.v 3) (.c (.str "after")))
  (.cons (.ret (.idx (.v 2) (.idx (.v 0) (.c (.int 1)))))
  .nil)
  .nil)
 (.cons (.set (.n 4) (.call f (.cons (.idx (.v 0) (.c (.int 1))) (.cons (.v 1) (.cons (.v 2) .nil)))))
 (.cons (.set (.n 5) (.call f (.cons (.idx (.v 0) (.c (.int 2))) (.cons (.v 1) (.cons (.v 2) .nil)))))
 (.cons (.ret (.ife (.cmp .Eq (.v 3) (.c (.str "plus"))) (.op .Add (.v 4) (.v 5)) (.op .Sub (.v 4) (.v 5))))
 .nil)))))))⟩
theorem aLt:(("number" : Str) == "number")=true:=by decide +kernel
theorem aLu:(("box" : Str) == "number")=false:=by decide +kernel
theorem aLv:(("box" : Str) == "box")=true:=by decide +kernel
theorem aLw:(("after" : Str) == "number")=false:=by decide +kernel
theorem aLx:(("after" : Str) == "box")=false:=by decide +kernel
theorem aLy:(("after" : Str) == "after")=true:=by decide +kernel
theorem aLz:∀p,(pE p == "number")=false:=by decide +kernel
theorem aLA:∀p,(pE p == "box")=false:=by decide +kernel
theorem aLB:∀p,(pE p == "after")=false:=by decide +kernel
theorem aNr:∀p,(pE p == "plus")=p:=by decide +kernel
theorem iJ{P:Pg}{f:Nat}(hF:P.fns[f]? = some (mE f)){ah be:List Int}{bd:D}{c:Nat}{pl:Bool}(ha:ah.length=c)(hb:be.length=c)(hn:Hp.noL bd=true)(hbd:pl=false->bd=aE be) :
 ∀(s:Sm) (n:Nat),s.wf c pl->call P (n+s.sz) f [s.d,aE ah,bd]=.ok (.int (s.val ah be),false,false)
 | .num k,n,w=>by
  refine aG (F:=mE f) hF rfl (v:=.cl (.int k)) ?_
  exact cs (bJ (aJ (v0_ rfl) rfl (dG _ _ rfl))) (cM (bK rfl aLt) (bG (aJ (v0_ rfl) rfl (fU _ _ _ rfl))))
 | .box k,n,w=>by
  have w:k<c:=w
  refine aG (F:=mE f) hF rfl (v:=.cl (.int (ah.getD k 0))) ?_
  exact cs (bJ (aJ (v0_ rfl) rfl (dG _ _ rfl))) (cs (bU (bK rfl aLu)) (cM (bK rfl aLv) (bG (aJ (v1_ (aK _)) (aJ (v0_ rfl) rfl (fU _ _ _ rfl)) (fP (by omega))))))
 | .aft k,n,w=>by
  obtain⟨w1,w2⟩:k<c/\pl=false:=w
  have e:=hbd w2
  subst e
  refine aG (F:=mE f) hF rfl (v:=.cl (.int (be.getD k 0))) ?_
  exact cs (bJ (aJ (v0_ rfl) rfl (dG _ _ rfl))) (cs (bU (bK rfl aLw)) (cs (bU (bK rfl aLx)) (cM (bK rfl aLy) (bG (aJ (v2_ (aK _)) (aJ (v0_ rfl) rfl (fU _ _ _ rfl)) (fP (by omega)))))))
 | .two p a b,n,w=>by
  obtain⟨w1,w2⟩:a.wf c pl/\b.wf c pl:=w
  have c1:=iJ hF ha hb hn hbd a (n+b.sz) w1
  have c2:=iJ hF ha hb hn hbd b (n+a.sz) w2
  rw[show n+b.sz+a.sz=n+a.sz+b.sz by omega] at c1
  have e:n+Sm.sz (.two p a b)=n+a.sz+b.sz+1:=by show n+(1+a.sz+b.sz)=_;omega
  rw[e]
  refine aG (F:=mE f) hF rfl (v:=.cl (.int (Sm.val ah be (.two p a b)))) ?_
  refine cs (bJ (aJ (v0_ (Sm.noL _)) rfl (dG _ _ rfl))) (cs (bU (bK rfl (aLz p))) (cs (bU (bK rfl (aLA p))) (cs (bU (bK rfl (aLB p))) (cs (bJ (bL (aJ (v0_ (Sm.noL _)) rfl (fU _ _ _ a.noL)) (v1_ (aK _)) (v2_ hn) c1)) (cs (bJ (bL (aJ (v0_ (Sm.noL _)) rfl (qN _ _ _ _ b.noL)) (v1_ (aK _)) (v2_ hn) c2)) (bG (aGH (bK rfl (aNr p)) ?_)))))))
  cases p <;> rfl
@[simp] theorem aLC {P:Pg} {cl:Caller} {σ:Sg} (i:Nat) (a:E):ev P cl σ (.tget i a)=(ev P cl σ a >>= λx=>match x.d,P.tabs[i]? with|.str k,some t=>.ok (.cl ((t.lookup k).getD .non))|_,_=>.bad):=id rfl
def fWhole:Fn:=⟨1,1,(.cons (.ret (.an (.isi (.v 0) [.tInt]) (.nt (.isi (.v 0) [.tBool])))) .nil)⟩
def fWithin(wh:Nat):Fn:=⟨3,3,(.cons (.ret (.an (.call wh (.cons (.v 0) .nil)) (.cmp2 .LtE .LtE (.v 1) (.v 0) (.v 2)))) .nil)⟩
def fCheck(wi:Nat):Fn:=⟨3,4,
 (.cons (.set (.n 3) (.ife (.cmp .Eq (.v 1) (.c (.str "number"))) (.c (.int 99)) (.op .Sub (.bi .len (.cons (.v 0) .nil)) (.c (.int 1)))))
 (.cons (.iff (.nt (.call wi (.cons (.v 2) (.cons (.c (.int 0)) (.cons (.v 3) .nil)))))
  (.cons (.rse 1 false (.cons (.c (.str "a number is a whole one from 0 to 99, a box the number of one")) .nil))
  .nil)
  .nil)
 .nil))⟩
def sumTab:List (Str×D):=[("number",.tup [.str "number"]),("box",.tup [.str "box"]),("after",.tup [.str "box"]),("plus",.tup [.str "sum",.str "sum"]),("minus",.tup [.str "sum",.str "sum"])]
def fForm:Fn:=⟨3,5,
 (.cons (.iff (.orr (.nt (.isi (.v 1) [.tTuple])) (.orr (.cmp .Eq (.bi .len (.cons (.v 1) .nil)) (.c (.int 0))) (.nt (.isi (.idx (.v 1) (.c (.int 0))) [.tStr]))))
  (.cons (.rse 1 false (.cons (.c (.str "a part is a tuple that begins with a word")) .nil))
  .nil)
  .nil)
 (.cons (.set (.n 3) (.idx (.v 1) (.c (.int 0))))
 (.cons (.set (.n 4) (.ife (.cmp .Eq (.v 0) (.c (.str "sum"))) (.tget 0 (.v 3)) (.tget 1 (.v 3))))
 (.cons (.iff (.orr (.cmp .Is (.v 4) (.c .non)) (.cmp .NotEq (.bi .len (.cons (.v 1) .nil)) (.op .Add (.bi .len (.cons (.v 4) .nil)) (.c (.int 1)))))
  (.cons (.rse 1 false (.cons (.c (.str "a part has a word that is due there, and as many things as go with it")) .nil))
  .nil)
  .nil)
 (.cons (.iff (.an (.v 2) (.cmp .Eq (.v 3) (.c (.str "after"))))
  (.cons (.rse 1 false (.cons (.c (.str "no after stands where a plain one is due")) .nil))
  .nil)
  .nil)
 (.cons (.retv 4)
 .nil))))))⟩
def Sm.word:Sm->Str
 | .num _ => "number" | .box _ => "box" | .aft _ => "after" | .two p _ _=>pE p
def Sm.rest:Sm->List D
 | .num n=>[.int n]|.box k=>[.int k]|.aft k=>[.int k]|.two _ a b=>[a.d,b.d]
def fLook(fo ch lo:Nat):Fn:=⟨5,8,
 (.cons (.iff (.cmp .Eq (.v 4) (.c (.int 40)))
  (.cons (.rse 2 false (.cons (.c (.str "a condition or sum has at most forty parts")) .nil))
  .nil)
  .nil)
 (.cons (.set (.n 4) (.op .Add (.v 4) (.c (.int 1))))
 (.cons (.set (.n 5) (.call fo (.cons (.v 1) (.cons (.v 2) (.cons (.v 3) .nil)))))
 (.cons (.for (.t [6,7]) (.zip (.v 5) (.sli (.v 2) (.cons (.c (.int 1)) .nil) .nil))
  (.cons (.iff (.orr (.cmp .Eq (.v 6) (.c (.str "sum"))) (.cmp .Eq (.v 6) (.c (.str "cond"))))
   (.cons (.set (.n 4) (.call lo (.cons (.v 0) (.cons (.v 6) (.cons (.v 7) (.cons (.v 3) (.cons (.v 4) .nil)))))))
   .nil)
   (.cons (.ex (.call ch (.cons (.v 0) (.cons (.v 6) (.cons (.v 7) .nil)))))
   .nil))
  .nil))
 (.cons (.retv 4)
 .nil)))))⟩
section
variable {P:Pg} {wh wi ch fo lo:Nat} (hW:P.fns[wh]? = some fWhole) (hI:P.fns[wi]? = some (fWithin wh)) (hC:P.fns[ch]? = some (fCheck wi)) (hO:P.fns[fo]? = some fForm) (hT:P.tabs[0]? = some sumTab) (hL:P.fns[lo]? = some (fLook fo ch lo))
include hW hI hC hO hT hL
end
section
variable {P:Pg} {wh wi ch fo lo:Nat} (hW:P.fns[wh]? = some fWhole) (hI:P.fns[wi]? = some (fWithin wh)) (hC:P.fns[ch]? = some (fCheck wi)) (hO:P.fns[fo]? = some fForm) (hT:P.tabs[0]? = some sumTab) (hL:P.fns[lo]? = some (fLook fo ch lo))
include hW hI hC hO hT hL
end
inductive Cn where
 | yes|cmp (i:Bool) (a b:Sm)|nt (c:Cn)|two (p:Bool) (a b:Cn)
def pF(i:Bool):Str:=if i then "is" else "less"
def iK(p:Bool):Str:=if p then "both" else "either"
def Cn.d:Cn->D
 | .yes=>.tup [.str "yes"]
 | .cmp i a b=>.tup [.str (pF i),a.d,b.d]
 | .nt c=>.tup [.str "not",c.d]
 | .two p a b=>.tup [.str (iK p),a.d,b.d]
def Cn.sz:Cn->Nat
 | .yes=>1
 | .cmp _ a b=>1+a.sz+b.sz
 | .nt c=>1+c.sz
 | .two _ a b=>1+a.sz+b.sz
def Cn.hold(ah be:List Int):Cn->Bool
 | .yes=>true
 | .cmp i a b=>if i then a.val ah be==b.val ah be else decide (a.val ah be<b.val ah be)
 | .nt c=>!c.hold ah be
 | .two p a b=>if p then a.hold ah be&&b.hold ah be else a.hold ah be||b.hold ah be
def Cn.wf(c:Nat)(pl:Bool):Cn->Prop
 | .yes=>True
 | .cmp _ a b=>a.wf c pl/\b.wf c pl
 | .nt x=>x.wf c pl
 | .two _ a b=>a.wf c pl/\b.wf c pl
theorem Cn.noL:∀s:Cn,Hp.noL s.d=true
 | .yes=>rfl
 | .cmp _ a b=>by simp[Cn.d,Hp.noL,noLs,a.noL,b.noL]
 | .nt c=>by simp[Cn.d,Hp.noL,noLs,c.noL]
 | .two _ a b=>by simp[Cn.d,Hp.noL,noLs,a.noL,b.noL]
def pG(v f:Nat):Fn:=⟨3,6,
 (.cons (.set (.n 3) (.idx (.v 0) (.c (.int 0))))
 (.cons (.iff (.cmp .Eq (.v 3) (.c (.str "yes")))
  (.cons (.ret (.c (.bl true)))
  .nil)
  .nil)
 (.cons (.iff (.cmp .Eq (.v 3) (.c (.str "not")))
  (.cons (.ret (.nt (.call f (.cons (.idx (.v 0) (.c (.int 1))) (.cons (.v 1) (.cons (.v 2) .nil))))))
  .nil)
  .nil)
 (.cons (.iff (.cmp .Eq (.v 3) (.c (.str "both")))
  (.cons (.ret (.an (.call f (.cons (.idx (.v 0) (.c (.int 1))) (.cons (.v 1) (.cons (.v 2) .nil)))) (.call f (.cons (.idx (.v 0) (.c (.int 2))) (.cons (.v 1) (.cons (.v 2) .nil))))))
  .nil)
  .nil)
 (.cons (.iff (.cmp .Eq (.v 3) (.c (.str "either")))
  (.cons (.ret (.orr (.call f (.cons (.idx (.v 0) (.c (.int 1))) (.cons (.v 1) (.cons (.v 2) .nil)))) (.call f (.cons (.idx (.v 0) (.c (.int 2))) (.cons (.v 1) (.cons (.v 2) .nil))))))
  .nil)
  .nil)
 (.cons (.set (.n 4) (.call v (.cons (.idx (.v 0) (.c (.int 1))) (.cons (.v 1) (.cons (.v 2) .nil)))))
 (.cons (.set (.n 5) (.call v (.cons (.idx (.v 0) (.c (.int 2))) (.cons (.v 1) (.cons (.v 2) .nil)))))
 (.cons (.ret (.ife (.cmp .Eq (.v 3) (.c (.str "is"))) (.cmp .Eq (.v 4) (.v 5)) (.cmp .Lt (.v 4) (.v 5))))
 .nil))))))))⟩
theorem aLD:(("yes" : Str) == "yes")=true:=by decide +kernel
theorem aLE:(("not" : Str) == "yes")=false:=by decide +kernel
theorem aLF:(("not" : Str) == "not")=true:=by decide +kernel
theorem aLG:∀p,(pF p == "yes")=false:=by decide +kernel
theorem aLH:∀p,(pF p == "not")=false:=by decide +kernel
theorem aNs:∀p,(pF p == "both")=false:=by decide +kernel
theorem aNt:∀p,(pF p == "either")=false:=by decide +kernel
theorem aIO:∀p,(pF p == "is")=p:=by decide +kernel
theorem aLI:∀p,(iK p == "yes")=false:=by decide +kernel
theorem aLJ:∀p,(iK p == "not")=false:=by decide +kernel
theorem aFW:∀p,(iK p == "both")=p:=by decide +kernel
theorem aNu:∀p,(iK p == "either")=!p:=by decide +kernel
theorem iL{P:Pg}{v f:Nat}(hV:P.fns[v]? = some (mE v))(hF:P.fns[f]? = some (pG v f)){ah be:List Int}{bd:D}{c:Nat}{pl:Bool}(ha:ah.length=c)(hb:be.length=c)(hn:Hp.noL bd=true)(hbd:pl=false->bd=aE be) :
 ∀(s:Cn) (n:Nat),s.wf c pl->call P (n+s.sz) f [s.d,aE ah,bd]=.ok (.bl (s.hold ah be),false,false)
 | .yes,n,w=>by
  refine aG (F:=pG v f) hF rfl (v:=.cl (.bl true)) ?_
  exact cs (bJ (aJ (v0_ rfl) rfl (dG _ _ rfl))) (cM (bK rfl aLD) (bG rfl))
 | .cmp i a b,n,w=>by
  obtain⟨w1,w2⟩:a.wf c pl/\b.wf c pl:=w
  have c1:=iJ hV ha hb hn hbd a (n+b.sz) w1
  have c2:=iJ hV ha hb hn hbd b (n+a.sz) w2
  rw[show n+b.sz+a.sz=n+a.sz+b.sz by omega] at c1
  have e:n+Cn.sz (.cmp i a b)=n+a.sz+b.sz+1:=by show n+(1+a.sz+b.sz)=_;omega
  rw[e]
  refine aG (F:=pG v f) hF rfl (v:=.cl (.bl (Cn.hold ah be (.cmp i a b)))) ?_
  refine cs (bJ (aJ (v0_ (Cn.noL _)) rfl (dG _ _ rfl))) (cs (bU (bK rfl (aLG i))) (cs (bU (bK rfl (aLH i))) (cs (bU (bK rfl (aNs i))) (cs (bU (bK rfl (aNt i))) (cs (bJ (bL (aJ (v0_ (Cn.noL _)) rfl (fU _ _ _ a.noL)) (v1_ (aK _)) (v2_ hn) c1)) (cs (bJ (bL (aJ (v0_ (Cn.noL _)) rfl (qN _ _ _ _ b.noL)) (v1_ (aK _)) (v2_ hn) c2)) (bG (aGH (bK rfl (aIO i)) ?_))))))))
  cases i <;> rfl
 | .nt x,n,w=>by
  have c1:=iL hV hF ha hb hn hbd x n w
  have e:n+Cn.sz (.nt x)=n+x.sz+1:=by show n+(1+x.sz)=_;omega
  rw[e]
  refine aG (F:=pG v f) hF rfl (v:=.cl (.bl (Cn.hold ah be (.nt x)))) ?_
  exact cs (bJ (aJ (v0_ (Cn.noL _)) rfl (dG _ _ rfl))) (cs (bU (bK rfl aLE)) (cM (bK rfl aLF) (bG (aLp (bL (aJ (v0_ (Cn.noL _)) rfl (fU _ _ _ x.noL)) (v1_ (aK _)) (v2_ hn) c1)))))
 | .two p a b,n,w=>by
  obtain⟨w1,w2⟩:a.wf c pl/\b.wf c pl:=w
  have c1:=iL hV hF ha hb hn hbd a (n+b.sz) w1
  have c2:=iL hV hF ha hb hn hbd b (n+a.sz) w2
  rw[show n+b.sz+a.sz=n+a.sz+b.sz by omega] at c1
  have e:n+Cn.sz (.two p a b)=n+a.sz+b.sz+1:=by show n+(1+a.sz+b.sz)=_;omega
  rw[e]
  refine aG (F:=pG v f) hF rfl (v:=.cl (.bl (Cn.hold ah be (.two p a b)))) ?_
  refine cs (bJ (aJ (v0_ (Cn.noL _)) rfl (dG _ _ rfl))) (cs (bU (bK rfl (aLI p))) (cs (bU (bK rfl (aLJ p))) ?_))
  cases p with
  | true=>exact cM (bK rfl (aFW true)) (bG (aLq (bL (aJ (v0_ (Cn.noL _)) rfl (fU _ _ _ a.noL)) (v1_ (aK _)) (v2_ hn) c1) (bL (aJ (v0_ (Cn.noL _)) rfl (qN _ _ _ _ b.noL)) (v1_ (aK _)) (v2_ hn) c2)))
  | false=>exact cs (bU (bK rfl (aFW false))) (cM (bK rfl (aNu false)) (bG (aDO (bL (aJ (v0_ (Cn.noL _)) rfl (fU _ _ _ a.noL)) (v1_ (aK _)) (v2_ hn) c1) (bL (aJ (v0_ (Cn.noL _)) rfl (qN _ _ _ _ b.noL)) (v1_ (aK _)) (v2_ hn) c2))))
end HpS
end
noncomputable section
namespace K57
open Hp
def f0:Hp.Fn:=⟨3,6,
 (.cons (.set (.n 3) (.idx (.v 0) (.c (.int 0))))
 (.cons (.iff (.cmp .Eq (.v 3) (.c (.str "number")))
  (.cons (.ret (.idx (.v 0) (.c (.int 1))))
  .nil)
  .nil)
 (.cons (.iff (.cmp .Eq (.v 3) (.c (.str "box")))
  (.cons (.ret (.idx (.v 1) (.idx (.v 0) (.c (.int 1)))))
  .nil)
  .nil)
 (.cons (.iff (.cmp .Eq (.v 3) (.c (.str "after")))
  (.cons (.ret (.idx (.v 2) (.idx (.v 0) (.c (.int 1)))))
  .nil)
  .nil)
 (.cons (.set (.n 4) (.call 0 (.cons (.idx (.v 0) (.c (.int 1))) (.cons (.v 1) (.cons (.v 2) .nil)))))
 (.cons (.set (.n 5) (.call 0 (.cons (.idx (.v 0) (.c (.int 2))) (.cons (.v 1) (.cons (.v 2) .nil)))))
 (.cons (.ret (.ife (.cmp .Eq (.v 3) (.c (.str "plus"))) (.op .Add (.v 4) (.v 5)) (.op .Sub (.v 4) (.v 5))))
 .nil)))))))⟩
def f1:Hp.Fn:=⟨3,6,
 (.cons (.set (.n 3) (.idx (.v 0) (.c (.int 0))))
 (.cons (.iff (.cmp .Eq (.v 3) (.c (.str "yes")))
  (.cons (.ret (.c (.bl true)))
  .nil)
  .nil)
 (.cons (.iff (.cmp .Eq (.v 3) (.c (.str "not")))
  (.cons (.ret (.nt (.call 1 (.cons (.idx (.v 0) (.c (.int 1))) (.cons (.v 1) (.cons (.v 2) .nil))))))
  .nil)
  .nil)
 (.cons (.iff (.cmp .Eq (.v 3) (.c (.str "both")))
  (.cons (.ret (.an (.call 1 (.cons (.idx (.v 0) (.c (.int 1))) (.cons (.v 1) (.cons (.v 2) .nil)))) (.call 1 (.cons (.idx (.v 0) (.c (.int 2))) (.cons (.v 1) (.cons (.v 2) .nil))))))
  .nil)
  .nil)
 (.cons (.iff (.cmp .Eq (.v 3) (.c (.str "either")))
  (.cons (.ret (.orr (.call 1 (.cons (.idx (.v 0) (.c (.int 1))) (.cons (.v 1) (.cons (.v 2) .nil)))) (.call 1 (.cons (.idx (.v 0) (.c (.int 2))) (.cons (.v 1) (.cons (.v 2) .nil))))))
  .nil)
  .nil)
 (.cons (.set (.n 4) (.call 0 (.cons (.idx (.v 0) (.c (.int 1))) (.cons (.v 1) (.cons (.v 2) .nil)))))
 (.cons (.set (.n 5) (.call 0 (.cons (.idx (.v 0) (.c (.int 2))) (.cons (.v 1) (.cons (.v 2) .nil)))))
 (.cons (.ret (.ife (.cmp .Eq (.v 3) (.c (.str "is"))) (.cmp .Eq (.v 4) (.v 5)) (.cmp .Lt (.v 4) (.v 5))))
 .nil))))))))⟩
def f2:Hp.Fn:=⟨3,7,
 (.cons (.iff (.nt (.call 1 (.cons (.idx (.v 1) (.c (.int 0))) (.cons (.v 2) (.cons (.c .non) .nil)))))
  (.cons (.ret (.c .non))
  .nil)
  .nil)
 (.cons (.set (.n 3) (.bi .list (.cons (.v 2) .nil)))
 (.cons (.for (.t [4,5]) (.seq (.idx (.v 1) (.c (.int 1))))
  (.cons (.set (.n 6) (.call 0 (.cons (.v 5) (.cons (.v 2) (.cons (.c .non) .nil)))))
  (.cons (.iff (.nt (.cmp2 .LtE .LtE (.c (.int 0)) (.v 6) (.idx (.idx (.v 0) (.v 4)) (.c (.int 1)))))
   (.cons (.ret (.c .non))
   .nil)
   .nil)
  (.cons (.setIx 3 (.v 4) (.v 6))
  .nil))))
 (.cons (.ret (.bi .tuple (.cons (.v 3) .nil)))
 .nil))))⟩
def f3:Hp.Fn:=⟨2,2,
 (.cons (.ret (.ife (.cmp2 .LtE .Lt (.c (.int 0)) (.v 1) (.bi .len (.cons (.v 0) .nil))) (.idx (.v 0) (.v 1)) (.lst .nil)))
 .nil)⟩
def f4:Hp.Fn:=⟨3,9,
 (.cons (.set (.n 3) (.idx (.v 2) (.c (.int 0))))
 (.cons (.iff (.nt (.cmp2 .LtE .Lt (.c (.int 0)) (.v 3) (.bi .len (.cons (.idx (.v 0) (.c (.int 2))) .nil))))
  (.cons (.ret (.c .non))
  .nil)
  .nil)
 (.cons (.set (.n 4) (.idx (.v 1) (.c (.int 0))))
 (.cons (.set (.n 5) (.idx (.v 1) (.c (.int 1))))
 (.cons (.set (.n 6) (.call 3 (.cons (.idx (.idx (.v 0) (.c (.int 2))) (.v 3)) (.cons (.idx (.v 5) (.v 3)) .nil))))
 (.cons (.iff (.nt (.cmp2 .LtE .Lt (.c (.int 0)) (.idx (.v 2) (.c (.int 1))) (.bi .len (.cons (.v 6) .nil))))
  (.cons (.ret (.c .non))
  .nil)
  .nil)
 (.cons (.set (.n 7) (.idx (.v 6) (.idx (.v 2) (.c (.int 1)))))
 (.cons (.set (.n 8) (.call 2 (.cons (.idx (.v 0) (.c (.int 0))) (.cons (.v 7) (.cons (.v 4) .nil)))))
 (.cons (.iff (.cmp .Is (.v 8) (.c .non))
  (.cons (.ret (.c .non))
  .nil)
  .nil)
 (.cons (.ret (.tup (.cons (.v 8) (.cons (.op .Add (.op .Add (.sli (.v 5) .nil (.cons (.v 3) .nil)) (.tup (.cons (.idx (.v 7) (.c (.int 2))) .nil))) (.sli (.v 5) (.cons (.op .Add (.v 3) (.c (.int 1))) .nil) .nil)) .nil))))
 .nil))))))))))⟩
def f5:Hp.Fn:=⟨2,2,
 (.cons (.iff (.cmp .Lt (.v 1) (.bi .len (.cons (.v 0) .nil)))
  (.cons (.ret (.idx (.v 0) (.v 1)))
  .nil)
  .nil)
 (.cons (.ret (.op .Add (.op .Mult (.op .Mult (.c (.int 71)) (.v 1)) (.v 1)) (.op .Mult (.c (.int 7)) (.v 1))))
 .nil))⟩
def f6:Hp.Fn:=⟨1,6,
 (.cons (.set (.n 1) (.lst (.cons (.tup .nil) .nil)))
 (.cons (.for (.t [2,3]) (.seq (.v 0))
  (.cons (.set (.n 4) (.lst .nil))
  (.cons (.for (.n 5) (.seq (.v 1))
   (.cons (.ext 4 (.comp 1 [5] (.n 0) (.rng (.c (.int 0)) (.op .Add (.v 3) (.c (.int 1)))) .nil (.op .Add (.v 1) (.tup (.cons (.v 0) .nil)))))
   .nil))
  (.cons (.mov 1 4)
  .nil))))
 (.cons (.retv 1)
 .nil)))⟩
def f7:Hp.Fn:=⟨2,2,
 (.cons (.ret (.op .Mod (.op .Mult (.op .Add (.op .Mod (.v 0) (.c (.int 99991))) (.c (.int 1))) (.op .Add (.c (.int 48271)) (.op .Mult (.op .Mult (.c (.int 2018)) (.v 1)) (.v 1)))) (.c (.int 65521))))
 .nil)⟩
def f8:Hp.Fn:=⟨2,7,
 (.cons (.set (.n 2) (.lst (.cons (.tup (.cons (.c (.int 1)) .nil)) (.cons (.tup (.cons (.c (.int 2)) .nil)) (.cons (.tup (.cons (.c (.int 1)) (.cons (.c (.int 1)) .nil))) (.cons (.tup (.cons (.c (.int 3)) .nil)) (.cons (.tup (.cons (.c (.int 2)) (.cons (.c (.int 1)) .nil))) (.cons (.tup (.cons (.c (.int 5)) .nil)) (.cons (.tup (.cons (.c (.int 1)) (.cons (.c (.int 2)) .nil))) (.cons (.tup (.cons (.c (.int 1)) (.cons (.c (.int 1)) (.cons (.c (.int 1)) .nil)))) (.cons (.tup (.cons (.c (.int 2)) (.cons (.c (.int 2)) .nil))) (.cons (.tup (.cons (.c (.int 3)) (.cons (.c (.int 1)) .nil))) (.cons (.tup (.cons (.c (.int 7)) .nil)) (.cons (.tup (.cons (.c (.int 2)) (.cons (.c (.int 1)) (.cons (.c (.int 1)) .nil)))) (.cons (.tup (.cons (.c (.int 3)) (.cons (.c (.int 2)) .nil))) .nil)))))))))))))))
 (.cons (.set (.n 2) (.op .Add (.v 2) (.lst (.cons (.tup (.cons (.c (.int 1)) (.cons (.c (.int 1)) (.cons (.c (.int 2)) .nil)))) (.cons (.tup (.cons (.c (.int 5)) (.cons (.c (.int 1)) .nil))) (.cons (.tup (.cons (.c (.int 2)) (.cons (.c (.int 3)) .nil))) (.cons (.tup (.cons (.c (.int 1)) (.cons (.c (.int 1)) (.cons (.c (.int 1)) (.cons (.c (.int 1)) .nil))))) (.cons (.tup (.cons (.c (.int 2)) (.cons (.c (.int 2)) (.cons (.c (.int 1)) .nil)))) (.cons (.tup (.cons (.c (.int 7)) (.cons (.c (.int 2)) .nil))) (.cons (.tup (.cons (.c (.int 5)) (.cons (.c (.int 3)) .nil))) (.cons (.tup (.cons (.c (.int 1)) (.cons (.c (.int 1)) (.cons (.c (.int 1)) (.cons (.c (.int 2)) .nil))))) .nil)))))))))))
 (.cons (.set (.n 3) (.idx (.v 2) (.op .Mod (.call 7 (.cons (.v 0) (.cons (.c (.int 0)) .nil))) (.v 1))))
 (.cons (.set (.n 4) (.c (.str "abcdefghijklmnopqrstuvwxyz")))
 (.cons (.set (.n 5) (.mth .join (.c (.str "")) (.cons (.comp 1 [0,4] (.n 0) (.rng (.c (.int 1)) (.op .Add (.c (.int 1)) (.op .Mod (.call 7 (.cons (.v 0) (.cons (.c (.int 20)) .nil))) (.c (.int 8))))) .nil (.idx (.v 2) (.op .Mod (.call 7 (.cons (.v 1) (.cons (.v 0) .nil))) (.c (.int 26))))) .nil)))
 (.cons (.set (.n 6) (.op .Mod (.call 7 (.cons (.v 0) (.cons (.c (.int 21)) .nil))) (.op .Add (.bi .len (.cons (.v 5) .nil)) (.c (.int 1)))))
 (.cons (.ret (.comp 2 [0,4,5,6] (.t [0,1]) (.enum (.v 3)) .nil (.tup (.cons (.op .Add (.op .Add (.sli (.v 4) .nil (.cons (.v 5) .nil)) (.idx (.v 3) (.op .Mod (.op .Add (.op .Mult (.c (.int 3)) (.v 0)) (.v 2)) (.c (.int 26))))) (.sli (.v 4) (.cons (.v 5) .nil) .nil)) (.cons (.v 1) .nil)))))
 .nil)))))))⟩
def f9:Hp.Fn:=⟨5,7,
 (.cons (.set (.n 5) (.op .Mod (.call 7 (.cons (.v 0) (.cons (.v 1) .nil))) (.c (.int 7))))
 (.cons (.iff (.an (.cmp .Gt (.v 4) (.c (.int 0))) (.cmp .Gt (.v 5) (.c (.int 3))))
  (.cons (.set (.n 6) (.call 9 (.cons (.v 0) (.cons (.op .Add (.v 1) (.c (.int 3))) (.cons (.v 2) (.cons (.v 3) (.cons (.op .Sub (.v 4) (.c (.int 1))) .nil)))))))
  (.cons (.ret (.tup (.cons (.idx (.lst (.cons (.c (.str "plus")) (.cons (.c (.str "minus")) .nil))) (.op .Mod (.v 5) (.c (.int 2)))) (.cons (.v 6) (.cons (.call 9 (.cons (.v 0) (.cons (.op .Add (.v 1) (.c (.int 7))) (.cons (.v 2) (.cons (.v 3) (.cons (.op .Sub (.v 4) (.c (.int 1))) .nil)))))) .nil)))))
  .nil))
  .nil)
 (.cons (.iff (.cmp .Eq (.v 5) (.c (.int 0)))
  (.cons (.ret (.tup (.cons (.c (.str "number")) (.cons (.op .Mod (.call 7 (.cons (.v 0) (.cons (.op .Add (.v 1) (.c (.int 1))) .nil))) (.idx (.lst (.cons (.c (.int 3)) (.cons (.c (.int 9)) (.cons (.c (.int 100)) .nil)))) (.op .Mod (.call 7 (.cons (.v 0) (.cons (.op .Add (.v 1) (.c (.int 2))) .nil))) (.c (.int 3))))) .nil))))
  .nil)
  .nil)
 (.cons (.ret (.tup (.cons (.idx (.lst (.cons (.c (.str "box")) (.cons (.c (.str "after")) .nil))) (.bi .int (.cons (.an (.v 3) (.cmp .Eq (.op .Mod (.v 5) (.c (.int 2))) (.c (.int 1)))) .nil))) (.cons (.op .Mod (.call 7 (.cons (.v 0) (.cons (.op .Add (.v 1) (.c (.int 1))) .nil))) (.v 2)) .nil))))
 .nil))))⟩
def f10:Hp.Fn:=⟨5,7,
 (.cons (.set (.n 5) (.op .Mod (.call 7 (.cons (.v 0) (.cons (.v 1) .nil))) (.c (.int 9))))
 (.cons (.iff (.cmp .Eq (.v 5) (.c (.int 0)))
  (.cons (.ret (.tup (.cons (.c (.str "yes")) .nil)))
  .nil)
  .nil)
 (.cons (.iff (.an (.cmp .Gt (.v 4) (.c (.int 0))) (.cmp .Gt (.v 5) (.c (.int 5))))
  (.cons (.set (.n 6) (.call 10 (.cons (.v 0) (.cons (.op .Add (.v 1) (.c (.int 9))) (.cons (.v 2) (.cons (.v 3) (.cons (.op .Sub (.v 4) (.c (.int 1))) .nil)))))))
  (.cons (.iff (.cmp .Eq (.v 5) (.c (.int 6)))
   (.cons (.ret (.tup (.cons (.c (.str "not")) (.cons (.v 6) .nil))))
   .nil)
   .nil)
  (.cons (.ret (.tup (.cons (.idx (.lst (.cons (.c (.str "both")) (.cons (.c (.str "either")) .nil))) (.op .Sub (.v 5) (.c (.int 7)))) (.cons (.v 6) (.cons (.call 10 (.cons (.v 0) (.cons (.op .Add (.v 1) (.c (.int 23))) (.cons (.v 2) (.cons (.v 3) (.cons (.op .Sub (.v 4) (.c (.int 1))) .nil)))))) .nil)))))
  .nil)))
  .nil)
 (.cons (.set (.n 6) (.call 9 (.cons (.v 0) (.cons (.op .Add (.v 1) (.c (.int 1))) (.cons (.v 2) (.cons (.v 3) (.cons (.c (.int 1)) .nil)))))))
 (.cons (.ret (.tup (.cons (.idx (.lst (.cons (.c (.str "is")) (.cons (.c (.str "less")) .nil))) (.op .Mod (.v 5) (.c (.int 2)))) (.cons (.v 6) (.cons (.call 9 (.cons (.v 0) (.cons (.op .Add (.v 1) (.c (.int 4))) (.cons (.v 2) (.cons (.v 3) (.cons (.c (.int 1)) .nil)))))) .nil)))))
 .nil)))))⟩
def f11:Hp.Fn:=⟨3,8,
 (.cons (.set (.n 3) (.lst .nil))
 (.cons (.for (.n 4) (.rng (.c (.int 0)) (.v 1))
  (.cons (.set (.n 5) (.op .Mod (.call 7 (.cons (.v 0) (.cons (.op .Add (.c (.int 40)) (.v 4)) .nil))) (.c (.int 6))))
  (.cons (.set (.n 6) (.lst (.cons (.tup (.cons (.c (.str "plus")) (.cons (.tup (.cons (.c (.str "box")) (.cons (.v 4) .nil))) (.cons (.tup (.cons (.c (.str "number")) (.cons (.c (.int 1)) .nil))) .nil)))) (.cons (.tup (.cons (.c (.str "minus")) (.cons (.tup (.cons (.c (.str "box")) (.cons (.v 4) .nil))) (.cons (.tup (.cons (.c (.str "number")) (.cons (.c (.int 1)) .nil))) .nil)))) .nil))))
  (.cons (.app 6 (.call 9 (.cons (.v 0) (.cons (.op .Add (.c (.int 50)) (.op .Mult (.c (.int 9)) (.v 4))) (.cons (.v 1) (.cons (.c (.bl false)) (.cons (.c (.int 1)) .nil)))))))
  (.cons (.iff (.cmp .Lt (.v 5) (.c (.int 3)))
   (.cons (.app 3 (.tup (.cons (.v 4) (.cons (.idx (.v 6) (.v 5)) .nil))))
   .nil)
   .nil)
  .nil)))))
 (.cons (.set (.n 7) (.tup (.cons (.c (.str "yes")) .nil)))
 (.cons (.iff (.cmp .Eq (.op .Mod (.call 7 (.cons (.v 0) (.cons (.c (.int 30)) .nil))) (.c (.int 2))) (.c (.int 1)))
  (.cons (.set (.n 7) (.call 10 (.cons (.v 0) (.cons (.c (.int 10)) (.cons (.v 1) (.cons (.c (.bl false)) (.cons (.c (.int 1)) .nil)))))))
  .nil)
  .nil)
 (.cons (.ret (.tup (.cons (.v 7) (.cons (.bi .tuple (.cons (.v 3) .nil)) (.cons (.op .Mod (.call 7 (.cons (.v 0) (.cons (.c (.int 31)) .nil))) (.v 2)) .nil)))))
 .nil)))))⟩
def f12:Hp.Fn:=⟨3,8,
 (.cons (.set (.n 3) (.op .Mod (.call 7 (.cons (.call 5 (.cons (.v 0) (.cons (.v 1) .nil))) (.cons (.c (.int 1)) .nil))) (.c (.int 4))))
 (.cons (.set (.n 4) (.lst .nil))
 (.cons (.for (.n 5) (.rng (.c (.int 0)) (.v 3))
  (.cons (.set (.n 6) (.lst (.cons (.call 5 (.cons (.v 0) (.cons (.op .Add (.op .Add (.v 1) (.c (.int 1))) (.op .Mult (.c (.int 2)) (.v 5))) .nil))) (.cons (.call 5 (.cons (.v 0) (.cons (.op .Add (.op .Add (.v 1) (.c (.int 2))) (.op .Mult (.c (.int 2)) (.v 5))) .nil))) .nil))))
  (.cons (.set (.n 6) (.op .Add (.v 6) (.lst (.cons (.op .Add (.op .FloorDiv (.idx (.v 6) (.c (.int 0))) (.c (.int 3))) (.idx (.v 6) (.c (.int 1)))) (.cons (.op .Add (.op .FloorDiv (.idx (.v 6) (.c (.int 1))) (.c (.int 3))) (.idx (.v 6) (.c (.int 0)))) .nil)))))
  (.cons (.set (.n 7) (.comp 1 [2,3] (.n 0) (.seq (.v 6)) .nil (.call 11 (.cons (.v 0) (.cons (.v 1) (.cons (.op .Add (.v 2) (.c (.int 1))) .nil))))))
  (.cons (.app 4 (.sli (.v 7) .nil (.cons (.op .Add (.c (.int 1)) (.op .Mod (.call 7 (.cons (.idx (.v 6) (.c (.int 0))) (.cons (.c (.int 32)) .nil))) (.c (.int 4)))) .nil)))
  .nil)))))
 (.cons (.retv 4)
 .nil))))⟩
def f13:Hp.Fn:=⟨2,4,
 (.cons (.set (.n 2) (.op .Mod (.call 7 (.cons (.v 0) (.cons (.c (.int 3)) .nil))) (.c (.int 5))))
 (.cons (.set (.n 3) (.op .Mod (.call 7 (.cons (.v 0) (.cons (.c (.int 4)) .nil))) (.v 1)))
 (.cons (.iff (.cmp .Eq (.v 2) (.c (.int 0)))
  (.cons (.ret (.tup (.cons (.c (.str "is")) (.cons (.tup (.cons (.c (.str "after")) (.cons (.v 3) .nil))) (.cons (.tup (.cons (.c (.str "box")) (.cons (.v 3) .nil))) .nil)))))
  .nil)
  .nil)
 (.cons (.iff (.cmp .Eq (.v 2) (.c (.int 1)))
  (.cons (.ret (.tup (.cons (.c (.str "not")) (.cons (.tup (.cons (.c (.str "less")) (.cons (.tup (.cons (.c (.str "after")) (.cons (.v 3) .nil))) (.cons (.tup (.cons (.c (.str "box")) (.cons (.v 3) .nil))) .nil)))) .nil))))
  .nil)
  .nil)
 (.cons (.iff (.cmp .Eq (.v 2) (.c (.int 2)))
  (.cons (.ret (.tup (.cons (.c (.str "yes")) .nil)))
  .nil)
  .nil)
 (.cons (.ret (.call 10 (.cons (.v 0) (.cons (.c (.int 5)) (.cons (.v 1) (.cons (.c (.bl true)) (.cons (.c (.int 1)) .nil)))))))
 .nil))))))⟩
def f14:Hp.Fn:=⟨2,14,
 (.cons (.set (.n 2) (.bi .int (.cons (.cmp .Eq (.op .Mod (.op .FloorDiv (.call 5 (.cons (.v 0) (.cons (.c (.int 0)) .nil))) (.c (.int 9))) (.c (.int 8))) (.c (.int 5))) .nil)))
 (.cons (.set (.n 3) (.call 8 (.cons (.call 5 (.cons (.v 0) (.cons (.c (.int 0)) .nil))) (.cons (.op .Add (.v 1) (.op .Mult (.c (.int 5)) (.v 2))) .nil))))
 (.cons (.set (.n 4) (.bi .len (.cons (.v 3) .nil)))
 (.cons (.set (.n 5) (.call 10 (.cons (.call 5 (.cons (.v 0) (.cons (.c (.int 1)) .nil))) (.cons (.c (.int 1)) (.cons (.v 4) (.cons (.c (.bl false)) (.cons (.c (.int 1)) .nil)))))))
 (.cons (.iff (.cmp .Eq (.op .Mod (.call 7 (.cons (.call 5 (.cons (.v 0) (.cons (.c (.int 1)) .nil))) (.cons (.c (.int 60)) .nil))) (.c (.int 2))) (.c (.int 1)))
  (.cons (.set (.n 5) (.tup (.cons (.c (.str "is")) (.cons (.tup (.cons (.c (.str "box")) (.cons (.c (.int 0)) .nil))) (.cons (.tup (.cons (.c (.str "number")) (.cons (.c (.int 0)) .nil))) .nil)))))
  .nil)
  .nil)
 (.cons (.set (.n 6) (.lst .nil))
 (.cons (.set (.n 7) (.lst .nil))
 (.cons (.set (.n 8) (.lst .nil))
 (.cons (.for (.n 9) (.rng (.c (.int 0)) (.op .Add (.c (.int 1)) (.op .Mod (.call 7 (.cons (.call 5 (.cons (.v 0) (.cons (.c (.int 2)) .nil))) (.cons (.c (.int 2)) .nil))) (.op .Sub (.c (.int 3)) (.v 2)))))
  (.cons (.set (.n 10) (.op .Add (.c (.int 3)) (.op .Mult (.c (.int 9)) (.v 9))))
  (.cons (.app 6 (.call 12 (.cons (.v 0) (.cons (.v 10) (.cons (.v 4) .nil)))))
  (.cons (.app 7 (.call 13 (.cons (.call 5 (.cons (.v 0) (.cons (.op .Add (.v 10) (.c (.int 7))) .nil))) (.cons (.v 4) .nil))))
  (.cons (.set (.n 11) (.call 5 (.cons (.v 0) (.cons (.op .Add (.v 10) (.c (.int 8))) .nil))))
  (.cons (.set (.n 12) (.lst .nil))
  (.cons (.for (.n 13) (.rng (.c (.int 0)) (.op .Add (.bi .len (.cons (.idx (.v 6) (.v 9)) .nil)) (.c (.int 1))))
   (.cons (.app 12 (.idx (.lst (.cons (.tup (.cons (.c (.str "yes")) .nil)) (.cons (.call 10 (.cons (.v 11) (.cons (.op .Mult (.c (.int 7)) (.v 13)) (.cons (.v 4) (.cons (.c (.bl false)) (.cons (.c (.int 0)) .nil)))))) .nil))) (.op .Mod (.call 7 (.cons (.v 11) (.cons (.v 13) .nil))) (.c (.int 2)))))
   .nil))
  (.cons (.app 8 (.v 12))
  .nil))))))))
 (.cons (.ret (.tup (.cons (.v 3) (.cons (.v 5) (.cons (.v 6) (.cons (.v 7) (.cons (.v 8) .nil)))))))
 .nil))))))))))⟩
def f15:Hp.Fn:=⟨3,4,
 (.cons (.iff (.cmp .Eq (.idx (.v 0) (.c (.int 0))) (.c (.str "number")))
  (.cons (.ret (.idx (.v 0) (.c (.int 1))))
  .nil)
  .nil)
 (.cons (.iff (.cmp .Eq (.idx (.v 0) (.c (.int 0))) (.c (.str "box")))
  (.cons (.ret (.idx (.v 1) (.idx (.v 0) (.c (.int 1)))))
  .nil)
  .nil)
 (.cons (.iff (.cmp .Eq (.idx (.v 0) (.c (.int 0))) (.c (.str "after")))
  (.cons (.ret (.idx (.v 2) (.idx (.v 0) (.c (.int 1)))))
  .nil)
  .nil)
 (.cons (.set (.n 3) (.call 15 (.cons (.idx (.v 0) (.c (.int 1))) (.cons (.v 1) (.cons (.v 2) .nil)))))
 (.cons (.ret (.op .Add (.v 3) (.op .Mult (.op .Sub (.c (.int 1)) (.op .Mult (.c (.int 2)) (.bi .int (.cons (.cmp .Eq (.idx (.v 0) (.c (.int 0))) (.c (.str "minus"))) .nil)))) (.call 15 (.cons (.idx (.v 0) (.c (.int 2))) (.cons (.v 1) (.cons (.v 2) .nil)))))))
 .nil)))))⟩
def f16:Hp.Fn:=⟨3,5,
 (.cons (.iff (.cmp .Eq (.idx (.v 0) (.c (.int 0))) (.c (.str "yes")))
  (.cons (.ret (.c (.bl true)))
  .nil)
  .nil)
 (.cons (.iff (.cmp .Eq (.idx (.v 0) (.c (.int 0))) (.c (.str "not")))
  (.cons (.ret (.nt (.call 16 (.cons (.idx (.v 0) (.c (.int 1))) (.cons (.v 1) (.cons (.v 2) .nil))))))
  .nil)
  .nil)
 (.cons (.iff (.cmp .Eq (.idx (.v 0) (.c (.int 0))) (.c (.str "is")))
  (.cons (.ret (.cmp .Eq (.call 15 (.cons (.idx (.v 0) (.c (.int 1))) (.cons (.v 1) (.cons (.v 2) .nil)))) (.call 15 (.cons (.idx (.v 0) (.c (.int 2))) (.cons (.v 1) (.cons (.v 2) .nil))))))
  .nil)
  .nil)
 (.cons (.iff (.cmp .Eq (.idx (.v 0) (.c (.int 0))) (.c (.str "less")))
  (.cons (.ret (.cmp .Lt (.call 15 (.cons (.idx (.v 0) (.c (.int 1))) (.cons (.v 1) (.cons (.v 2) .nil)))) (.call 15 (.cons (.idx (.v 0) (.c (.int 2))) (.cons (.v 1) (.cons (.v 2) .nil))))))
  .nil)
  .nil)
 (.cons (.set (.n 3) (.call 16 (.cons (.idx (.v 0) (.c (.int 1))) (.cons (.v 1) (.cons (.v 2) .nil)))))
 (.cons (.set (.n 4) (.call 16 (.cons (.idx (.v 0) (.c (.int 2))) (.cons (.v 1) (.cons (.v 2) .nil)))))
 (.cons (.iff (.cmp .Eq (.idx (.v 0) (.c (.int 0))) (.c (.str "both")))
  (.cons (.ret (.an (.v 3) (.v 4)))
  .nil)
  .nil)
 (.cons (.ret (.orr (.v 3) (.v 4)))
 .nil))))))))⟩
def f17:Hp.Fn:=⟨1,6,
 (.cons (.set (.n 1) (.lst (.cons (.tup .nil) .nil)))
 (.cons (.for (.t [2,3]) (.seq (.v 0))
  (.cons (.set (.n 4) (.lst .nil))
  (.cons (.for (.n 5) (.seq (.v 1))
   (.cons (.ext 4 (.comp 1 [5] (.n 0) (.rng (.c (.int 0)) (.op .Add (.v 3) (.c (.int 1)))) .nil (.op .Add (.v 1) (.tup (.cons (.v 0) .nil)))))
   .nil))
  (.cons (.mov 1 4)
  .nil))))
 (.cons (.retv 1)
 .nil)))⟩
def f18:Hp.Fn:=⟨3,12,
 (.cons (.set (.t [3,4]) (.v 1))
 (.cons (.iff (.nt (.cmp2 .LtE .Lt (.c (.int 0)) (.idx (.v 2) (.c (.int 0))) (.bi .len (.cons (.v 4) .nil))))
  (.cons (.ret (.c .non))
  .nil)
  .nil)
 (.cons (.set (.n 5) (.idx (.idx (.v 0) (.c (.int 2))) (.idx (.v 2) (.c (.int 0)))))
 (.cons (.iff (.orr (.cmp .GtE (.idx (.v 4) (.idx (.v 2) (.c (.int 0)))) (.bi .len (.cons (.v 5) .nil))) (.nt (.cmp2 .LtE .Lt (.c (.int 0)) (.idx (.v 2) (.c (.int 1))) (.bi .len (.cons (.idx (.v 5) (.idx (.v 4) (.idx (.v 2) (.c (.int 0))))) .nil)))))
  (.cons (.ret (.c .non))
  .nil)
  .nil)
 (.cons (.set (.t [6,7,8]) (.idx (.idx (.v 5) (.idx (.v 4) (.idx (.v 2) (.c (.int 0))))) (.idx (.v 2) (.c (.int 1)))))
 (.cons (.iff (.nt (.call 16 (.cons (.v 6) (.cons (.v 3) (.cons (.c .non) .nil)))))
  (.cons (.ret (.c .non))
  .nil)
  .nil)
 (.cons (.set (.n 9) (.bi .list (.cons (.v 3) .nil)))
 (.cons (.for (.t [10,11]) (.seq (.v 7))
  (.cons (.setIx 9 (.v 10) (.call 15 (.cons (.v 11) (.cons (.v 3) (.cons (.c .non) .nil)))))
  (.cons (.iff (.nt (.cmp2 .LtE .LtE (.c (.int 0)) (.idx (.v 9) (.v 10)) (.idx (.idx (.idx (.v 0) (.c (.int 0))) (.v 10)) (.c (.int 1)))))
   (.cons (.ret (.c .non))
   .nil)
   .nil)
  .nil)))
 (.cons (.ret (.tup (.cons (.bi .tuple (.cons (.v 9) .nil)) (.cons (.op .Add (.op .Add (.sli (.v 4) .nil (.cons (.idx (.v 2) (.c (.int 0))) .nil)) (.tup (.cons (.v 8) .nil))) (.sli (.v 4) (.cons (.op .Add (.idx (.v 2) (.c (.int 0))) (.c (.int 1))) .nil) .nil)) .nil))))
 .nil)))))))))⟩
def f19:Hp.Fn:=⟨1,5,
 (.cons (.set (.n 1) (.call 33 (.cons (.v 0) .nil)))
 (.cons (.set (.n 2) (.bi .repr (.cons (.v 1) .nil)))
 (.cons (.set (.n 3) (.call 35 (.cons (.v 1) .nil)))
 (.cons (.tld 4 28 (.cons (.v 1) .nil))
 (.cons (.iff (.orr (.nt (.callP 20 4 (.cons (.v 3) .nil))) (.cmp .NotEq (.bi .repr (.cons (.v 1) .nil)) (.v 2)))
  (.cons (.ret (.c (.bl false)))
  .nil)
  .nil)
 (.cons (.iff (.pnn 4)
  (.cons (.appP 4 (.tup (.cons (.c (.int 0)) (.cons (.c (.int 0)) .nil))))
  .nil)
  .nil)
 (.cons (.ret (.call 20 (.cons (.call 28 (.cons (.v 1) .nil)) (.cons (.v 3) .nil))))
 .nil)))))))⟩
def f20:Hp.Fn:=⟨2,3,
 (.cons (.iff (.cmp .Is (.v 1) (.c .non))
  (.cons (.ret (.cmp .Is (.v 0) (.c .non)))
  .nil)
  .nil)
 (.cons (.iff (.isi (.v 1) [.tInt])
  (.cons (.ret (.an (.isi (.v 0) [.tInt]) (.an (.nt (.isi (.v 0) [.tBool])) (.cmp .Eq (.v 0) (.v 1)))))
  .nil)
  .nil)
 (.cons (.iff (.isi (.v 1) [.tStr])
  (.cons (.ret (.an (.isi (.v 0) [.tStr]) (.cmp .Eq (.v 0) (.v 1))))
  .nil)
  .nil)
 (.cons (.iff (.an (.isi (.v 1) [.tTuple]) (.nt (.isi (.v 0) [.tTuple])))
  (.cons (.ret (.c (.bl false)))
  .nil)
  .nil)
 (.cons (.iff (.an (.isi (.v 1) [.tList]) (.nt (.isi (.v 0) [.tList])))
  (.cons (.ret (.c (.bl false)))
  .nil)
  .nil)
 (.cons (.iff (.cmp .NotEq (.bi .len (.cons (.v 0) .nil)) (.bi .len (.cons (.v 1) .nil)))
  (.cons (.ret (.c (.bl false)))
  .nil)
  .nil)
 (.cons (.for (.n 2) (.rng (.c (.int 0)) (.bi .len (.cons (.v 1) .nil)))
  (.cons (.iff (.nt (.call 20 (.cons (.idx (.v 0) (.v 2)) (.cons (.idx (.v 1) (.v 2)) .nil))))
   (.cons (.ret (.c (.bl false)))
   .nil)
   .nil)
  .nil))
 (.cons (.ret (.c (.bl true)))
 .nil))))))))⟩
def f21:Hp.Fn:=⟨2,2,
 (.cons (.ret (.comp 1 [1] (.n 0) (.seq (.call 6 (.cons (.v 0) .nil))) (.cons (.call 1 (.cons (.v 1) (.cons (.v 0) (.cons (.c .non) .nil)))) .nil) (.v 0)))
 .nil)⟩
def f22:Hp.Fn:=⟨2,2,
 (.cons (.ret (.tup (.cons (.v 1) (.cons (.bi .tuple (.cons (.comp 1 [] (.n 0) (.seq (.idx (.v 0) (.c (.int 2)))) .nil (.c (.int 0))) .nil)) .nil))))
 .nil)⟩
def f23:Hp.Fn:=⟨1,7,
 (.cons (.set (.n 1) (.lst .nil))
 (.cons (.dnew 2)
 (.cons (.for (.n 3) (.seq (.call 21 (.cons (.idx (.v 0) (.c (.int 0))) (.cons (.idx (.v 0) (.c (.int 1))) .nil))))
  (.cons (.set (.n 4) (.call 22 (.cons (.v 0) (.cons (.v 3) .nil))))
  (.cons (.dput 2 (.v 4))
  (.cons (.app 1 (.tup (.cons (.v 4) (.cons (.c .non) (.cons (.c .non) .nil)))))
  .nil))))
 (.cons (.set (.n 5) (.c (.int 0)))
 (.cons (.whl (.cmp .Lt (.v 5) (.bi .len (.cons (.v 1) .nil)))
  (.cons (.for (.t [6,4]) (.seq (.call 24 (.cons (.v 0) (.cons (.idx (.idx (.v 1) (.v 5)) (.c (.int 0))) .nil))))
   (.cons (.iff (.dnin (.v 4) 2)
    (.cons (.dput 2 (.v 4))
    (.cons (.app 1 (.tup (.cons (.v 4) (.cons (.v 5) (.cons (.v 6) .nil)))))
    .nil))
    .nil)
   .nil))
  (.cons (.set (.n 5) (.op .Add (.v 5) (.c (.int 1))))
  .nil)))
 (.cons (.retv 1)
 .nil))))))⟩
def f24:Hp.Fn:=⟨2,7,
 (.cons (.set (.n 2) (.lst .nil))
 (.cons (.for (.t [3,4]) (.enum (.idx (.v 0) (.c (.int 2))))
  (.cons (.for (.n 5) (.rng (.c (.int 0)) (.bi .len (.cons (.call 3 (.cons (.v 4) (.cons (.idx (.idx (.v 1) (.c (.int 1))) (.v 3)) .nil))) .nil)))
   (.cons (.set (.n 6) (.call 4 (.cons (.v 0) (.cons (.v 1) (.cons (.tup (.cons (.v 3) (.cons (.v 5) .nil))) .nil)))))
   (.cons (.iff (.cmp .IsNot (.v 6) (.c .non))
    (.cons (.app 2 (.tup (.cons (.tup (.cons (.v 3) (.cons (.v 5) .nil))) (.cons (.v 6) .nil))))
    .nil)
    .nil)
   .nil)))
  .nil))
 (.cons (.retv 2)
 .nil)))⟩
def f25:Hp.Fn:=⟨1,1,
 (.cons (.ret (.comp 1 [0] (.n 0) (.seq (.call 17 (.cons (.idx (.v 0) (.c (.int 0))) .nil))) (.cons (.call 16 (.cons (.idx (.v 1) (.c (.int 1))) (.cons (.v 0) (.cons (.c .non) .nil)))) .nil) (.v 0)))
 .nil)⟩
def f26:Hp.Fn:=⟨1,7,
 (.cons (.set (.n 1) (.comp 1 [0] (.n 0) (.seq (.call 25 (.cons (.v 0) .nil))) .nil (.tup (.cons (.tup (.cons (.v 0) (.cons (.op .Mult (.tup (.cons (.c (.int 0)) .nil)) (.bi .len (.cons (.idx (.v 1) (.c (.int 2))) .nil))) .nil))) (.cons (.c .non) (.cons (.c .non) .nil))))))
 (.cons (.dfrom 2 (.comp 1 [] (.n 0) (.seq (.v 1)) .nil (.tup (.cons (.idx (.v 0) (.c (.int 0))) (.cons (.c (.bl true)) .nil)))))
 (.cons (.set (.n 3) (.c (.int 0)))
 (.cons (.whl (.cmp .Lt (.v 3) (.bi .len (.cons (.v 1) .nil)))
  (.cons (.for (.n 4) (.rng (.c (.int 0)) (.bi .len (.cons (.idx (.v 0) (.c (.int 2))) .nil)))
   (.cons (.for (.n 5) (.rng (.c (.int 0)) (.c (.int 4)))
    (.cons (.set (.n 6) (.call 18 (.cons (.v 0) (.cons (.idx (.idx (.v 1) (.v 3)) (.c (.int 0))) (.cons (.tup (.cons (.v 4) (.cons (.v 5) .nil))) .nil)))))
    (.cons (.iff (.an (.cmp .IsNot (.v 6) (.c .non)) (.dnin (.v 6) 2))
     (.cons (.dput 2 (.v 6))
     (.cons (.app 1 (.tup (.cons (.v 6) (.cons (.v 3) (.cons (.tup (.cons (.v 4) (.cons (.v 5) .nil))) .nil)))))
     .nil))
     .nil)
    .nil)))
   .nil))
  (.cons (.set (.n 3) (.op .Add (.v 3) (.c (.int 1))))
  .nil)))
 (.cons (.retv 1)
 .nil)))))⟩
def f27:Hp.Fn:=⟨2,4,
 (.cons (.set (.n 2) (.idx (.v 0) (.v 1)))
 (.cons (.set (.n 3) (.lst .nil))
 (.cons (.whl (.cmp .IsNot (.idx (.v 2) (.c (.int 1))) (.c .non))
  (.cons (.app 3 (.idx (.v 2) (.c (.int 2))))
  (.cons (.set (.n 2) (.idx (.v 0) (.idx (.v 2) (.c (.int 1)))))
  .nil)))
 (.cons (.rev 3)
 (.cons (.ret (.tup (.cons (.idx (.idx (.v 2) (.c (.int 0))) (.c (.int 0))) (.cons (.v 3) .nil))))
 .nil)))))⟩
def f28:Hp.Fn:=⟨1,6,
 (.cons (.set (.n 1) (.call 23 (.cons (.v 0) .nil)))
 (.cons (.for (.t [2,3]) (.enum (.v 1))
  (.cons (.set (.n 4) (.call 29 (.cons (.v 0) (.cons (.idx (.v 3) (.c (.int 0))) .nil))))
  (.cons (.iff (.cmp .IsNot (.v 4) (.c .non))
   (.cons (.set (.n 5) (.call 27 (.cons (.v 1) (.cons (.v 2) .nil))))
   (.cons (.ret (.tup (.cons (.idx (.v 5) (.c (.int 0))) (.cons (.idx (.v 5) (.c (.int 1))) (.cons (.v 4) .nil)))))
   .nil))
   .nil)
  .nil)))
 (.cons (.ret (.c .non))
 .nil)))⟩
def f29:Hp.Fn:=⟨2,7,
 (.cons (.set (.n 2) (.idx (.v 1) (.c (.int 0))))
 (.cons (.for (.t [3,4]) (.enum (.idx (.v 1) (.c (.int 1))))
  (.cons (.iff (.nt (.call 1 (.cons (.idx (.idx (.idx (.v 0) (.c (.int 4))) (.v 3)) (.v 4)) (.cons (.v 2) (.cons (.c .non) .nil)))))
   (.cons (.ret (.tup (.cons (.c (.str "note")) (.cons (.v 3) .nil))))
   .nil)
   .nil)
  .nil))
 (.cons (.for (.t [5,6]) (.seq (.call 24 (.cons (.v 0) (.cons (.v 1) .nil))))
  (.cons (.iff (.nt (.call 30 (.cons (.v 0) (.cons (.idx (.v 5) (.c (.int 0))) (.cons (.v 2) (.cons (.idx (.v 6) (.c (.int 0))) .nil))))))
   (.cons (.ret (.tup (.cons (.c (.str "promise")) (.cons (.idx (.v 5) (.c (.int 0))) (.cons (.idx (.v 5) (.c (.int 1))) .nil)))))
   .nil)
   .nil)
  .nil))
 (.cons (.ret (.c .non))
 .nil))))⟩
def f30:Hp.Fn:=⟨4,4,
 (.cons (.ret (.orr (.cmp .Eq (.v 2) (.v 3)) (.call 1 (.cons (.idx (.idx (.v 0) (.c (.int 3))) (.v 1)) (.cons (.v 2) (.cons (.v 3) .nil))))))
 .nil)⟩
def f31:Hp.Fn:=⟨3,5,
 (.cons (.set (.n 3) (.tup (.cons (.c (.str "yes")) .nil)))
 (.cons (.for (.n 4) (.rng (.c (.int 0)) (.v 0))
  (.cons (.iff (.cmp .NotEq (.idx (.v 1) (.v 4)) (.v 2))
   (.cons (.set (.n 3) (.tup (.cons (.c (.str "both")) (.cons (.v 3) (.cons (.tup (.cons (.c (.str "is")) (.cons (.tup (.cons (.c (.str "after")) (.cons (.v 4) .nil))) (.cons (.tup (.cons (.c (.str "box")) (.cons (.v 4) .nil))) .nil)))) .nil)))))
   .nil)
   .nil)
  .nil))
 (.cons (.retv 3)
 .nil)))⟩
def f32:Hp.Fn:=⟨2,23,
 (.cons (.set (.t [2,3,4,5,6]) (.v 1))
 (.cons (.set (.n 7) (.call 5 (.cons (.v 0) (.cons (.c (.int 30)) .nil))))
 (.cons (.set (.n 8) (.comp 1 [4,7] (.n 0) (.rng (.c (.int 0)) (.bi .len (.cons (.v 2) .nil))) .nil (.op .Mod (.call 7 (.cons (.v 2) (.cons (.v 0) .nil))) (.bi .len (.cons (.v 1) .nil)))))
 (.cons (.set (.n 9) (.lst .nil))
 (.cons (.set (.n 10) (.lst .nil))
 (.cons (.set (.n 11) (.lst .nil))
 (.cons (.for (.t [12,13]) (.enum (.v 4))
  (.cons (.set (.n 14) (.lst .nil))
  (.cons (.for (.n 15) (.seq (.v 13))
   (.cons (.app 14 (.comp 1 [8,12] (.n 0) (.seq (.v 15)) .nil (.tup (.cons (.idx (.v 0) (.c (.int 0))) (.cons (.bi .tuple (.cons (.comp 1 [1,2] (.n 0) (.seq (.idx (.v 0) (.c (.int 1)))) (.cons (.cmp .Eq (.idx (.v 1) (.idx (.v 0) (.c (.int 0)))) (.v 2)) .nil) (.v 0)) .nil)) (.cons (.idx (.v 0) (.c (.int 2))) .nil))))))
   .nil))
  (.cons (.app 9 (.v 14))
  (.cons (.set (.n 16) (.comp 1 [8,12] (.n 0) (.rng (.c (.int 0)) (.bi .len (.cons (.v 2) .nil))) (.cons (.cmp .Eq (.idx (.v 1) (.v 0)) (.v 2)) .nil) (.v 0)))
  (.cons (.set (.n 17) (.call 31 (.cons (.bi .len (.cons (.v 2) .nil)) (.cons (.v 8) (.cons (.v 12) .nil)))))
  (.cons (.iff (.an (.cmp .NotEq (.v 16) (.lst .nil)) (.cmp .Eq (.op .Mod (.call 7 (.cons (.v 7) (.cons (.op .Add (.c (.int 10)) (.v 12)) .nil))) (.c (.int 3))) (.c (.int 0))))
   (.cons (.set (.n 17) (.tup (.cons (.c (.str "both")) (.cons (.v 17) (.cons (.tup (.cons (.c (.str "not")) (.cons (.tup (.cons (.c (.str "less")) (.cons (.tup (.cons (.c (.str "after")) (.cons (.idx (.v 16) (.c (.int 0))) .nil))) (.cons (.tup (.cons (.c (.str "box")) (.cons (.idx (.v 16) (.c (.int 0))) .nil))) .nil)))) .nil))) .nil)))))
   .nil)
   .nil)
  (.cons (.app 10 (.v 17))
  (.cons (.set (.n 18) (.lst .nil))
  (.cons (.for (.n 19) (.rng (.c (.int 0)) (.op .Add (.bi .len (.cons (.v 13) .nil)) (.c (.int 1))))
   (.cons (.set (.n 20) (.tup (.cons (.c (.str "yes")) .nil)))
   (.cons (.iff (.an (.cmp .NotEq (.v 16) (.lst .nil)) (.cmp .Eq (.op .Mod (.call 7 (.cons (.v 7) (.cons (.op .Add (.op .Add (.c (.int 20)) (.op .Mult (.c (.int 4)) (.v 12))) (.v 19)) .nil))) (.c (.int 2))) (.c (.int 0))))
    (.cons (.set (.n 21) (.tup (.cons (.c (.str "box")) (.cons (.idx (.v 16) (.op .Mod (.call 7 (.cons (.v 7) (.cons (.op .Add (.op .Add (.c (.int 33)) (.op .Mult (.c (.int 4)) (.v 12))) (.v 19)) .nil))) (.bi .len (.cons (.v 16) .nil)))) .nil))))
    (.cons (.set (.n 22) (.tup (.cons (.c (.str "less")) (.cons (.v 21) (.cons (.tup (.cons (.c (.str "number")) (.cons (.op .Add (.c (.int 1)) (.op .Mod (.call 7 (.cons (.v 7) (.cons (.op .Add (.op .Add (.c (.int 46)) (.op .Mult (.c (.int 4)) (.v 12))) (.v 19)) .nil))) (.c (.int 3)))) .nil))) .nil)))))
    (.cons (.set (.n 20) (.idx (.lst (.cons (.v 22) (.cons (.tup (.cons (.c (.str "not")) (.cons (.tup (.cons (.c (.str "is")) (.cons (.v 21) (.cons (.tup (.cons (.c (.str "number")) (.cons (.op .Add (.c (.int 1)) (.v 19)) .nil))) .nil)))) .nil))) .nil))) (.op .Mod (.call 7 (.cons (.v 7) (.cons (.op .Add (.op .Add (.c (.int 60)) (.op .Mult (.c (.int 4)) (.v 12))) (.v 19)) .nil))) (.c (.int 2)))))
    .nil)))
    .nil)
   (.cons (.app 18 (.v 20))
   .nil))))
  (.cons (.app 11 (.v 18))
  .nil)))))))))))
 (.cons (.ret (.tup (.cons (.v 2) (.cons (.v 3) (.cons (.v 9) (.cons (.v 10) (.cons (.v 11) .nil)))))))
 .nil))))))))⟩
def f33:Hp.Fn:=⟨1,2,
 (.cons (.set (.n 1) (.call 14 (.cons (.v 0) (.cons (.c (.int 16)) .nil))))
 (.cons (.iff (.cmp .Gt (.op .Mod (.call 7 (.cons (.call 5 (.cons (.v 0) (.cons (.c (.int 30)) .nil))) (.cons (.c (.int 50)) .nil))) (.c (.int 3))) (.c (.int 0)))
  (.cons (.set (.n 1) (.call 32 (.cons (.v 0) (.cons (.v 1) .nil))))
  .nil)
  .nil)
 (.cons (.retv 1)
 .nil)))⟩
def f34:Hp.Fn:=⟨2,6,
 (.cons (.for (.t [2,3]) (.enum (.idx (.v 1) (.c (.int 1))))
  (.cons (.iff (.nt (.call 16 (.cons (.idx (.idx (.idx (.v 0) (.c (.int 4))) (.v 2)) (.v 3)) (.cons (.idx (.v 1) (.c (.int 0))) (.cons (.c .non) .nil)))))
   (.cons (.ret (.tup (.cons (.c (.str "note")) (.cons (.v 2) .nil))))
   .nil)
   .nil)
  .nil))
 (.cons (.for (.n 2) (.rng (.c (.int 0)) (.bi .len (.cons (.idx (.v 0) (.c (.int 2))) .nil)))
  (.cons (.for (.n 4) (.rng (.c (.int 0)) (.c (.int 4)))
   (.cons (.set (.n 5) (.call 18 (.cons (.v 0) (.cons (.v 1) (.cons (.tup (.cons (.v 2) (.cons (.v 4) .nil))) .nil)))))
   (.cons (.iff (.orr (.cmp .Is (.v 5) (.c .non)) (.cmp .Eq (.idx (.v 5) (.c (.int 0))) (.idx (.v 1) (.c (.int 0)))))
    (.cons .cnt
    .nil)
    .nil)
   (.cons (.iff (.nt (.call 16 (.cons (.idx (.idx (.v 0) (.c (.int 3))) (.v 2)) (.cons (.idx (.v 1) (.c (.int 0))) (.cons (.idx (.v 5) (.c (.int 0))) .nil)))))
    (.cons (.ret (.tup (.cons (.c (.str "promise")) (.cons (.v 2) (.cons (.v 4) .nil)))))
    .nil)
    .nil)
   .nil))))
  .nil))
 (.cons (.ret (.c .non))
 .nil)))⟩
def f35:Hp.Fn:=⟨1,5,
 (.cons (.set (.n 1) (.call 26 (.cons (.v 0) .nil)))
 (.cons (.for (.n 2) (.seq (.v 1))
  (.cons (.set (.n 3) (.call 34 (.cons (.v 0) (.cons (.idx (.v 2) (.c (.int 0))) .nil))))
  (.cons (.iff (.cmp .IsNot (.v 3) (.c .non))
   (.cons (.set (.n 4) (.lst .nil))
   (.cons (.whl (.cmp .IsNot (.idx (.v 2) (.c (.int 1))) (.c .non))
    (.cons (.app 4 (.idx (.v 2) (.c (.int 2))))
    (.cons (.set (.n 2) (.idx (.v 1) (.idx (.v 2) (.c (.int 1)))))
    .nil)))
   (.cons (.ret (.tup (.cons (.idx (.idx (.v 2) (.c (.int 0))) (.c (.int 0))) (.cons (.rvs (.v 4)) (.cons (.v 3) .nil)))))
   .nil)))
   .nil)
  .nil)))
 (.cons (.ret (.c .non))
 .nil)))⟩
def pg:Hp.Pg:=⟨[f0,f1,f2,f3,f4,f5,f6,f7,f8,f9,f10,f11,f12,f13,f14,f15,f16,f17,f18,f19,f20,f21,f22,f23,f24,f25,f26,f27,f28,f29,f30,f31,f32,f33,f34,f35],[],[]⟩
end K57
end
noncomputable section
namespace K57
open Hp HpS PySem
def mix(c k:Int):Int:=(c % 99991+1)*(48271+2018*k*k) % 65521
theorem uB(c k:Int):0<=mix c k:=Int.emod_nonneg _ (by decide)
theorem cL(n:Nat)(c:Int){k:Int}(h0:0<=k)(h1:k<=1000):call pg (n+1) 7 [.int c,.int k]=.ok (.int (mix c k),false,false):=by
 have r0:0<=c % 99991:=Int.emod_nonneg _ (by decide)
 have r1:c % 99991<99991:=Int.emod_lt_of_pos _ (by decide)
 have m1:opD .Mult (.cl (.int 2018)) (.cl (.int k))=.ok (.cl (.int (2018*k))):=mul_int (by
  simp only[eQ,Bool.or_eq_true,bA,decide_eq_true_eq];right;omega)
 have m2:opD .Mult (.cl (.int (2018*k))) (.cl (.int k))=.ok (.cl (.int (2018*k*k))):=mul_int (by
  simp only[eQ,Bool.or_eq_true,bA,decide_eq_true_eq];right;omega)
 have m3:opD .Mult (.cl (.int (c % 99991+1))) (.cl (.int (48271+2018*k*k)))=.ok (.cl (.int ((c % 99991+1)*(48271+2018*k*k)))):=mul_int (by
  simp only[eQ,Bool.or_eq_true,bA,decide_eq_true_eq];left;omega)
 have d1:∀i:Int,opD .Mod (.cl (.int i)) (.cl (.int 99991))=.ok (.cl (.int (i % 99991))):=λi=>kY (by decide)
 have d2:∀i:Int,opD .Mod (.cl (.int i)) (.cl (.int 65521))=.ok (.cl (.int (i % 65521))):=λi=>kY (by decide)
 refine aG (F:=f7) rfl rfl (v:=.cl (.int (mix c k))) ?_
 simp only[f7,mC,mN,List.cons_append,List.nil_append,aV,dC,cR,bV,cI,bH,gS,gZ,bC,aA,d1,add_int,m1,m2,m3,d2,aT,fJ]
 rfl
def cellAt(ns:List Int)(k:Nat):Int:=if k<ns.length then ns.getD k 0 else 71*(k:Int)*k+7*k
theorem dI(n:Nat)(ns:List Int){k:Nat}(h:k<=1000):call pg (n+1) 5 [.lst (ns.map D.int),.int k]=.ok (.int (cellAt ns k),false,false):=by
 have m1:opD .Mult (.cl (.int 71)) (.cl (.int k))=.ok (.cl (.int (71*k))):=mul_int (by
  simp only[eQ,Bool.or_eq_true,bA,decide_eq_true_eq];right;omega)
 have m2:opD .Mult (.cl (.int (71*k))) (.cl (.int k))=.ok (.cl (.int (71*k*k))):=mul_int (by
  simp only[eQ,Bool.or_eq_true,bA,decide_eq_true_eq];right;omega)
 have m3:opD .Mult (.cl (.int 7)) (.cl (.int k))=.ok (.cl (.int (7*k))):=mul_int (by
  simp only[eQ,Bool.or_eq_true,bA,decide_eq_true_eq];right;omega)
 have hl:((ns.map D.int).length:Int)=(ns.length:Int):=by simp
 refine aG (F:=f5) rfl rfl (v:=.cl (.int (cellAt ns k))) ?_
 unfold cellAt
 by_cases hk:k<ns.length
 . have i1:=aAC (v:=⟨.lst (ns.map D.int),false,true,[]⟩) (is:=ns) rfl hk
   have hd:decide ((k:Int)<(ns.length:Int))=true:=decide_eq_true (by omega)
   simp only[f5,mC,mN,List.cons_append,List.nil_append,aV,dD,bX,gX,aB,aI,dC,cX,bV,cI,bH,gS,gZ,bC,gQ,aA,cK,bB,hl,kE,hd,aT,if_true,i1,fJ,hk]
 . have hd:decide ((k:Int)<(ns.length:Int))=false:=decide_eq_false (by omega)
   simp only[f5,mC,mN,List.cons_append,List.nil_append,aV,aL,dD,bX,gX,aB,aI,dC,cR,bV,cI,bH,gS,gZ,bC,gQ,aA,cK,bB,hl,kE,hd,aT,bF,if_false,m1,m2,m3,add_int,jN,fJ,hk]
section
variable {P:Pg} {cl:Caller} {σ:Sg}
theorem mX(σ:Sg){i j:Nat}{a b:D}(ha:noL a=true)(hb:noL b=true):cC σ (.cl (.tup [a,b])) (.t [i,j])=.ok ((σ.set i (.sh false a)).set j (.sh false b)):=by
 unfold cC
 simp only[bB,lC,lN,if_true,List.zip_cons_cons,List.zip_nil_left,List.foldl_cons,List.foldl_nil,bT ha,bT hb,bQ]
theorem aAD(σ:Sg){i:Nat}{d:D}:cC σ (.cl d) (.n i)=.ok (σ.set i (.sh false d)):=by rw[dP,bQ]
theorem lB{f:Nat}{a b c:E}{x y z:Vl}{k:Bool}(h1:ev P cl σ a=.ok x)(h2:ev P cl σ b=.ok y)(h3:ev P cl σ c=.ok z)(hc:cl f [x.d,y.d,z.d]=.ok (.bl k,false,false)):tst P cl σ (.call f (.cons a (.cons b (.cons c .nil))))=.ok k:=by
 have e:evs P cl σ (.cons a (.cons b (.cons c .nil)))=.ok [x,y,z]:=by rw[aB,h1,aA,aB,h2,aA,aB,h3,aA,aI];rfl
 rw[iF,e,aA,show [x,y,z].map (·.d)=[x.d,y.d,z.d] from rfl,hc];rfl
theorem aFX{f:Nat}{a b c e:E}{x y z w:Vl}{k:Bool}(h1:ev P cl σ a=.ok x)(h2:ev P cl σ b=.ok y)(h3:ev P cl σ c=.ok z)(h4:ev P cl σ e=.ok w)(hc:cl f [x.d,y.d,z.d,w.d]=.ok (.bl k,false,false)):tst P cl σ (.call f (.cons a (.cons b (.cons c (.cons e .nil)))))=.ok k:=by
 have e:evs P cl σ (.cons a (.cons b (.cons c (.cons e .nil))))=.ok [x,y,z,w]:=by rw[aB,h1,aA,aB,h2,aA,aB,h3,aA,aB,h4,aA,aI];rfl
 rw[iF,e,aA,show [x,y,z,w].map (·.d)=[x.d,y.d,z.d,w.d] from rfl,hc];rfl
theorem lU{a:E}{k:Bool}(h:tst P cl σ a=.ok k):tst P cl σ (.nt a)=.ok (!k):=by rw[aIK,h];rfl
theorem bZ{f:Nat}{a b:E}{x y:Vl}{d:D}(h1:ev P cl σ a=.ok x)(h2:ev P cl σ b=.ok y)(hc:cl f [x.d,y.d]=.ok (d,false,false)):ev P cl σ (.call f (.cons a (.cons b .nil)))=.ok (.cl d):=by
 have e:evs P cl σ (.cons a (.cons b .nil))=.ok [x,y]:=by rw[aB,h1,aA,aB,h2,aA,aI];rfl
 rw[aU,e,aA,show [x,y].map (·.d)=[x.d,y.d] from rfl,hc];rfl
theorem dM{a b:E}{x y:D}(h1:ev P cl σ a=.ok (.cl x))(h2:ev P cl σ b=.ok (.cl y)):ev P cl σ (.tup (.cons a (.cons b .nil)))=.ok (.cl (.tup [x,y])):=by
 rw[cY,aB,h1,aA,aB,h2];rfl
theorem fV{a b c:E}{x y z:D}(h1:ev P cl σ a=.ok (.cl x))(h2:ev P cl σ b=.ok (.cl y))(h3:ev P cl σ c=.ok (.cl z)):ev P cl σ (.tup (.cons a (.cons b (.cons c .nil))))=.ok (.cl (.tup [x,y,z])):=by
 rw[cY,aB,h1,aA,aB,h2,aA,aB,h3];rfl
end
theorem rN{v:Vl}{α:Type}{f:α->D}{xs:List α}{k:Nat}{x:α}(hv:v.d=.lst (xs.map f))(hx:xs[k]? = some x):bM v (.cl (.int (k:Int)))=.ok (Vl.sub v (f x)):=by
 have hk:k<(xs.map f).length:=by rw[lM];exact(List.getElem?_eq_some_iff.mp hx).1
 have e:(xs.map f)[k]? = some (f x):=by rw[List.getElem?_map,hx];rfl
 unfold bM
 simp only[hv,bB,dF hk,e]
section
variable {P:Pg} {cl:Caller} {σ σ':Sg}
theorem rO{i:Nat}{e:E}{v:Vl}{pa:Bool}{ds:List D}(h:ev P cl σ e=.ok v)(hi:(freeze σ v.al)[i]? = some (.own pa ds))(hl:ds.length<lim):ex P cl σ (.app i e)=.next ((freeze σ v.al).set i (.own (pa||v.pa) (ds++[v.d]))):=by
 have ll:(ds++[v.d]).length<=lim:=by rw[lA];exact hl
 rw[kC,h,aT]
 unfold put gB
 rw[hi]
 show(if (ds++[v.d]).length<=lim then O.next _ else .bad)=_
 rw[if_pos ll]
theorem pH{i:Nat}{e:E}{v:Vl}{ds ds':List D}(h:ev P cl σ e=.ok v)(hi:(freeze σ v.al)[i]? = some (.own false ds))(hl:ds.length<lim)(hp:v.pa=false)(he:ds'=ds++[v.d]):ex P cl σ (.app i e)=.next ((freeze σ v.al).set i (.own false ds')):=by
 rw[rO h hi hl,hp,he];rfl
theorem mF{i:Nat}{e:E}{ds:List D}(h:ev P cl σ e=.ok ⟨.lst ds,true,false,[]⟩):ex P cl σ (.set (.n i) e)=.next (σ.set i (.own false ds)):=by
 rw[bY,h];rfl
theorem zE{c:E}{a b:Ss}(h:tst P cl σ c=.ok true)(r:exs P cl σ a=.next σ'):ex P cl σ (.iff c a b)=.next σ':=by
 rw[dD,h,aT,if_pos rfl,r]
theorem aLK{a b:E}{x y:Bool}(h1:tst P cl σ a=.ok x)(h2:tst P cl σ b=.ok y):tst P cl σ (.an a b)=.ok (x&&y):=by
 rw[kB,h1,aA];cases x
 . rfl
 . exact h2
theorem gW{o:CmpOp}{a b:E}{x y:Vl}{k:Bool}(h:ev P cl σ a=.ok x)(g:ev P cl σ b=.ok y)(e:dJ o x.d y.d=some k):tst P cl σ (.cmp o a b)=.ok k:=by rw[bX,h,aA,g,aA,e]
end
theorem aIP{P:Pg}{cl:Caller}{σ:Sg}{s:S}{ss:Ss}{v:Vl}(h:ex P cl σ s=.ret v):exs P cl σ (.cons s ss)=.ret v:=by rw[aV,h];rfl
theorem aGI{P:Pg}{cl:Caller}{σ:Sg}{c:E}{ss:Ss}(h:tst P cl σ c=.ok true):exs P cl σ (.cons (.iff c (.cons .cnt .nil) .nil) ss)=.cnt σ:=by
 rw[aV,dD,h];rfl
theorem nM{P:Pg}{cl:Caller}{σ:Sg}{f:Nat}{a:E}{x:Vl}{d:D}{fr:Bool}(h1:ev P cl σ a=.ok x)(hc:cl f [x.d]=.ok (d,fr,false)):ev P cl σ (.call f (.cons a .nil))=.ok ⟨d,fr,false,[]⟩:=by
 have e:evs P cl σ (.cons a .nil)=.ok [x]:=by rw[aB,h1];rfl
 rw[aU,e,aA,show [x].map (·.d)=[x.d] from rfl,hc];rfl
section
variable {P:Pg} {cl:Caller} {σ σ':Sg}
theorem aLL(σ:Sg){i j k:Nat}{a b c:D}(ha:noL a=true)(hb:noL b=true)(hc:noL c=true):cC σ (.cl (.tup [a,b,c])) (.t [i,j,k])=.ok (((σ.set i (.sh false a)).set j (.sh false b)).set k (.sh false c)):=by
 unfold cC
 simp only[bB,lC,lN,if_true,List.zip_cons_cons,List.zip_nil_left,List.foldl_cons,List.foldl_nil,bT ha,bT hb,bT hc,bQ]
theorem aLM{a b:E}(h:tst P cl σ a=.ok true):tst P cl σ (.orr a b)=.ok true:=by rw[nK,h];rfl
theorem aLN{a b:E}{k:Bool}(h:tst P cl σ a=.ok false)(g:tst P cl σ b=.ok k):tst P cl σ (.orr a b)=.ok k:=by rw[nK,h,aA,if_neg bN,g]
theorem aDP{f:Nat}{a b c:E}{x y z:Vl}{d:D}(h1:ev P cl σ a=.ok x)(h2:ev P cl σ b=.ok y)(h3:ev P cl σ c=.ok z)(hc:cl f [x.d,y.d,z.d]=.ok (d,true,false)):ev P cl σ (.call f (.cons a (.cons b (.cons c .nil))))=.ok ⟨d,true,false,[]⟩:=by
 have e:evs P cl σ (.cons a (.cons b (.cons c .nil)))=.ok [x,y,z]:=by rw[aB,h1,aA,aB,h2,aA,aB,h3,aA,aI];rfl
 rw[aU,e,aA,show [x,y,z].map (·.d)=[x.d,y.d,z.d] from rfl,hc];rfl
theorem lD{f:Nat}{a b:E}{x y:Vl}{d:D}(h1:ev P cl σ a=.ok x)(h2:ev P cl σ b=.ok y)(hc:cl f [x.d,y.d]=.ok (d,true,false)):ev P cl σ (.call f (.cons a (.cons b .nil)))=.ok ⟨d,true,false,[]⟩:=by
 have e:evs P cl σ (.cons a (.cons b .nil))=.ok [x,y]:=by rw[aB,h1,aA,aB,h2,aA,aI];rfl
 rw[aU,e,aA,show [x,y].map (·.d)=[x.d,y.d] from rfl,hc];rfl
theorem aAE{f:Nat}{a b c e g:E}{x y z w u:Vl}{d:D}(h1:ev P cl σ a=.ok x)(h2:ev P cl σ b=.ok y)(h3:ev P cl σ c=.ok z)(h4:ev P cl σ e=.ok w)(h5:ev P cl σ g=.ok u)(hc:cl f [x.d,y.d,z.d,w.d,u.d]=.ok (d,false,false)):ev P cl σ (.call f (.cons a (.cons b (.cons c (.cons e (.cons g .nil))))))=.ok (.cl d):=by
 have e:evs P cl σ (.cons a (.cons b (.cons c (.cons e (.cons g .nil)))))=.ok [x,y,z,w,u]:=by rw[aB,h1,aA,aB,h2,aA,aB,h3,aA,aB,h4,aA,aB,h5,aA,aI];rfl
 rw[aU,e,aA,show [x,y,z,w,u].map (·.d)=[x.d,y.d,z.d,w.d,u.d] from rfl,hc];rfl
theorem aDQ{t:T}{e:E}{d:D}(h:ev P cl σ e=.ok (.cl d))(k:cC σ (.cl d) t=.ok σ'):ex P cl σ (.set t e)=.next σ':=by rw[bY,h,aT,dS,bI,k];rfl
theorem aDR{i:Nat}{e:E}{d:D}(h:ev P cl σ e=.ok ⟨d,false,true,[]⟩):ex P cl σ (.set (.n i) e)=.next (σ.set i (.sh true d)):=by rw[bY,h];rfl
theorem uC{t:T}{it:It}{b:Ss}{xs:List Vl}(hw:walk P cl σ it=.ok (xs,[])):ex P cl σ (.for t it b)=dQ (λσ x=>O.from σ (cC σ x t) λσ'=>exs P cl σ' b) xs σ:=by rw[yZ,hw];rfl
theorem wN{f:Nat}{a b:E}{x y:Vl}{d:D}(h1:ev P cl σ a=.ok x)(h2:ev P cl σ b=.ok y)(hc:cl f [x.d,y.d]=.ok (d,false,true))(hp:eZ [x,y]=true)(ha:cQ [x,y]=[]):ev P cl σ (.call f (.cons a (.cons b .nil)))=.ok ⟨d,false,true,[]⟩:=by
 have e:evs P cl σ (.cons a (.cons b .nil))=.ok [x,y]:=by rw[aB,h1,aA,aB,h2,aA,aI];rfl
 rw[aU,e,aA,show [x,y].map (·.d)=[x.d,y.d] from rfl,hc,aA]
 show R.ok (⟨d,false,eZ [x,y],cQ [x,y]⟩:Vl)=_
 rw[hp,ha]
theorem aAF{i j:Nat}{k e:E}{acc:List Int}{v:Int}(he:ev P cl σ e=.ok (.cl (.int v)))(hk:ev P cl σ k=.ok (.cl (.int (j:Int))))(hi:σ[i]? = some (.own false (acc.map D.int)))(hj:j<acc.length)(hl:acc.length<=100):ex P cl σ (.setIx i k e)=.next (σ.set i (.own false ((acc.set j v).map D.int))):=by
 have hx:ixN acc.length (j:Int)=some j:=dF hj
 have hll:acc.length<=lim:=by unfold lim;omega
 simp only[aDL,he,hk,aT,bB,put,dS,bI,gB,hi,lM,hx,List.length_set,hll,if_true,rL,Bool.or_false,List.map_set]
end
theorem aLO{p q:Prop}[Decidable p][Decidable q](h:¬ (p/\q)):(decide p&&decide q)=false:=by
 cases z:(decide p&&decide q) with
 | false=>rfl
 | true=>simp only[bA,decide_eq_true_eq] at z;exact absurd z h
theorem aLP{p q:Prop}[Decidable p][Decidable q](h:p/\q):(decide p&&decide q)=true:=by rw[decide_eq_true h.1,decide_eq_true h.2];rfl
theorem wP(st:List Int):biD .list [.cl (aE st)]=.ok ⟨.lst (st.map D.int),true,false,[]⟩:=by
 show R.ok (Vl.mk (.lst (st.map D.int)) true (false&&!noLs (st.map D.int)) (if noLs (st.map D.int)=true then [] else []))=_
 rw[eU];rfl
theorem mH{i:Int}(h0:0<=i)(h:i<1000000):wt (.int i)=10:=by
 unfold wt;rw[if_pos (by omega)]
theorem aDS:wt (.str "number")=8/\wt (.str "box")=5/\wt (.str "after")=7/\wt (.str "yes")=5/\wt (.str "not")=5:=by decide +kernel
theorem aNv:∀p,wt (.str (pE p))<=7:=by decide +kernel
theorem aNw:∀p,wt (.str (pF p))<=6:=by decide +kernel
theorem aNx:∀p,wt (.str (iK p))<=8:=by decide +kernel
theorem wQ{c:Nat}{pl:Bool}(hc:c<=5):∀s:Sm,s.wf c pl->wt s.d<=30*s.sz
 | .num i,w=>by
  obtain⟨w0,w1⟩:0<=i/\i<=99:=w
  show wt (.tup [.str "number",.int i])<=30*1
  simp only[wt.eq_5,wts,aDS.1,mH w0 (by omega)];omega
 | .box k,w=>by
  have w:k<c:=w
  show wt (.tup [.str "box",.int k])<=30*1
  simp only[wt.eq_5,wts,aDS.2.1,mH (i:=(k:Int)) (by omega) (by omega)];omega
 | .aft k,w=>by
  have w:k<c:=w.1
  show wt (.tup [.str "after",.int k])<=30*1
  simp only[wt.eq_5,wts,aDS.2.2.1,mH (i:=(k:Int)) (by omega) (by omega)];omega
 | .two p a b,w=>by
  have h1:=wQ hc a w.1
  have h2:=wQ hc b w.2
  have h3:=aNv p
  show wt (.tup [.str (pE p),a.d,b.d])<=30*(1+a.sz+b.sz)
  simp only[wt.eq_5,wts];omega
theorem pI{c:Nat}{pl:Bool}(hc:c<=5):∀s:Cn,s.wf c pl->wt s.d<=30*s.sz
 | .yes,w=>by
  show wt (.tup [.str "yes"])<=30*1
  simp only[wt.eq_5,wts,aDS.2.2.2.1];omega
 | .cmp i a b,w=>by
  have h1:=wQ hc a w.1
  have h2:=wQ hc b w.2
  have h3:=aNw i
  show wt (.tup [.str (pF i),a.d,b.d])<=30*(1+a.sz+b.sz)
  simp only[wt.eq_5,wts];omega
 | .nt x,w=>by
  have h1:=pI hc x w
  show wt (.tup [.str "not",x.d])<=30*(1+x.sz)
  simp only[wt.eq_5,wts,aDS.2.2.2.2];omega
 | .two p a b,w=>by
  have h1:=pI hc a w.1
  have h2:=pI hc b w.2
  have h3:=aNx p
  show wt (.tup [.str (iK p),a.d,b.d])<=30*(1+a.sz+b.sz)
  simp only[wt.eq_5,wts];omega
theorem dX(j:Int)(h:0<j):∀i:Int,opD .Mod (.cl (.int i)) (.cl (.int j))=.ok (.cl (.int (i % j))):=λi=>kY h
theorem aAG(i:Int):i % 2=0\/i % 2=1:=by omega
theorem aAH{a b:Str}{v:Vl}(hv:v.d=.lst [.str a,.str b]){i:Int}(h:i=0\/i=1):bM v (.cl (.int i))=.ok (.cl (.str (if i=0 then a else b))):=by
 unfold bM
 rw[hv]
 rcases h with rfl|rfl <;> rfl
theorem aFY(a b:Str):mR [.cl (.str a),.cl (.str b)]=⟨.lst [.str a,.str b],true,false,[]⟩:=rfl
theorem aNy(a b c:Int):mR [.cl (.int a),.cl (.int b),.cl (.int c)]=⟨.lst [.int a,.int b,.int c],true,false,[]⟩:=rfl
theorem aLQ{a b c:Int}{v:Vl}(hv:v.d=.lst [.int a,.int b,.int c]){i:Int}(h0:0<=i)(h:i<3):bM v (.cl (.int i))=.ok (.cl (.int (if i=0 then a else if i=1 then b else c))):=by
 unfold bM
 rw[hv]
 have:i=0\/i=1\/i=2:=by omega
 rcases this with rfl|rfl|rfl <;> rfl
theorem zF(b:Bool):biD .int [.cl (.bl b)]=.ok (.cl (.int (b2i b))):=rfl
theorem wR(a b:D):jQ [.cl a,.cl b]=.cl (.tup [a,b]):=rfl
theorem aFZ(a b c:D):jQ [.cl a,.cl b,.cl c]=.cl (.tup [a,b,c]):=rfl
theorem aAI{P:Pg}{cl:Caller}{σ:Sg}{a b:E}{x y:Bool}(h1:ev P cl σ a=.ok (.cl (.bl x)))(h2:ev P cl σ b=.ok (.cl (.bl y))):ev P cl σ (.an a b)=.ok (.cl (.bl (x&&y))):=by
 rw[aGG,h1]
 cases x with
 | true=>exact h2
 | false=>rfl
theorem pJ(n:Nat)(c:Int){k:Int}(h0:0<=k)(h1:k<=900){m:Nat}(hm:1<=m)(af:Bool){dp:Int}(hd:dp<=0\/mix c k % 7<=3):∃s:Sm,s.wf m (!af)/\s.sz=1/\call pg (n+2) 9 [.int c,.int k,.int m,.bl af,.int dp]=.ok (s.d,false,false):=by
 have x0:=cL n c h0 (by omega)
 have x1:=cL n c (k:=k+1) (by omega) (by omega)
 have x2:=cL n c (k:=k+2) (by omega) (by omega)
 have n1:=uB c (k+1)
 have mm:=dX (m:Int) (by omega)
 have ht:tst pg (call pg (n+1)) [.sh true (.int c),.sh true (.int k),.sh true (.int m),.sh true (.bl af),.sh true (.int dp),.sh false (.int (mix c k % 7)),.dead] (.an (.cmp .Gt (.v 4) (.c (.int 0))) (.cmp .Gt (.v 5) (.c (.int 3))))=.ok false:=by
  simp only[kB,bX,bV,cI,bH,gS,gZ,bC,aA,bB,mD]
  cases q:decide (0<dp) with
  | false=>rfl
  | true=>
   have q:=of_decide_eq_true q
   rw[if_pos rfl,decide_eq_false (by omega)]
 by_cases hz:mix c k % 7=0
 . have hz':(mix c k % 7==0)=true:=by rw[hz];rfl
   have p3:=aLQ (a:=3) (b:=9) (c:=100) (v:=⟨.lst [.int 3,.int 9,.int 100],true,false,[]⟩) rfl (i:=mix c (k+2) % 3) (by omega) (by omega)
   have hq:∃q:Int,(if mix c (k+2) % 3=0 then (3:Int) else if mix c (k+2) % 3=1 then 9 else 100)=q/\0<q/\q<=100:=⟨_,rfl,by split <;> (try split) <;> decide,by split <;> (try split) <;> decide⟩
   obtain⟨q,hq,q0,q1⟩:=hq
   rw[hq] at p3
   refine⟨.num (mix c (k+1) % q),⟨Int.emod_nonneg _ (by omega),by have:=Int.emod_lt_of_pos (mix c (k+1)) q0;omega⟩,rfl,?_⟩
   refine aG (F:=f9) rfl rfl (v:=.cl (Sm.d (.num (mix c (k+1) % q)))) ?_
   show exs pg (call pg (n+1)) [.sh true (.int c),.sh true (.int k),.sh true (.int m),.sh true (.bl af),.sh true (.int dp),.dead,.dead] _=_
   simp only[f9,aV,aL,bY,cR,aU,aB,aI,bV,cI,bH,gS,gZ,bC,aA,mC,mN,bB,x0,cE,dX 7 (by decide),aT,dS,bI,dP,bQ,lS,lZ,jN,dD,ht,bF,if_false,bX,eY,dE,hz',if_true,dC,cY,add_int,x1,x2,dX 3 (by decide),cX,gP,aNy,p3,dX q q0,wR,fJ,Sm.d]
 . have hz':(mix c k % 7==0)=false:=beq_eq_false_iff_ne.mpr hz
   have hb:∃b:Bool,(af&&(mix c k % 7 % 2==1))=b:=⟨_,rfl⟩
   obtain⟨b,hb⟩:=hb
   have p2:=aAH (a:= "box") (b:= "after") (v:=⟨.lst [.str "box",.str "after"],true,false,[]⟩) rfl (i:=b2i b) (by cases b <;> simp[b2i])
   have hk:mix c (k+1) % (m:Int)=((mix c (k+1) % (m:Int)).toNat:Int):=by rw[Int.toNat_of_nonneg (Int.emod_nonneg _ (by omega))]
   have hlt:(mix c (k+1) % (m:Int)).toNat<m:=by have:=Int.emod_lt_of_pos (mix c (k+1)) (show(0:Int)<m by omega);omega
   have hs:∃s:Sm,s.wf m (!af)/\s.sz=1/\D.tup [.str (if b2i b=0 then "box" else "after"),.int (mix c (k+1) % (m:Int))]=s.d:=by
    cases b with
    | false=>exact⟨.box (mix c (k+1) % (m:Int)).toNat,hlt,rfl,by rw[hk];rfl⟩
    | true=>
     have ha:af=true:=by cases af <;> first|rfl|cases hb
     exact⟨.aft (mix c (k+1) % (m:Int)).toNat,⟨hlt,by rw[ha];rfl⟩,rfl,by rw[hk];rfl⟩
   obtain⟨s,s1,s2,s3⟩:=hs
   refine⟨s,s1,s2,?_⟩
   have e:ev pg (call pg (n+1)) [.sh true (.int c),.sh true (.int k),.sh true (.int m),.sh true (.bl af),.sh true (.int dp),.sh false (.int (mix c k % 7)),.dead] (.an (.v 3) (.cmp .Eq (.op .Mod (.v 5) (.c (.int 2))) (.c (.int 1))))=.ok (.cl (.bl b)):=by
    rw[<-hb]
    refine aAI rfl ?_
    simp only[yY,cR,bV,cI,bH,gS,gZ,bC,aA,dX 2 (by decide),bB,eY,dE]
   refine aG (F:=f9) rfl rfl (v:=.cl s.d) ?_
   show exs pg (call pg (n+1)) [.sh true (.int c),.sh true (.int k),.sh true (.int m),.sh true (.bl af),.sh true (.int dp),.dead,.dead] _=_
   simp only[f9,aV,aL,bY,cR,aU,aB,aI,bV,cI,bH,gS,gZ,bC,mB,aA,mC,mN,bB,x0,cE,dX 7 (by decide),aT,dS,bI,dP,bQ,lS,lZ,jN,dD,ht,bF,if_false,bX,eY,dE,hz',dC,cY,e,add_int,x1,gX,cX,gP,aFY,mm,zF,p2,wR,s3,fJ]
theorem pK(n:Nat)(c:Int){k:Int}(h0:0<=k)(h1:k<=800){m:Nat}(hm:1<=m)(af:Bool):∃s:Sm,s.wf m (!af)/\s.sz<=3/\call pg (n+3) 9 [.int c,.int k,.int m,.bl af,.int 1]=.ok (s.d,false,false):=by
 by_cases hb:mix c k % 7<=3
 . obtain⟨s,a,b,e⟩:=pJ (n+1) c h0 (by omega) hm af (dp:=1) (.inr hb)
   exact⟨s,a,by omega,e⟩
 . obtain⟨s,s1,s2,s3⟩:=pJ n c (k:=k+3) (by omega) (by omega) hm af (dp:=1-1) (.inl (by decide))
   obtain⟨t,t1,t2,t3⟩:=pJ n c (k:=k+7) (by omega) (by omega) hm af (dp:=1-1) (.inl (by decide))
   have x0:=cL (n+1) c h0 (by omega)
   have hd:decide ((3:Int)<mix c k % 7)=true:=decide_eq_true (by omega)
   have hd1:decide ((0:Int)<1)=true:=rfl
   have p2:=aAH (a:= "plus") (b:= "minus") (v:=⟨.lst [.str "plus",.str "minus"],true,false,[]⟩) rfl (aAG (mix c k % 7))
   have v6:∀i,Sl.val i (.sh false s.d)=.ok (.cl s.d):=λi=>rfl
   have hw:(if mix c k % 7 % 2=0 then ("plus" : Str) else "minus")=pE (decide (mix c k % 7 % 2=0)):=by
    unfold pE;by_cases h:mix c k % 7 % 2=0 <;> simp[h]
   rw[hw] at p2
   refine⟨.two (decide (mix c k % 7 % 2=0)) s t,⟨s1,t1⟩,by show 1+s.sz+t.sz<=3;omega,?_⟩
   refine aG (F:=f9) rfl rfl (v:=.cl (Sm.d (.two (decide (mix c k % 7 % 2=0)) s t))) ?_
   show exs pg (call pg (n+2)) [.sh true (.int c),.sh true (.int k),.sh true (.int m),.sh true (.bl af),.sh true (.int 1),.dead,.dead] _=_
   simp only[f9,aV,aL,bY,cR,aU,aB,aI,bV,cI,bH,gS,gZ,bC,mB,cP,aA,mC,mN,bB,x0,cE,dX 7 (by decide),aT,dS,bI,dP,bQ,lS,lZ,jN,dD,kB,bX,mD,hd,hd1,if_true,add_int,sub_int,s3,t3,dC,cY,cX,gP,aFY,dX 2 (by decide),p2,aFZ,fJ,Sm.d]
def drp:Nat->Ss->Ss
 | 0,s=>s
 | n+1,.cons _ s=>drp n s
 | _+1,.nil=>.nil
def hdS:Ss->S
 | .cons s _=>s
 | .nil=>.pass
theorem stp{P:Pg}{cl:Caller}{σ σ':Sg}{s:S}{ss:Ss}(h:ex P cl σ s=.next σ'):exs P cl σ (.cons s ss)=exs P cl σ' ss:=by rw[aV,h,jN]
theorem aIQ(a:D):jQ [.cl a]=.cl (.tup [a]):=rfl
theorem jC(n:Nat)(c:Int){k:Int}(h0:0<=k)(h1:k<=700){m:Nat}(hm:1<=m)(af:Bool){dp:Int}(hd:dp<=0\/mix c k % 9<=5):∃q:Cn,q.wf m (!af)/\q.sz<=7/\call pg (n+4) 10 [.int c,.int k,.int m,.bl af,.int dp]=.ok (q.d,false,false):=by
 have x0:=cL (n+2) c h0 (by omega)
 obtain⟨s,s1,s2,s3⟩:=pK n c (k:=k+1) (by omega) (by omega) hm af
 obtain⟨t,t1,t2,t3⟩:=pK n c (k:=k+4) (by omega) (by omega) hm af
 have ht:tst pg (call pg (n+3)) [.sh true (.int c),.sh true (.int k),.sh true (.int m),.sh true (.bl af),.sh true (.int dp),.sh false (.int (mix c k % 9)),.dead] (.an (.cmp .Gt (.v 4) (.c (.int 0))) (.cmp .Gt (.v 5) (.c (.int 5))))=.ok false:=by
  simp only[kB,bX,bV,cI,bH,gS,gZ,bC,aA,bB,mD]
  cases q:decide (0<dp) with
  | false=>rfl
  | true=>
   have q:=of_decide_eq_true q
   rw[if_pos rfl,decide_eq_false (by omega)]
 by_cases hz:mix c k % 9=0
 . have hz':(mix c k % 9==0)=true:=by rw[hz];rfl
   refine⟨.yes,trivial,by decide,?_⟩
   refine aG (F:=f10) rfl rfl (v:=.cl (Cn.d .yes)) ?_
   show exs pg (call pg (n+3)) [.sh true (.int c),.sh true (.int k),.sh true (.int m),.sh true (.bl af),.sh true (.int dp),.dead,.dead] _=_
   simp only[f10,aV,aL,bY,cR,aU,aB,aI,bV,cI,bH,gS,gZ,bC,aA,mC,mN,bB,x0,cE,dX 9 (by decide),aT,dS,bI,dP,bQ,lS,lZ,jN,dD,bX,eY,dE,hz',if_true,dC,cY,aIQ,fJ,Cn.d]
 . have hz':(mix c k % 9==0)=false:=beq_eq_false_iff_ne.mpr hz
   have p2:=aAH (a:= "is") (b:= "less") (v:=⟨.lst [.str "is",.str "less"],true,false,[]⟩) rfl (aAG (mix c k % 9))
   have hw:(if mix c k % 9 % 2=0 then ("is" : Str) else "less")=pF (decide (mix c k % 9 % 2=0)):=by
    unfold pF;by_cases h:mix c k % 9 % 2=0 <;> simp[h]
   rw[hw] at p2
   refine⟨.cmp (decide (mix c k % 9 % 2=0)) s t,⟨s1,t1⟩,by show 1+s.sz+t.sz<=7;omega,?_⟩
   refine aG (F:=f10) rfl rfl (v:=.cl (Cn.d (.cmp (decide (mix c k % 9 % 2=0)) s t))) ?_
   show exs pg (call pg (n+3)) [.sh true (.int c),.sh true (.int k),.sh true (.int m),.sh true (.bl af),.sh true (.int dp),.dead,.dead] _=_
   simp only[f10,aV,aL,bY,cR,aU,aB,aI,bV,cI,bH,gS,gZ,bC,mB,cP,aA,mC,mN,bB,x0,cE,dX 9 (by decide),aT,dS,bI,dP,bQ,lS,lZ,jN,dD,ht,bF,if_false,bX,eY,dE,hz',add_int,s3,t3,dC,cY,cX,gP,aFY,dX 2 (by decide),p2,aFZ,fJ,Cn.d]
theorem mI(n:Nat)(c:Int){k:Int}(h0:0<=k)(h1:k<=600){m:Nat}(hm:1<=m)(af:Bool):∃q:Cn,q.wf m (!af)/\q.sz<=15/\call pg (n+5) 10 [.int c,.int k,.int m,.bl af,.int 1]=.ok (q.d,false,false):=by
 by_cases hb:mix c k % 9<=5
 . obtain⟨q,a,b,e⟩:=jC (n+1) c h0 (by omega) hm af (dp:=1) (.inr hb)
   exact⟨q,a,by omega,e⟩
 . have x0:=cL (n+3) c h0 (by omega)
   obtain⟨s,s1,s2,s3⟩:=jC n c (k:=k+9) (by omega) (by omega) hm af (dp:=1-1) (.inl (by decide))
   obtain⟨t,t1,t2,t3⟩:=jC n c (k:=k+23) (by omega) (by omega) hm af (dp:=1-1) (.inl (by decide))
   have hd:decide ((5:Int)<mix c k % 9)=true:=decide_eq_true (by omega)
   have hd1:decide ((0:Int)<1)=true:=rfl
   have hz':(mix c k % 9==0)=false:=beq_eq_false_iff_ne.mpr (by omega)
   by_cases h6:mix c k % 9=6
   . have h6':(mix c k % 9==6)=true:=by rw[h6];rfl
     refine⟨.nt s,s1,by show 1+s.sz<=15;omega,?_⟩
     refine aG (F:=f10) rfl rfl (v:=.cl (Cn.d (.nt s))) ?_
     show exs pg (call pg (n+4)) [.sh true (.int c),.sh true (.int k),.sh true (.int m),.sh true (.bl af),.sh true (.int 1),.dead,.dead] _=_
     simp only[f10,aV,aL,bY,cR,aU,aB,aI,bV,cI,bH,gS,gZ,bC,mB,cP,aA,mC,mN,bB,x0,cE,dX 9 (by decide),aT,dS,bI,dP,bQ,lS,lZ,jN,dD,kB,bX,mD,eY,dE,hz',bF,if_false,hd,hd1,if_true,add_int,sub_int,s3,h6',dC,cY,wR,fJ,Cn.d]
   . have h6':(mix c k % 9==6)=false:=beq_eq_false_iff_ne.mpr h6
     have p2:=aAH (a:= "both") (b:= "either") (v:=⟨.lst [.str "both",.str "either"],true,false,[]⟩) rfl (i:=mix c k % 9-7) (by omega)
     have hw:(if mix c k % 9-7=0 then ("both" : Str) else "either")=iK (decide (mix c k % 9-7=0)):=by
      unfold iK;by_cases h:mix c k % 9-7=0 <;> simp[h]
     rw[hw] at p2
     refine⟨.two (decide (mix c k % 9-7=0)) s t,⟨s1,t1⟩,by show 1+s.sz+t.sz<=15;omega,?_⟩
     refine aG (F:=f10) rfl rfl (v:=.cl (Cn.d (.two (decide (mix c k % 9-7=0)) s t))) ?_
     show exs pg (call pg (n+4)) [.sh true (.int c),.sh true (.int k),.sh true (.int m),.sh true (.bl af),.sh true (.int 1),.dead,.dead] _=_
     simp only[f10,aV,aL,bY,cR,aU,aB,aI,bV,cI,bH,gS,gZ,bC,mB,cP,aA,mC,mN,bB,x0,cE,dX 9 (by decide),aT,dS,bI,dP,bQ,lS,lZ,jN,dD,kB,bX,mD,eY,dE,hz',bF,if_false,hd,hd1,if_true,add_int,sub_int,s3,t3,h6',dC,cY,cX,gP,aFY,p2,aFZ,fJ,Cn.d]
theorem wU(n:Nat)(c:Int){m:Nat}(hm:1<=m):∃q:Cn,q.wf m false/\q.sz<=15/\call pg (n+6) 13 [.int c,.int m]=.ok (q.d,false,false):=by
 have x3:=cL (n+4) c (k:=3) (by decide) (by decide)
 have x4:=cL (n+4) c (k:=4) (by decide) (by decide)
 obtain⟨q,q1,q2,q3⟩:=mI n c (k:=5) (by decide) (by decide) hm true
 obtain⟨b,hk,hlt⟩:∃b:Nat,mix c 4 % (m:Int)=(b:Int)/\b<m:=⟨(mix c 4 % (m:Int)).toNat,by rw[Int.toNat_of_nonneg (Int.emod_nonneg _ (by omega))],by have:=Int.emod_lt_of_pos (mix c 4) (show(0:Int)<m by omega);omega⟩
 have hr:0<=mix c 3 % 5/\mix c 3 % 5<5:=by omega
 generalize ew:mix c 3 % 5=w at hr
 have e:∀(q:Cn),q.wf m false->q.sz<=15->exs pg (call pg (n+5)) [.sh true (.int c),.sh true (.int m),.sh false (.int w),.sh false (.int b)] (drp 2 f13.body)=.ret (.cl q.d)->∃q:Cn,q.wf m false/\q.sz<=15/\call pg (n+6) 13 [.int c,.int m]=.ok (q.d,false,false):=λq a1 a2 h=>⟨q,a1,a2,by
  refine aG (F:=f13) rfl rfl (v:=.cl q.d) ?_
  show exs pg (call pg (n+5)) [.sh true (.int c),.sh true (.int m),.dead,.dead] _=_
  refine(stp (σ':=[.sh true (.int c),.sh true (.int m),.sh false (.int w),.dead]) ?_).trans ((stp (σ':=[.sh true (.int c),.sh true (.int m),.sh false (.int w),.sh false (.int b)]) ?_).trans h)
  . simp only[bY,cR,aU,aB,aI,bV,cI,bH,gS,gZ,bC,aA,mC,mN,bB,x3,cE,dX 5 (by decide),ew,aT,dS,bI,dP,bQ,lS,lZ]
  . simp only[bY,cR,aU,aB,aI,bV,cI,bH,gS,gZ,bC,aA,mC,mN,bB,x4,cE,dX (m:Int) (show(0:Int)<m by omega),hk,aT,dS,bI,dP,bQ,lS,lZ]⟩
 have h:w=0\/w=1\/w=2\/3<=w:=by omega
 rcases h with rfl|rfl|rfl|h
 . refine e (.cmp true (.aft b) (.box b)) ⟨⟨hlt,rfl⟩,hlt⟩ (by show 1+1+1<=15;decide) ?_
   rfl
 . refine e (.nt (.cmp false (.aft b) (.box b))) ⟨⟨hlt,rfl⟩,hlt⟩ (by show 1+(1+1+1)<=15;decide) ?_
   rfl
 . refine e .yes trivial (by decide) ?_
   rfl
 . refine e q q1 q2 ?_
   have e0:(w==0)=false:=beq_eq_false_iff_ne.mpr (by omega)
   have e1:(w==1)=false:=beq_eq_false_iff_ne.mpr (by omega)
   have e2:(w==2)=false:=beq_eq_false_iff_ne.mpr (by omega)
   simp only[drp,f13,aV,aL,dD,bX,bV,cI,bH,gS,gZ,bC,aA,bB,eY,dE,e0,e1,e2,aT,bF,if_false,jN,dC,mB,aU,aB,aI,mC,mN,q3,cE,fJ]
structure Way where
 g:Cn
 ps:List (Nat×Sm)
 nx:Nat
def cU(p:Nat×Sm):D:=.tup [.int p.1,p.2.d]
def Way.d(w:Way):D:=.tup [w.g.d,.tup (w.ps.map cU),.int w.nx]
structure mY (m:Nat) (p:Nat×Sm):Prop where
 box:p.1<m
 wf:p.2.wf m true
 sz:p.2.sz<=3
structure jR (m pl:Nat) (w:Way):Prop where
 g:w.g.wf m true
 gs:w.g.sz<=15
 ps:∀p∈w.ps,mY m p
 len:w.ps.length<=m
 nx:w.nx<pl
theorem uD(p:Nat×Sm):noL (cU p)=true:=kZ rfl p.2.noL
theorem jD(ps:List (Nat×Sm)):noLs (ps.map cU)=true:=gF uD ps
theorem jE(w:Way):noL w.d=true:=by simp[Way.d,noL,noLs,w.g.noL,jD]
theorem aBL(ws:List Way):noLs (ws.map Way.d)=true:=gF jE ws
theorem uE(i:Nat){ds:List D}(h:noLs ds=true):biD .tuple [⟨.lst ds,false,false,[i]⟩]=.ok (.cl (.tup ds)):=by
 show R.ok (Vl.mk (.tup ds) false (false&&!noLs ds) (if noLs ds=true then [] else [i]))=_
 rw[h];rfl
theorem aLR{a b c:Sm}{i:Nat}{w:Int}(h0:0<=w)(h:w<3):bM ⟨.lst [a.d,b.d,c.d],false,false,[i]⟩ (.cl (.int w))=.ok (.cl (if w=0 then a else if w=1 then b else c).d):=by
 have:w=0\/w=1\/w=2:=by omega
 have ha:=a.noL
 have hb:=b.noL
 have hc:=c.noL
 rcases this with rfl|rfl|rfl
 . show R.ok (Vl.sub _ a.d)=_;rw[bT ha];rfl
 . show R.ok (Vl.sub _ b.d)=_;rw[bT hb];rfl
 . show R.ok (Vl.sub _ c.d)=_;rw[bT hc];rfl
abbrev zG:Ss:=match hdS (drp 1 f11.body) with|.for _ _ b=>b|_=>.nil
theorem aDT(n:Nat)(c:Int){m pl:Nat}(hm:1<=m)(hm5:m<=5){k:Nat}(hk:k<m){ps:List (Nat×Sm)}(hp:∀p∈ps,mY m p)(hl:ps.length<=k)(s5 s6 s7:Sl) :
 ∃(ps':List (Nat×Sm)) (s5' s6':Sl),(∀p∈ps',mY m p)/\ps'.length<=k+1/\exs pg (call pg (n+5)) [.sh true (.int c),.sh true (.int m),.sh true (.int pl),.own false (ps.map cU),.sh false (.int k),s5,s6,s7] zG =
  .next [.sh true (.int c),.sh true (.int m),.sh true (.int pl),.own false (ps'.map cU),.sh false (.int k),s5',s6',s7]:=by
 have x0:=cL (n+4) c (k:=40+(k:Int)) (by omega) (by omega)
 obtain⟨s,s1,s2,s3⟩:=pK (n+2) c (k:=50+9*(k:Int)) (by omega) (by omega) hm false
 have m9:opD .Mult (.cl (.int 9)) (.cl (.int k))=.ok (.cl (.int (9*k))):=mul_int (by
  simp only[eQ,Bool.or_eq_true,bA,decide_eq_true_eq];right;omega)
 have hr:0<=mix c (40+(k:Int)) % 6:=Int.emod_nonneg _ (by decide)
 generalize ew:mix c (40+(k:Int)) % 6=w at hr
 let a:Sm:=.two true (.box k) (.num 1)
 let b:Sm:=.two false (.box k) (.num 1)
 have e1:ex pg (call pg (n+5)) [.sh true (.int c),.sh true (.int m),.sh true (.int pl),.own false (ps.map cU),.sh false (.int k),s5,s6,s7] (hdS zG)=.next [.sh true (.int c),.sh true (.int m),.sh true (.int pl),.own false (ps.map cU),.sh false (.int k),.sh false (.int w),s6,s7]:=by
  simp only[zG,hdS,drp,f11,bY,cR,aU,aB,aI,bV,cI,bH,gS,gZ,bC,aA,mC,mN,bB,add_int,x0,cE,dX 6 (by decide),ew,aT,dS,bI,dP,bQ,lS,lZ]
 have e2:ex pg (call pg (n+5)) [.sh true (.int c),.sh true (.int m),.sh true (.int pl),.own false (ps.map cU),.sh false (.int k),.sh false (.int w),s6,s7] (hdS (drp 1 zG))=.next [.sh true (.int c),.sh true (.int m),.sh true (.int pl),.own false (ps.map cU),.sh false (.int k),.sh false (.int w),.own false [a.d,b.d],s7]:=rfl
 have e3:ex pg (call pg (n+5)) [.sh true (.int c),.sh true (.int m),.sh true (.int pl),.own false (ps.map cU),.sh false (.int k),.sh false (.int w),.own false [a.d,b.d],s7] (hdS (drp 2 zG))=.next [.sh true (.int c),.sh true (.int m),.sh true (.int pl),.own false (ps.map cU),.sh false (.int k),.sh false (.int w),.own false [a.d,b.d,s.d],s7]:=by
  simp only[zG,hdS,drp,f11,kC,cR,aU,aB,aI,bV,cI,bH,gS,gZ,bC,aA,mC,mN,bB,m9,add_int,s3,cE,aT]
  rfl
 have p3:=aLR (a:=a) (b:=b) (c:=s) (i:=6) (w:=w) hr
 by_cases h3:w<3
 . have hd:decide (w<3)=true:=decide_eq_true h3
   have p3:=p3 h3
   have q:mY m (k,if w=0 then a else if w=1 then b else s):=by
    by_cases h:w=0
    . rw[if_pos h];exact⟨hk,⟨hk,show(0:Int)<=1/\(1:Int)<=99 by decide⟩,Nat.le_refl 3⟩
    . rw[if_neg h]
      by_cases h:w=1
      . rw[if_pos h];exact⟨hk,⟨hk,show(0:Int)<=1/\(1:Int)<=99 by decide⟩,Nat.le_refl 3⟩
      . rw[if_neg h];exact⟨hk,s1,s2⟩
   generalize (if w=0 then a else if w=1 then b else s)=z at p3 q
   have hll:ps.length+1<=lim:=by unfold lim;omega
   refine⟨ps++[(k,z)],.sh false (.int w),.own false [a.d,b.d,s.d],λp h=>?_,by simp;omega,((stp e1).trans ((stp e2).trans ((stp e3).trans ?_)))⟩
   . rcases List.mem_append.mp h with h|h
     . exact hp p h
     . rw[List.mem_singleton.mp h];exact q
   . simp only[aV,aL,dD,bX,bV,cI,bH,gS,gZ,bC,eP,aA,bB,kE,hd,aT,if_true,kC,cY,aB,aI,cX,p3,wR,put,dS,bI,gB,lA,lM,lC,lN,hll,rL,Bool.or_false,lS,lZ,jN,List.map_append,mC,mN]
     rfl
 . have hd:decide (w<3)=false:=decide_eq_false h3
   refine⟨ps,.sh false (.int w),.own false [a.d,b.d,s.d],hp,by omega,((stp e1).trans ((stp e2).trans ((stp e3).trans ?_)))⟩
   simp only[aV,aL,dD,bX,bV,cI,bH,gS,gZ,bC,eP,aA,bB,kE,hd,aT,bF,if_false,jN]
theorem aAJ(n:Nat)(c:Int){m pl:Nat}(hm:1<=m)(hm5:m<=5)(hpl:1<=pl):∃w:Way,jR m pl w/\call pg (n+6) 11 [.int c,.int m,.int pl]=.ok (w.d,false,false):=by
 have hw:walk pg (call pg (n+5)) [.sh true (.int c),.sh true (.int m),.sh true (.int pl),.own false [],.dead,.dead,.dead,.dead] (.rng (.c (.int 0)) (.v 1))=.ok ((List.range m).map λ(k:Nat)=>Vl.cl (.int (k:Int)),[]):=bS (v:=.cl (.int m)) rfl rfl (by omega)
 obtain⟨σ',e,hI⟩:=dR (t:=.n 4) (b:=zG) (λi σ=>∃(ps:List (Nat×Sm)) (s4 s5 s6:Sl),(∀p∈ps,mY m p)/\ps.length<=i/\σ=[.sh true (.int c),.sh true (.int m),.sh true (.int pl),.own false (ps.map cU),s4,s5,s6,.dead]) hw ⟨[],_,_,_,λ_ h=>(nomatch h),Nat.le_refl _,rfl⟩ (λi hi σ hσ=>by
  obtain⟨ps,s4,s5,s6,h1,h2,rfl⟩:=hσ
  have hi':i<m:=by simpa using hi
  obtain⟨ps',s5',s6',g1,g2,g3⟩:=aDT n c (pl:=pl) hm hm5 hi' h1 h2 s5 s6 .dead
  refine⟨_,_,?_,g3,ps',_,_,_,g1,g2,rfl⟩
  simp)
 obtain⟨ps,s4,s5,s6,h1,h2,rfl⟩:=hI
 have h2:ps.length<=m:=by simpa using h2
 have x1:=cL (n+4) c (k:=30) (by decide) (by decide)
 have x2:=cL (n+4) c (k:=31) (by decide) (by decide)
 obtain⟨q,q1,q2,q3⟩:=mI n c (k:=10) (by decide) (by decide) hm false
 obtain⟨nx,hk,hlt⟩:∃b:Nat,mix c 31 % (pl:Int)=(b:Int)/\b<pl:=⟨(mix c 31 % (pl:Int)).toNat,by rw[Int.toNat_of_nonneg (Int.emod_nonneg _ (by omega))],by have:=Int.emod_lt_of_pos (mix c 31) (show(0:Int)<pl by omega);omega⟩
 have fin:∀g:Cn,exs pg (call pg (n+5)) [.sh true (.int c),.sh true (.int m),.sh true (.int pl),.own false (ps.map cU),s4,s5,s6,.sh false g.d] (drp 4 f11.body)=.ret (.cl (Way.d ⟨g,ps,nx⟩)):=λg=>by
  simp only[drp,f11,aV,dC,cY,aB,aI,bV,bH,gS,gZ,cP,eP,bC,aA,gX,uE 3 (jD ps),cR,aU,cI,mC,mN,bB,x2,cE,dX (pl:Int) (show(0:Int)<pl by omega),hk,aFZ,aT,fJ,Way.d]
 have st:∀{v:Vl},exs pg (call pg (n+5)) [.sh true (.int c),.sh true (.int m),.sh true (.int pl),.own false (ps.map cU),s4,s5,s6,.sh false (Cn.d .yes)] (drp 3 f11.body)=.ret v->call pg (n+6) 11 [.int c,.int m,.int pl]=.ok (v.d,v.fr,v.pa):=λ{v} h=>by
  refine aG (F:=f11) rfl rfl ?_
  show exs pg (call pg (n+5)) [.sh true (.int c),.sh true (.int m),.sh true (.int pl),.dead,.dead,.dead,.dead,.dead] _=_
  refine(stp (σ':=[.sh true (.int c),.sh true (.int m),.sh true (.int pl),.own false [],.dead,.dead,.dead,.dead]) rfl).trans ((stp e).trans ((stp ?_).trans h))
  rfl
 have tt:∀{r:Bool},(mix c 30 % 2==1)=r->tst pg (call pg (n+5)) [.sh true (.int c),.sh true (.int m),.sh true (.int pl),.own false (ps.map cU),s4,s5,s6,.sh false (Cn.d .yes)] (.cmp .Eq (.op .Mod (.call 7 (.cons (.v 0) (.cons (.c (.int 30)) .nil))) (.c (.int 2))) (.c (.int 1)))=.ok r:=λ{r} hr=>by
  simp only[bX,cR,aU,aB,aI,bV,cI,bH,gS,gZ,bC,aA,mC,mN,bB,x1,cE,dX 2 (by decide),eY,dE,hr]
 cases hb:mix c 30 % 2==1 with
 | true=>
  refine⟨⟨q,ps,nx⟩,⟨q1,q2,h1,h2,hlt⟩,st (v:=.cl (Way.d ⟨q,ps,nx⟩)) ((stp ?_).trans (fin q))⟩
  simp only[dD,tt hb,aT,if_true,aV,aL,bY,aU,aB,aI,bV,cI,bH,gS,gZ,bC,aA,mC,mN,bB,q3,cE,dS,bI,dP,bQ,lS,lZ,jN]
 | false=>
  refine⟨⟨.yes,ps,nx⟩,⟨trivial,(show(1:Nat)<=15 by decide),h1,h2,hlt⟩,st (v:=.cl (Way.d ⟨.yes,ps,nx⟩)) ((stp ?_).trans (fin .yes))⟩
  simp only[dD,tt hb,aT,bF,if_false,aL]
def cN(ws:List Way):D:=.lst (ws.map Way.d)
def aH(rows:List (List Way)):D:=.lst (rows.map cN)
structure aDU (m pl:Nat) (r:List Way):Prop where
 one:1<=r.length
 few:r.length<=4
 all:∀w∈r,jR m pl w
structure fW (m:Nat) (rows:List (List Way)):Prop where
 few:rows.length<=3
 all:∀r∈rows,aDU m (rows.length+1) r
theorem zH{v:Vl}(is:List Int):items v (is.map D.int)=is.map λi=>Vl.cl (.int i):=by
 unfold items
 rw[List.map_map]
 exact List.map_congr_left λi _=>rfl
theorem zI{α:Type}(xs:List α)(k:Nat)(h:k<=xs.length):cut xs none (some (k:Int))=xs.take k:=by
 unfold cut sIx
 simp only[]
 rw[if_neg (by omega),List.drop_zero]
 simp[Nat.min_eq_left h]
theorem wV{α:Type}(xs:List α)(k:Nat)(h:k<=xs.length):cut xs (some (k:Int)) none=xs.drop k:=by
 unfold cut sIx
 simp only[]
 rw[if_neg (by omega),List.take_of_length_le (by rw[List.length_drop];simp[Nat.min_eq_left h])]
 simp[Nat.min_eq_left h]
abbrev pL:Ss:=match hdS (drp 2 f12.body) with|.for _ _ b=>b|_=>.nil
theorem aNz(i:Int):opD .FloorDiv (.cl (.int i)) (.cl (.int 3))=.ok (.cl (.int (i / 3))):=aAz rfl
theorem aBM(n:Nat)(ns:List Int){a m R:Nat}(ha:a<=100)(hm:1<=m)(hm5:m<=5){k:Nat}(hk:k<4)(rows:List (List Way))(hr:rows.length<=k)(s6 s7:Sl) :
 ∃r s6' s7',aDU m (R+1) r/\exs pg (call pg (n+7)) [.sh true (.lst (ns.map D.int)),.sh true (.int a),.sh true (.int m),.sh false (.int R),.own false (rows.map cN),.sh false (.int k),s6,s7] pL =
  .next [.sh true (.lst (ns.map D.int)),.sh true (.int a),.sh true (.int m),.sh false (.int R),.own false ((rows++[r]).map cN),.sh false (.int k),s6',s7']:=by
 have c1:call pg (n+7) 5 [.lst (ns.map D.int),.int ((a:Int)+1+2*(k:Int))]=_:=dI (n+6) ns (k:=a+1+2*k) (by omega)
 have c2:call pg (n+7) 5 [.lst (ns.map D.int),.int ((a:Int)+2+2*(k:Int))]=_:=dI (n+6) ns (k:=a+2+2*k) (by omega)
 generalize cellAt ns (a+1+2*k)=x at c1
 generalize cellAt ns (a+2+2*k)=y at c2
 have m2:opD .Mult (.cl (.int 2)) (.cl (.int k))=.ok (.cl (.int (2*k))):=mul_int (by
  simp only[eQ,Bool.or_eq_true,bA,decide_eq_true_eq];right;omega)
 obtain⟨W,hW⟩:∃W:Int->Way,∀c,jR m (R+1) (W c)/\call pg (n+6+1) 11 [.int c,.int m,.int ((R+1:Nat):Int)]=.ok ((W c).d,false,false):=⟨λc=>Classical.choose (aAJ (n+1) c hm hm5 (Nat.le_add_left 1 R)),λc=>Classical.choose_spec (aAJ (n+1) c hm hm5 (Nat.le_add_left 1 R))⟩
 have e1:ex pg (call pg (n+7)) [.sh true (.lst (ns.map D.int)),.sh true (.int a),.sh true (.int m),.sh false (.int R),.own false (rows.map cN),.sh false (.int k),s6,s7] (hdS pL)=.next [.sh true (.lst (ns.map D.int)),.sh true (.int a),.sh true (.int m),.sh false (.int R),.own false (rows.map cN),.sh false (.int k),.own false [.int x,.int y],s7]:=by
  simp only[pL,hdS,drp,f12,bY,gP,aB,aI,aU,cR,bV,cI,bH,gS,gZ,bC,gQ,aA,mC,mN,bB,m2,add_int,c1,c2,cE,aT]
  rfl
 let L:List Int:=[x,y,x / 3+y,y / 3+x]
 have i0:bM ⟨.lst [.int x,.int y],false,false,[6]⟩ (.cl (.int 0))=.ok (.cl (.int x)):=rfl
 have i1:bM ⟨.lst [.int x,.int y],false,false,[6]⟩ (.cl (.int 1))=.ok (.cl (.int y)):=rfl
 have e2:ex pg (call pg (n+7)) [.sh true (.lst (ns.map D.int)),.sh true (.int a),.sh true (.int m),.sh false (.int R),.own false (rows.map cN),.sh false (.int k),.own false [.int x,.int y],s7] (hdS (drp 1 pL))=.next [.sh true (.lst (ns.map D.int)),.sh true (.int a),.sh true (.int m),.sh false (.int R),.own false (rows.map cN),.sh false (.int k),.own false (L.map D.int),s7]:=by
  simp only[pL,hdS,drp,f12,bY,cR,gP,aB,aI,cX,bV,cI,bH,gS,gZ,eP,aA,i0,i1,aNz,add_int]
  rfl
 have hw:walk pg (call pg (n+7)) [.sh true (.lst (ns.map D.int)),.sh true (.int a),.sh true (.int m),.sh false (.int R),.own false (rows.map cN),.sh false (.int k),.own false (L.map D.int),s7] (.seq (.v 6))=.ok (L.map (λi=>Vl.cl (.int i)),[6]):=by
  simp only[cO,bV,bH,gS,gZ,eP,aA,zH]
 have hc:=iI (P:=pg) (k:=1) (caps:=[2,3]) (T:=.n 0) (elt:=.call 11 (.cons (.v 0) (.cons (.v 1) (.cons (.op .Add (.v 2) (.c (.int 1))) .nil)))) (λi=>Vl.cl (.int i)) (λi=>(W i).d) (λi=>jE _) hw (by show 4<=lim;decide) λt ht=>by
  refine⟨[.sh false (.int t),.sh true (.int m),.sh false (.int R)],rfl,?_⟩
  have h:=(hW t).2
  simp only[aU,aB,aI,cR,bV,cI,bH,gS,gZ,bC,aA,mC,mN,bB,add_int]
  have h:call pg (n+7) 11 [.int t,.int m,.int ((R:Int)+1)]=_:=h
  rw[h,aA,cE]
 let ws:List Way:=L.map W
 have hws:L.map (λi=>(W i).d)=ws.map Way.d:=by simp[ws]
 rw[hws] at hc
 have e3:ex pg (call pg (n+7)) [.sh true (.lst (ns.map D.int)),.sh true (.int a),.sh true (.int m),.sh false (.int R),.own false (rows.map cN),.sh false (.int k),.own false (L.map D.int),s7] (hdS (drp 2 pL))=.next [.sh true (.lst (ns.map D.int)),.sh true (.int a),.sh true (.int m),.sh false (.int R),.own false (rows.map cN),.sh false (.int k),.own false (L.map D.int),.own false (ws.map Way.d)]:=by
  show ex pg (call pg (n+7)) _ (.set (.n 7) _)=_
  rw[bY,hc,aT]
  rfl
 have x0:=cL (n+6) x (k:=32) (by decide) (by decide)
 obtain⟨j,hj,hlt⟩:∃b:Nat,1+mix x 32 % 4=(b:Int)/\1<=b/\b<=4:=⟨(1+mix x 32 % 4).toNat,by have:=uB x 32;omega,by omega,by omega⟩
 have j0:bM ⟨.lst (L.map D.int),false,false,[6]⟩ (.cl (.int 0))=.ok (.cl (.int x)):=rfl
 have sk:aM (j:Int)=true:=kW (by omega)
 have sl:eS ⟨.lst (ws.map Way.d),false,false,[7]⟩ none (some (j:Int))=.ok ⟨cN (ws.take j),true,false,[]⟩:=by
  unfold eS cN
  simp only[aBL,if_true,Bool.false_and]
  rw[zI _ _ (show j<=(ws.map Way.d).length from hlt.2),List.map_take]
 have hll:rows.length+1<=lim:=by unfold lim;omega
 refine⟨ws.take j,.own false (L.map D.int),.own false (ws.map Way.d),⟨?_,?_,λw hw=>?_⟩,(stp e1).trans ((stp e2).trans ((stp e3).trans ?_))⟩
 . rw[List.length_take];show 1<=min j 4;omega
 . rw[List.length_take];show min j 4<=4;omega
 . obtain⟨i,_,rfl⟩:=List.mem_map.mp (List.mem_of_mem_take hw)
   exact(hW i).1
 . show exs pg (call pg (n+7)) _ (.cons (.app 4 _) .nil)=_
   simp only[aV,aL,kC,tS,cR,aU,aB,aI,cX,bV,cI,bH,gS,gZ,eP,aA,j0,mC,mN,bB,x0,cE,dX 4 (by decide),add_int,hj,sk,gE,sl,aT,put,bI,gB,lA,lM,lC,lN,hll,if_true,Bool.or_false,lS,lZ,jN,List.map_append]
theorem aDV(n:Nat)(ns:List Int){a m:Nat}(ha:a<=100)(hm:1<=m)(hm5:m<=5):∃rows,fW m rows/\call pg (n+8) 12 [.lst (ns.map D.int),.int a,.int m]=.ok (aH rows,true,false):=by
 have c0:=dI (n+6) ns (k:=a) (by omega)
 have x0:=cL (n+6) (cellAt ns a) (k:=1) (by decide) (by decide)
 obtain⟨R,hR,hlt⟩:∃b:Nat,mix (cellAt ns a) 1 % 4=(b:Int)/\b<=3:=⟨(mix (cellAt ns a) 1 % 4).toNat,by have:=uB (cellAt ns a) 1;omega,by omega⟩
 have hw:walk pg (call pg (n+7)) [.sh true (.lst (ns.map D.int)),.sh true (.int a),.sh true (.int m),.sh false (.int R),.own false [],.dead,.dead,.dead] (.rng (.c (.int 0)) (.v 3))=.ok ((List.range R).map λ(k:Nat)=>Vl.cl (.int (k:Int)),[]):=bS (v:=.cl (.int R)) rfl rfl (by omega)
 obtain⟨σ',e,hI⟩:=dR (t:=.n 5) (b:=pL) (λi σ=>∃(rows:List (List Way)) (s5 s6 s7:Sl),(∀r∈rows,aDU m (R+1) r)/\rows.length=i/\σ=[.sh true (.lst (ns.map D.int)),.sh true (.int a),.sh true (.int m),.sh false (.int R),.own false (rows.map cN),s5,s6,s7]) hw ⟨[],_,_,_,λ_ h=>(nomatch h),rfl,rfl⟩ (λi hi σ hσ=>by
  obtain⟨rows,s5,s6,s7,h1,h2,rfl⟩:=hσ
  have hi':i<R:=by simpa using hi
  obtain⟨r,s6',s7',g1,g2⟩:=aBM n ns (R:=R) ha hm hm5 (k:=i) (by omega) rows (by omega) s6 s7
  refine⟨_,_,?_,g2,rows++[r],_,_,_,λp h=>?_,by simp[h2],rfl⟩
  . simp
  . rcases List.mem_append.mp h with h|h
    . exact h1 p h
    . rw[List.mem_singleton.mp h];exact g1)
 obtain⟨rows,s5,s6,s7,h1,h2,rfl⟩:=hI
 have h2:rows.length=R:=by simpa using h2
 refine⟨rows,⟨by omega,by rw[h2];exact h1⟩,aG (F:=f12) rfl rfl (v:=⟨aH rows,true,false,[]⟩) ?_⟩
 show exs pg (call pg (n+7)) [.sh true (.lst (ns.map D.int)),.sh true (.int a),.sh true (.int m),.dead,.dead,.dead,.dead,.dead] _=_
 refine(stp (σ':=[.sh true (.lst (ns.map D.int)),.sh true (.int a),.sh true (.int m),.sh false (.int R),.dead,.dead,.dead,.dead]) ?_).trans ((stp (σ':=[.sh true (.lst (ns.map D.int)),.sh true (.int a),.sh true (.int m),.sh false (.int R),.own false [],.dead,.dead,.dead]) rfl).trans ((stp e).trans rfl))
 simp only[bY,cR,aU,aB,aI,bV,cI,bH,gS,gZ,bC,gQ,aA,mC,mN,bB,c0,x0,cE,dX 4 (by decide),hR,aT,dS,bI,dP,bQ,lS,lZ]
def chD(xs:List Nat):List D:=xs.map λx=>.str ⟨#[x]⟩
theorem wW:∀xs:List Nat,gJ (chD xs)=some (xs.map λx=>(⟨#[x]⟩:Str))
 | []=>rfl
 | x::xs=>by
  have:=wW xs
  unfold chD at this ⊢
  simp[gJ,this]
theorem aAK(a b:Str):(a++b).cps=a.cps++b.cps:=rfl
theorem aAL:∀xs:List Nat,PySem.Str.join "" (xs.map λx=>(⟨#[x]⟩:Str))=⟨xs.toArray⟩
 | []=>rfl
 | [x]=>rfl
 | x::y::xs=>by
  have ih:=aAL (y::xs)
  show(⟨#[x]⟩:Str)++(("" : String):Str)++PySem.Str.join "" ((y::xs).map λx=>(⟨#[x]⟩:Str))=_
  rw[ih]
  have:∀a b:Str,a.cps=b.cps->a=b:=λa b h=>by cases a;cases b;simp_all
  apply this
  rw[aAK,aAK]
  show #[x]++#[]++(y::xs).toArray=(x::y::xs).toArray
  simp
theorem aGa{xs:List Nat}{fr pa:Bool}{al:List Nat}(h:xs.length<=1000):mtD .join (.cl (.str "")) [⟨.lst (chD xs),fr,pa,al⟩]=.ok (.cl (.str ⟨xs.toArray⟩)):=by
 unfold mtD
 simp only[bB,wW,lM,List.map_map]
 have hs:((xs.map ((λx:Str=>x.length)∘λx=>(⟨#[x]⟩:Str))).sum+xs.length*(("" : String):Str).length)<=lim:=by
  have e1:(xs.map ((λx:Str=>x.length)∘λx=>(⟨#[x]⟩:Str))).sum=xs.length:=by
   clear h
   induction xs with
   | nil=>rfl
   | cons x xs ih=>simp only[mC,List.sum_cons,ih,Function.comp,lC];show 1+_=_;omega
  have e2:(("" : String):Str).length=0:=rfl
  rw[e1,e2]
  unfold lim
  omega
 rw[decide_eq_true hs,gE,aAL]
theorem pM{i:Int}(h0:0<=i)(h1:i<26):bM (.cl (.str "abcdefghijklmnopqrstuvwxyz")) (.cl (.int i))=.ok (.cl (.str ⟨#[97+i.toNat]⟩)):=by
 have all:∀k∈List.range 26,("abcdefghijklmnopqrstuvwxyz" : Str).cps.toList[k]? = some (97+k):=by decide +kernel
 have hl:("abcdefghijklmnopqrstuvwxyz" : Str).length=26:=by decide +kernel
 have e:i=((i.toNat:Nat):Int):=by omega
 have hk:i.toNat<26:=by omega
 have h2:=all i.toNat (by rw[List.mem_range];exact hk)
 show R.iff (decide (("abcdefghijklmnopqrstuvwxyz" : Str).length<=lim)) (match ixN ("abcdefghijklmnopqrstuvwxyz" : Str).length i with|some j=>(match ("abcdefghijklmnopqrstuvwxyz" : Str).cps.toList[j]? with|some c=>R.ok (Vl.cl (.str ⟨#[c]⟩))|none=>.bad)|none=>.bad)=_
 have hx:ixN 26 i=some i.toNat:=by
  conv=>lhs;rw[e]
  exact dF hk
 rw[hl,hx]
 simp only[h2]
 have:decide (26<=lim)=true:=decide_eq_true (by unfold lim;omega)
 rw[this,gE]
def tab:List (List Int):=[[1],[2],[1,1],[3],[2,1],[5],[1,2],[1,1,1],[2,2],[3,1],[7],[2,1,1],[3,2],[1,1,2],[5,1],[2,3],[1,1,1,1],[2,2,1],[7,2],[5,3],[1,1,1,2]]
theorem aIR:∀t∈tab,(1<=t.length/\t.length<=4)/\(∀x∈t,1<=x/\x<=7)/\(t.map (·+1)).foldl (·*·) 1<=24:=by decide +kernel
structure aGJ (bs:List (Str×Int)):Prop where
 tops:zA bs
 one:1<=bs.length
 few:bs.length<=4
 nm:∀b∈bs,tE b.1=true/\b.1.length<=8
@[simp] theorem jF {P:Pg} {cl:Caller} {σ:Sg} (a:E):walk P cl σ (.enum a)=(ev P cl σ a >>= λx=>match jV x.d with|some as=>.ok (items x (eA 0 as),x.al)|none=>.bad):=id rfl
theorem kF:∀(is:List Int) (j:Int),eA j (is.map D.int)=(List.range is.length).map λ(k:Nat)=>.tup [.int (j+(k:Int)),.int (is.getD k 0)]
 | [],_=>rfl
 | i::is,j=>by
  rw[mC,eA,kF is (j+1),lC,List.range_succ_eq_map,mC,List.map_map]
  refine congr (congrArg _ (by simp)) (List.map_congr_left λk _=>?_)
  have:j+1+(k:Int)=j+((k+1:Nat):Int):=by omega
  simp only[Function.comp,this,List.getD_cons_succ]
def rP(xs:List Nat)(a l:Nat):Str:=⟨(xs.take a++[l]++xs.drop a).toArray⟩
theorem aDW(xs:List Nat)(a l:Nat):(rP xs a l).length=xs.length+1:=by
 show(xs.take a++[l]++xs.drop a).toArray.size=_
 rw[List.size_toArray,lA,lA,List.length_take,List.length_drop]
 simp only[lC,lN]
 omega
theorem aDX{xs:List Nat}{a l:Nat}(h:∀x∈xs,97<=x/\x<=122)(hl:97<=l/\l<=122):tE (rP xs a l)=true:=by
 unfold tE rP
 rw[List.all_toArray,List.all_eq_true]
 intro x hx
 have:97<=x/\x<=122:=by
  rcases List.mem_append.mp hx with hx|hx
  . rcases List.mem_append.mp hx with hx|hx
    . exact h x (List.mem_of_mem_take hx)
    . rw[List.mem_singleton.mp hx];exact hl
  . exact h x (List.mem_of_mem_drop hx)
 simp[this]
theorem aDY{P:Pg}{cl:Caller}{xs:List Nat}(hx:xs.length<=7){a:Nat}(ha:a<=xs.length){k:Nat}(hk:k<=10)(c t:Int) :
 ev P cl [.sh false (.int k),.sh false (.int t),.sh true (.int c),.sh false (.str "abcdefghijklmnopqrstuvwxyz"),.sh false (.str ⟨xs.toArray⟩),.sh false (.int a)]
  (.tup (.cons (.op .Add (.op .Add (.sli (.v 4) .nil (.cons (.v 5) .nil)) (.idx (.v 3) (.op .Mod (.op .Add (.op .Mult (.c (.int 3)) (.v 0)) (.v 2)) (.c (.int 26))))) (.sli (.v 4) (.cons (.v 5) .nil) .nil)) (.cons (.v 1) .nil))) =
 .ok (.cl (box (rP xs a (97+((3*(k:Int)+c) % 26).toNat),t))):=by
 have m3:opD .Mult (.cl (.int 3)) (.cl (.int k))=.ok (.cl (.int (3*k))):=mul_int (by
  simp only[eQ,Bool.or_eq_true,bA,decide_eq_true_eq];right;omega)
 have il:=pM (i:=(3*(k:Int)+c) % 26) (Int.emod_nonneg _ (by decide)) (Int.emod_lt_of_pos _ (by decide))
 have sk:aM (a:Int)=true:=kW (by omega)
 have sz:((⟨xs.toArray⟩:Str).length)<=lim:=by show xs.toArray.size<=lim;rw[List.size_toArray];unfold lim;omega
 have sl1:eS (.cl (.str ⟨xs.toArray⟩)) none (some (a:Int))=.ok (.cl (.str ⟨(xs.take a).toArray⟩)):=by
  show R.iff (decide ((⟨xs.toArray⟩:Str).length<=lim)) (R.ok (Vl.cl (.str ⟨(cut xs.toArray.toList none (some (a:Int))).toArray⟩)))=_
  rw[decide_eq_true sz,gE,List.toList_toArray,zI xs a ha]
 have sl2:eS (.cl (.str ⟨xs.toArray⟩)) (some (a:Int)) none=.ok (.cl (.str ⟨(xs.drop a).toArray⟩)):=by
  show R.iff (decide ((⟨xs.toArray⟩:Str).length<=lim)) (R.ok (Vl.cl (.str ⟨(cut xs.toArray.toList (some (a:Int)) none).toArray⟩)))=_
  rw[decide_eq_true sz,gE,List.toList_toArray,wV xs a ha]
 have ad:∀(u v:List Nat),u.length+v.length<=100->opD .Add (.cl (.str ⟨u.toArray⟩)) (.cl (.str ⟨v.toArray⟩))=.ok (.cl (.str ⟨(u++v).toArray⟩)):=λu v h=>by
  have hz:(⟨u.toArray⟩:Str).length+(⟨v.toArray⟩:Str).length<=lim:=by show u.toArray.size+v.toArray.size<=lim;rw[List.size_toArray,List.size_toArray];unfold lim;omega
  have e:(⟨u.toArray⟩:Str)++(⟨v.toArray⟩:Str)=⟨(u++v).toArray⟩:=by
   show(⟨u.toArray++v.toArray⟩:Str)=_
   simp
  show R.iff (decide ((⟨u.toArray⟩:Str).length+(⟨v.toArray⟩:Str).length<=lim)) (R.ok (Vl.cl (.str ((⟨u.toArray⟩:Str)++(⟨v.toArray⟩:Str)))))=_
  rw[decide_eq_true hz,gE,e]
 have a1:=ad (xs.take a) [97+((3*(k:Int)+c) % 26).toNat] (by rw[List.length_take];simp only[lC,lN];omega)
 have a2:=ad (xs.take a++[97+((3*(k:Int)+c) % 26).toNat]) (xs.drop a) (by rw[lA,List.length_take,List.length_drop];simp only[lC,lN];omega)
 simp only[cY,aB,aI,cR,tS,aAB,cX,bV,cI,bH,gS,gZ,cP,bC,aA,bB,sk,gE,sl1,sl2,m3,add_int,dX 26 (by decide),il]
 have a1:opD .Add (.cl (.str ⟨(xs.take a).toArray⟩)) (.cl (.str ⟨#[97+((3*(k:Int)+c) % 26).toNat]⟩))=_:=a1
 simp only[a1,aA,a2,wR]
 rfl
theorem aGb{j:Nat}(h:j<tab.length):bM ⟨.lst (tab.map aE),false,false,[2]⟩ (.cl (.int (j:Int)))=.ok (.cl (aE (tab.getD j []))):=by
 unfold bM
 have hl:(tab.map aE).length=tab.length:=by rw[lM]
 have e:(tab.map aE)[j]? = some (aE (tab.getD j [])):=by simp[h]
 simp only[bB,hl,dF h,e,Vl.sub,aK,if_true]
theorem aDZ(n:Nat)(c:Int)(s1 s2 s3 s6:Sl):∃xs:List Nat,xs.length<=7/\(∀x∈xs,97<=x/\x<=122) /\
 ev pg (call pg (n+1)) [.sh true (.int c),s1,s2,s3,.sh false (.str "abcdefghijklmnopqrstuvwxyz"),.dead,s6]
  (.mth .join (.c (.str "")) (.cons (.comp 1 [0,4] (.n 0) (.rng (.c (.int 1)) (.op .Add (.c (.int 1)) (.op .Mod (.call 7 (.cons (.v 0) (.cons (.c (.int 20)) .nil))) (.c (.int 8))))) .nil (.idx (.v 2) (.op .Mod (.call 7 (.cons (.v 1) (.cons (.v 0) .nil))) (.c (.int 26))))) .nil))=.ok (.cl (.str ⟨xs.toArray⟩)):=by
 have x0:=cL n c (k:=20) (by decide) (by decide)
 obtain⟨j,hj,hlt⟩:∃b:Nat,mix c 20 % 8=(b:Int)/\b<=7:=⟨(mix c 20 % 8).toNat,by have:=uB c 20;omega,by omega⟩
 have sk:aM (1+(j:Int))=true:=aAy (by omega) (by omega)
 have hr:(fG 1 (1+(j:Int))).map Vl.cl=(List.range j).map λ(k:Nat)=>Vl.cl (.int (1+(k:Int))):=by
  unfold fG
  rw[List.map_map]
  have:(1+(j:Int)-1).toNat=j:=by omega
  rw[this]
  rfl
 have hw:walk pg (call pg (n+1)) [.sh true (.int c),s1,s2,s3,.sh false (.str "abcdefghijklmnopqrstuvwxyz"),.dead,s6] (.rng (.c (.int 1)) (.op .Add (.c (.int 1)) (.op .Mod (.call 7 (.cons (.v 0) (.cons (.c (.int 20)) .nil))) (.c (.int 8)))))=.ok ((List.range j).map (λ(k:Nat)=>Vl.cl (.int (1+(k:Int)))),[]):=by
  simp only[wK,cI,cR,aU,aB,aI,bV,bH,gZ,bC,aA,mC,mN,bB,x0,cE,dX 8 (by decide),hj,add_int,hr]
  show R.iff (aM 1&&aM (1+(j:Int))) _=_
  rw[sk]
  rfl
 have hc:=iI (P:=pg) (k:=1) (caps:=[0,4]) (T:=.n 0) (elt:=.idx (.v 2) (.op .Mod (.call 7 (.cons (.v 1) (.cons (.v 0) .nil))) (.c (.int 26)))) (λ(k:Nat)=>Vl.cl (.int (1+(k:Int)))) (λk=>.str ⟨#[97+(mix c (1+(k:Int)) % 26).toNat]⟩) (λ_=>rfl) hw (by rw[List.length_range];unfold lim;omega) λt ht=>by
  have ht:t<j:=by simpa using ht
  have x1:=cL n c (k:=1+(t:Int)) (by omega) (by omega)
  have il:=pM (i:=mix c (1+(t:Int)) % 26) (Int.emod_nonneg _ (by decide)) (Int.emod_lt_of_pos _ (by decide))
  refine⟨[.sh false (.int (1+(t:Int))),.sh true (.int c),.sh false (.str "abcdefghijklmnopqrstuvwxyz")],rfl,?_⟩
  simp only[cX,cR,aU,aB,aI,bV,cI,bH,gS,gZ,bC,cP,aA,mC,mN,bB,x1,cE,dX 26 (by decide),il]
 refine⟨(List.range j).map λ(k:Nat)=>97+(mix c (1+(k:Int)) % 26).toNat,by simp;omega,λx hx=>?_,?_⟩
 . obtain⟨k,_,rfl⟩:=List.mem_map.mp hx
   have h1:=Int.emod_lt_of_pos (mix c (1+(k:Int))) (show(0:Int)<26 by decide)
   omega
 . have e:(List.range j).map (λ(k:Nat)=>D.str ⟨#[97+(mix c (1+(k:Int)) % 26).toNat]⟩)=chD ((List.range j).map λ(k:Nat)=>97+(mix c (1+(k:Int)) % 26).toNat):=by simp[chD]
   rw[e] at hc
   rw[aIJ,cI,aA,aB,hc,aA,aI,aA,aA,aGa (by simp;omega)]
theorem aBN(n:Nat)(c:Int){most:Nat}(h1:1<=most)(h2:most<=21):∃bs,aGJ bs/\call pg (n+2) 8 [.int c,.int most]=.ok (.lst (aN bs),true,false):=by
 have x0:=cL n c (k:=0) (by decide) (by decide)
 have x21:=cL n c (k:=21) (by decide) (by decide)
 obtain⟨j,hj,hlt⟩:∃b:Nat,mix c 0 % (most:Int)=(b:Int)/\b<21:=⟨(mix c 0 % (most:Int)).toNat,by rw[Int.toNat_of_nonneg (Int.emod_nonneg _ (by omega))],by have:=Int.emod_lt_of_pos (mix c 0) (show(0:Int)<most by omega);omega⟩
 have it:=aGb (j:=j) (show j<21 from hlt)
 have hmem:tab.getD j []∈tab:=by
  rw[List.getD_eq_getElem?_getD,List.getElem?_eq_getElem (show j<tab.length from hlt)]
  exact List.getElem_mem _
 obtain⟨⟨t1,t2⟩,t3,t4⟩:=aIR _ hmem
 generalize tab.getD j []=tops at it t1 t2 t3 t4
 obtain⟨xs,y1,y2,y3⟩:=aDZ n c (.sh true (.int most)) (.own false (tab.map aE)) (.sh false (aE tops)) .dead
 have hl:(⟨xs.toArray⟩:Str).length=xs.length:=List.size_toArray ..
 have ln:biD .len [.cl (.str ⟨xs.toArray⟩)]=.ok (.cl (.int (xs.length:Int))):=by
  show R.iff (decide ((⟨xs.toArray⟩:Str).length<=lim)) (R.ok (Vl.cl (.int ((⟨xs.toArray⟩:Str).length:Int))))=_
  rw[hl,decide_eq_true (show xs.length<=lim by unfold lim;omega),gE]
 obtain⟨a,ha,hal⟩:∃b:Nat,mix c 21 % ((xs.length:Int)+1)=(b:Int)/\b<=xs.length:=⟨(mix c 21 % ((xs.length:Int)+1)).toNat,by rw[Int.toNat_of_nonneg (Int.emod_nonneg _ (by omega))],by have:=Int.emod_lt_of_pos (mix c 21) (show(0:Int)<(xs.length:Int)+1 by omega);omega⟩
 let σ:Sg:=[.sh true (.int c),.sh true (.int most),.own false (tab.map aE),.sh false (aE tops),.sh false (.str "abcdefghijklmnopqrstuvwxyz"),.sh false (.str ⟨xs.toArray⟩),.sh false (.int a)]
 have hw:walk pg (call pg (n+1)) σ (.enum (.v 3))=.ok ((List.range tops.length).map (λ(k:Nat)=>Vl.cl (.tup [.int (k:Int),.int (tops.getD k 0)])),[]):=by
  have e:=kF tops 0
  have e':(List.range tops.length).map (λ(k:Nat)=>D.tup [.int (0+(k:Int)),.int (tops.getD k 0)])=(List.range tops.length).map (λ(k:Nat)=>D.tup [.int (k:Int),.int (tops.getD k 0)]):=List.map_congr_left λk _=>by rw[Int.zero_add]
  rw[e'] at e
  have hi:∀v:Vl,items v ((List.range tops.length).map (λ(k:Nat)=>D.tup [.int (k:Int),.int (tops.getD k 0)]))=(List.range tops.length).map (λ(k:Nat)=>Vl.cl (.tup [.int (k:Int),.int (tops.getD k 0)])):=λv=>fD (g:=λ(k:Nat)=>D.tup [.int (k:Int),.int (tops.getD k 0)]) (λ_=>rfl) _
  rw[jF]
  show(R.ok (Vl.cl (aE tops)) >>= λx=>match jV x.d with|some as=>R.ok (items x (eA 0 as),x.al)|none=>.bad)=_
  rw[aA]
  show R.ok (items (Vl.cl (aE tops)) (eA 0 (tops.map D.int)),[])=_
  rw[e,hi]
 let bx:Nat->Str×Int:=λk=>(rP xs a (97+((3*(k:Int)+c) % 26).toNat),tops.getD k 0)
 have hc:=iI (P:=pg) (σ:=σ) (k:=2) (caps:=[0,4,5,6]) (T:=.t [0,1]) (elt:=.tup (.cons (.op .Add (.op .Add (.sli (.v 4) .nil (.cons (.v 5) .nil)) (.idx (.v 3) (.op .Mod (.op .Add (.op .Mult (.c (.int 3)) (.v 0)) (.v 2)) (.c (.int 26))))) (.sli (.v 4) (.cons (.v 5) .nil) .nil)) (.cons (.v 1) .nil))) (λ(k:Nat)=>Vl.cl (.tup [.int (k:Int),.int (tops.getD k 0)])) (λk=>box (bx k)) (λk=>tV _) hw (by rw[List.length_range];unfold lim;omega) λt ht=>by
  have ht:t<tops.length:=by simpa using ht
  exact⟨_,aFV rfl rfl,aDY (cl:=call pg (n+1)) y1 hal (k:=t) (by omega) c (tops.getD t 0)⟩
 have eb:(List.range tops.length).map (λk=>box (bx k))=aN ((List.range tops.length).map bx):=by simp[aN]
 rw[eb] at hc
 have sec:((List.range tops.length).map bx).map (·.2)=tops:=by
  rw[List.map_map]
  refine List.ext_getElem (by simp) λi h1 h2=>?_
  simp[bx,h2]
 have hin:∀b∈(List.range tops.length).map bx,b.2∈tops/\tE b.1=true/\b.1.length<=8:=λb hb=>by
  refine⟨?_,?_⟩
  . have:=List.mem_map_of_mem (f:=λp:Str×Int=>p.2) hb
    rwa [sec] at this
  . obtain⟨k,_,rfl⟩:=List.mem_map.mp hb
    have h1:=Int.emod_lt_of_pos (3*(k:Int)+c) (show(0:Int)<26 by decide)
    exact⟨aDX y2 (by omega),by show(rP _ _ _).length<=8;rw[aDW];omega⟩
 refine⟨(List.range tops.length).map bx,⟨⟨by simp;omega,λb hb=>t3 _ (hin b hb).1,?_⟩,by simpa using t1,by simpa using t2,λb hb=>(hin b hb).2⟩,?_⟩
 . have e:((List.range tops.length).map bx).map (λb=>b.2+1)=tops.map (·+1):=by
    conv=>rhs;rw[<-sec,List.map_map]
    rfl
   rw[e];exact t4
 . refine aG (F:=f8) rfl rfl (v:=⟨.lst (aN ((List.range tops.length).map bx)),true,false,[]⟩) ?_
   show exs pg (call pg (n+1)) [.sh true (.int c),.sh true (.int most),.dead,.dead,.dead,.dead,.dead] _=_
   refine(stp (σ':=[.sh true (.int c),.sh true (.int most),.own false ((tab.take 13).map aE),.dead,.dead,.dead,.dead]) rfl).trans ?_
   refine(stp (σ':=[.sh true (.int c),.sh true (.int most),.own false (tab.map aE),.dead,.dead,.dead,.dead]) rfl).trans ?_
   refine(stp (σ':=[.sh true (.int c),.sh true (.int most),.own false (tab.map aE),.sh false (aE tops),.dead,.dead,.dead]) ?_).trans ?_
   . simp only[bY,cX,cR,aU,aB,aI,bV,cI,bH,gS,gZ,bC,eP,aA,mC,mN,bB,x0,cE,dX (most:Int) (show(0:Int)<most by omega),hj,it,aT,dS,bI,dP,bQ,lS,lZ]
   refine(stp (σ':=[.sh true (.int c),.sh true (.int most),.own false (tab.map aE),.sh false (aE tops),.sh false (.str "abcdefghijklmnopqrstuvwxyz"),.dead,.dead]) rfl).trans ?_
   refine(stp (σ':=[.sh true (.int c),.sh true (.int most),.own false (tab.map aE),.sh false (aE tops),.sh false (.str "abcdefghijklmnopqrstuvwxyz"),.sh false (.str ⟨xs.toArray⟩),.dead]) ?_).trans ?_
   . rw[bY,y3];rfl
   refine(stp (σ':=σ) ?_).trans ?_
   . simp only[bY,cR,aU,gX,aB,aI,bV,cI,bH,gS,gZ,bC,cP,aA,mC,mN,bB,x21,cE,ln,add_int,dX ((xs.length:Int)+1) (show(0:Int)<(xs.length:Int)+1 by omega),ha,aT,dS,bI,dP,bQ,lS,lZ]
     rfl
   rw[aV,dC,hc,aT,fJ]
def eD(ns:List Cn):D:=.lst (ns.map Cn.d)
structure lE (m:Nat) (ns:List Cn):Prop where
 few:ns.length<=4
 all:∀q∈ns,q.wf m true/\q.sz<=7
theorem aGK{a b:Cn}{i:Int}(h:i=0\/i=1):bM ⟨.lst [a.d,b.d],true,false,[]⟩ (.cl (.int i))=.ok (.cl (if i=0 then a else b).d):=by
 have ha:=a.noL
 have hb:=b.noL
 rcases h with rfl|rfl
 . show R.ok (Vl.sub _ a.d)=_;rw[bT ha];rfl
 . show R.ok (Vl.sub _ b.d)=_;rw[bT hb];rfl
abbrev zJ:Ss:=match hdS (drp 8 f14.body) with|.for _ _ b=>b|_=>.nil
abbrev aGL:Ss:=match hdS (drp 5 zJ) with|.for _ _ b=>b|_=>.nil
abbrev hoS(L:D)(s1 s2 s3:Sl)(m:Nat)(s5:Sl)(hs:List (List (List Way)))(pr:List Cn)(nt:List (List Cn))(s9 s10 s11 s12 s13:Sl):Sg:=[.sh true L,s1,s2,s3,.sh false (.int (m:Int)),s5,.own false (hs.map aH),.own false (pr.map Cn.d),.own false (nt.map eD),s9,s10,s11,s12,s13]
theorem iM{α β:Type}(f:α->β)(l:List α)(a:α):(l++[a]).map f=l.map f++[f a]:=by rw[List.map_append];rfl
theorem aBO(n:Nat)(x:Int)(L:D)(s1 s2 s3 s5:Sl){m:Nat}(hm:1<=m)(hs:List (List (List Way)))(pr:List Cn)(nt:List (List Cn)){k:Nat}(hk:k<=10)(ns:List Cn)(hn:ns.length<=10)(s9 s10:Sl) :
 ∃q:Cn,q.wf m true/\q.sz<=7/\exs pg (call pg (n+4)) (hoS L s1 s2 s3 m s5 hs pr nt s9 s10 (.sh false (.int x)) (.own false (ns.map Cn.d)) (.sh false (.int (k:Int)))) aGL =
  .next (hoS L s1 s2 s3 m s5 hs pr nt s9 s10 (.sh false (.int x)) (.own false ((ns++[q]).map Cn.d)) (.sh false (.int (k:Int)))):=by
 obtain⟨q,q1,q2,q3⟩:=jC n x (k:=7*(k:Int)) (by omega) (by omega) hm false (dp:=0) (.inl (Int.le_refl 0))
 have m7:opD .Mult (.cl (.int 7)) (.cl (.int (k:Int)))=.ok (.cl (.int (7*(k:Int)))):=mul_int (by
  simp only[eQ,Bool.or_eq_true,bA,decide_eq_true_eq];right;omega)
 let σ:=hoS L s1 s2 s3 m s5 hs pr nt s9 s10 (.sh false (.int x)) (.own false (ns.map Cn.d)) (.sh false (.int (k:Int)))
 have ec:=aAE (P:=pg) (cl:=call pg (n+4)) (σ:=σ) (f:=10) (a:=.v 11) (x:=.cl (.int x)) rfl (dU (a:=.c (.int 7)) (b:=.v 13) rfl rfl m7) (c:=.v 4) (z:=.cl (.int (m:Int))) rfl (e:=.c (.bl false)) (w:=.cl (.bl false)) rfl (g:=.c (.int 0)) (u:=.cl (.int 0)) rfl q3
 have el:ev pg (call pg (n+4)) σ (.lst (.cons (.tup (.cons (.c (.str "yes")) .nil)) (.cons (.call 10 (.cons (.v 11) (.cons (.op .Mult (.c (.int 7)) (.v 13)) (.cons (.v 4) (.cons (.c (.bl false)) (.cons (.c (.int 0)) .nil)))))) .nil)))=.ok ⟨.lst [Cn.yes.d,q.d],true,false,[]⟩:=by
  rw[gP,aB,show ev pg (call pg (n+4)) σ (.tup (.cons (.c (.str "yes")) .nil))=.ok (.cl Cn.yes.d) from rfl,aA,aB,ec]
  rfl
 refine⟨if mix x (k:Int) % 2=0 then .yes else q,?_,?_,cs (pH (ds:=ns.map Cn.d) (aJ el (dU (bZ rfl rfl (cL (n+3) x (by omega) (by omega))) rfl (dX 2 (by decide) _)) (aGK (a:=.yes) (b:=q) (aAG _))) rfl (by rw[lM];unfold lim;omega) rfl (iM ..)) (aL ..)⟩ <;> split
 . trivial
 . exact q1
 . exact(by decide:1<=7)
 . exact q2
theorem zK(n:Nat)(ns:List Int){m:Nat}(hm:1<=m)(hm5:m<=5){k:Nat}(hk:k<3){hs:List (List (List Way))}{pr:List Cn}{nt:List (List Cn)}(l1:hs.length=k)(l2:pr.length=k)(l3:nt.length=k)(s1 s2 s3 s5 s10 s11 s12 s13:Sl) :
 ∃h p t s10' s11' s12' s13',fW m h/\(p.wf m false/\p.sz<=15)/\(lE m t/\t.length=h.length+1)/\exs pg (call pg (n+8)) (hoS (.lst (ns.map D.int)) s1 s2 s3 m s5 hs pr nt (.sh false (.int (k:Int))) s10 s11 s12 s13) zJ =
  .next (hoS (.lst (ns.map D.int)) s1 s2 s3 m s5 (hs++[h]) (pr++[p]) (nt++[t]) (.sh false (.int (k:Int))) s10' s11' s12' s13'):=by
 have m9:opD .Mult (.cl (.int 9)) (.cl (.int k))=.ok (.cl (.int (9*k))):=mul_int (by
  simp only[eQ,Bool.or_eq_true,bA,decide_eq_true_eq];right;omega)
 obtain⟨a,ha,hal⟩:∃a:Nat,(3:Int)+9*(k:Int)=(a:Int)/\a<=30:=⟨3+9*k,by omega,by omega⟩
 obtain⟨h,h1,h2⟩:=aDV n ns (a:=a) (by omega) hm hm5
 have c7:call pg (n+8) 5 [.lst (ns.map D.int),.int ((a:Int)+7)]=_:=dI (n+7) ns (k:=a+7) (by omega)
 have c8:call pg (n+8) 5 [.lst (ns.map D.int),.int ((a:Int)+8)]=_:=dI (n+7) ns (k:=a+8) (by omega)
 generalize cellAt ns (a+7)=y at c7
 generalize cellAt ns (a+8)=x at c8
 obtain⟨p,p1,p2,p3⟩:=wU (n+2) y hm
 have hf:=h1.few
 let L:D:=.lst (ns.map D.int)
 have v0:∀t:Sg,ev pg (call pg (n+8)) (.sh true L::t) (.v 0)=.ok ⟨L,false,true,[]⟩:=λt=>rfl
 have hix:bM ⟨.lst ((hs++[h]).map aH),false,false,[6]⟩ (.cl (.int (k:Int)))=.ok ⟨aH h,false,false,[6]⟩:=rN (f:=aH) (xs:=hs++[h]) (k:=k) (x:=h) rfl (by rw[<-l1];simp)
 have hw:=bS (P:=pg) (cl:=call pg (n+8)) (σ:=hoS L s1 s2 s3 m s5 (hs++[h]) (pr++[p]) nt (.sh false (.int (k:Int))) (.sh false (.int (a:Int))) (.sh false (.int x)) (.own false []) s13) (a:=.op .Add (.bi .len (.cons (.idx (.v 6) (.v 9)) .nil)) (.c (.int 1))) (v:=.cl (.int ((h.length+1:Nat):Int))) (dU (cZ (aJ rfl rfl hix) ((cK (h.map cN) ..).trans (by rw[lM]))) rfl (add_int (h.length:Int) 1)) rfl (by omega)
 obtain⟨σ',e6,t,s13',g1,g2,rfl⟩:=dR (t:=.n 13) (b:=aGL) (λi σ=>∃(t:List Cn) (s13:Sl),(∀q∈t,q.wf m true/\q.sz<=7)/\t.length=i/\σ=hoS L s1 s2 s3 m s5 (hs++[h]) (pr++[p]) nt (.sh false (.int (k:Int))) (.sh false (.int (a:Int))) (.sh false (.int x)) (.own false (t.map Cn.d)) s13) hw ⟨[],_,λ_ h=>(nomatch h),rfl,rfl⟩ (λi hi σ hσ=>by
  obtain⟨t,s13,g1,g2,rfl⟩:=hσ
  have hi':i<h.length+1:=by simpa using hi
  obtain⟨q,q1,q2,q3⟩:=aBO (n+4) x L s1 s2 s3 s5 hm (hs++[h]) (pr++[p]) nt (k:=i) (by omega) t (by omega) (.sh false (.int (k:Int))) (.sh false (.int (a:Int)))
  refine⟨_,_,?_,q3,t++[q],_,λz hz=>?_,by simp[g2],rfl⟩
  . simp
  . rcases List.mem_append.mp hz with hz|hz
    . exact g1 z hz
    . rw[List.mem_singleton.mp hz];exact⟨q1,q2⟩)
 have g2:t.length=h.length+1:=by simpa using g2
 refine⟨h,p,t,.sh false (.int a),.sh false (.int x),.sh false (eD t),s13',h1,⟨p1,p2⟩,⟨⟨by omega,g1⟩,g2⟩,?_⟩
 refine cs (bJ (dU rfl (dU rfl rfl m9) ((add_int _ _).trans (by rw[ha])))) (cs (pH (ds:=hs.map aH) (aDP (v0 _) rfl rfl h2) rfl (by rw[lM];unfold lim;omega) rfl (iM ..)) (cs (pH (ds:=pr.map Cn.d) (bZ (bZ (v0 _) (dU rfl rfl (add_int _ _)) c7) rfl p3) rfl (by rw[lM];unfold lim;omega) rfl (iM ..)) (cs (bJ (bZ (v0 _) (dU rfl rfl (add_int _ _)) c8)) (cs (σ':=hoS L s1 s2 s3 m s5 (hs++[h]) (pr++[p]) nt (.sh false (.int (k:Int))) (.sh false (.int (a:Int))) (.sh false (.int x)) (.own false []) s13) rfl (cs e6 (cs (pH (ds:=nt.map eD) (v:=⟨.lst (t.map Cn.d),false,false,[12]⟩) rfl rfl (by rw[lM];unfold lim;omega) rfl (iM ..)) (aL ..)))))))
structure House where
 bs:List (Str×Int)
 bg:Cn
 hs:List (List (List Way))
 pr:List Cn
 nt:List (List Cn)
def House.d(h:House):D:=.tup [.lst (aN h.bs),h.bg.d,.lst (h.hs.map aH),.lst (h.pr.map Cn.d),.lst (h.nt.map eD)]
structure aF (h:House):Prop where
 bs:aGJ h.bs
 bg:h.bg.wf h.bs.length true/\h.bg.sz<=15
 one:1<=h.hs.length
 few:h.hs.length<=3
 hs:∀x∈h.hs,fW h.bs.length x
 pl:h.pr.length=h.hs.length
 pr:∀p∈h.pr,p.wf h.bs.length false/\p.sz<=30
 nl:h.nt.map (·.length)=h.hs.map (·.length+1)
 nt:∀t∈h.nt,lE h.bs.length t
theorem aF.nf{h:House}(o:aF h):h.nt.length=h.hs.length:=by
 have:=congrArg List.length o.nl
 simpa using this
theorem aBP(n:Nat)(ns:List Int):∃h:House,aF h/\call pg (n+9) 14 [.lst (ns.map D.int),.int 16]=.ok (h.d,false,false):=by
 have c0:call pg (n+8) 5 [.lst (ns.map D.int),.int 0]=_:=dI (n+7) ns (k:=0) (by omega)
 have c1:call pg (n+8) 5 [.lst (ns.map D.int),.int 1]=_:=dI (n+7) ns (k:=1) (by omega)
 have c2:call pg (n+8) 5 [.lst (ns.map D.int),.int 2]=_:=dI (n+7) ns (k:=2) (by omega)
 generalize cellAt ns 0=x0 at c0
 generalize cellAt ns 1=x1 at c1
 generalize cellAt ns 2=x2 at c2
 have d9:opD .FloorDiv (.cl (.int x0)) (.cl (.int 9))=.ok (.cl (.int (x0 / 9))):=aAz rfl
 obtain⟨g,hg⟩:∃g,(x0 / 9 % 8==5)=g:=⟨_,rfl⟩
 have m5:opD .Mult (.cl (.int 5)) (.cl (.int (b2i g)))=.ok (.cl (.int (5*b2i g))):=mul_int (by cases g <;> decide)
 obtain⟨most,hmo,hm1,hm2⟩:∃k:Nat,(16:Int)+5*b2i g=(k:Int)/\1<=k/\k<=21:=⟨if g then 21 else 16,by cases g <;> rfl,by cases g <;> decide,by cases g <;> decide⟩
 obtain⟨bs,hb,eb⟩:=aBN (n+6) x0 hm1 hm2
 have hbl:(aN bs).length=bs.length:=by simp[aN]
 obtain⟨q,q1,q2,q3⟩:=mI (n+3) x1 (k:=1) (by decide) (by decide) hb.one false
 have y1:=cL (n+7) x1 (k:=60) (by decide) (by decide)
 have y2:=cL (n+7) x2 (k:=2) (by decide) (by decide)
 have hm5:bs.length<=5:=by have:=hb.few;omega
 have g0:0<(3:Int)-b2i g:=by cases g <;> decide
 obtain⟨J,hJ,hj1,hj2⟩:∃k:Nat,1+mix x2 2 % (3-b2i g)=(k:Int)/\1<=k/\k<=3:=by
  have h1:=Int.emod_nonneg (mix x2 2) (show(3:Int)-b2i g≠0 by omega)
  have h2:=Int.emod_lt_of_pos (mix x2 2) g0
  have h3:b2i g=0\/b2i g=1:=by cases g <;> simp[b2i]
  exact⟨(1+mix x2 2 % (3-b2i g)).toNat,by omega,by omega,by omega⟩
 let L:D:=.lst (ns.map D.int)
 have v0:∀t:Sg,ev pg (call pg (n+8)) (.sh true L::t) (.v 0)=.ok ⟨L,false,true,[]⟩:=λt=>rfl
 let B:Cn->Sg:=λq=>.sh true L::.sh true (.int 16)::.sh false (.int (b2i g))::.own false (aN bs)::.sh false (.int bs.length)::.sh false q.d::List.replicate 8 .dead
 obtain⟨bg,b1,b2,e5⟩:∃bg:Cn,bg.wf bs.length true/\bg.sz<=15/\ex pg (call pg (n+8)) (B q) (hdS (drp 4 f14.body))=.next (B bg):=by
  have tt:=gW (P:=pg) (cl:=call pg (n+8)) (σ:=B q) (o:=.Eq) (a:=.op .Mod (.call 7 (.cons (.call 5 (.cons (.v 0) (.cons (.c (.int 1)) .nil))) (.cons (.c (.int 60)) .nil))) (.c (.int 2))) (dU (bZ (bZ (v0 _) rfl c1) rfl y1) rfl (dX 2 (by decide) _)) (b:=.c (.int 1)) (y:=.cl (.int 1)) rfl (dE ..)
  cases hr:mix x1 60 % 2==1 with
  | true=>
   rw[hr] at tt
   exact⟨.cmp true (.box 0) (.num 0),⟨hb.one,(show(0:Int)<=0/\(0:Int)<=99 by decide)⟩,(show 1+1+1<=15 by decide),zE tt rfl⟩
  | false=>
   rw[hr] at tt
   exact⟨q,q1,q2,bU tt⟩
 have hw:=bS (P:=pg) (cl:=call pg (n+8)) (σ:=hoS L (.sh true (.int 16)) (.sh false (.int (b2i g))) (.own false (aN bs)) bs.length (.sh false bg.d) [] [] [] .dead .dead .dead .dead .dead) (a:=.op .Add (.c (.int 1)) (.op .Mod (.call 7 (.cons (.call 5 (.cons (.v 0) (.cons (.c (.int 2)) .nil))) (.cons (.c (.int 2)) .nil))) (.op .Sub (.c (.int 3)) (.v 2)))) (v:=.cl (.int (J:Int))) (dU rfl (dU (bZ (bZ (v0 _) rfl c2) rfl y2) (dU rfl rfl (sub_int _ _)) (dX _ g0 _)) ((add_int _ _).trans (by rw[hJ]))) rfl (by omega)
 obtain⟨σ',e9,hs,pr,nt,s9,s10,s11,s12,s13,l1,l2,l3,o1,o2,o3,rfl⟩:=dR (t:=.n 9) (b:=zJ) (λi σ=>∃(hs:List (List (List Way))) (pr:List Cn) (nt:List (List Cn)) (s9 s10 s11 s12 s13:Sl),hs.length=i/\pr.length=i/\nt.map (·.length)=hs.map (·.length+1)/\(∀x∈hs,fW bs.length x)/\(∀p∈pr,p.wf bs.length false/\p.sz<=15)/\(∀t∈nt,lE bs.length t) /\
  σ=hoS L (.sh true (.int 16)) (.sh false (.int (b2i g))) (.own false (aN bs)) bs.length (.sh false bg.d) hs pr nt s9 s10 s11 s12 s13) hw ⟨[],[],[],_,_,_,_,_,rfl,rfl,rfl,λ_ h=>(nomatch h),λ_ h=>(nomatch h),λ_ h=>(nomatch h),rfl⟩ (λi hi σ hσ=>by
  obtain⟨hs,pr,nt,s9,s10,s11,s12,s13,l1,l2,l3,o1,o2,o3,rfl⟩:=hσ
  have hi':i<J:=by simpa using hi
  obtain⟨h,p,t,t10,t11,t12,t13,r1,r2,⟨r3,r5⟩,r4⟩:=zK n ns hb.one hm5 (k:=i) (by omega) l1 l2 (by have:=congrArg List.length l3;rw[lM,lM] at this;rw[this];exact l1) (.sh true (.int 16)) (.sh false (.int (b2i g))) (.own false (aN bs)) (.sh false bg.d) s10 s11 s12 s13
  refine⟨_,_,?_,r4,hs++[h],pr++[p],nt++[t],_,_,_,_,_,by simp[l1],by simp[l2],by simp[l3,r5],λz hz=>?_,λz hz=>?_,λz hz=>?_,rfl⟩
  . simp only[List.getElem_map,List.getElem_range];exact aAD _
  all_goals rcases List.mem_append.mp hz with hz|hz
  . exact o1 z hz
  . rw[List.mem_singleton.mp hz];exact r1
  . exact o2 z hz
  . rw[List.mem_singleton.mp hz];exact r2
  . exact o3 z hz
  . rw[List.mem_singleton.mp hz];exact r3)
 have l1:hs.length=J:=by simpa using l1
 have l2:pr.length=J:=by simpa using l2
 refine⟨⟨bs,bg,hs,pr,nt⟩,⟨hb,⟨b1,b2⟩,by show 1<=hs.length;omega,by show hs.length<=3;omega,o1,by show pr.length=hs.length;omega,λp hp=>⟨(o2 p hp).1,Nat.le_trans (o2 p hp).2 (by decide)⟩,l3,o3⟩,?_⟩
 refine aG (F:=f14) rfl rfl (v:=⟨House.d ⟨bs,bg,hs,pr,nt⟩,false,false,[3,6,7,8]⟩) ?_
 show exs pg (call pg (n+8)) (.sh true L::.sh true (.int 16)::List.replicate 12 .dead) _=_
 refine cs (σ':=.sh true L::.sh true (.int 16)::.sh false (.int (b2i g))::List.replicate 11 .dead) (bJ (cZ (rM (dU (dU (bZ (v0 _) rfl c0) rfl d9) rfl (dX 8 (by decide) _)) rfl ((dE ..).trans (by rw[hg]))) (zF g))) ?_
 refine cs (σ':=.sh true L::.sh true (.int 16)::.sh false (.int (b2i g))::.own false (aN bs)::List.replicate 10 .dead) (mF (lD (x:=.cl (.int x0)) (bZ (v0 _) rfl c0) (y:=.cl (.int (most:Int))) (by rw[<-hmo];exact dU rfl (dU rfl rfl m5) (add_int _ _)) eb)) ?_
 refine cs (σ':=.sh true L::.sh true (.int 16)::.sh false (.int (b2i g))::.own false (aN bs)::.sh false (.int bs.length)::List.replicate 9 .dead) (bJ (cZ (x:=⟨.lst (aN bs),false,false,[3]⟩) rfl ((cK ..).trans (by rw[hbl])))) ?_
 refine cs (σ':=B q) (bJ (aAE (bZ (v0 _) rfl c1) rfl rfl rfl rfl q3)) (cs e5 ?_)
 refine cs (σ':=.sh true L::.sh true (.int 16)::.sh false (.int (b2i g))::.own false (aN bs)::.sh false (.int bs.length)::.sh false bg.d::.own false []::List.replicate 7 .dead) rfl (cs (σ':=.sh true L::.sh true (.int 16)::.sh false (.int (b2i g))::.own false (aN bs)::.sh false (.int bs.length)::.sh false bg.d::.own false []::.own false []::List.replicate 6 .dead) rfl (cs (σ':=hoS L (.sh true (.int 16)) (.sh false (.int (b2i g))) (.own false (aN bs)) bs.length (.sh false bg.d) [] [] [] .dead .dead .dead .dead .dead) rfl (cs e9 (bG rfl))))
theorem aEa{B:Nat}:∀{ds:List D},(∀d∈ds,wt d<=B)->wts ds<=ds.length*(B+2)
 | [],_=>by simp[wts]
 | d::ds,h=>by
  have h1:=h d List.mem_cons_self
  have h2:=aEa (ds:=ds) λx hx=>h x (List.mem_cons_of_mem _ hx)
  rw[wts,lC,Nat.succ_mul]
  omega
theorem fQ{α:Type}{f:α->D}{B N:Nat}{xs:List α}(hl:xs.length<=N)(h:∀x∈xs,wt (f x)<=B):wts (xs.map f)<=N*(B+2):=by
 have h1:=aEa (B:=B) (ds:=xs.map f) λd hd=>by obtain⟨x,hx,rfl⟩:=List.mem_map.mp hd;exact h x hx
 rw[lM] at h1
 exact Nat.le_trans h1 (Nat.mul_le_mul_right _ hl)
theorem uF(ds:List D):wt (.tup ds)=3+wts ds:=by rw[wt]
theorem uG(ds:List D):wt (.lst ds)=2+wts ds:=by rw[wt]
theorem aIS{m:Nat}(hm:m<=5){p:Nat×Sm}(h:mY m p):wt (cU p)<=107:=by
 have h1:=wQ hm p.2 h.wf
 have h2:=h.sz
 have h3:=mH (i:=(p.1:Int)) (by omega) (by have:=h.box;omega)
 unfold cU
 simp only[uF,wts,h3]
 omega
theorem aIT{m pl:Nat}(hm:m<=5)(hp:pl<=10){w:Way}(h:jR m pl w):wt w.d<=1100:=by
 have h1:=pI hm w.g h.g
 have h2:=h.gs
 have h3:=mH (i:=(w.nx:Int)) (by omega) (by have:=h.nx;omega)
 have h4:=fQ (f:=cU) (N:=5) (B:=107) (Nat.le_trans h.len hm) λp hp=>aIS hm (h.ps p hp)
 unfold Way.d
 simp only[uF,wts,h3]
 omega
theorem aGc{m:Nat}(hm:m<=5){r:List (List Way)}(h:fW m r):wt (aH r)<=14000:=by
 have hf:=h.few
 have h4:=fQ (f:=cN) (N:=3) (B:=4500) h.few λx hx=>by
  have o:=h.all x hx
  have h5:=fQ (f:=Way.d) (N:=4) (B:=1100) o.few λw hw=>aIT hm (by omega) (o.all w hw)
  unfold cN
  rw[uG]
  omega
 unfold aH
 rw[uG]
 omega
theorem aEb{h:House}(o:aF h):wt h.d<lim:=by
 have hm:h.bs.length<=5:=by have:=o.bs.few;omega
 have b:=fQ (f:=box) (N:=4) (B:=30) o.bs.few λx hx=>by
  obtain⟨n1,n2⟩:=o.bs.nm x hx
  obtain⟨t1,t2⟩:=o.bs.tops.one x hx
  have h3:=mH (i:=x.2) (by omega) (by omega)
  have h4:wt (.str x.1)=x.1.length+2:=by rw[wt,if_pos n1]
  unfold box
  simp only[uF,wts,h3,h4]
  omega
 have b':wts (aN h.bs)<=4*32:=b
 have g:=pI hm h.bg o.bg.1
 have gs:=o.bg.2
 have hh:=fQ (f:=aH) (N:=3) (B:=14000) o.few λx hx=>aGc hm (o.hs x hx)
 have pp:=fQ (f:=Cn.d) (N:=3) (B:=900) (by rw[o.pl];exact o.few) λx hx=>by
  have:=pI hm x (o.pr x hx).1
  have:=(o.pr x hx).2
  omega
 have nn:=fQ (f:=eD) (N:=3) (B:=1000) (by rw[o.nf];exact o.few) λx hx=>by
  have z:=fQ (f:=Cn.d) (N:=4) (B:=210) (o.nt x hx).few λy hy=>by
   obtain⟨w1,w2⟩:=(o.nt x hx).all y hy
   have:=pI hm y w1
   omega
  unfold eD
  rw[uG]
  omega
 unfold House.d
 simp only[uF,uG,wts]
 show _<1000000
 omega
theorem eH{α:Type}{f:α->D}{B:Nat}:∀{xs:List α},(∀x∈xs,dpt (f x)<=B)->dpts (xs.map f)<=B
 | [],_=>by rw[mN,dpts];exact Nat.zero_le _
 | x::xs,h=>by
  rw[mC,dpts]
  exact Nat.max_le.mpr ⟨h x List.mem_cons_self,eH λy hy=>h y (List.mem_cons_of_mem _ hy)⟩
theorem wX:∀s:Sm,dpt s.d<=s.sz
 | .num _=>by simp only[Sm.d,Sm.sz,dpt,dpts];decide
 | .box _=>by simp only[Sm.d,Sm.sz,dpt,dpts];decide
 | .aft _=>by simp only[Sm.d,Sm.sz,dpt,dpts];decide
 | .two _ a b=>by
  have h1:=wX a
  have h2:=wX b
  simp only[Sm.d,Sm.sz,dpt,dpts]
  omega
theorem pN:∀s:Cn,dpt s.d<=s.sz
 | .yes=>by simp only[Cn.d,Cn.sz,dpt,dpts];decide
 | .cmp _ a b=>by
  have h1:=wX a
  have h2:=wX b
  simp only[Cn.d,Cn.sz,dpt,dpts]
  omega
 | .nt a=>by
  have h1:=pN a
  simp only[Cn.d,Cn.sz,dpt,dpts]
  omega
 | .two _ a b=>by
  have h1:=pN a
  have h2:=pN b
  simp only[Cn.d,Cn.sz,dpt,dpts]
  omega
theorem aEc{h:House}(o:aF h):dpt h.d<=60:=by
 have b:dpts (aN h.bs)<=1:=eH λx _=>by simp only[box,dpt,dpts];decide
 have g:=Nat.le_trans (pN h.bg) o.bg.2
 have hh:dpts (h.hs.map aH)<=18:=eH λr hr=>by
  have z:dpts (r.map cN)<=17:=eH λx hx=>by
   have z:dpts (x.map Way.d)<=16:=eH λw hw=>by
    have k:=((o.hs r hr).all x hx).all w hw
    have z:dpts (w.ps.map cU)<=4:=eH λp hp=>by
     have z:=Nat.le_trans (wX p.2) (k.ps p hp).sz
     simp only[cU,dpt,dpts]
     omega
    have z2:=Nat.le_trans (pN w.g) k.gs
    simp only[Way.d,dpt,dpts]
    omega
   simp only[cN,dpt]
   omega
  simp only[aH,dpt]
  omega
 have pp:dpts (h.pr.map Cn.d)<=30:=eH λx hx=>Nat.le_trans (pN x) (o.pr x hx).2
 have nn:dpts (h.nt.map eD)<=8:=eH λx hx=>by
  have z:dpts (x.map Cn.d)<=7:=eH λy hy=>Nat.le_trans (pN y) ((o.nt x hx).all y hy).2
  simp only[eD,dpt]
  omega
 simp only[House.d,dpt,dpts]
 omega
theorem aNA:∀p,(pE p == "minus")=!p:=by decide +kernel
theorem aNB:∀p,(pF p == "less")=!p:=by decide +kernel
theorem aNC:∀p,(iK p == "is")=false:=by decide +kernel
theorem aND:∀p,(iK p == "less")=false:=by decide +kernel
theorem gG{ah be:List Int}{bd:D}{c:Nat}{pl:Bool}(ha:ah.length=c)(hb:be.length=c)(hn:Hp.noL bd=true)(hbd:pl=false->bd=aE be):∀(s:Sm) (n:Nat),s.wf c pl->call pg (n+s.sz) 15 [s.d,aE ah,bd]=.ok (.int (s.val ah be),false,false)
 | .num k,n,w=>by
  refine aG (F:=f15) rfl rfl (v:=.cl (.int k)) ?_
  exact cM (bK (aJ (v0_ rfl) rfl (dG _ _ rfl)) aLt) (bG (aJ (v0_ rfl) rfl (fU _ _ _ rfl)))
 | .box k,n,w=>by
  have w:k<c:=w
  refine aG (F:=f15) rfl rfl (v:=.cl (.int (ah.getD k 0))) ?_
  exact cs (bU (bK (aJ (v0_ rfl) rfl (dG _ _ rfl)) aLu)) (cM (bK (aJ (v0_ rfl) rfl (dG _ _ rfl)) aLv) (bG (aJ (v1_ (aK _)) (aJ (v0_ rfl) rfl (fU _ _ _ rfl)) (fP (by omega)))))
 | .aft k,n,w=>by
  obtain⟨w1,w2⟩:k<c/\pl=false:=w
  have e:=hbd w2
  subst e
  refine aG (F:=f15) rfl rfl (v:=.cl (.int (be.getD k 0))) ?_
  exact cs (bU (bK (aJ (v0_ rfl) rfl (dG _ _ rfl)) aLw)) (cs (bU (bK (aJ (v0_ rfl) rfl (dG _ _ rfl)) aLx)) (cM (bK (aJ (v0_ rfl) rfl (dG _ _ rfl)) aLy) (bG (aJ (v2_ (aK _)) (aJ (v0_ rfl) rfl (fU _ _ _ rfl)) (fP (by omega))))))
 | .two p a b,n,w=>by
  have c1:=gG ha hb hn hbd a (n+b.sz) w.1
  have c2:=gG ha hb hn hbd b (n+a.sz) w.2
  rw[show n+b.sz+a.sz=n+a.sz+b.sz by omega] at c1
  have e:n+Sm.sz (.two p a b)=n+a.sz+b.sz+1:=by show n+(1+a.sz+b.sz)=_;omega
  rw[e]
  have m2:opD .Mult (.cl (.int 2)) (.cl (.int (b2i !p)))=.ok (.cl (.int (2*b2i !p))):=mul_int (by cases p <;> decide)
  have m1:opD .Mult (.cl (.int (1-2*b2i !p))) (.cl (.int (b.val ah be)))=.ok (.cl (.int ((1-2*b2i !p)*b.val ah be))):=mul_int (by
   simp only[eQ,Bool.or_eq_true,bA,decide_eq_true_eq];left;cases p <;> decide)
  have e:a.val ah be+(1-2*b2i !p)*b.val ah be=Sm.val ah be (.two p a b):=by
   show _=if p=true then a.val ah be+b.val ah be else a.val ah be-b.val ah be
   cases p
   . show _+(1-2*1)*_=_-_;omega
   . show _+(1-2*0)*_=_+_;omega
  refine aG (F:=f15) rfl rfl (v:=.cl (.int (Sm.val ah be (.two p a b)))) ?_
  rw[<-e]
  exact cs (bU (bK (aJ (v0_ (Sm.noL _)) rfl (dG _ _ rfl)) (aLz p))) (cs (bU (bK (aJ (v0_ (Sm.noL _)) rfl (dG _ _ rfl)) (aLA p))) (cs (bU (bK (aJ (v0_ (Sm.noL _)) rfl (dG _ _ rfl)) (aLB p))) (cs (bJ (bL (aJ (v0_ (Sm.noL _)) rfl (fU _ _ _ a.noL)) (v1_ (aK _)) (v2_ hn) c1)) (bG (dU rfl (dU (dU rfl (dU rfl (cZ (aLo (aJ (v0_ (Sm.noL _)) rfl (dG _ _ rfl)) (aNA p)) (zF _)) m2) (sub_int _ _)) (bL (aJ (v0_ (Sm.noL _)) rfl (qN _ _ _ _ b.noL)) (v1_ (aK _)) (v2_ hn) c2) m1) (add_int _ _))))))
theorem iN{ah be:List Int}{bd:D}{c:Nat}{pl:Bool}(ha:ah.length=c)(hb:be.length=c)(hn:Hp.noL bd=true)(hbd:pl=false->bd=aE be):∀(s:Cn) (n:Nat),s.wf c pl->call pg (n+s.sz) 16 [s.d,aE ah,bd]=.ok (.bl (s.hold ah be),false,false)
 | .yes,n,w=>by
  refine aG (F:=f16) rfl rfl (v:=.cl (.bl true)) ?_
  exact cM (bK (aJ (v0_ rfl) rfl (dG _ _ rfl)) aLD) (bG rfl)
 | .cmp i a b,n,w=>by
  have c1:=gG ha hb hn hbd a (n+b.sz) w.1
  have c2:=gG ha hb hn hbd b (n+a.sz) w.2
  rw[show n+b.sz+a.sz=n+a.sz+b.sz by omega] at c1
  have e:n+Cn.sz (.cmp i a b)=n+a.sz+b.sz+1:=by show n+(1+a.sz+b.sz)=_;omega
  rw[e]
  refine aG (F:=f16) rfl rfl (v:=.cl (.bl (Cn.hold ah be (.cmp i a b)))) ?_
  refine cs (bU (bK (aJ (v0_ (Cn.noL _)) rfl (dG _ _ rfl)) (aLG i))) (cs (bU (bK (aJ (v0_ (Cn.noL _)) rfl (dG _ _ rfl)) (aLH i))) ?_)
  cases i with
  | true=>exact cM (bK (aJ (v0_ (Cn.noL _)) rfl (dG _ _ rfl)) (aIO true)) (bG (rM (bL (aJ (v0_ (Cn.noL _)) rfl (fU _ _ _ a.noL)) (v1_ (aK _)) (v2_ hn) c1) (bL (aJ (v0_ (Cn.noL _)) rfl (qN _ _ _ _ b.noL)) (v1_ (aK _)) (v2_ hn) c2) rfl))
  | false=>exact cs (bU (bK (aJ (v0_ (Cn.noL _)) rfl (dG _ _ rfl)) (aIO false))) (cM (bK (aJ (v0_ (Cn.noL _)) rfl (dG _ _ rfl)) (aNB false)) (bG (rM (bL (aJ (v0_ (Cn.noL _)) rfl (fU _ _ _ a.noL)) (v1_ (aK _)) (v2_ hn) c1) (bL (aJ (v0_ (Cn.noL _)) rfl (qN _ _ _ _ b.noL)) (v1_ (aK _)) (v2_ hn) c2) rfl)))
 | .nt x,n,w=>by
  have c1:=iN ha hb hn hbd x n w
  have e:n+Cn.sz (.nt x)=n+x.sz+1:=by show n+(1+x.sz)=_;omega
  rw[e]
  refine aG (F:=f16) rfl rfl (v:=.cl (.bl (Cn.hold ah be (.nt x)))) ?_
  exact cs (bU (bK (aJ (v0_ (Cn.noL _)) rfl (dG _ _ rfl)) aLE)) (cM (bK (aJ (v0_ (Cn.noL _)) rfl (dG _ _ rfl)) aLF) (bG (aLp (bL (aJ (v0_ (Cn.noL _)) rfl (fU _ _ _ x.noL)) (v1_ (aK _)) (v2_ hn) c1))))
 | .two p a b,n,w=>by
  have c1:=iN ha hb hn hbd a (n+b.sz) w.1
  have c2:=iN ha hb hn hbd b (n+a.sz) w.2
  rw[show n+b.sz+a.sz=n+a.sz+b.sz by omega] at c1
  have e:n+Cn.sz (.two p a b)=n+a.sz+b.sz+1:=by show n+(1+a.sz+b.sz)=_;omega
  rw[e]
  refine aG (F:=f16) rfl rfl (v:=.cl (.bl (Cn.hold ah be (.two p a b)))) ?_
  refine cs (bU (bK (aJ (v0_ (Cn.noL _)) rfl (dG _ _ rfl)) (aLI p))) (cs (bU (bK (aJ (v0_ (Cn.noL _)) rfl (dG _ _ rfl)) (aLJ p))) (cs (bU (bK (aJ (v0_ (Cn.noL _)) rfl (dG _ _ rfl)) (aNC p))) (cs (bU (bK (aJ (v0_ (Cn.noL _)) rfl (dG _ _ rfl)) (aND p))) (cs (bJ (bL (aJ (v0_ (Cn.noL _)) rfl (fU _ _ _ a.noL)) (v1_ (aK _)) (v2_ hn) c1)) (cs (bJ (bL (aJ (v0_ (Cn.noL _)) rfl (qN _ _ _ _ b.noL)) (v1_ (aK _)) (v2_ hn) c2)) ?_)))))
  cases p with
  | true=>exact cM (bK (aJ (v0_ (Cn.noL _)) rfl (dG _ _ rfl)) (aFW true)) (bG (aLq rfl rfl))
  | false=>exact cs (bU (bK (aJ (v0_ (Cn.noL _)) rfl (dG _ _ rfl)) (aFW false))) (bG (aDO rfl rfl))
def uH(bs:List (Str×Int))(k:Nat):Int:=(bs.map (·.2)).getD k 0
def sH(bs:List (Str×Int))(st:List Int):List Int->List (Nat×Sm)->Option (List Int)
 | acc,[]=>some acc
 | acc,p::ps=>if 0<=p.2.val st st/\p.2.val st st<=uH bs p.1 then sH bs st (acc.set p.1 (p.2.val st st)) ps else none
def behF(bs:List (Str×Int))(w:Way)(st:List Int):Option (List Int):=if w.g.hold st st then sH bs st st w.ps else none
def stD:Option (List Int)->D
 | none=>.non
 | some r=>aE r
theorem aEd{P:Pg}{cl:Caller}{σ:Sg}{a b:E}{x y:Int}(h1:ev P cl σ a=.ok (.cl (.int x)))(h2:ev P cl σ b=.ok (.cl (.int y))):tst P cl σ (.cmp2 .LtE .LtE (.c (.int 0)) a b)=.ok (decide (0<=x)&&decide (x<=y)):=by
 rw[wJ,cI,aA,h1,aA,bB,bB,zD]
 cases decide (0<=x) with
 | true=>simp only[h2,aA,bB,zD,Bool.true_and]
 | false=>rfl
theorem zL{P:Pg}{cl:Caller}{σ:Sg}{a b:E}{x y:Int}(h1:ev P cl σ a=.ok (.cl (.int x)))(h2:ev P cl σ b=.ok (.cl (.int y))):tst P cl σ (.cmp2 .LtE .Lt (.c (.int 0)) a b)=.ok (decide (0<=x)&&decide (x<y)):=by
 rw[wJ,cI,aA,h1,aA,bB,bB,zD]
 cases decide (0<=x) with
 | true=>simp only[h2,aA,bB,kE,Bool.true_and]
 | false=>rfl
theorem aAM{bs:List (Str×Int)}{k:Nat}(h:k<bs.length):∃b:D,noL b=true/\bM ⟨.lst (aN bs),false,true,[]⟩ (.cl (.int (k:Int)))=.ok (.cl b)/\bM (.cl b) (.cl (.int 1))=.ok (.cl (.int (uH bs k))):=by
 refine⟨box bs[k],tV _,?_,?_⟩
 . have hl:(aN bs).length=bs.length:=by simp[aN]
   have e:(aN bs)[k]? = some (box bs[k]):=by simp[aN,h]
   unfold bM
   simp only[bB,hl,dF h,e,Vl.sub,tV,if_true]
 . have:=fU (.str bs[k].1) (.int bs[k].2) [] rfl
   unfold box uH
   rw[this]
   simp[h]
theorem aEe(n:Nat){bs:List (Str×Int)}{st:List Int}(hs:st.length=bs.length){s:Sm}(w:s.wf bs.length true)(z:s.sz<=3):call pg (n+3) 0 [s.d,aE st,.non]=.ok (.int (s.val st st),false,false):=by
 have:=iJ (P:=pg) (f:=0) rfl (ah:=st) (be:=st) (bd:=.non) (c:=bs.length) (pl:=true) hs hs rfl (λh=>nomatch h) s (n+3-s.sz) w
 rwa [show n+3-s.sz+s.sz=n+3 by omega] at this
theorem aBQ(n:Nat){bs:List (Str×Int)}{st:List Int}(hs:st.length=bs.length){s:Sm}(w:s.wf bs.length true)(z:s.sz<=3):call pg (n+3) 15 [s.d,aE st,.non]=.ok (.int (s.val st st),false,false):=by
 have:=gG (ah:=st) (be:=st) (bd:=.non) (c:=bs.length) (pl:=true) hs hs rfl (λh=>nomatch h) s (n+3-s.sz) w
 rwa [show n+3-s.sz+s.sz=n+3 by omega] at this
theorem pO(n:Nat){bs:List (Str×Int)}{st:List Int}(hs:st.length=bs.length){q:Cn}(w:q.wf bs.length true)(z:q.sz<=15):call pg (n+15) 1 [q.d,aE st,.non]=.ok (.bl (q.hold st st),false,false):=by
 have:=iL (P:=pg) (v:=0) (f:=1) rfl rfl (ah:=st) (be:=st) (bd:=.non) (c:=bs.length) (pl:=true) hs hs rfl (λh=>nomatch h) q (n+15-q.sz) w
 rwa [show n+15-q.sz+q.sz=n+15 by omega] at this
theorem pP(n:Nat){bs:List (Str×Int)}{st:List Int}(hs:st.length=bs.length){q:Cn}(w:q.wf bs.length true)(z:q.sz<=15):call pg (n+15) 16 [q.d,aE st,.non]=.ok (.bl (q.hold st st),false,false):=by
 have:=iN (ah:=st) (be:=st) (bd:=.non) (c:=bs.length) (pl:=true) hs hs rfl (λh=>nomatch h) q (n+15-q.sz) w
 rwa [show n+15-q.sz+q.sz=n+15 by omega] at this
abbrev aNE:Ss:=match hdS (drp 2 f2.body) with|.for _ _ b=>b|_=>.nil
theorem put_loop{bs:List (Str×Int)}{st:List Int}{f:Sg->Vl->O}(I:List Int->Sg->Prop)(ht:∀acc σ p,I acc σ->mY bs.length p->acc.length=bs.length->if 0<=p.2.val st st/\p.2.val st st<=uH bs p.1 then ∃σ',f σ (.cl (cU p))=.next σ'/\I (acc.set p.1 (p.2.val st st)) σ' else f σ (.cl (cU p))=.ret (.cl .non)) :
 ∀(ps:List (Nat×Sm)) (acc:List Int) (σ:Sg),(∀p∈ps,mY bs.length p)->acc.length=bs.length->I acc σ->(sH bs st acc ps=none/\dQ f (ps.map λp=>Vl.cl (cU p)) σ=.ret (.cl .non))\/∃r σ',sH bs st acc ps=some r/\dQ f (ps.map λp=>Vl.cl (cU p)) σ=.next σ'/\I r σ'
 | [],acc,σ,_,_,hI=>.inr ⟨acc,σ,rfl,rfl,hI⟩
 | p::ps,acc,σ,h,ha,hI=>by
  have tu:=ht acc σ p hI (h p List.mem_cons_self) ha
  rw[mC,dQ,sH]
  by_cases hv:0<=p.2.val st st/\p.2.val st st<=uH bs p.1
  . rw[if_pos hv] at tu ⊢
    obtain⟨σ',e,hI'⟩:=tu
    rw[e]
    exact put_loop I ht ps _ σ' (λq hq=>h q (List.mem_cons_of_mem _ hq)) (by rw[List.length_set];exact ha) hI'
  . rw[if_neg hv] at tu ⊢
    rw[tu]
    exact .inl ⟨rfl,rfl⟩
theorem kG{v:Vl}(ps:List (Nat×Sm)):items v (ps.map cU)=ps.map λp=>Vl.cl (cU p):=fD uD ps
theorem wY(ps:List (Nat×Sm)):noL (.tup (ps.map cU))=true:=by rw[noL];exact jD _
theorem aEf(w:Way):bM (.cl w.d) (.cl (.int 0))=.ok (.cl w.g.d):=dG _ _ (Cn.noL _)
theorem aEg(w:Way):bM (.cl w.d) (.cl (.int 1))=.ok (.cl (.tup (w.ps.map cU))):=fU _ _ _ (wY _)
theorem aEh(w:Way):bM (.cl w.d) (.cl (.int 2))=.ok (.cl (.int (w.nx:Int))):=qN _ _ _ _ rfl
theorem zM(n:Nat){bs:List (Str×Int)}{st:List Int}(hs:st.length=bs.length)(hb:bs.length<=5){pl:Nat}{w:Way}(o:jR bs.length pl w):call pg (n+16) 2 [.lst (aN bs),w.d,aE st]=.ok (stD (behF bs w st),false,false):=by
 have ch:=pO n hs o.g o.gs
 refine aG (F:=f2) rfl rfl (v:=.cl (stD (behF bs w st))) ?_
 have v1:∀{s0:Sl} {r:Sg},ev pg (call pg (n+15)) (s0::.sh true w.d::r) (.v 1)=.ok (.cl w.d):=λ{s0 r}=>v1_ (jE w)
 have v2:∀{s0 s1:Sl} {r:Sg},ev pg (call pg (n+15)) (s0::s1::.sh true (aE st)::r) (.v 2)=.ok (.cl (aE st)):=λ{s0 s1 r}=>v2_ (aK st)
 have t:=lU (lB (σ:=[.sh true (.lst (aN bs)),.sh true w.d,.sh true (aE st),.dead,.dead,.dead,.dead]) (a:=.idx (.v 1) (.c (.int 0))) (aJ v1 rfl (aEf w)) v2 (c:=.c .non) (z:=.cl .non) rfl ch)
 unfold behF
 cases hh:w.g.hold st st with
 | false=>
  rw[hh] at t
  exact cM t (bG rfl)
 | true=>
  rw[hh] at t
  refine cs (bU t) (cs (mF (cZ v2 (wP st))) ?_)
  have hw:walk pg (call pg (n+15)) [.sh true (.lst (aN bs)),.sh true w.d,.sh true (aE st),.own false (st.map D.int),.dead,.dead,.dead] (.seq (.idx (.v 1) (.c (.int 1))))=.ok (w.ps.map (λp=>Vl.cl (cU p)),[]):=by
   rw[cO,aJ v1 rfl (aEg w),<-kG (v:=.cl (.tup (w.ps.map cU)))];rfl
  rcases put_loop (bs:=bs) (st:=st) (f:=λσ x=>O.from σ (cC σ x (.t [4,5])) λσ'=>exs pg (call pg (n+15)) σ' aNE) (λacc σ=>∃s4 s5 s6,σ=[.sh true (.lst (aN bs)),.sh true w.d,.sh true (aE st),.own false (acc.map D.int),s4,s5,s6]) (λacc σ p hσ o ha=>by
   obtain⟨s4,s5,s6,rfl⟩:=hσ
   have cv:=aEe (n+12) hs o.wf o.sz
   obtain⟨b,b1,b2,b3⟩:=aAM (bs:=bs) (k:=p.1) o.box
   simp only[cU,mX _ (show noL (.int (p.1:Int))=true from rfl) p.2.noL,aT]
   generalize p.2.val st st=v at cv
   have tt:=lU (aEd (P:=pg) (cl:=call pg (n+15)) (σ:=[.sh true (.lst (aN bs)),.sh true w.d,.sh true (aE st),.own false (acc.map D.int),.sh false (.int p.1),.sh false p.2.d,.sh false (.int v)]) (a:=.v 6) (b:=.idx (.idx (.v 0) (.v 4)) (.c (.int 1))) (x:=v) (y:=uH bs p.1) rfl (aJ (aJ (x:=⟨.lst (aN bs),false,true,[]⟩) rfl rfl b2) rfl b3))
   split
   . rename_i hv
     rw[aLP hv] at tt
     exact⟨_,cs (bJ (bL rfl v2 rfl cv)) (cs (bU tt) (cs (aAF (j:=p.1) rfl rfl rfl (by rw[ha];exact o.box) (by omega)) (aL ..))),_,_,_,rfl⟩
   . rename_i hv
     rw[aLO hv] at tt
     exact cs (bJ (bL rfl v2 rfl cv)) (cM tt (bG rfl))) w.ps st [.sh true (.lst (aN bs)),.sh true w.d,.sh true (aE st),.own false (st.map D.int),.dead,.dead,.dead] o.ps hs ⟨_,_,_,rfl⟩ with⟨e1,e2⟩|⟨r,σ',e1,e2,s4,s5,s6,rfl⟩
  . rw[if_pos rfl,e1]
    exact aIP ((uC hw).trans e2)
  . rw[if_pos rfl,e1]
    exact cs ((uC hw).trans e2) (bG (cZ rfl (uE 3 (eU r))))
structure dH (h:House) (st pl:List Int):Prop where
 st:st.length=h.bs.length
 len:pl.length=h.hs.length
 pl:∀(i:Nat) (hi:i<h.hs.length),0<=pl.getD i 0/\pl.getD i 0<=h.hs[i].length
def cB(h:House)(pl:List Int)(i:Nat):List Way:=(h.hs.getD i []).getD (pl.getD i 0).toNat []
def rQ(h:House)(pl:List Int)(i k:Nat):Way:=(cB h pl i).getD k ⟨.yes,[],0⟩
def aO(st pl:List Int):D:=.tup [aE st,aE pl]
def iO(x y:Int):D:=.tup [.int x,.int y]
theorem cG(st pl:List Int):noL (aO st pl)=true:=kZ (aK _) (aK _)
theorem pQ(x y:Int):noL (iO x y)=true:=rfl
abbrev Sta:=List Int×List Int
def goneS(h:House)(s:Sta)(i k:Nat):Option Sta:=
 if k<(cB h s.2 i).length then (behF h.bs (rQ h s.2 i k) s.1).map λr=>(r,s.2.take i++[((rQ h s.2 i k).nx:Int)]++s.2.drop (i+1)) else none
def zN:Option Sta->D
 | none=>.non
 | some s=>aO s.1 s.2
theorem mZ(s:Sta):bM (.cl (aO s.1 s.2)) (.cl (.int 0))=.ok (.cl (aE s.1)):=dG _ _ (aK _)
theorem aEi(s:Sta):bM (.cl (aO s.1 s.2)) (.cl (.int 1))=.ok (.cl (aE s.2)):=fU _ _ _ (aK _)
theorem fR(i:Nat)(h:House):Sl.val i (.sh true h.d)=.ok ⟨h.d,false,true,[]⟩:=rfl
theorem fS(h:House):bM ⟨h.d,false,true,[]⟩ (.cl (.int 2))=.ok ⟨.lst (h.hs.map aH),false,true,[]⟩:=rfl
theorem nN(h:House):bM ⟨h.d,false,true,[]⟩ (.cl (.int 0))=.ok ⟨.lst (aN h.bs),false,true,[]⟩:=rfl
theorem pR{h:House}{i:Nat}(hi:i<h.hs.length):bM ⟨.lst (h.hs.map aH),false,true,[]⟩ (.cl (.int (i:Int)))=.ok ⟨aH h.hs[i],false,true,[]⟩:=by
 have e:(h.hs.map aH)[i]? = some (aH h.hs[i]):=by simp[hi]
 unfold bM
 simp only[bB,dF (show i<(h.hs.map aH).length by rw[lM];exact hi),e]
 rfl
theorem aAN{rows:List (List Way)}{j:Nat}(hj:j<rows.length):bM ⟨aH rows,false,true,[]⟩ (.cl (.int (j:Int)))=.ok ⟨cN rows[j],false,true,[]⟩:=by
 have e:(rows.map cN)[j]? = some (cN rows[j]):=by simp[hj]
 unfold bM aH
 simp only[bB,dF (show j<(rows.map cN).length by rw[lM];exact hj),e]
 rfl
theorem aAO{row:List Way}{k:Nat}(hk:k<row.length):bM ⟨cN row,false,true,[]⟩ (.cl (.int (k:Int)))=.ok (.cl row[k].d):=by
 have e:(row.map Way.d)[k]? = some row[k].d:=by simp[hk]
 unfold bM cN
 simp only[bB,dF (show k<(row.map Way.d).length by rw[lM];exact hk),e,bT (jE _)]
theorem aEj(n:Nat){rows:List (List Way)}{j:Nat}(hj:j<rows.length):call pg (n+1) 3 [aH rows,.int (j:Int)]=.ok (cN rows[j],false,true):=by
 have hv:Sl.val 0 (.sh true (aH rows))=.ok ⟨aH rows,false,true,[]⟩:=rfl
 have tt:=zL (P:=pg) (cl:=call pg n) (σ:=[.sh true (aH rows),.sh true (.int (j:Int))]) (a:=.v 1) (b:=.bi .len (.cons (.v 0) .nil)) (x:=(j:Int)) (y:=(rows.length:Int)) rfl (by
  simp only[gX,aB,aI,bV,bH,gZ,hv,aA]
  show biD .len [⟨.lst (rows.map cN),false,true,[]⟩]=_
  rw[cK,lM])
 refine aG (F:=f3) rfl rfl (v:=⟨cN rows[j],false,true,[]⟩) ?_
 show exs pg (call pg n) [.sh true (aH rows),.sh true (.int (j:Int))] (.cons (.ret (.ife _ (.idx (.v 0) (.v 1)) _)) .nil)=_
 rw[aV,dC,yX,tt,decide_eq_true (show(0:Int)<=(j:Int) by omega),decide_eq_true (show(j:Int)<(rows.length:Int) by omega)]
 simp only[aA,Bool.and_self,if_true,cX,bV,bH,gS,gZ,hv,bC,aAN hj,aT,fJ]
theorem aAP(n:Nat){rows:List (List Way)}{j:Int}(hj:(rows.length:Int)<=j):call pg (n+1) 3 [aH rows,.int j]=.ok (.lst [],true,false):=by
 have hv:Sl.val 0 (.sh true (aH rows))=.ok ⟨aH rows,false,true,[]⟩:=rfl
 have tt:=zL (P:=pg) (cl:=call pg n) (σ:=[.sh true (aH rows),.sh true (.int j)]) (a:=.v 1) (b:=.bi .len (.cons (.v 0) .nil)) (x:=j) (y:=(rows.length:Int)) rfl (by
  simp only[gX,aB,aI,bV,bH,gZ,hv,aA]
  show biD .len [⟨.lst (rows.map cN),false,true,[]⟩]=_
  rw[cK,lM])
 refine aG (F:=f3) rfl rfl (v:=⟨.lst [],true,false,[]⟩) ?_
 show exs pg (call pg n) [.sh true (aH rows),.sh true (.int j)] (.cons (.ret (.ife _ _ (.lst .nil))) .nil)=_
 rw[aV,dC,yX,tt,decide_eq_false (show ¬ j<(rows.length:Int) by omega),Bool.and_false]
 rfl
theorem aEk(is:List Int)(lo hi:Option Int):cut (is.map D.int) lo hi=(cut is lo hi).map D.int:=by
 unfold cut
 rw[lM,List.map_take,List.map_drop]
theorem aEl(is:List Int)(lo hi:Option Int):eS (.cl (aE is)) lo hi=.ok (.cl (aE (cut is lo hi))):=by
 show R.ok (Vl.mk (.tup (cut (is.map D.int) lo hi)) false (false&&!noLs (is.map D.int)) (if noLs (is.map D.int)=true then [] else []))=_
 rw[eU,aEk];rfl
theorem wZ(a b:List Int)(h:a.length+b.length<=100):opD .Add (.cl (aE a)) (.cl (aE b))=.ok (.cl (aE (a++b))):=by
 show R.iff (decide ((a.map D.int).length+(b.map D.int).length<=lim)) (R.ok (Vl.mk (.tup (a.map D.int++b.map D.int)) false false []))=_
 rw[lM,lM,decide_eq_true (show a.length+b.length<=lim by unfold lim;omega),gE,<-List.map_append]
 rfl
theorem pS{P:Pg}{cl:Caller}{σ:Sg}{v t a:E}{pl:List Int}{i:Nat}{nx:Int}(hl:pl.length<=10)(hi:i<pl.length)(h1:ev P cl σ v=.ok (.cl (aE pl)))(h2:ev P cl σ a=.ok (.cl (.int (i:Int))))(h3:ev P cl σ t=.ok (.cl (.int nx))) :
 ev P cl σ (.op .Add (.op .Add (.sli v .nil (.cons a .nil)) (.tup (.cons t .nil))) (.sli v (.cons (.op .Add a (.c (.int 1))) .nil) .nil))=.ok (.cl (aE (pl.take i++[nx]++pl.drop (i+1)))):=by
 have sk:aM (i:Int)=true:=kW (by omega)
 have sk1:aM ((i:Int)+1)=true:=aAy (by omega) (by omega)
 have ct:=zI pl i (by omega)
 have cf:=wV pl (i+1) (by omega)
 have cf:cut pl (some ((i:Int)+1)) none=pl.drop (i+1):=cf
 have a1:=wZ (pl.take i) [nx] (by rw[List.length_take];simp only[lC,lN];omega)
 have a2:=wZ (pl.take i++[nx]) (pl.drop (i+1)) (by rw[lA,List.length_take,List.length_drop];simp only[lC,lN];omega)
 have t1:Vl.cl (.tup [.int nx])=.cl (aE [nx]):=rfl
 simp only[cR,tS,aAB,cY,aB,aI,cI,h1,h2,h3,aA,bB,sk,sk1,gE,aEl,ct,cf,add_int,aIQ,t1,a1,a2]
theorem row_fact{h:House}(H:aF h){s:Sta}(S:dH h s.1 s.2){i:Nat}(hi:i<h.hs.length):(∃(j:Nat) (hj:j<h.hs[i].length),s.2.getD i 0=(j:Int)/\cB h s.2 i=h.hs[i][j]/\∀w∈h.hs[i][j],jR h.bs.length (h.hs[i].length+1) w)\/((h.hs[i].length:Int)<=s.2.getD i 0/\cB h s.2 i=[]):=by
 obtain⟨p0,p1⟩:=S.pl i hi
 have hrows:h.hs.getD i []=h.hs[i]:=by rw[List.getD_eq_getElem?_getD,List.getElem?_eq_getElem hi];rfl
 by_cases hj:s.2.getD i 0<h.hs[i].length
 . have hj':(s.2.getD i 0).toNat<h.hs[i].length:=by omega
   refine .inl ⟨(s.2.getD i 0).toNat,hj',by omega,?_,((H.hs _ (List.getElem_mem hi)).all _ (List.getElem_mem hj')).all⟩
   unfold cB
   rw[hrows,List.getD_eq_getElem?_getD,List.getElem?_eq_getElem hj']
   rfl
 . refine .inr ⟨by omega,?_⟩
   unfold cB
   rw[hrows,List.getD_eq_getElem?_getD,List.getElem?_eq_none (by omega)]
   rfl
theorem aIU{h:House}{pl:List Int}{i k:Nat}{row:List Way}(e:cB h pl i=row)(hk:k<row.length):rQ h pl i k=row[k]:=by
 unfold rQ
 rw[e,List.getD_eq_getElem?_getD,List.getElem?_eq_getElem hk]
 rfl
theorem rR{h:House}{s:Sta}{i k:Nat}{row:List Way}(e:cB h s.2 i=row)(hk:k<row.length):goneS h s i k=(behF h.bs row[k] s.1).map λr=>(r,s.2.take i++[(row[k].nx:Int)]++s.2.drop (i+1)):=by
 unfold goneS
 rw[aIU e hk,e,if_pos hk]
theorem jG{h:House}{s:Sta}{i k:Nat}{row:List Way}(e:cB h s.2 i=row)(hk:¬ k<row.length):goneS h s i k=none:=by
 unfold goneS
 rw[e,if_neg hk]
theorem aEm(rs:List (List Way)):biD .len [⟨aH rs,false,true,[]⟩]=.ok (.cl (.int (rs.length:Int))):=(cK (rs.map cN) ..).trans (by rw[lM])
theorem uI(r:List Way):biD .len [⟨cN r,false,true,[]⟩]=.ok (.cl (.int (r.length:Int))):=(cK (r.map Way.d) ..).trans (by rw[lM])
theorem aEn{P:Pg}{cl:Caller}{σ:Sg}{a b:E}{i m:Nat}{k:Bool}(h1:ev P cl σ a=.ok (.cl (.int (i:Int))))(h2:ev P cl σ b=.ok (.cl (.int (m:Int))))(hk:decide (i<m)=k):tst P cl σ (.nt (.cmp2 .LtE .Lt (.c (.int 0)) a b))=.ok (!k):=by
 rw[lU (zL h1 h2),decide_eq_true (show(0:Int)<=(i:Int) by omega),Bool.true_and,<-hk,show decide ((i:Int)<(m:Int))=decide (i<m) from decide_eq_decide.mpr (by omega)]
abbrev gnS(h:House)(s:Sta)(i k:Nat)(t:Sg):Sg:=.sh true h.d::.sh true (aO s.1 s.2)::.sh true (iO (i:Int) (k:Int))::t
theorem aEo(n:Nat){h:House}(H:aF h){s:Sta}(S:dH h s.1 s.2){i:Nat}(hi:i<h.hs.length)(k:Nat):call pg (n+17) 4 [h.d,aO s.1 s.2,iO (i:Int) (k:Int)]=.ok (zN (goneS h s i k),false,false):=by
 have hm:h.bs.length<=5:=by have:=H.bs.few;omega
 have hpl:s.2.length<=10:=by have:=S.len;have:=H.few;omega
 have hl:i<s.2.length:=by rw[S.len];exact hi
 have v1:∀t,ev pg (call pg (n+16)) (gnS h s i k t) (.v 1)=.ok (.cl (aO s.1 s.2)):=λt=>v1_ (cG _ _)
 have s1:∀t,ev pg (call pg (n+16)) (gnS h s i k t) (.idx (.v 2) (.c (.int 1)))=.ok (.cl (.int (k:Int))):=λt=>rfl
 refine aG (F:=f4) rfl rfl (v:=.cl (zN (goneS h s i k))) ?_
 refine cs (σ':=gnS h s i k [.sh false (.int (i:Int)),.dead,.dead,.dead,.dead,.dead]) rfl (cs (bU (aEn rfl (cZ (aJ rfl rfl (fS h)) (by rw[cK,lM])) (decide_eq_true hi))) (cs (bJ (aJ (v1 _) rfl (mZ s))) (cs (bJ (aJ (v1 _) rfl (aEi s))) ?_)))
 rcases row_fact H S hi with⟨j,hj,ej,er,ow⟩|⟨hj,er⟩
 . have ip:bM (.cl (aE s.2)) (.cl (.int (i:Int)))=.ok (.cl (.int (j:Int))):=by rw[<-ej];exact fP hl
   refine cs (aDR (wN (aJ (aJ rfl rfl (fS h)) rfl (pR hi)) (aJ rfl rfl ip) (aEj (n+15) hj) rfl rfl)) ?_
   have t6:∀{q:Bool},decide (k<h.hs[i][j].length)=q->_:=λ{q} hq=>aEn (P:=pg) (cl:=call pg (n+16)) (σ:=gnS h s i k [.sh false (.int (i:Int)),.sh false (aE s.1),.sh false (aE s.2),.sh true (cN h.hs[i][j]),.dead,.dead]) (s1 _) (b:=.bi .len (.cons (.v 6) .nil)) (cZ rfl (uI _)) hq
   by_cases hk:k<h.hs[i][j].length
   . have o:=ow _ (List.getElem_mem hk)
     have iw:=aAO hk
     rw[rR er hk]
     generalize h.hs[i][j][k]=w at o iw
     refine cs (bU (t6 (decide_eq_true hk))) (cs (bJ (aJ rfl (s1 _) iw)) (cs (bJ (bL (aJ rfl rfl (nN h)) rfl rfl (zM n S.st hm o))) ?_))
     cases behF h.bs w s.1 with
     | none=>exact cM rfl (bG rfl)
     | some r=>exact cs (bU rfl) (bG (dM rfl (pS hpl hl rfl rfl (aJ rfl rfl (aEh w)))))
   . rw[jG er hk]
     exact cM (t6 (decide_eq_false hk)) (bG rfl)
 . have e6:=mF (P:=pg) (cl:=call pg (n+16)) (σ:=gnS h s i k [.sh false (.int (i:Int)),.sh false (aE s.1),.sh false (aE s.2),.dead,.dead,.dead]) (i:=6) (lD (f:=3) (aJ (a:=.idx (.v 0) (.c (.int 2))) (b:=.v 3) (aJ rfl rfl (fS h)) rfl (pR hi)) (aJ (a:=.v 5) (b:=.v 3) rfl rfl (fP hl)) (aAP (n+15) hj))
   rw[jG er (Nat.not_lt_zero k)]
   exact cs e6 (cM (aEn (k:=false) (s1 _) (m:=0) rfl (decide_eq_false (Nat.not_lt_zero k))) (bG rfl))
abbrev goB:Ss:=match hdS (drp 7 f18.body) with|.for _ _ b=>b|_=>.nil
theorem xA(n:Nat){h:House}(H:aF h){s:Sta}(S:dH h s.1 s.2){i:Nat}(hi:i<h.hs.length)(k:Nat):call pg (n+16) 18 [h.d,aO s.1 s.2,iO (i:Int) (k:Int)]=.ok (zN (goneS h s i k),false,false):=by
 have hm:h.bs.length<=5:=by have:=H.bs.few;omega
 have hpl:s.2.length<=10:=by have:=S.len;have:=H.few;omega
 have hl:i<s.2.length:=by rw[S.len];exact hi
 have s0:∀t,ev pg (call pg (n+15)) (gnS h s i k t) (.idx (.v 2) (.c (.int 0)))=.ok (.cl (.int (i:Int))):=λt=>rfl
 have s1:∀t,ev pg (call pg (n+15)) (gnS h s i k t) (.idx (.v 2) (.c (.int 1)))=.ok (.cl (.int (k:Int))):=λt=>rfl
 have ip:=fP hl
 refine aG (F:=f18) rfl rfl (v:=.cl (zN (goneS h s i k))) ?_
 refine cs (σ':=gnS h s i k [.sh false (aE s.1),.sh false (aE s.2),.dead,.dead,.dead,.dead,.dead,.dead,.dead]) (aDQ (v1_ (cG _ _)) (mX _ (aK _) (aK _))) (cs (bU (aEn (s0 _) (cZ rfl ((aFU _).trans (by rw[lM,S.len]))) (decide_eq_true hi))) (cs (aDR (aJ (aJ rfl rfl (fS h)) (s0 _) (pR hi))) ?_))
 have tp:=gW (P:=pg) (cl:=call pg (n+15)) (σ:=gnS h s i k [.sh false (aE s.1),.sh false (aE s.2),.sh true (aH h.hs[i]),.dead,.dead,.dead,.dead,.dead,.dead]) (aJ (a:=.v 4) rfl (s0 _) ip) (b:=.bi .len (.cons (.v 5) .nil)) (cZ rfl (aEm _)) (aIN ..)
 rcases row_fact H S hi with⟨j,hj,ej,er,ow⟩|⟨hj,er⟩
 . rw[ej] at ip
   rw[ej,decide_eq_false (by omega)] at tp
   have ir:∀t,ev pg (call pg (n+15)) (gnS h s i k (.sh false (aE s.1)::.sh false (aE s.2)::.sh true (aH h.hs[i])::t)) (.idx (.v 5) (.idx (.v 4) (.idx (.v 2) (.c (.int 0)))))=.ok ⟨cN h.hs[i][j],false,true,[]⟩:=λt=>aJ rfl (aJ rfl (s0 _) ip) (aAN hj)
   have t6:∀{q:Bool},decide (k<h.hs[i][j].length)=q->_:=λ{q} hq=>aLN tp (aEn (s1 _) (cZ (ir _) (uI _)) hq)
   by_cases hk:k<h.hs[i][j].length
   . have o:=ow _ (List.getElem_mem hk)
     have iw:=aAO hk
     rw[rR er hk]
     generalize h.hs[i][j][k]=w at o iw
     have t:=lU (lB (P:=pg) (σ:=gnS h s i k [.sh false (aE s.1),.sh false (aE s.2),.sh true (aH h.hs[i]),.sh false w.g.d,.sh false (.tup (w.ps.map cU)),.sh false (.int w.nx),.dead,.dead,.dead]) (a:=.v 6) (x:=.cl w.g.d) rfl (b:=.v 3) (y:=.cl (aE s.1)) rfl (c:=.c .non) (z:=.cl .non) rfl (pP n S.st o.g o.gs))
     refine cs (bU (t6 (decide_eq_true hk))) (cs (aDQ (aJ (ir _) (s1 _) iw) (aLL _ (Cn.noL _) (wY _) rfl)) ?_)
     unfold behF
     cases hh:w.g.hold s.1 s.1 with
     | false=>
      rw[hh] at t
      exact cM t (bG rfl)
     | true=>
      rw[hh] at t
      refine cs (bU t) (cs (mF (cZ rfl (wP s.1))) ?_)
      have hw:walk pg (call pg (n+15)) (gnS h s i k [.sh false (aE s.1),.sh false (aE s.2),.sh true (aH h.hs[i]),.sh false w.g.d,.sh false (.tup (w.ps.map cU)),.sh false (.int w.nx),.own false (s.1.map D.int),.dead,.dead]) (.seq (.v 7))=.ok (w.ps.map (λp=>Vl.cl (cU p)),[]):=by
       rw[cO,<-kG (v:=.cl (.tup (w.ps.map cU)))];rfl
      rcases put_loop (bs:=h.bs) (st:=s.1) (f:=λσ x=>O.from σ (cC σ x (.t [10,11])) λσ'=>exs pg (call pg (n+15)) σ' goB) (λacc σ=>∃s10 s11,σ=gnS h s i k [.sh false (aE s.1),.sh false (aE s.2),.sh true (aH h.hs[i]),.sh false w.g.d,.sh false (.tup (w.ps.map cU)),.sh false (.int w.nx),.own false (acc.map D.int),s10,s11]) (λacc σ p hσ o ha=>by
       obtain⟨s10,s11,rfl⟩:=hσ
       have cv:=aBQ (n+12) S.st o.wf o.sz
       obtain⟨b,b1,b2,b3⟩:=aAM (bs:=h.bs) (k:=p.1) o.box
       simp only[cU,mX _ (show noL (.int (p.1:Int))=true from rfl) p.2.noL,aT]
       generalize p.2.val s.1 s.1=v at cv
       have hb:p.1<(acc.set p.1 v).length:=by rw[List.length_set,ha];exact o.box
       have ig:bM ⟨.lst ((acc.set p.1 v).map D.int),false,false,[9]⟩ (.cl (.int (p.1:Int)))=.ok (.cl (.int v)):=by
        rw[aAC (is:=acc.set p.1 v) rfl hb,show(acc.set p.1 v).getD p.1 0=v by simp[ha,o.box]]
       have tt:=lU (aEd (P:=pg) (cl:=call pg (n+15)) (σ:=gnS h s i k [.sh false (aE s.1),.sh false (aE s.2),.sh true (aH h.hs[i]),.sh false w.g.d,.sh false (.tup (w.ps.map cU)),.sh false (.int w.nx),.own false ((acc.set p.1 v).map D.int),.sh false (.int p.1),.sh false p.2.d]) (a:=.idx (.v 9) (.v 10)) (b:=.idx (.idx (.idx (.v 0) (.c (.int 0))) (.v 10)) (.c (.int 1))) (x:=v) (y:=uH h.bs p.1) (aJ rfl rfl ig) (aJ (aJ (aJ rfl rfl (nN h)) rfl b2) rfl b3))
       have e1:=aAF (P:=pg) (cl:=call pg (n+15)) (σ:=gnS h s i k [.sh false (aE s.1),.sh false (aE s.2),.sh true (aH h.hs[i]),.sh false w.g.d,.sh false (.tup (w.ps.map cU)),.sh false (.int w.nx),.own false (acc.map D.int),.sh false (.int p.1),.sh false p.2.d]) (i:=9) (j:=p.1) (k:=.v 10) (e:=.call 15 (.cons (.v 11) (.cons (.v 3) (.cons (.c .non) .nil)))) (bL rfl rfl rfl cv) rfl rfl (by rw[ha];exact o.box) (by omega)
       split
       . rename_i hv
         rw[aLP hv] at tt
         exact⟨_,cs e1 (cs (bU tt) (aL ..)),_,_,rfl⟩
       . rename_i hv
         rw[aLO hv] at tt
         exact cs e1 (cM tt (bG rfl))) w.ps s.1 _ o.ps S.st ⟨_,_,rfl⟩ with⟨e1,e2⟩|⟨r,σ',e1,e2,s10,s11,rfl⟩
      . rw[if_pos rfl,e1]
        exact aIP ((uC hw).trans e2)
      . rw[if_pos rfl,e1]
        exact cs ((uC hw).trans e2) (bG (dM (cZ rfl (uE 9 (eU r))) (pS hpl hl rfl (s0 _) rfl)))
   . rw[jG er hk]
     exact cM (t6 (decide_eq_false hk)) (bG rfl)
 . rw[decide_eq_true hj] at tp
   rw[jG er (Nat.not_lt_zero k)]
   exact cM (aLM tp) (bG rfl)
def LB(n b:Nat)(l:List Int):Prop:=l.length=n/\∀x∈l,0<=x/\x<(b:Int)
def UL(b:Nat):Nat->List (List Int)
 | 0=>[[]]
 | n+1=>(List.range b).flatMap λ(v:Nat)=>(UL b n).map λl=>(v:Int)::l
theorem zO(b:Nat):∀n,(UL b n).length=b ^ n
 | 0=>rfl
 | n+1=>by
  have:∀l:List Nat,(l.flatMap λ(v:Nat)=>(UL b n).map λl=>(v:Int)::l).length=l.length*b ^ n:=λl=>by
   induction l with
   | nil=>simp
   | cons a l ih=>rw[List.flatMap_cons,lA,ih,lM,zO b n,lC,Nat.succ_mul,Nat.add_comm]
  rw[UL,this,List.length_range,Nat.pow_succ,Nat.mul_comm]
theorem zP{b:Nat}:∀{n:Nat} {l:List Int},LB n b l->l∈UL b n
 | 0,l,h=>by rw[List.eq_nil_of_length_eq_zero h.1];exact List.mem_singleton.mpr rfl
 | n+1,[],h=>by cases h.1
 | n+1,x::l,h=>by
  obtain⟨h1,h2⟩:=h
  have hx:=h2 x (by simp)
  have hb:x.toNat<b:=by omega
  refine List.mem_flatMap.mpr ⟨x.toNat,List.mem_range.mpr hb,List.mem_map.mpr ⟨l,zP ⟨by simpa using h1,λy hy=>h2 y (List.mem_cons_of_mem _ hy)⟩,?_⟩⟩
  rw[Int.toNat_of_nonneg hx.1]
theorem xB{α:Type}[DecidableEq α]:∀(l U:List α),l.Nodup->(∀x∈l,x∈U)->l.length<=U.length
 | [],_,_,_=>Nat.zero_le _
 | a::l,U,hn,h=>by
  obtain⟨h1,h2⟩:=List.nodup_cons.mp hn
  have ha:=h a (by simp)
  have:=xB l (U.erase a) h2 λx hx=>(List.mem_erase_of_ne (λ(z:x=a)=>h1 (by rw[<-z];exact hx))).mpr (h x (List.mem_cons_of_mem _ hx))
  rw[List.length_erase_of_mem ha] at this
  have:=List.length_pos_of_mem ha
  rw[lC]
  omega
structure nE (h:House) (s:Sta):Prop where
 ok:dH h s.1 s.2
 st:LB h.bs.length 8 s.1
 pl:LB h.hs.length 4 s.2
def US(h:House):List Sta:=(UL 8 h.bs.length).flatMap λa=>(UL 4 h.hs.length).map λb=>(a,b)
theorem aIV{h:House}{s:Sta}(g:nE h s):s∈US h:=List.mem_flatMap.mpr ⟨s.1,zP g.st,List.mem_map.mpr ⟨s.2,zP g.pl,rfl⟩⟩
theorem aIW{h:House}(H:aF h):(US h).length<=262144:=by
 have:∀l:List (List Int),(l.flatMap λa=>(UL 4 h.hs.length).map λb=>(a,b)).length=l.length*4 ^ h.hs.length:=λl=>by
  induction l with
  | nil=>simp
  | cons a l ih=>rw[List.flatMap_cons,lA,ih,lM,zO,lC,Nat.succ_mul,Nat.add_comm]
 unfold US
 rw[this,zO]
 have h1:8 ^ h.bs.length<=8 ^ 4:=Nat.pow_le_pow_right (by decide) H.bs.few
 have h2:4 ^ h.hs.length<=4 ^ 3:=Nat.pow_le_pow_right (by decide) H.few
 exact Nat.le_trans (Nat.mul_le_mul h1 h2) (by decide)
theorem aGd{bs:List (Str×Int)}(o:zA bs)(k:Nat):uH bs k<=7:=by
 unfold uH
 rw[List.getD_eq_getElem?_getD,List.getElem?_map]
 cases e:bs[k]? with
 | none=>decide
 | some b=>exact(o.one b (mG e)).2
theorem aAQ{bs:List (Str×Int)}(o:zA bs){st:List Int}:∀{ps:List (Nat×Sm)} {acc r:List Int},sH bs st acc ps=some r->LB bs.length 8 acc->LB bs.length 8 r
 | [],acc,r,h,b=>by cases h;exact b
 | p::ps,acc,r,h,b=>by
  rw[sH] at h
  split at h
  . rename_i hc
    refine aAQ o h ⟨by rw[List.length_set];exact b.1,λx hx=>?_⟩
    rcases List.mem_or_eq_of_mem_set hx with z|z
    . exact b.2 x z
    . have:=aGd o p.1
      rw[z];omega
  . cases h
theorem mem3{l:List Int}{i:Nat}{a x:Int}(h:x∈l.take i++[a]++l.drop (i+1)):x∈l\/x=a:=by
 rcases List.mem_append.mp h with z|z
 . rcases List.mem_append.mp z with z|z
   . exact .inl (List.mem_of_mem_take z)
   . exact .inr (List.mem_singleton.mp z)
 . exact .inl (List.mem_of_mem_drop z)
theorem aLS{l:List Int}{i:Nat}(hi:i<l.length)(a:Int):(l.take i++[a]++l.drop (i+1)).length=l.length:=by
 rw[lA,lA,List.length_take,List.length_drop,List.length_singleton]
 omega
theorem aNF{l:List Int}{i j:Nat}(hi:i<l.length)(a:Int):(l.take i++[a]++l.drop (i+1)).getD j 0=if j=i then a else l.getD j 0:=by
 have e:l.take i++[a]++l.drop (i+1)=l.set i a:=by
  rw[List.set_eq_take_append_cons_drop,if_pos hi,List.append_assoc];rfl
 rw[e,List.getD_eq_getElem?_getD,List.getElem?_set,List.getD_eq_getElem?_getD]
 by_cases hj:i=j
 . rw[if_pos hj,if_pos hj.symm,if_pos hi];rfl
 . rw[if_neg hj,if_neg (Ne.symm hj)]
theorem aEp{h:House}{s:Sta}(S:dH h s.1 s.2){i:Nat}(hi:i<h.hs.length)(hr:0<(cB h s.2 i).length):∃r∈h.hs[i],cB h s.2 i=r:=by
 have hg:h.hs.getD i []=h.hs[i]:=by rw[List.getD_eq_getElem?_getD,List.getElem?_eq_getElem hi];rfl
 unfold cB at hr ⊢
 rw[hg] at hr ⊢
 rw[List.getD_eq_getElem?_getD] at hr ⊢
 cases e:h.hs[i][(s.2.getD i 0).toNat]? with
 | none=>rw[e] at hr;exact absurd hr (by decide)
 | some r=>exact⟨r,mG e,rfl⟩
theorem mJ{h:House}(H:aF h){s s':Sta}(g:nE h s){i k:Nat}(hi:i<h.hs.length)(e:goneS h s i k=some s'):nE h s':=by
 unfold goneS at e
 split at e
 . rename_i hk
   obtain⟨r,er,rfl⟩:=Option.map_eq_some_iff.mp e
   obtain⟨row,hrow,er2⟩:=aEp g.ok hi (by omega)
   have hw:jR h.bs.length (h.hs[i].length+1) (rQ h s.2 i k):=by
    have ho:=(H.hs _ (List.getElem_mem hi)).all row hrow
    refine ho.all _ ?_
    unfold rQ
    rw[List.getD_eq_getElem?_getD,List.getElem?_eq_getElem hk]
    show(cB h s.2 i)[k]∈row
    rw[<-er2];exact List.getElem_mem hk
   have hnx:=hw.nx
   have hf:=(H.hs _ (List.getElem_mem hi)).few
   have hl:i<s.2.length:=by rw[g.ok.len];exact hi
   have hst:LB h.bs.length 8 r:=by
    unfold behF at er
    split at er
    . exact aAQ H.bs.tops er g.st
    . cases er
   refine⟨⟨hst.1,(aLS hl _).trans g.ok.len,λj hj=>?_⟩,hst,(aLS hl _).trans g.ok.len,λx hx=>?_⟩
   . show 0<=(_++_++_:List Int).getD j 0/\(_++_++_:List Int).getD j 0<=_
     rw[aNF hl]
     split
     . rename_i z;subst z;omega
     . exact g.ok.pl j hj
   . rcases mem3 hx with z|z
     . exact g.pl.2 x z
     . rw[z];omega
 . cases e
structure Rw where
 s:Sta
 p:Option (Nat×Nat×Nat)
def Rw.d(r:Rw):D:=.tup [aO r.s.1 r.s.2,(match r.p with|none=>.non|some x=>.int (x.1:Int)),(match r.p with|none=>.non|some x=>iO (x.2.1:Int) (x.2.2:Int))]
def add1(p i k:Nat)(o:Option Sta)(acc:List Rw):List Rw:=match o with
 | none=>acc
 | some s=>if s∈acc.map (·.s) then acc else acc++[⟨s,some (p,i,k)⟩]
def expK(h:House)(p:Nat)(s:Sta)(i:Nat)(m:Nat)(acc:List Rw):List Rw:=(List.range m).foldl (λacc k=>add1 p i k (goneS h s i k) acc) acc
def expA(h:House)(p:Nat)(s:Sta)(m:Nat)(acc:List Rw):List Rw:=(List.range m).foldl (λacc i=>expK h p s i 4 acc) acc
theorem eO(h:House)(p:Nat)(s:Sta)(i m:Nat)(acc:List Rw):expK h p s i (m+1) acc=add1 p i m (goneS h s i m) (expK h p s i m acc):=by
 unfold expK;rw[List.range_succ,List.foldl_append];rfl
theorem fE(h:House)(p:Nat)(s:Sta)(m:Nat)(acc:List Rw):expA h p s (m+1) acc=expK h p s m 4 (expA h p s m acc):=by
 unfold expA;rw[List.range_succ,List.foldl_append];rfl
def bfs(h:House):Nat->Nat->List Rw->List Rw
 | 0,_,acc=>acc
 | n+1,p,acc=>match acc[p]? with
  | some r=>bfs h n (p+1) (expA h p r.s h.hs.length acc)
  | none=>acc
def cW(h:House):List (List Int):=(aQ h.bs).filter λs=>h.bg.hold s s
def zeros(h:House):List Int:=List.replicate h.hs.length 0
def cH(h:House):List Rw:=(cW h).map λs=>⟨(s,zeros h),none⟩
def aW(h:House):List Rw:=bfs h fZ 0 (cH h)
theorem kH{h:House}(H:aF h):(aQ h.bs).length<=24:=by
 have h1:=(pB H.bs.tops h.bs.length (Nat.le_refl _)).1
 rw[List.take_length] at h1
 have:=H.bs.tops.room
 unfold kX at h1
 omega
theorem mK{h:House}(H:aF h):(cH h).length<=24:=by
 unfold cH cW
 rw[lM]
 exact Nat.le_trans (List.length_filter_le _ _) (kH H)
structure RI (h:House) (acc:List Rw):Prop where
 good:∀r∈acc,nE h r.s
 len:(cH h).length<=acc.length
 nd:((acc.drop (cH h).length).map (·.s)).Nodup
theorem RI.few{h:House}(H:aF h){acc:List Rw}(I:RI h acc):acc.length<=300000:=by
 have h1:=xB _ (US h) I.nd λx hx=>by
  obtain⟨r,hr,rfl⟩:=List.mem_map.mp hx
  exact aIV (I.good r (List.mem_of_mem_drop hr))
 have h2:=aIW H
 have h3:=mK H
 rw[lM,List.length_drop] at h1
 omega
theorem RI.add1{h:House}{acc:List Rw}(I:RI h acc){p i k:Nat}{o:Option Sta}(ho:∀s,o=some s->nE h s):RI h (add1 p i k o acc):=by
 cases o with
 | none=>exact I
 | some s=>
  unfold K57.add1
  show RI h (if _ then _ else _)
  split
  . exact I
  . rename_i hs
    refine⟨λr hr=>?_,?_,?_⟩
    . rcases List.mem_append.mp hr with z|z
      . exact I.good r z
      . rw[List.mem_singleton.mp z];exact ho s rfl
    . rw[lA];exact Nat.le_trans I.len (Nat.le_add_right _ _)
    . rw[List.drop_append_of_le_length I.len,List.map_append,List.nodup_append]
      refine⟨I.nd,by simp,λa ha b hb=>?_⟩
      have hb:b=s:=by simpa using hb
      obtain⟨r,hr,rfl⟩:=List.mem_map.mp ha
      rw[hb]
      exact λz=>hs (List.mem_map.mpr ⟨r,List.mem_of_mem_drop hr,z⟩)
theorem RI.expK{h:House}(H:aF h){s:Sta}(g:nE h s)(p:Nat){i:Nat}(hi:i<h.hs.length){acc:List Rw}(I:RI h acc):∀m,RI h (expK h p s i m acc)
 | 0=>I
 | m+1=>by rw[eO];exact(RI.expK H g p hi I m).add1 λs' e=>mJ H g hi e
theorem RI.expA{h:House}(H:aF h){s:Sta}(g:nE h s)(p:Nat){acc:List Rw}(I:RI h acc):∀m,m<=h.hs.length->RI h (expA h p s m acc)
 | 0,_=>I
 | m+1,hm=>by rw[fE];exact(RI.expA H g p I m (by omega)).expK H g p (by omega) 4
theorem xC{bs:List (Str×Int)}(o:zA bs):∀i,i<=bs.length->∀s∈aQ (bs.take i),LB i 8 s
 | 0,_,s,hs=>by
  have:s=[]:=by simpa[aQ] using hs
  rw[this];exact⟨rfl,λx hx=>by cases hx⟩
 | i+1,hi,s,hs=>by
  rw[fC (show i<bs.length by omega)] at hs
  obtain⟨b,hb,hx⟩:=List.mem_flatMap.mp hs
  obtain⟨v,hv,rfl⟩:=List.mem_map.mp hx
  have g:=xC o i (by omega) b hb
  have t:=(o.one _ (List.getElem_mem (show i<bs.length by omega))).2
  have hv:=List.mem_range.mp hv
  refine⟨by rw[lA,g.1];rfl,λx hx=>?_⟩
  rcases List.mem_append.mp hx with z|z
  . exact g.2 x z
  . rw[List.mem_singleton.mp z];omega
theorem RI.zero{h:House}(H:aF h):RI h (cH h) where
 good:=λr hr=>by
  obtain⟨s,hs,rfl⟩:=List.mem_map.mp hr
  have hs:=(List.mem_filter.mp hs).1
  have g:=xC H.bs.tops h.bs.length (Nat.le_refl _) s (by rw[List.take_length];exact hs)
  have hz:∀x∈zeros h,x=0:=λx hx=>List.eq_of_mem_replicate hx
  refine⟨⟨g.1,List.length_replicate,λi hi=>?_⟩,g,List.length_replicate,λx hx=>by rw[hz x hx];decide⟩
  have e:(zeros h).getD i 0=0:=by unfold zeros;rw[List.getD_eq_getElem?_getD,List.getElem?_replicate,if_pos hi];rfl
  show 0<=(zeros h).getD i 0/\(zeros h).getD i 0<=_
  rw[e];omega
 len:=Nat.le_refl _
 nd:=by rw[List.drop_length];exact List.nodup_nil
def kOf(s:Sta):List (List Int):=[s.1,s.2]
theorem aGe{s t:Sta}(h:kOf s=kOf t):s=t:=by
 unfold kOf at h
 simp only[List.cons.injEq,and_true] at h
 exact Prod.ext h.1 h.2
theorem pT:∀l:List Int,lQ (l.map D.int)=some l
 | []=>rfl
 | x::l=>by rw[mC,lQ,pT l]
theorem gR(s:Sta):lR (aO s.1 s.2)=some (kOf s):=by
 unfold aO lR aE
 simp only[qY,pT]
 rfl
structure KR (ks:List (List (List Int)×D)) (acc:List Rw):Prop where
 mem:∀s:Sta,kOf s∈ks.map (·.1)↔s∈acc.map (·.s)
 len:ks.length<=acc.length
abbrev tk(k:List (List Int)):List (List Int)×D:=(k,.bl true)
theorem aBR(ks:List (List (List Int)×D))(k:List (List Int)×D):(eL ks k).map (·.1)=if k.1∈ks.map (·.1) then ks.map (·.1) else ks.map (·.1)++[k.1]:=by
 unfold eL
 split
 . rw[List.map_map]
   refine List.map_congr_left λx _=>?_
   show(if x.1=k.1 then _ else _:List (List Int)×D).1=_
   split <;> rfl
 . rw[List.map_append];rfl
theorem aEq(ks:List (List (List Int)×D))(k:List (List Int)×D):(eL ks k).length<=ks.length+1:=by
 unfold eL
 split
 . rw[lM];omega
 . rw[lA];exact Nat.le_refl _
theorem KR.add{ks:List (List (List Int)×D)}{acc:List Rw}(K:KR ks acc){s:Sta}{x:Option (Nat×Nat×Nat)}:KR (eL ks (tk (kOf s))) (acc++[⟨s,x⟩]) where
 mem:=λt=>by
  rw[aBR,List.map_append,List.mem_append]
  have e:t∈[(⟨s,x⟩:Rw)].map (·.s)↔t=s:=by simp
  rw[e]
  split
  . rename_i hs
    refine⟨λz=>.inl ((K.mem t).mp z),λz=>?_⟩
    rcases z with z|z
    . exact(K.mem t).mpr z
    . rw[z];exact hs
  . rw[List.mem_append,K.mem t,List.mem_singleton]
    exact⟨λz=>z.imp id aGe,λz=>z.imp id λz=>by rw[z]⟩
 len:=by
  rw[lA]
  exact Nat.le_trans (aEq _ _) (Nat.add_le_add K.len (Nat.le_refl _))
theorem KR.dec{ks:List (List (List Int)×D)}{acc:List Rw}(K:KR ks acc)(s:Sta):decide (kOf s∈ks.map (·.1))=decide (s∈acc.map (·.s)):=decide_eq_decide.mpr (K.mem s)
section
variable {P:Pg} {cl:Caller} {σ:Sg}
theorem aEr(a:E)(j:Nat):tst P cl σ (.dnin a j)=(ev P cl σ a >>= λx=>match σ[j]?,lR x.d with|some (.dct ks),some k=>.ok (!decide (k∈ks.map (·.1)))|_,_=>.bad):=id rfl
theorem aAR(i:Nat)(e:E):ex P cl σ (.dput i e)=O.from σ (ev P cl σ e) λv=>match σ[i]?,lR v.d with
 | some (.dct ks),some k=>if ks.length<lim then .next (σ.set i (.dct (eL ks (k,.bl true)))) else .bad
 | _,_=>.bad:=id rfl
theorem aEs(i:Nat)(e:E):ex P cl σ (.dfrom i e)=O.from σ (ev P cl σ e) λv=>match v.fr,v.d with
 | true,.lst ds=>(match gL ds with
  | some ks=>.next (σ.set i (.dct (ks.foldl eL [])))
  | none=>.bad)
 | _,_=>.bad:=id rfl
theorem uJ(c:E)(b:Ss):ex P cl σ (.whl c b)=fA (λσ=>tst P cl σ c) (λσ=>exs P cl σ b) fZ σ:=id rfl
theorem xD{t:Sg->R Bool}{f:Sg->O}(n:Nat)(h:t σ=.ok false):fA t f (n+1) σ=.next σ:=by
 show O.from σ (t σ) _=_
 rw[h];rfl
theorem xE{t:Sg->R Bool}{f:Sg->O}{σ':Sg}(n:Nat)(h:t σ=.ok true)(hf:f σ=.next σ'):fA t f (n+1) σ=fA t f n σ':=by
 show O.from σ (t σ) _=_
 rw[h]
 show(match f σ with|.next σ'=>fA t f n σ'|.cnt σ'=>fA t f n σ'|.brk σ'=>.next σ'|o=>o)=_
 rw[hf]
end
theorem uK{h:House}(H:aF h){t:Sg->R Bool}{f:Sg->O}(W:Nat->List Rw->Sg->Prop)(ht:∀p acc σ,W p acc σ->t σ=.ok (decide (p<acc.length)))
 (hf:∀p acc σ (r:Rw),W p acc σ->acc[p]? = some r->RI h acc->∃σ',f σ=.next σ'/\W (p+1) (expA h p r.s h.hs.length acc) σ') :
 ∀(n p:Nat) (acc:List Rw) (σ:Sg),W p acc σ->RI h acc->p<=acc.length->300001<=n+p->∃p' σ',fA t f n σ=.next σ'/\W p' (bfs h n p acc) σ'/\RI h (bfs h n p acc)
 | 0,p,acc,σ,w,I,hp,hn=>by
  have:=I.few H
  omega
 | n+1,p,acc,σ,w,I,hp,hn=>by
  have e:=ht p acc σ w
  cases q:acc[p]? with
  | none=>
   have hl:acc.length<=p:=List.getElem?_eq_none_iff.mp q
   rw[decide_eq_false (by omega)] at e
   have eb:bfs h (n+1) p acc=acc:=by rw[bfs,q]
   rw[eb]
   exact⟨p,σ,xD n e,w,I⟩
  | some r=>
   have hl:p<acc.length:=(List.getElem?_eq_some_iff.mp q).1
   rw[decide_eq_true hl] at e
   obtain⟨σ',e',w'⟩:=hf p acc σ r w q I
   have I':=RI.expA H (I.good r (mG q)) p I h.hs.length (Nat.le_refl _)
   have eb:bfs h (n+1) p acc=bfs h n (p+1) (expA h p r.s h.hs.length acc):=by rw[bfs,q]
   rw[eb,xE n e e']
   refine uK H W ht hf n (p+1) _ σ' w' I' ?_ (by omega)
   have grow:∀(i k:Nat) (o:Option Sta) (acc:List Rw),acc.length<=(add1 p i k o acc).length:=λi k o acc=>by
    cases o with
    | none=>exact Nat.le_refl _
    | some s=>
     unfold K57.add1
     show _<=(if _ then _ else _:List Rw).length
     split
     . exact Nat.le_refl _
     . rw[lA];exact Nat.le_add_right _ _
   have gK:∀(i m:Nat) (acc:List Rw),acc.length<=(expK h p r.s i m acc).length:=λi m acc=>by
    induction m with
    | zero=>exact Nat.le_refl _
    | succ m ih=>rw[eO];exact Nat.le_trans ih (grow _ _ _ _)
   have gA:∀(m:Nat) (acc:List Rw),acc.length<=(expA h p r.s m acc).length:=λm acc=>by
    induction m with
    | zero=>exact Nat.le_refl _
    | succ m ih=>rw[fE];exact Nat.le_trans ih (gK _ _ _)
   exact Nat.le_trans hl (gA _ _)
theorem aIX(v d:D):Vl.sub (.cl v) d=.cl d:=by unfold Vl.sub;split <;> rfl
theorem mL{α:Type}(z:α)(f:α->D):∀(xs:List α) (j:Int),eA j (xs.map f)=(List.range xs.length).map λ(k:Nat)=>.tup [.int (j+(k:Int)),f (xs.getD k z)]
 | [],_=>rfl
 | x::xs,j=>by
  rw[mC,eA,mL z f xs (j+1),lC,List.range_succ_eq_map,mC,List.map_map]
  refine congr (congrArg _ (by simp)) (List.map_congr_left λk _=>?_)
  have:j+1+(k:Int)=j+((k+1:Nat):Int):=by omega
  simp only[Function.comp,this,List.getD_cons_succ]
theorem aEt{ds:List D}(h:noLs ds=true):biD .tuple [⟨.lst ds,true,false,[]⟩]=.ok (.cl (.tup ds)):=by
 show R.ok (Vl.mk (.tup ds) false (false&&!noLs ds) (if noLs ds=true then [] else []))=_
 rw[h];rfl
theorem rS{h:House}(H:aF h){s:List Int}(hs:s∈aQ h.bs):s.length=h.bs.length:=by
 have:=(pB H.bs.tops h.bs.length (Nat.le_refl _)).2
 rw[List.take_length] at this
 exact this s hs
theorem uL(n:Nat){h:House}(H:aF h):call pg (n+16) 21 [.lst (aN h.bs),h.bg.d]=.ok (.lst ((cW h).map aE),true,false):=by
 have cs:=rK (P:=pg) (f:=6) rfl (n+14) H.bs.tops
 have v1:=jB 1 true h.bg.noL
 have hw:walk pg (call pg (n+15)) [.sh true (.lst (aN h.bs)),.sh true h.bg.d] (.seq (.call 6 (.cons (.v 0) .nil)))=.ok ((aQ h.bs).map (λs=>Vl.cl (aE s)),[]):=by
  simp only[cO,aU,aB,aI,bV,bH,gZ,gQ,aA,mC,mN,bB,cs,tZ,eG]
 have hc:=uA (P:=pg) (k:=1) (caps:=[1]) (T:=.n 0) (c:=.call 1 (.cons (.v 1) (.cons (.v 0) (.cons (.c .non) .nil)))) (elt:=.v 0) (λs=>Vl.cl (aE s)) aE (λs=>h.bg.hold s s) aK hw (Nat.le_trans (kH H) (by decide)) λs hs=>by
  have ch:=pO n (rS H hs) H.bg.1 H.bg.2
  refine⟨[.sh false (aE s),.sh true h.bg.d],by simp[bI,dP],?_,?_⟩
  . simp only[iF,aB,aI,bV,cI,bH,gS,gZ,v1,cP,aA,mC,mN,bB,ch,cE,aDN]
  . simp only[bV,bH,gZ,cP]
 refine aG (F:=f21) rfl rfl (v:=⟨.lst ((cW h).map aE),true,false,[]⟩) ?_
 show exs pg (call pg (n+15)) [.sh true (.lst (aN h.bs)),.sh true h.bg.d] (.cons (.ret _) .nil)=_
 rw[aV,dC,hc]
 rfl
theorem pU(n:Nat){h:House}(H:aF h)(s:List Int):call pg (n+1) 22 [h.d,aE s]=.ok (aO s (zeros h),false,false):=by
 have v0:=fR 0 h
 have v1:=jB 1 true (aK s)
 have hw:walk pg (call pg n) [.sh true h.d,.sh true (aE s)] (.seq (.idx (.v 0) (.c (.int 2))))=.ok (h.hs.map (λx=>Vl.sub ⟨.lst (h.hs.map aH),false,true,[]⟩ (aH x)),[]):=by
  simp only[cO,cX,bV,cI,bH,gZ,v0,aA,fS]
  unfold items
  rw[List.map_map]
  rfl
 have hc:=iI (P:=pg) (k:=1) (caps:=[]) (T:=.n 0) (elt:=.c (.int 0)) (λx=>Vl.sub ⟨.lst (h.hs.map aH),false,true,[]⟩ (aH x)) (λ_=>.int 0) (λ_=>rfl) hw (by have:=H.few;unfold lim;omega) λt ht=>⟨_,rfl,rfl⟩
 have ez:h.hs.map (λ_=>D.int 0)=(zeros h).map D.int:=by
  unfold zeros
  rw[List.map_const',List.map_replicate]
 rw[ez] at hc
 refine aG (F:=f22) rfl rfl (v:=.cl (aO s (zeros h))) ?_
 show exs pg (call pg n) [.sh true h.d,.sh true (aE s)] (.cons (.ret (.tup (.cons (.v 1) (.cons (.bi .tuple (.cons _ .nil)) .nil)))) .nil)=_
 rw[aV,dC,cY,aB,bV]
 simp only[bH,gS,gZ,v1,aA,aB,aI,gX,hc,aEt (eU _),wR,aT,fJ]
 rfl
def goG(h:House)(s:Sta)(i m:Nat):List ((Nat×Nat)×Sta):=(List.range m).filterMap λk=>(goneS h s i k).map λt=>((i,k),t)
def goL(h:House)(s:Sta)(m:Nat):List ((Nat×Nat)×Sta):=(List.range m).flatMap λi=>goG h s i (cB h s.2 i).length
def goD(g:(Nat×Nat)×Sta):D:=.tup [iO (g.1.1:Int) (g.1.2:Int),aO g.2.1 g.2.2]
theorem pV(h:House)(s:Sta)(i m:Nat):goG h s i (m+1)=goG h s i m++((goneS h s i m).map λt=>((i,m),t)).toList:=by
 unfold goG
 rw[List.range_succ,List.filterMap_append]
 congr 1
theorem lF(h:House)(s:Sta)(m:Nat):goL h s (m+1)=goL h s m++goG h s m (cB h s.2 m).length:=by
 unfold goL
 rw[List.range_succ,List.flatMap_append,List.flatMap_cons,List.flatMap_nil,List.append_nil]
theorem aAS(h:House)(s:Sta)(i m:Nat):(goG h s i m).length<=m:=by
 unfold goG
 exact Nat.le_trans (List.length_filterMap_le _ _) (by rw[List.length_range];exact Nat.le_refl _)
theorem nO{h:House}(H:aF h){s:Sta}(S:dH h s.1 s.2){i:Nat}(hi:i<h.hs.length):(cB h s.2 i).length<=4:=by
 by_cases hr:0<(cB h s.2 i).length
 . obtain⟨r,h1,h2⟩:=aEp S hi hr
   rw[h2]
   exact((H.hs _ (List.getElem_mem hi)).all r h1).few
 . omega
theorem aAT{h:House}(H:aF h){s:Sta}(S:dH h s.1 s.2):∀m,m<=h.hs.length->(goL h s m).length<=4*m
 | 0,_=>Nat.le_refl _
 | m+1,hm=>by
  rw[lF,lA]
  have h1:=aAT H S m (by omega)
  have h2:=aAS h s m (cB h s.2 m).length
  have h3:=nO H S (i:=m) (by omega)
  omega
theorem aEu(g:(Nat×Nat)×Sta):noL (goD g)=true:=kZ (pQ _ _) (cG _ _)
abbrev aIY:Ss:=match hdS (drp 1 f24.body) with|.for _ _ b=>b|_=>.nil
abbrev aLT:Ss:=match hdS aIY with|.for _ _ b=>b|_=>.nil
theorem aEv(n:Nat){h:House}(H:aF h){s:Sta}(S:dH h s.1 s.2){i:Nat}(hi:i<h.hs.length)(k:Nat){acc:List ((Nat×Nat)×Sta)}(ha:acc.length<=100)(s4 s6:Sl) :
 exs pg (call pg (n+17)) [.sh true h.d,.sh true (aO s.1 s.2),.own false (acc.map goD),.sh false (.int i),s4,.sh false (.int k),s6] aLT =
  .next [.sh true h.d,.sh true (aO s.1 s.2),.own false ((acc++((goneS h s i k).map λt=>((i,k),t)).toList).map goD),.sh false (.int i),s4,.sh false (.int k),.sh false (zN (goneS h s i k))]:=by
 refine cs (bJ (bL (x:=⟨h.d,false,true,[]⟩) rfl (v1_ (cG _ _)) (dM rfl rfl) (aEo n H S hi k))) ?_
 cases goneS h s i k with
 | none=>
  rw[Option.map_none,Option.toList_none,List.append_nil]
  exact cs (bU rfl) (aL ..)
 | some t=>exact cs (zE rfl (cs (pH (ds:=acc.map goD) (dM (dM rfl rfl) rfl) rfl (by rw[lM];unfold lim;omega) rfl (iM goD acc ((i,k),t))) (aL ..))) (aL ..)
theorem aBS(n:Nat){h:House}(H:aF h){s:Sta}(S:dH h s.1 s.2){i:Nat}(hi:i<h.hs.length)(s2 s5 s6:Sl) :
 ev pg (call pg (n+1)) [.sh true h.d,.sh true (aO s.1 s.2),s2,.sh false (.int i),.sh true (aH (h.hs.getD i [])),s5,s6] (.bi .len (.cons (.call 3 (.cons (.v 4) (.cons (.idx (.idx (.v 1) (.c (.int 1))) (.v 3)) .nil))) .nil))=.ok (.cl (.int ((cB h s.2 i).length:Int))):=by
 have hg:h.hs.getD i []=h.hs[i]:=by rw[List.getD_eq_getElem?_getD,List.getElem?_eq_getElem hi];rfl
 have ip:=aJ (P:=pg) (cl:=call pg (n+1)) (σ:=[.sh true h.d,.sh true (aO s.1 s.2),s2,.sh false (.int i),.sh true (aH h.hs[i]),s5,s6]) (a:=.idx (.v 1) (.c (.int 1))) (aJ (v1_ (cG _ _)) rfl (aEi s)) (b:=.v 3) rfl (fP (k:=i) (by rw[S.len];exact hi))
 rw[hg]
 rcases row_fact H S hi with⟨j,hj,ej,er,_⟩|⟨hj,er⟩
 . rw[ej] at ip
   rw[er]
   exact cZ (wN (x:=⟨aH h.hs[i],false,true,[]⟩) rfl ip (aEj n hj) rfl rfl) (uI _)
 . rw[er]
   exact cZ (lD (x:=⟨aH h.hs[i],false,true,[]⟩) rfl ip (aAP n hj)) rfl
theorem aEw(n:Nat){h:House}(H:aF h){s:Sta}(S:dH h s.1 s.2){i:Nat}(hi:i<h.hs.length){acc:List ((Nat×Nat)×Sta)}(ha:acc.length<=50)(s5 s6:Sl):∃t5 t6,
 exs pg (call pg (n+17)) [.sh true h.d,.sh true (aO s.1 s.2),.own false (acc.map goD),.sh false (.int i),.sh true (aH (h.hs.getD i [])),s5,s6] aIY =
  .next [.sh true h.d,.sh true (aO s.1 s.2),.own false ((acc++goG h s i (cB h s.2 i).length).map goD),.sh false (.int i),.sh true (aH (h.hs.getD i [])),t5,t6]:=by
 have rl:=aBS (n+16) H S hi (.own false (acc.map goD)) s5 s6
 have hf:=nO H S hi
 have hw:=bS rl rfl (n:=(cB h s.2 i).length) (by omega)
 obtain⟨σ',e,hI⟩:=dR (t:=.n 5) (b:=aLT) (λk σ=>∃t5 t6,σ=[.sh true h.d,.sh true (aO s.1 s.2),.own false ((acc++goG h s i k).map goD),.sh false (.int i),.sh true (aH (h.hs.getD i [])),t5,t6]) hw ⟨s5,s6,by unfold goG;simp⟩ (λk hk σ hσ=>by
  obtain⟨t5,t6,rfl⟩:=hσ
  have hk:k<(cB h s.2 i).length:=by simpa using hk
  have gl:=aAS h s i k
  have g:=aEv n H S hi k (acc:=acc++goG h s i k) (by rw[lA];omega) (.sh true (aH (h.hs.getD i []))) t6
  rw[List.append_assoc,<-pV] at g
  exact⟨_,_,by simp,g,_,_,rfl⟩)
 obtain⟨t5,t6,rfl⟩:=hI
 refine⟨t5,t6,(stp e).trans ?_⟩
 simp
theorem pW{P:Pg}{cl:Caller}{σ:Sg}{a:E}{h:House}(h1:ev P cl σ a=.ok ⟨.lst (h.hs.map aH),false,true,[]⟩):walk P cl σ (.enum a)=.ok ((List.range h.hs.length).map (λ(k:Nat)=>(⟨.tup [.int (k:Int),aH (h.hs.getD k [])],false,true,[]⟩:Vl)),[]):=by
 have hit:items ⟨.lst (h.hs.map aH),false,true,[]⟩ (eA 0 (h.hs.map aH))=(List.range h.hs.length).map (λ(k:Nat)=>(⟨.tup [.int (k:Int),aH (h.hs.getD k [])],false,true,[]⟩:Vl)):=by
  rw[mL [] aH h.hs 0]
  unfold items
  rw[List.map_map]
  refine List.map_congr_left λk _=>?_
  show Vl.sub _ (.tup [.int (0+(k:Int)),_])=_
  rw[Int.zero_add]
  rfl
 rw[jF,h1,aA,<-hit]
 rfl
theorem pX(n:Nat){h:House}(H:aF h){s:Sta}(S:dH h s.1 s.2):call pg (n+18) 24 [h.d,aO s.1 s.2]=.ok (.lst ((goL h s h.hs.length).map goD),true,false):=by
 have hw:=pW (P:=pg) (cl:=call pg (n+17)) (σ:=[.sh true h.d,.sh true (aO s.1 s.2),.own false [],.dead,.dead,.dead,.dead]) (a:=.idx (.v 0) (.c (.int 2))) (h:=h) rfl
 obtain⟨σ',e,hI⟩:=dR (t:=.t [3,4]) (b:=aIY) (λi σ=>∃t3 t4 t5 t6,σ=[.sh true h.d,.sh true (aO s.1 s.2),.own false ((goL h s i).map goD),t3,t4,t5,t6]) hw ⟨_,_,_,_,rfl⟩ (λi hi σ hσ=>by
  obtain⟨t3,t4,t5,t6,rfl⟩:=hσ
  have hi:i<h.hs.length:=by simpa using hi
  have gl:=aAT H S i (by omega)
  have hf:=H.few
  obtain⟨u5,u6,g⟩:=aEw n H S hi (acc:=goL h s i) (by omega) t5 t6
  rw[<-lF] at g
  refine⟨_,_,?_,g,_,_,_,_,rfl⟩
  simp only[List.getElem_map,List.getElem_range]
  rfl)
 obtain⟨t3,t4,t5,t6,rfl⟩:=hI
 refine aG (F:=f24) rfl rfl (v:=⟨.lst ((goL h s h.hs.length).map goD),true,false,[]⟩) ?_
 show exs pg (call pg (n+17)) [.sh true h.d,.sh true (aO s.1 s.2),.dead,.dead,.dead,.dead,.dead] _=_
 refine(stp (σ':=[.sh true h.d,.sh true (aO s.1 s.2),.own false [],.dead,.dead,.dead,.dead]) rfl).trans ?_
 refine(stp e).trans ?_
 rw[lM,List.length_range]
 rfl
abbrev aBT(p:Nat)(acc:List Rw)(g:(Nat×Nat)×Sta):List Rw:=add1 p g.1.1 g.1.2 (some g.2) acc
theorem xF(h:House)(s:Sta)(p i:Nat)(acc:List Rw):∀m,(goG h s i m).foldl (aBT p) acc=expK h p s i m acc
 | 0=>rfl
 | m+1=>by
  rw[pV,List.foldl_append,xF h s p i acc m,eO]
  cases goneS h s i m <;> rfl
theorem rT{h:House}{s:Sta}{p i:Nat}{acc:List Rw}:∀m,expK h p s i ((cB h s.2 i).length+m) acc=expK h p s i (cB h s.2 i).length acc
 | 0=>rfl
 | m+1=>by
  rw[show(cB h s.2 i).length+(m+1)=(cB h s.2 i).length+m+1 from rfl,eO,rT m]
  have e:goneS h s i ((cB h s.2 i).length+m)=none:=by unfold goneS;rw[if_neg (by omega)]
  rw[e];rfl
theorem aAU{h:House}(H:aF h){s:Sta}(S:dH h s.1 s.2)(p:Nat)(acc:List Rw):∀m,m<=h.hs.length->(goL h s m).foldl (aBT p) acc=expA h p s m acc
 | 0,_=>rfl
 | m+1,hm=>by
  rw[lF,List.foldl_append,aAU H S p acc m (by omega),xF,fE]
  have hf:=nO H S (i:=m) (by omega)
  have:=rT (h:=h) (s:=s) (p:=p) (i:=m) (acc:=expA h p s m acc) (4-(cB h s.2 m).length)
  rw[show(cB h s.2 m).length+(4-(cB h s.2 m).length)=4 by omega] at this
  exact this.symm
theorem aEx{h:House}(H:aF h){s:Sta}(g:nE h s){x:(Nat×Nat)×Sta}(hx:x∈goL h s h.hs.length):nE h x.2:=by
 obtain⟨i,hi,hx⟩:=List.mem_flatMap.mp hx
 obtain⟨k,_,hk⟩:=List.mem_filterMap.mp hx
 obtain⟨t,ht,rfl⟩:=Option.map_eq_some_iff.mp hk
 exact mJ H g (List.mem_range.mp hi) ht
theorem mM(r:Rw):noL r.d=true:=by
 unfold Rw.d
 simp only[noL,noLs,cG,Bool.true_and,Bool.and_true]
 cases r.p <;> rfl
theorem rV(r:Rw):bM (.cl r.d) (.cl (.int 0))=.ok (.cl (aO r.s.1 r.s.2)):=dG _ _ (cG _ _)
theorem uM{v:Vl}{rs:List Rw}{j:Nat}{r:Rw}(hv:v.d=.lst (rs.map Rw.d))(hr:rs[j]? = some r):bM v (.cl (.int (j:Int)))=.ok (.cl r.d):=by
 have hj:j<(rs.map Rw.d).length:=by rw[lM];exact(List.getElem?_eq_some_iff.mp hr).1
 have e:(rs.map Rw.d)[j]? = some r.d:=by rw[List.getElem?_map,hr];rfl
 unfold bM
 simp only[hv,bB,dF hj,e,bT (mM r)]
theorem xG{h:House}(H:aF h){P:Pg}{cl:Caller}{acc:List Rw}(I:RI h acc){ks:List (List (List Int)×D)}(K:KR ks acc){p i k:Nat}{t:Sta}{c:E}{e:E}{j:Nat}{σ:Sg}{σ1:List (List (List Int)×D)->List Rw->Sg}
 (hσ:σ=σ1 ks acc) (h1:∀ks acc,(σ1 ks acc)[1]? = some (.own false (acc.map Rw.d))) (h2:∀ks acc,(σ1 ks acc)[2]? = some (.dct ks)) (s1:∀ks acc acc',(σ1 ks acc).set 1 (.own false (acc'.map Rw.d))=σ1 ks acc') (s2:∀ks acc ks',(σ1 ks acc).set 2 (.dct ks')=σ1 ks' acc)
 (hj:∀ks acc,ev P cl (σ1 ks acc) (.v j)=.ok (.cl (aO t.1 t.2))) (he:∀ks acc,ev P cl (σ1 ks acc) e=.ok (.cl (Rw.d ⟨t,some (p,i,k)⟩))) (hc:∀ks acc,tst P cl (σ1 ks acc) c=tst P cl (σ1 ks acc) (.dnin (.v j) 2)) :
 ∃ks',ex P cl σ (.iff c (.cons (.dput 2 (.v j)) (.cons (.app 1 e) .nil)) .nil)=.next (σ1 ks' (add1 p i k (some t) acc))/\KR ks' (add1 p i k (some t) acc):=by
 subst hσ
 have tt:tst P cl (σ1 ks acc) c=.ok (!decide (t∈acc.map (·.s))):=by
  rw[hc,aEr,hj,aA,bB,gR,h2]
  show R.ok (!decide (kOf t∈ks.map (·.1)))=_
  rw[K.dec t]
 have fw:=I.few H
 have kl:=K.len
 rw[dD,tt,aT]
 have ea:K57.add1 p i k (some t) acc=if t∈acc.map (·.s) then acc else acc++[⟨t,some (p,i,k)⟩]:=rfl
 rw[ea]
 by_cases ht:t∈acc.map (·.s)
 . rw[decide_eq_true ht,if_pos ht]
   exact⟨ks,rfl,K⟩
 . rw[decide_eq_false ht,if_neg ht]
   refine⟨eL ks (tk (kOf t)),?_,K.add⟩
   have e1:ex P cl (σ1 ks acc) (.dput 2 (.v j))=.next (σ1 (eL ks (tk (kOf t))) acc):=by
    rw[aAR,hj,aT,bB,gR,h2]
    show(if ks.length<lim then _ else _)=_
    rw[if_pos (by unfold lim;omega),s2]
   have e2:ex P cl (σ1 (eL ks (tk (kOf t))) acc) (.app 1 e)=.next (σ1 (eL ks (tk (kOf t))) (acc++[⟨t,some (p,i,k)⟩])):=by
    rw[kC,he,aT]
    unfold put gB
    simp only[dS,bI,h1,bB,rL,Bool.or_false]
    rw[if_pos (by rw[lA,lM];unfold lim;show acc.length+1<=_;omega)]
    have:=s1 (eL ks (tk (kOf t))) acc (acc++[⟨t,some (p,i,k)⟩])
    rw[List.map_append] at this
    exact congrArg O.next this
   show exs P cl (σ1 ks acc) (.cons (.dput 2 (.v j)) (.cons (.app 1 e) .nil))=_
   rw[stp e1,stp e2,aL]
abbrev asW:Ss:=match hdS (drp 4 f23.body) with|.whl _ b=>b|_=>.nil
abbrev asB:Ss:=match hdS asW with|.for _ _ b=>b|_=>.nil
abbrev asS(h:House)(p:Nat)(t3 t4 t6:Sl)(ks:List (List (List Int)×D))(acc:List Rw):Sg:=[.sh true h.d,.own false (acc.map Rw.d),.dct ks,t3,t4,.sh false (.int p),t6]
theorem aGf(n:Nat){h:House}(H:aF h){p:Nat}{acc:List Rw}(I:RI h acc){ks:List (List (List Int)×D)}(K:KR ks acc){r:Rw}(hr:acc[p]? = some r)(t3 t4 t6:Sl):∃ks' u4 u6,
 exs pg (call pg (n+18)) (asS h p t3 t4 t6 ks acc) asW=.next (asS h (p+1) t3 u4 u6 ks' (expA h p r.s h.hs.length acc))/\KR ks' (expA h p r.s h.hs.length acc):=by
 have hp:p<acc.length:=(List.getElem?_eq_some_iff.mp hr).1
 have g:=I.good r (mG hr)
 have cg:=pX n H g.ok
 have v0:=fR 0 h
 have fw:=I.few H
 have hw:walk pg (call pg (n+18)) (asS h p t3 t4 t6 ks acc) (.seq (.call 24 (.cons (.v 0) (.cons (.idx (.idx (.v 1) (.v 5)) (.c (.int 0))) .nil))))=.ok ((goL h r.s h.hs.length).map (λg=>Vl.cl (goD g)),[]):=by
  rw[cO,lD (x:=⟨h.d,false,true,[]⟩) rfl (aJ (aJ (x:=⟨.lst (acc.map Rw.d),false,false,[1]⟩) rfl rfl (uM rfl hr)) rfl (rV r)) cg,<-fD (v:=⟨.lst ((goL h r.s h.hs.length).map goD),true,false,[]⟩) aEu]
  rfl
 obtain⟨σ',e,hI⟩:=dR (t:=.t [6,4]) (b:=asB) (λj σ=>∃ks' u4 u6,σ=asS h p t3 u4 u6 ks' (((goL h r.s h.hs.length).take j).foldl (aBT p) acc)/\KR ks' (((goL h r.s h.hs.length).take j).foldl (aBT p) acc)/\RI h (((goL h r.s h.hs.length).take j).foldl (aBT p) acc)) hw ⟨ks,t4,t6,rfl,K,I⟩ (λj hj σ hσ=>by
  obtain⟨ks',u4,u6,rfl,K',I'⟩:=hσ
  have hj:j<(goL h r.s h.hs.length).length:=by simpa using hj
  have hg:=aEx H g (List.getElem_mem hj)
  rw[List.take_succ_eq_append_getElem hj,List.foldl_append,List.foldl_cons,List.foldl_nil]
  simp only[List.getElem_map]
  generalize ((goL h r.s h.hs.length).take j).foldl (aBT p) acc=a at K' I'
  generalize (goL h r.s h.hs.length)[j]=x at hg
  obtain⟨ks2,e2,K2⟩:=xG H (P:=pg) (cl:=call pg (n+18)) I' K' (p:=p) (i:=x.1.1) (k:=x.1.2) (t:=x.2) (c:=.dnin (.v 4) 2) (e:=.tup (.cons (.v 4) (.cons (.v 5) (.cons (.v 6) .nil)))) (j:=4) (σ1:=asS h p t3 (.sh false (aO x.2.1 x.2.2)) (.sh false (iO (x.1.1:Int) (x.1.2:Int)))) rfl (λ_ _=>rfl) (λ_ _=>rfl) (λ_ _ _=>rfl) (λ_ _ _=>rfl) (λ_ _=>rfl) (λ_ _=>rfl) (λ_ _=>rfl)
  exact⟨_,_,mX _ (pQ _ _) (cG _ _),(stp e2).trans (aL ..),ks2,_,_,rfl,K2,I'.add1 λs hs=>by cases hs;exact hg⟩)
 obtain⟨ks',u4,u6,rfl,K',_⟩:=hI
 rw[lM,List.take_length,aAU H g.ok p acc _ (Nat.le_refl _)] at e K'
 refine⟨ks',u4,u6,(stp e).trans ?_,K'⟩
 exact cs (bJ (d:=.int ((p+1:Nat):Int)) (dU rfl rfl (add_int (p:Int) 1))) (aL ..)
theorem aLU(h:House):bM ⟨h.d,false,true,[]⟩ (.cl (.int 1))=.ok (.cl h.bg.d):=by
 show R.ok (Vl.sub ⟨h.d,false,true,[]⟩ h.bg.d)=_
 rw[bT h.bg.noL]
abbrev aLV:Ss:=match hdS (drp 2 f23.body) with|.for _ _ b=>b|_=>.nil
theorem zQ(h:House){i:Nat}(hi:i<(cW h).length):(cH h).take (i+1)=(cH h).take i++[⟨((cW h)[i],zeros h),none⟩]:=by
 unfold cH
 rw[List.take_succ_eq_append_getElem (by rw[lM];exact hi),List.getElem_map]
theorem qO(n:Nat){h:House}(H:aF h):call pg (n+19) 23 [h.d]=.ok (.lst ((aW h).map Rw.d),true,false):=by
 have v0:=fR 0 h
 have cs:=uL (n+2) H
 have fw:=mK H
 have sl:(cW h).length=(cH h).length:=by unfold cH;rw[lM]
 have hw:walk pg (call pg (n+18)) [.sh true h.d,.own false [],.dct [],.dead,.dead,.dead,.dead] (.seq (.call 21 (.cons (.idx (.v 0) (.c (.int 0))) (.cons (.idx (.v 0) (.c (.int 1))) .nil))))=.ok ((cW h).map (λs=>Vl.cl (aE s)),[]):=by
  simp only[cO,aU,aB,aI,cX,bV,cI,bH,gZ,v0,aA,nN,aLU,mC,mN,bB,cs,tZ,eG]
 obtain⟨σ',e,hI⟩:=dR (t:=.n 3) (b:=aLV) (λj σ=>∃ks u3 u4,σ=[.sh true h.d,.own false (((cH h).take j).map Rw.d),.dct ks,u3,u4,.dead,.dead]/\KR ks ((cH h).take j)) hw ⟨[],.dead,.dead,rfl,⟨λs=>by simp,Nat.le_refl _⟩⟩ (λj hj σ hσ=>by
  obtain⟨ks,u3,u4,rfl,K⟩:=hσ
  have hj:j<(cW h).length:=by simpa using hj
  simp only[List.getElem_map]
  have cf:=pU (n+17) H (cW h)[j]
  have kl:=K.len
  have tl:((cH h).take j).length<=24:=Nat.le_trans (by rw[List.length_take];exact Nat.min_le_right _ _) fw
  rw[zQ h hj]
  generalize (cW h)[j]=s at cf
  generalize (cH h).take j=a at K kl tl
  have e1:ex pg (call pg (n+18)) [.sh true h.d,.own false (a.map Rw.d),.dct ks,.sh false (aE s),u4,.dead,.dead] (hdS aLV)=.next [.sh true h.d,.own false (a.map Rw.d),.dct ks,.sh false (aE s),.sh false (aO s (zeros h)),.dead,.dead]:=by
   show ex pg (call pg (n+18)) _ (.set (.n 4) (.call 22 (.cons (.v 0) (.cons (.v 3) .nil))))=_
   simp only[bY,aU,aB,aI,bV,bH,gS,gZ,v0,cP,aA,mC,mN,bB,cf,cE,aT,dS,bI,dP,bQ,lS,lZ]
  have e2:ex pg (call pg (n+18)) [.sh true h.d,.own false (a.map Rw.d),.dct ks,.sh false (aE s),.sh false (aO s (zeros h)),.dead,.dead] (.dput 2 (.v 4))=.next [.sh true h.d,.own false (a.map Rw.d),.dct (eL ks (tk (kOf (s,zeros h)))),.sh false (aE s),.sh false (aO s (zeros h)),.dead,.dead]:=by
   rw[aAR,bV]
   show(match some (Sl.dct ks),lR (aO (s,zeros h).1 (s,zeros h).2) with|some (.dct ks),some k=>_|_,_=>_)=_
   rw[gR]
   show(if ks.length<lim then _ else _)=_
   rw[if_pos (by unfold lim;omega)]
   rfl
  have ll:(a.map Rw.d++[Rw.d ⟨(s,zeros h),none⟩]).length<=lim:=by rw[lA,lM];unfold lim;show a.length+1<=_;omega
  have e3:ex pg (call pg (n+18)) [.sh true h.d,.own false (a.map Rw.d),.dct (eL ks (tk (kOf (s,zeros h)))),.sh false (aE s),.sh false (aO s (zeros h)),.dead,.dead] (.app 1 (.tup (.cons (.v 4) (.cons (.c .non) (.cons (.c .non) .nil)))))=.next [.sh true h.d,.own false ((a++[(⟨(s,zeros h),none⟩:Rw)]).map Rw.d),.dct (eL ks (tk (kOf (s,zeros h)))),.sh false (aE s),.sh false (aO s (zeros h)),.dead,.dead]:=by
   simp only[kC,cY,aB,aI,bV,cI,bH,gS,gZ,cP,aA,aT]
   rw[show jQ [.cl (aO s (zeros h)),.cl .non,.cl .non]=.cl (Rw.d ⟨(s,zeros h),none⟩) from rfl]
   unfold put gB
   simp only[dS,bI,gS,gZ,bB,rL,Bool.or_false,ll,if_true,lS,lZ,List.map_append,mC,mN]
  exact⟨_,_,rfl,(stp e1).trans ((stp e2).trans ((stp e3).trans (aL ..))),_,_,_,rfl,K.add⟩)
 obtain⟨ks,u3,u4,rfl,K⟩:=hI
 rw[lM,sl,List.take_length] at e K
 have tw:∀p acc σ,(∃ks t4 t6,σ=asS h p u3 t4 t6 ks acc/\KR ks acc)->tst pg (call pg (n+18)) σ (.cmp .Lt (.v 5) (.bi .len (.cons (.v 1) .nil)))=.ok (decide (p<acc.length)):=λp acc σ hσ=>by
  obtain⟨ks,t4,t6,rfl,_⟩:=hσ
  have hd:decide ((p:Int)<(acc.length:Int))=decide (p<acc.length):=decide_eq_decide.mpr (by omega)
  simp only[bX,gX,aB,aI,bV,bH,gS,gZ,cP,eP,aA,cK,lM,bB,kE,hd]
 obtain⟨p',σ2,ew,⟨ks2,v4,v6,rfl,_⟩,_⟩:=uK H (t:=λσ=>tst pg (call pg (n+18)) σ (.cmp .Lt (.v 5) (.bi .len (.cons (.v 1) .nil)))) (f:=λσ=>exs pg (call pg (n+18)) σ asW) (λp acc σ=>∃ks t4 t6,σ=asS h p u3 t4 t6 ks acc/\KR ks acc) tw (λp acc σ r hσ hr I=>by
  obtain⟨ks,t4,t6,rfl,K⟩:=hσ
  obtain⟨ks',v4,v6,g,K'⟩:=aGf n H I K hr u3 t4 t6
  exact⟨_,g,ks',v4,v6,rfl,K'⟩) fZ 0 (cH h) (asS h 0 u3 u4 .dead ks (cH h)) ⟨ks,u4,.dead,rfl,K⟩ (RI.zero H) (Nat.zero_le _) (by decide)
 refine aG (F:=f23) rfl rfl (v:=⟨.lst ((aW h).map Rw.d),true,false,[]⟩) ?_
 show exs pg (call pg (n+18)) [.sh true h.d,.dead,.dead,.dead,.dead,.dead,.dead] _=_
 refine(stp (σ':=[.sh true h.d,.own false [],.dead,.dead,.dead,.dead,.dead]) rfl).trans ?_
 refine(stp (σ':=[.sh true h.d,.own false [],.dct [],.dead,.dead,.dead,.dead]) rfl).trans ?_
 refine(stp e).trans ?_
 refine(stp (σ':=asS h 0 u3 u4 .dead ks (cH h)) rfl).trans ?_
 refine(stp (σ':=asS h p' u3 v4 v6 ks2 (aW h)) ?_).trans rfl
 rw[uJ]
 exact ew
theorem zR(n:Nat){h:House}(H:aF h):call pg (n+16) 25 [h.d]=.ok (.lst ((cW h).map aE),true,false):=by
 have v0:=fR 0 h
 have v1:=fR 1 h
 have cs:=rK (P:=pg) (f:=17) rfl (n+14) H.bs.tops
 have hw:walk pg (call pg (n+15)) [.sh true h.d] (.seq (.call 17 (.cons (.idx (.v 0) (.c (.int 0))) .nil)))=.ok ((aQ h.bs).map (λs=>Vl.cl (aE s)),[]):=by
  simp only[cO,aU,aB,aI,cX,bV,cI,bH,gZ,v0,aA,nN,mC,mN,bB,cs,tZ,eG]
 have hc:=uA (P:=pg) (k:=1) (caps:=[0]) (T:=.n 0) (c:=.call 16 (.cons (.idx (.v 1) (.c (.int 1))) (.cons (.v 0) (.cons (.c .non) .nil)))) (elt:=.v 0) (λs=>Vl.cl (aE s)) aE (λs=>h.bg.hold s s) aK hw (Nat.le_trans (kH H) (by decide)) λs hs=>by
  have ch:=pP n (rS H hs) H.bg.1 H.bg.2
  refine⟨[.sh false (aE s),.sh true h.d],by simp[bI,dP],?_,?_⟩
  . simp only[iF,aB,aI,cX,bV,cI,bH,gS,gZ,v1,cP,aA,aLU,mC,mN,bB,ch,cE,aDN]
  . simp only[bV,bH,gZ,cP]
 refine aG (F:=f25) rfl rfl (v:=⟨.lst ((cW h).map aE),true,false,[]⟩) ?_
 show exs pg (call pg (n+15)) [.sh true h.d] (.cons (.ret _) .nil)=_
 rw[aV,dC,hc]
 rfl
theorem oD:∀m:Nat,(List.replicate m [D.int 0]).flatten=(List.replicate m (0:Int)).map D.int
 | 0=>rfl
 | m+1=>by rw[List.replicate_succ,List.flatten_cons,oD m];rfl
theorem aEy{m:Nat}(h1:1<=m)(h2:m<=1000):opD .Mult (.cl (.tup [.int 0])) (.cl (.int (m:Int)))=.ok (.cl (aE (List.replicate m 0))):=by
 have c:(decide (1<=(m:Int))&&aM (m:Int)&&!([D.int 0]:List D).isEmpty&&decide ([D.int 0].length*(m:Int).toNat<=lim)&&noLs [D.int 0])=true:=by
  have e:aM (m:Int)=true:=by
   unfold aM
   rw[decide_eq_true (show -(2:Int) ^ 62<=(m:Int) by omega),decide_eq_true (show(m:Int)<2 ^ 62 by omega)];rfl
  rw[decide_eq_true (show 1<=(m:Int) by omega),e,decide_eq_true (show [D.int 0].length*(m:Int).toNat<=lim by simp only[lC,lN,Int.toNat_natCast];unfold lim;omega)]
  rfl
 have e:aBp (.cl (.tup [.int 0])) (.cl (.int (m:Int)))=R.iff (decide (1<=(m:Int))&&aM (m:Int)&&!([D.int 0]:List D).isEmpty&&decide ([D.int 0].length*(m:Int).toNat<=lim)&&noLs [D.int 0]) (.ok (.cl (.tup (List.replicate (m:Int).toNat [D.int 0]).flatten))):=by
  unfold aBp;rfl
 refine Eq.trans (b:=aBp (.cl (.tup [.int 0])) (.cl (.int (m:Int)))) (by unfold opD;rfl) ?_
 rw[e,c,Int.toNat_natCast,oD]
 rfl
theorem aEz{acc:List Rw}{p:Nat}{r:Rw}(h:acc[p]? = some r)(q i k:Nat)(o:Option Sta):(add1 q i k o acc)[p]? = some r:=by
 cases o with
 | none=>exact h
 | some s=>
  have ea:add1 q i k (some s) acc=if s∈acc.map (·.s) then acc else acc++[⟨s,some (q,i,k)⟩]:=rfl
  rw[ea]
  split
  . exact h
  . rw[List.getElem?_append_left (List.getElem?_eq_some_iff.mp h).1];exact h
theorem lG{h:House}{s:Sta}{acc:List Rw}{p:Nat}{r:Rw}(e:acc[p]? = some r)(q i:Nat):∀m,(expK h q s i m acc)[p]? = some r
 | 0=>e
 | m+1=>by rw[eO];exact aEz (lG e q i m) q i m _
theorem pY{h:House}{s:Sta}{acc:List Rw}{p:Nat}{r:Rw}(e:acc[p]? = some r)(q:Nat):∀m,(expA h q s m acc)[p]? = some r
 | 0=>e
 | m+1=>by rw[fE];exact lG (pY e q m) q m 4
abbrev lsW:Ss:=match hdS (drp 3 f26.body) with|.whl _ b=>b|_=>.nil
abbrev aIZ:Ss:=match hdS lsW with|.for _ _ b=>b|_=>.nil
abbrev aJa:Ss:=match hdS aIZ with|.for _ _ b=>b|_=>.nil
abbrev lsS(h:House)(p:Nat)(t4 t5 t6:Sl)(ks:List (List (List Int)×D))(acc:List Rw):Sg:=[.sh true h.d,.own false (acc.map Rw.d),.dct ks,.sh false (.int p),t4,t5,t6]
theorem aEA(n:Nat){h:House}(H:aF h){p:Nat}{acc:List Rw}(I:RI h acc){ks:List (List (List Int)×D)}(K:KR ks acc){r:Rw}(hr:acc[p]? = some r){i:Nat}(hi:i<h.hs.length)(k:Nat)(t6:Sl):∃ks' u6,
 exs pg (call pg (n+18)) (lsS h p (.sh false (.int i)) (.sh false (.int k)) t6 ks acc) aJa=.next (lsS h p (.sh false (.int i)) (.sh false (.int k)) u6 ks' (add1 p i k (goneS h r.s i k) acc))/\KR ks' (add1 p i k (goneS h r.s i k) acc):=by
 have g:=I.good r (mG hr)
 have e1:ex pg (call pg (n+18)) (lsS h p (.sh false (.int i)) (.sh false (.int k)) t6 ks acc) (hdS aJa)=.next (lsS h p (.sh false (.int i)) (.sh false (.int k)) (.sh false (zN (goneS h r.s i k))) ks acc):=bJ (bL (x:=⟨h.d,false,true,[]⟩) rfl (aJ (aJ (x:=⟨.lst (acc.map Rw.d),false,false,[1]⟩) rfl rfl (uM rfl hr)) rfl (rV r)) (dM rfl rfl) (xA (n+2) H g.ok hi k))
 cases q:goneS h r.s i k with
 | none=>
  rw[q] at e1
  refine⟨ks,.sh false .non,(stp e1).trans ?_,K⟩
  show exs pg (call pg (n+18)) _ (.cons (.iff (.an (.cmp .IsNot (.v 6) (.c .non)) (.dnin (.v 6) 2)) _ .nil) .nil)=_
  rfl
 | some t=>
  rw[q] at e1
  obtain⟨ks2,e2,K2⟩:=xG H (P:=pg) (cl:=call pg (n+18)) I K (p:=p) (i:=i) (k:=k) (t:=t) (c:=.an (.cmp .IsNot (.v 6) (.c .non)) (.dnin (.v 6) 2)) (e:=.tup (.cons (.v 6) (.cons (.v 3) (.cons (.tup (.cons (.v 4) (.cons (.v 5) .nil))) .nil)))) (j:=6) (σ1:=lsS h p (.sh false (.int i)) (.sh false (.int k)) (.sh false (aO t.1 t.2))) rfl (λ_ _=>rfl) (λ_ _=>rfl) (λ_ _ _=>rfl) (λ_ _ _=>rfl) (λ_ _=>rfl) (λ_ _=>rfl) (λ_ _=>rfl)
  exact⟨ks2,_,(stp e1).trans ((stp e2).trans (aL ..)),K2⟩
theorem aEB(n:Nat){h:House}(H:aF h){p:Nat}{acc:List Rw}(I:RI h acc){ks:List (List (List Int)×D)}(K:KR ks acc){r:Rw}(hr:acc[p]? = some r){i:Nat}(hi:i<h.hs.length)(t5 t6:Sl):∃ks' u5 u6,
 exs pg (call pg (n+18)) (lsS h p (.sh false (.int i)) t5 t6 ks acc) aIZ=.next (lsS h p (.sh false (.int i)) u5 u6 ks' (expK h p r.s i 4 acc))/\KR ks' (expK h p r.s i 4 acc):=by
 have g:=I.good r (mG hr)
 have hw:=bS (P:=pg) (cl:=call pg (n+18)) (σ:=lsS h p (.sh false (.int i)) t5 t6 ks acc) (a:=.c (.int 4)) (v:=.cl (.int ((4:Nat):Int))) rfl rfl (by decide)
 obtain⟨σ',e,hI⟩:=dR (t:=.n 5) (b:=aJa) (λk σ=>∃ks' u5 u6,σ=lsS h p (.sh false (.int i)) u5 u6 ks' (expK h p r.s i k acc)/\KR ks' (expK h p r.s i k acc)) hw ⟨ks,t5,t6,rfl,K⟩ (λk hk σ hσ=>by
  obtain⟨ks',u5,u6,rfl,K'⟩:=hσ
  obtain⟨ks2,v6,e2,K2⟩:=aEA n H (RI.expK H g p hi I k) K' (lG hr p i k) hi k u6
  rw[eO]
  exact⟨_,_,by simp,e2,ks2,_,_,rfl,K2⟩)
 obtain⟨ks',u5,u6,rfl,K'⟩:=hI
 rw[lM,List.length_range] at e K'
 exact⟨ks',u5,u6,(stp e).trans (aL ..),K'⟩
theorem aGg(n:Nat){h:House}(H:aF h){p:Nat}{acc:List Rw}(I:RI h acc){ks:List (List (List Int)×D)}(K:KR ks acc){r:Rw}(hr:acc[p]? = some r)(t4 t5 t6:Sl):∃ks' u4 u5 u6,
 exs pg (call pg (n+18)) (lsS h p t4 t5 t6 ks acc) lsW=.next (lsS h (p+1) u4 u5 u6 ks' (expA h p r.s h.hs.length acc))/\KR ks' (expA h p r.s h.hs.length acc):=by
 have g:=I.good r (mG hr)
 have v0:=fR 0 h
 have hf:=H.few
 have hl:ev pg (call pg (n+18)) (lsS h p t4 t5 t6 ks acc) (.bi .len (.cons (.idx (.v 0) (.c (.int 2))) .nil))=.ok (.cl (.int (h.hs.length:Int))):=cZ (aJ rfl rfl (fS h)) (by rw[cK,lM])
 have hw:=bS hl rfl (n:=h.hs.length) (by omega)
 obtain⟨σ',e,hI⟩:=dR (t:=.n 4) (b:=aIZ) (λi σ=>∃ks' u4 u5 u6,σ=lsS h p u4 u5 u6 ks' (expA h p r.s i acc)/\KR ks' (expA h p r.s i acc)) hw ⟨ks,t4,t5,t6,rfl,K⟩ (λi hi σ hσ=>by
  obtain⟨ks',u4,u5,u6,rfl,K'⟩:=hσ
  have hi:i<h.hs.length:=by simpa using hi
  obtain⟨ks2,v5,v6,e2,K2⟩:=aEB n H (RI.expA H g p I i (by omega)) K' (pY hr p i) hi u5 u6
  rw[fE]
  exact⟨_,_,by simp,e2,ks2,_,_,_,rfl,K2⟩)
 obtain⟨ks',u4,u5,u6,rfl,K'⟩:=hI
 rw[lM,List.length_range] at e K'
 refine⟨ks',u4,u5,u6,(stp e).trans ?_,K'⟩
 exact cs (bJ (d:=.int ((p+1:Nat):Int)) (dU rfl rfl (add_int (p:Int) 1))) (aL ..)
theorem pZ:∀l:List Rw,gL (l.map λr=>D.tup [aO r.s.1 r.s.2,.bl true])=some (l.map λr=>tk (kOf r.s))
 | []=>rfl
 | r::l=>by
  rw[mC,gL,gR,pZ l]
  rfl
theorem KR.fold:∀(l acc:List Rw) (ks:List (List (List Int)×D)),KR ks acc->KR ((l.map λr=>tk (kOf r.s)).foldl eL ks) (acc++l)
 | [],acc,ks,K=>by rw[List.append_nil];exact K
 | r::l,acc,ks,K=>by
  have:=KR.fold l (acc++[r]) (eL ks (tk (kOf r.s))) (by obtain⟨s,x⟩:=r;exact K.add)
  rw[List.append_assoc] at this
  exact this
theorem zS(n:Nat){h:House}(H:aF h):call pg (n+19) 26 [h.d]=.ok (.lst ((aW h).map Rw.d),true,false):=by
 have v0:=fR 0 h
 have v1:=fR 1 h
 have cs:=zR (n+2) H
 have fw:=mK H
 have hf:=H.few
 have sl:(cW h).length=(cH h).length:=by unfold cH;rw[lM]
 have hw:walk pg (call pg (n+18)) [.sh true h.d,.dead,.dead,.dead,.dead,.dead,.dead] (.seq (.call 25 (.cons (.v 0) .nil)))=.ok ((cW h).map (λs=>Vl.cl (aE s)),[]):=by
  simp only[cO,aU,aB,aI,bV,bH,gZ,v0,aA,mC,mN,bB,cs,tZ,eG]
 have hc:=iI (P:=pg) (k:=1) (caps:=[0]) (T:=.n 0) (elt:=.tup (.cons (.tup (.cons (.v 0) (.cons (.op .Mult (.tup (.cons (.c (.int 0)) .nil)) (.bi .len (.cons (.idx (.v 1) (.c (.int 2))) .nil))) .nil))) (.cons (.c .non) (.cons (.c .non) .nil)))) (λs=>Vl.cl (aE s)) (λs=>Rw.d ⟨(s,zeros h),none⟩) (λs=>mM _) hw (by unfold lim;omega) λs hs=>by
  refine⟨[.sh false (aE s),.sh true h.d],by simp[bI,dP],?_⟩
  have mz:=aEy H.one (show h.hs.length<=1000 by omega)
  simp only[cY,aB,aI,cR,gX,cX,bV,cI,bH,gS,gZ,v1,cP,aA,fS,cK,lM,aIQ,mz,wR]
  rfl
 have er:(cW h).map (λs=>Rw.d ⟨(s,zeros h),none⟩)=(cH h).map Rw.d:=by unfold cH;rw[List.map_map];rfl
 rw[er] at hc
 have hw2:walk pg (call pg (n+18)) [.sh true h.d,.own false ((cH h).map Rw.d),.dead,.dead,.dead,.dead,.dead] (.seq (.v 1))=.ok ((cH h).map (λr=>Vl.cl r.d),[1]):=by
  have hit:∀v,items v ((cH h).map Rw.d)=(cH h).map (λr=>Vl.cl r.d):=λv=>by
   unfold items
   rw[List.map_map]
   exact List.map_congr_left λr _=>bT (mM r)
  simp only[cO,bV,bH,gS,gZ,eP,aA,hit]
 have hc2:=iI (P:=pg) (k:=1) (caps:=[]) (T:=.n 0) (elt:=.tup (.cons (.idx (.v 0) (.c (.int 0))) (.cons (.c (.bl true)) .nil))) (λr:Rw=>Vl.cl r.d) (λr=>D.tup [aO r.s.1 r.s.2,.bl true]) (λr=>kZ (cG _ _) rfl) hw2 (by unfold lim;omega) λr hr=>by
  have i0:bM (.cl r.d) (.cl (.int 0))=.ok (.cl (aO r.s.1 r.s.2)):=dG _ _ (cG _ _)
  refine⟨[.sh false r.d],rfl,?_⟩
  simp only[cY,aB,aI,cX,bV,cI,bH,gZ,cP,aA,i0,wR]
 have K:=KR.fold (cH h) [] [] ⟨λs=>by simp,Nat.le_refl _⟩
 rw[List.nil_append] at K
 generalize hks:((cH h).map λr=>tk (kOf r.s)).foldl eL []=ks at K
 have tw:∀p acc σ,(∃ks t4 t5 t6,σ=lsS h p t4 t5 t6 ks acc/\KR ks acc)->tst pg (call pg (n+18)) σ (.cmp .Lt (.v 3) (.bi .len (.cons (.v 1) .nil)))=.ok (decide (p<acc.length)):=λp acc σ hσ=>by
  obtain⟨ks,t4,t5,t6,rfl,_⟩:=hσ
  have hd:decide ((p:Int)<(acc.length:Int))=decide (p<acc.length):=decide_eq_decide.mpr (by omega)
  simp only[lsS,bX,gX,aB,aI,bV,bH,gS,gZ,cP,eP,aA,cK,lM,bB,kE,hd]
 obtain⟨p',σ2,ew,⟨ks2,v4,v5,v6,rfl,_⟩,_⟩:=uK H (t:=λσ=>tst pg (call pg (n+18)) σ (.cmp .Lt (.v 3) (.bi .len (.cons (.v 1) .nil)))) (f:=λσ=>exs pg (call pg (n+18)) σ lsW) (λp acc σ=>∃ks t4 t5 t6,σ=lsS h p t4 t5 t6 ks acc/\KR ks acc) tw (λp acc σ r hσ hr I=>by
  obtain⟨ks,t4,t5,t6,rfl,K⟩:=hσ
  obtain⟨ks',v4,v5,v6,g,K'⟩:=aGg n H I K hr t4 t5 t6
  exact⟨_,g,ks',v4,v5,v6,rfl,K'⟩) fZ 0 (cH h) (lsS h 0 .dead .dead .dead ks (cH h)) ⟨ks,.dead,.dead,.dead,rfl,K⟩ (RI.zero H) (Nat.zero_le _) (by decide)
 refine aG (F:=f26) rfl rfl (v:=⟨.lst ((aW h).map Rw.d),true,false,[]⟩) ?_
 show exs pg (call pg (n+18)) [.sh true h.d,.dead,.dead,.dead,.dead,.dead,.dead] _=_
 refine(stp (σ':=[.sh true h.d,.own false ((cH h).map Rw.d),.dead,.dead,.dead,.dead,.dead]) ?_).trans ?_
 . show ex pg (call pg (n+18)) _ (.set (.n 1) _)=_
   rw[bY,hc]
   rfl
 refine(stp (σ':=[.sh true h.d,.own false ((cH h).map Rw.d),.dct ks,.dead,.dead,.dead,.dead]) ?_).trans ?_
 . show ex pg (call pg (n+18)) _ (.dfrom 2 _)=_
   rw[aEs,hc2,aT]
   show(match gL _ with|some ks=>_|none=>_)=_
   rw[pZ]
   show O.next _=_
   rw[hks]
   rfl
 refine(stp (σ':=lsS h 0 .dead .dead .dead ks (cH h)) rfl).trans ?_
 refine(stp (σ':=lsS h p' v4 v5 v6 ks2 (aW h)) ?_).trans rfl
 rw[uJ]
 exact ew
def rW(rs:List Rw):Prop:=∀(i:Nat) (r:Rw) (x:Nat×Nat×Nat),rs[i]? = some r->r.p=some x->x.1<i
theorem rW.add{rs:List Rw}(h:rW rs){r:Rw}(hr:∀x,r.p=some x->x.1<rs.length):rW (rs++[r]):=λi y x e q=>by
 by_cases hi:i<rs.length
 . rw[List.getElem?_append_left hi] at e;exact h i y x e q
 . rw[List.getElem?_append_right (by omega)] at e
   have hz:i-rs.length=0:=by
    cases hz:i-rs.length with
    | zero=>rfl
    | succ m=>rw[hz] at e;simp at e
   rw[hz] at e
   cases e
   have:=hr x q
   omega
theorem xH{h:House}{Pr:List Rw->Prop}(step:∀(acc:List Rw) (p i k:Nat) (r:Rw),acc[p]? = some r->Pr acc->Pr (add1 p i k (goneS h r.s i k) acc)){p:Nat}{r:Rw}{i:Nat}{acc:List Rw}(e:acc[p]? = some r)(I:Pr acc):∀m,Pr (expK h p r.s i m acc)
 | 0=>I
 | m+1=>by rw[eO];exact step _ p i m r (lG e p i m) (xH step e I m)
theorem xI{h:House}{Pr:List Rw->Prop}(step:∀(acc:List Rw) (p i k:Nat) (r:Rw),acc[p]? = some r->Pr acc->Pr (add1 p i k (goneS h r.s i k) acc)){p:Nat}{r:Rw}{acc:List Rw}(e:acc[p]? = some r)(I:Pr acc):∀m,Pr (expA h p r.s m acc)
 | 0=>I
 | m+1=>by rw[fE];exact xH step (pY e p m) (xI step e I m) 4
theorem aAV{h:House}{Pr:List Rw->Prop}(step:∀(acc:List Rw) (p i k:Nat) (r:Rw),acc[p]? = some r->Pr acc->Pr (add1 p i k (goneS h r.s i k) acc)):∀(n p:Nat) (acc:List Rw),Pr acc->Pr (bfs h n p acc)
 | 0,_,_,I=>I
 | n+1,p,acc,I=>by
  unfold bfs
  split
  . rename_i r e
    exact aAV step n (p+1) _ (xI step e I _)
  . exact I
theorem qB(h:House):rW (aW h):=by
 refine aAV (Pr:=rW) (λacc p i k r e I=>?_) fZ 0 (cH h) λi r x e q=>?_
 . unfold add1
   split
   . exact I
   . split
     . exact I
     . refine I.add λx hx=>?_
       cases hx
       exact(List.getElem?_eq_some_iff.mp e).1
 . have:=mG e
   obtain⟨s,_,rfl⟩:=List.mem_map.mp this
   cases q
theorem aEC{h:House}(H:aF h):∀(n p:Nat) (acc:List Rw),RI h acc->RI h (bfs h n p acc)
 | 0,_,_,I=>I
 | n+1,p,acc,I=>by
  rw[bfs]
  cases q:acc[p]? with
  | none=>exact I
  | some r=>exact aEC H n _ _ (RI.expA H (I.good r (mG q)) p I _ (Nat.le_refl _))
theorem jH{h:House}(H:aF h):RI h (aW h):=aEC H fZ 0 _ (RI.zero H)
def stP(x:Nat×Nat):D:=iO (x.1:Int) (x.2:Int)
theorem aAW(x:Nat×Nat):noL (stP x)=true:=rfl
def pD(r:Rw):D:=match r.p with|none=>.non|some x=>.int (x.1:Int)
def sD(r:Rw):D:=match r.p with|none=>.non|some x=>stP x.2
theorem aLW(r:Rw):r.d=.tup [aO r.s.1 r.s.2,pD r,sD r]:=by
 unfold Rw.d pD sD stP
 cases r.p <;> rfl
theorem aJb(r:Rw):noL (pD r)=true:=by unfold pD;cases r.p <;> rfl
theorem aJc(r:Rw):noL (sD r)=true:=by unfold sD;cases r.p <;> rfl
theorem aGM(r:Rw):bM (.cl r.d) (.cl (.int 1))=.ok (.cl (pD r)):=by rw[aLW];exact fU _ _ _ (aJb r)
theorem aLX(r:Rw):bM (.cl r.d) (.cl (.int 2))=.ok (.cl (sD r)):=by rw[aLW];exact qN _ _ _ _ (aJc r)
def back(rs:List Rw):Nat->Rw->Rw×List (Nat×Nat)
 | 0,r=>(r,[])
 | F+1,r=>match r.p with
  | none=>(r,[])
  | some x=>match rs[x.1]? with
   | none=>(r,[])
   | some q=>((back rs F q).1,x.2::(back rs F q).2)
theorem qC{rs:List Rw}(hR:rW rs){t:Sg->R Bool}{f:Sg->O}(W:Rw->List (Nat×Nat)->Sg)(ht:∀r acc,t (W r acc)=.ok r.p.isSome)(hf:∀r acc x q,r.p=some x->rs[x.1]? = some q->acc.length<900000->f (W r acc)=.next (W q (acc++[x.2]))) :
 ∀(F j:Nat) (r:Rw),rs[j]? = some r->j<F->∀acc n,acc.length+F<=900000->F<n->fA t f n (W r acc)=.next (W (back rs F r).1 (acc++(back rs F r).2))
 | 0,_,_,_,h,_,_,_,_=>absurd h (Nat.not_lt_zero _)
 | F+1,j,r,e,hj,acc,n,ha,hn=>by
  obtain⟨n,rfl⟩:∃m,n=m+1:=⟨n-1,by omega⟩
  have h1:=ht r acc
  unfold back
  cases hp:r.p with
  | none=>
   rw[hp] at h1
   rw[xD n h1,List.append_nil]
  | some x=>
   rw[hp] at h1
   have hx:=hR j r x e hp
   have hl:x.1<rs.length:=Nat.lt_trans hx (List.getElem?_eq_some_iff.mp e).1
   have hq:rs[x.1]? = some rs[x.1]:=List.getElem?_eq_getElem hl
   have h2:=hf r acc x rs[x.1] hp hq (by omega)
   simp only[hq]
   rw[xE n h1 h2,qC hR W ht hf F x.1 rs[x.1] hq (by omega) (acc++[x.2]) n (by rw[lA];show acc.length+1+F<=_;omega) (by omega),List.append_assoc]
   rfl
theorem aJd(r:Rw):(!isNone (pD r))=r.p.isSome:=by unfold pD;cases r.p <;> rfl
theorem lH(rs:List Rw):∀(F:Nat) (r:Rw),(back rs F r).2.length<=F
 | 0,r=>Nat.le_refl _
 | F+1,r=>by
  unfold back
  cases r.p with
  | none=>exact Nat.zero_le _
  | some x=>
   simp only
   cases rs[x.1]? with
   | none=>exact Nat.zero_le _
   | some q=>exact Nat.succ_le_succ (lH rs F q)
abbrev wbC:E:=.cmp .IsNot (.idx (.v 2) (.c (.int 1))) (.c .non)
theorem aED{P:Pg}{cl:Caller}{σ:Sg}{r:Rw}(h:σ[2]? = some (.sh false r.d)):tst P cl σ wbC=.ok r.p.isSome:=by
 have hv:ev P cl σ (.v 2)=.ok (.cl r.d):=by rw[bV,bH,h];rfl
 rw[bX,aJ hv rfl (aGM r),aA,cI,aA,bB,bB,<-aJd]
 rfl
theorem aAX{P:Pg}{cl:Caller}{σ:Sg}{rs:List Rw}{r q:Rw}{acc:List (Nat×Nat)}{x:Nat×Nat×Nat}{j k:Nat}{v:Vl}(h2:σ[2]? = some (.sh false r.d))(hj:σ[j]? = some (.own false (acc.map stP)))(hk:∀s,bH (σ.set j s) k=.ok v)(hv:v.d=.lst (rs.map Rw.d))(j2:j≠2)(hp:r.p=some x)(hq:rs[x.1]? = some q)(hl:acc.length<900000) :
 exs P cl σ (.cons (.app j (.idx (.v 2) (.c (.int 2)))) (.cons (.set (.n 2) (.idx (.v k) (.idx (.v 2) (.c (.int 1))))) .nil))=.next ((σ.set j (.own false ((acc++[x.2]).map stP))).set 2 (.sh false q.d)):=by
 have pd:pD r=.int (x.1:Int):=by unfold pD;rw[hp]
 have sd:sD r=stP x.2:=by unfold sD;rw[hp]
 have hv2:ev P cl σ (.v 2)=.ok (.cl r.d):=by rw[bV,bH,h2];rfl
 have ll:(acc.map stP++[stP x.2]).length<=lim:=by rw[lA,lM];show acc.length+1<=1000000;omega
 have e1:ex P cl σ (.app j (.idx (.v 2) (.c (.int 2))))=.next (σ.set j (.own false ((acc++[x.2]).map stP))):=by
  rw[kC,aJ hv2 rfl (aLX r),sd,aT]
  simp only[put,dS,bI,gB,hj,bB,ll,if_true,rL,Bool.or_false,List.map_append,mC,mN]
 have hv3:ev P cl (σ.set j (.own false ((acc++[x.2]).map stP))) (.v 2)=.ok (.cl r.d):=by rw[bV,bH,List.getElem?_set_ne j2,h2];rfl
 refine cs e1 (cs (bJ (aJ (by rw[bV];exact hk _) (aJ hv3 rfl (aGM r)) ?_)) (aL ..))
 rw[pd]
 exact uM hv hq
theorem aGh{P:Pg}{cl:Caller}{σ:Sg}(i:Nat):ex P cl σ (.rev i)=put σ i (.cl .non) λds=>some ds.reverse:=id rfl
def aGi(rs:List Rw)(r:Rw):D:=.lst ((back rs rs.length r).2.map stP).reverse
def xJ(rs:List Rw)(r:Rw):D:=aE (back rs rs.length r).1.s.1
theorem zT(n:Nat){h:House}(H:aF h){j:Nat}{r:Rw}(hr:(aW h)[j]? = some r):call pg (n+1) 27 [.lst ((aW h).map Rw.d),.int (j:Int)]=.ok (.tup [xJ (aW h) r,aGi (aW h) r],false,false):=by
 have few:=(jH H).few H
 have hj:j<(aW h).length:=(List.getElem?_eq_some_iff.mp hr).1
 have ew:=qC (qB h) (t:=λσ=>tst pg (call pg n) σ wbC) (f:=λσ=>exs pg (call pg n) σ (.cons (.app 3 (.idx (.v 2) (.c (.int 2)))) (.cons (.set (.n 2) (.idx (.v 0) (.idx (.v 2) (.c (.int 1))))) .nil))) (λr acc=>[.sh true (.lst ((aW h).map Rw.d)),.sh true (.int (j:Int)),.sh false r.d,.own false (acc.map stP)]) (λr acc=>aED rfl) (λr acc x q hp hq hl=>aAX (v:=⟨.lst ((aW h).map Rw.d),false,true,[]⟩) rfl rfl (λs=>gQ 0 _) rfl (by decide) hp hq hl)
  (aW h).length j r hr hj [] fZ (by rw[lN];omega) (by unfold fZ;omega)
 have ix:=uM (v:=⟨.lst ((aW h).map Rw.d),false,true,[]⟩) rfl hr
 unfold xJ aGi
 have bl:=lH (aW h) (aW h).length r
 generalize back (aW h) (aW h).length r=b at ew bl
 generalize (aW h)=rs at ew ix few bl
 have ll:(b.2.map stP).reverse.length<=lim:=by rw[List.length_reverse,lM];show _<=1000000;omega
 refine aG (F:=f27) rfl rfl (v:=⟨.tup [aE b.1.s.1,.lst (b.2.map stP).reverse],false,false,[3]⟩) ?_
 show exs pg (call pg n) [.sh true (.lst (rs.map Rw.d)),.sh true (.int (j:Int)),.dead,.dead] _=_
 refine cs (σ':=[.sh true (.lst (rs.map Rw.d)),.sh true (.int (j:Int)),.sh false r.d,.dead]) (bJ (aJ (by rw[bV];exact gQ 0 _) rfl ix)) (cs (σ':=[.sh true (.lst (rs.map Rw.d)),.sh true (.int (j:Int)),.sh false r.d,.own false []]) rfl (cs (σ':=[.sh true (.lst (rs.map Rw.d)),.sh true (.int (j:Int)),.sh false b.1.d,.own false (b.2.map stP)]) (by rw[uJ];exact ew) (cs (σ':=[.sh true (.lst (rs.map Rw.d)),.sh true (.int (j:Int)),.sh false b.1.d,.own false (b.2.map stP).reverse]) ?_ (bG ?_))))
 . simp only[aGh,put,dS,bI,gB,gS,gZ,ll,if_true,rL,Bool.or_false,lS,lZ]
 . rw[cY,aB,aJ (aJ rfl rfl (rV b.1)) rfl (mZ b.1.s)]
   rfl
theorem aLY{α:Type}{f:Sg->Vl->O}{g:α->Vl}(r:α->Option D)(I:Sg->Prop):∀(as:List α) (σ:Sg),I σ->(∀a∈as,∀σ,I σ->(∃d,r a=some d/\f σ (g a)=.ret (.cl d))\/(r a=none/\∃σ',(f σ (g a)=.next σ'\/f σ (g a)=.cnt σ')/\I σ')) ->
 (∃d,as.findSome? r=some d/\dQ f (as.map g) σ=.ret (.cl d))\/(as.findSome? r=none/\∃σ',dQ f (as.map g) σ=.next σ'/\I σ')
 | [],σ,h0,_=>.inr ⟨rfl,σ,rfl,h0⟩
 | a::as,σ,h0,hs=>by
  rw[mC,List.findSome?_cons]
  rcases hs a List.mem_cons_self σ h0 with⟨d,e1,e2⟩|⟨e1,σ',e2,h1⟩
  . refine .inl ⟨d,by rw[e1],?_⟩
    unfold dQ
    rw[e2]
  . have ef:dQ f (g a::as.map g) σ=dQ f (as.map g) σ':=by
     rcases e2 with e2|e2 <;> rw[dQ,e2]
    rw[e1,ef]
    exact aLY r I as σ' h1 λb hb=>hs b (List.mem_cons_of_mem _ hb)
theorem forr_of{α:Type}{P:Pg}{cl:Caller}{σ:Sg}{t:T}{it:It}{bd:Ss}{as:List α}{g:α->Vl}{al:List Nat}(r:α->Option D)(I:Sg->Prop)(hw:walk P cl σ it=.ok (as.map g,al))(h0:I (freeze σ al))
 (hs:∀a∈as,∀σ,I σ->∃σ1,cC σ (g a) t=.ok σ1/\((∃d,r a=some d/\exs P cl σ1 bd=.ret (.cl d))\/(r a=none/\∃σ',(exs P cl σ1 bd=.next σ'\/exs P cl σ1 bd=.cnt σ')/\I σ'))) :
 (∃d,as.findSome? r=some d/\ex P cl σ (.for t it bd)=.ret (.cl d))\/(as.findSome? r=none/\∃σ',ex P cl σ (.for t it bd)=.next σ'/\I σ'):=by
 rw[yZ,hw]
 exact aLY r I as (freeze σ al) h0 λa ha σ hI=>by
  obtain⟨σ1,e1,e2⟩:=hs a ha σ hI
  show(∃d,r a=some d/\O.from σ (cC σ (g a) t) _=_)\/(r a=none/\∃σ',(O.from σ (cC σ (g a) t) _=_\/O.from σ (cC σ (g a) t) _=_)/\_)
  rw[e1]
  exact e2
theorem fF{P:Pg}{cl:Caller}{σ:Sg}{s:S}{ss:Ss}{o o':Option D}{I:Sg->Prop}(h:(∃d,o=some d/\ex P cl σ s=.ret (.cl d))\/(o=none/\∃σ',ex P cl σ s=.next σ'/\I σ'))(k:∀σ',I σ'->exs P cl σ' ss=.ret (.cl (o'.getD .non))) :
 exs P cl σ (.cons s ss)=.ret (.cl ((o.or o').getD .non)):=by
 rcases h with⟨d,e1,e2⟩|⟨e1,σ',e2,hI⟩
 . rw[aV,e2,e1];rfl
 . rw[aV,e2,e1,jN,k σ' hI];rfl
theorem rX(n:Nat):∀as bs:List Int,fK (n+1) (as.map D.int) (bs.map D.int)=some (as==bs)
 | [],[]=>rfl
 | [],_::_=>rfl
 | _::_,[]=>rfl
 | a::as,b::bs=>by
  rw[mC,mC,fK,aFS,rX n as bs]
  rfl
theorem xK(a b:List Int):eqD (aE a) (aE b)=some (a==b):=by
 show eqF (118+1+1) (.tup (a.map D.int)) (.tup (b.map D.int))=_
 rw[aFT]
 exact rX 118 a b
def fX(h:House)(s:Sta)(i:Nat):Cn:=(h.nt.getD i []).getD (s.2.getD i 0).toNat .yes
def lI(h:House)(i:Nat):Cn:=h.pr.getD i .yes
def brN(h:House)(s:Sta)(i:Nat):Option D:=if (fX h s i).hold s.1 s.1 then none else some (.tup [.str "note",.int (i:Int)])
def brP(h:House)(s:Sta)(g:(Nat×Nat)×Sta):Option D:=if s.1==g.2.1||(lI h g.1.1).hold s.1 g.2.1 then none else some (.tup [.str "promise",.int (g.1.1:Int),.int (g.1.2:Int)])
def brk(h:House)(s:Sta):Option D:=((List.range h.hs.length).findSome? (brN h s)).or ((goL h s h.hs.length).findSome? (brP h s))
def brK(h:House)(s:Sta)(i k:Nat):Option D:=(goneS h s i k).bind λt=>brP h s ((i,k),t)
theorem xL(h:House)(s:Sta)(i:Nat):∀m,(goG h s i m).findSome? (brP h s)=(List.range m).findSome? (brK h s i)
 | 0=>rfl
 | m+1=>by
  rw[pV,List.range_succ,List.findSome?_append,List.findSome?_append,xL h s i m]
  congr 1
  rw[List.findSome?_singleton]
  show _=(goneS h s i m).bind _
  cases goneS h s i m with
  | none=>rfl
  | some t=>simp
theorem rY{h:House}{s:Sta}{i:Nat}:∀m,(List.range ((cB h s.2 i).length+m)).findSome? (brK h s i)=(List.range (cB h s.2 i).length).findSome? (brK h s i)
 | 0=>rfl
 | m+1=>by
  have e:goneS h s i ((cB h s.2 i).length+m)=none:=by unfold goneS;rw[if_neg (by omega)]
  rw[<-Nat.add_assoc,List.range_succ,List.findSome?_append,rY m]
  simp[brK,e]
theorem aAY{h:House}(H:aF h){s:Sta}(S:dH h s.1 s.2):∀m,m<=h.hs.length->(goL h s m).findSome? (brP h s)=(List.range m).findSome? λi=>(List.range 4).findSome? (brK h s i)
 | 0,_=>rfl
 | m+1,hm=>by
  have hf:=nO H S (i:=m) (by omega)
  rw[lF,List.range_succ (n:=m),List.findSome?_append,List.findSome?_append,aAY H S m (by omega),xL,List.findSome?_singleton]
  have e:=rY (h:=h) (s:=s) (i:=m) (4-(cB h s.2 m).length)
  rw[show(cB h s.2 m).length+(4-(cB h s.2 m).length)=4 by omega] at e
  rw[e]
theorem uN{h:House}(H:aF h){s:Sta}(S:dH h s.1 s.2){i:Nat}(hi:i<h.hs.length):∃t k,h.nt[i]? = some t/\s.2.getD i 0=((k:Nat):Int)/\t[k]? = some (fX h s i)/\(fX h s i).wf h.bs.length true/\(fX h s i).sz<=7:=by
 have hn:i<h.nt.length:=by rw[H.nf];exact hi
 have hl:=congrArg (λl=>l[i]?) H.nl
 simp only[List.getElem?_map,List.getElem?_eq_getElem hn,List.getElem?_eq_getElem hi,Option.map_some,Option.some.injEq] at hl
 obtain⟨p1,p2⟩:=S.pl i hi
 have e1:h.nt.getD i []=h.nt[i]:=by rw[List.getD_eq_getElem?_getD,List.getElem?_eq_getElem hn];rfl
 have hk:(s.2.getD i 0).toNat<(h.nt[i]).length:=by omega
 have e2:(h.nt[i])[(s.2.getD i 0).toNat]? = some (fX h s i):=by
  unfold fX
  rw[e1,List.getD_eq_getElem?_getD (l:=h.nt[i]),List.getElem?_eq_getElem hk]
  rfl
 obtain⟨w1,w2⟩:=(H.nt _ (List.getElem_mem hn)).all _ (mG e2)
 exact⟨h.nt[i],(s.2.getD i 0).toNat,List.getElem?_eq_getElem hn,by omega,e2,w1,w2⟩
theorem aEE{h:House}(H:aF h){i:Nat}(hi:i<h.hs.length):h.pr[i]? = some (lI h i)/\(lI h i).wf h.bs.length false/\(lI h i).sz<=30:=by
 have hn:i<h.pr.length:=by rw[H.pl];exact hi
 have e:h.pr[i]? = some (lI h i):=by
  unfold lI
  rw[List.getD_eq_getElem?_getD,List.getElem?_eq_getElem hn]
  rfl
 exact⟨e,H.pr _ (mG e)⟩
theorem aLZ{h:House}{s:Sta}{m:Nat}{x:(Nat×Nat)×Sta}(hx:x∈goL h s m):x.1.1<m:=by
 obtain⟨i,hi,hx⟩:=List.mem_flatMap.mp hx
 obtain⟨k,_,e⟩:=List.mem_filterMap.mp hx
 obtain⟨t,_,rfl⟩:=Option.map_eq_some_iff.mp e
 exact List.mem_range.mp hi
theorem aBU(n:Nat){m:Nat}{a b:List Int}(ha:a.length=m)(hb:b.length=m){q:Cn}(w:q.wf m false)(z:q.sz<=30):call pg (n+30) 1 [q.d,aE a,aE b]=.ok (.bl (q.hold a b),false,false):=by
 have:=iL (P:=pg) (v:=0) (f:=1) rfl rfl (ah:=a) (be:=b) (bd:=aE b) (c:=m) (pl:=false) ha hb (aK _) (λ_=>rfl) q (n+30-q.sz) w
 rwa [show n+30-q.sz+q.sz=n+30 by omega] at this
theorem aBV(n:Nat){m:Nat}{a b:List Int}(ha:a.length=m)(hb:b.length=m){q:Cn}(w:q.wf m false)(z:q.sz<=30):call pg (n+30) 16 [q.d,aE a,aE b]=.ok (.bl (q.hold a b),false,false):=by
 have:=iN (ah:=a) (be:=b) (bd:=aE b) (c:=m) (pl:=false) ha hb (aK _) (λ_=>rfl) q (n+30-q.sz) w
 rwa [show n+30-q.sz+q.sz=n+30 by omega] at this
theorem aMa(h:House):bM ⟨h.d,false,true,[]⟩ (.cl (.int 3))=.ok ⟨.lst (h.pr.map Cn.d),false,true,[]⟩:=rfl
theorem aMb(h:House):bM ⟨h.d,false,true,[]⟩ (.cl (.int 4))=.ok ⟨.lst (h.nt.map eD),false,true,[]⟩:=rfl
section
variable {P:Pg} {cl:Caller} {σ:Sg} {h:House}
theorem aGN(H:aF h){i:Nat}(hi:i<h.hs.length){a b:E}(h1:ev P cl σ a=.ok ⟨h.d,false,true,[]⟩)(h2:ev P cl σ b=.ok (.cl (.int (i:Int)))):ev P cl σ (.idx (.idx a (.c (.int 3))) b)=.ok (.cl (lI h i).d):=by
 rw[aJ (aJ h1 rfl (aMa h)) h2 (rN rfl (aEE H hi).1),bT (Cn.noL _)]
theorem aAZ(H:aF h){s:Sta}(S:dH h s.1 s.2){i:Nat}(hi:i<h.hs.length){a b c:E}(h1:ev P cl σ a=.ok ⟨h.d,false,true,[]⟩)(h2:ev P cl σ b=.ok (.cl (.int (i:Int))))(h3:ev P cl σ c=.ok (.cl (.int (s.2.getD i 0)))):ev P cl σ (.idx (.idx (.idx a (.c (.int 4))) b) c)=.ok (.cl (fX h s i).d):=by
 obtain⟨t,k,e1,e2,e3,_⟩:=uN H S hi
 rw[e2] at h3
 rw[aJ (aJ (aJ h1 rfl (aMb h)) h2 (rN rfl e1)) h3 (rN (v:=⟨eD t,false,true,[]⟩) rfl e3),bT (Cn.noL _)]
theorem aBa{s:Sta}{a:E}(h1:ev P cl σ a=.ok (.cl (aO s.1 s.2)))(hl:s.2.length=h.hs.length):walk P cl σ (.enum (.idx a (.c (.int 1))))=.ok ((List.range h.hs.length).map λ(k:Nat)=>Vl.cl (.tup [.int (k:Int),.int (s.2.getD k 0)]),[]):=by
 have e:items (.cl (aE s.2)) (eA 0 (s.2.map D.int))=(List.range h.hs.length).map λ(k:Nat)=>Vl.cl (.tup [.int (k:Int),.int (s.2.getD k 0)]):=by
  rw[kF,hl]
  unfold items
  rw[List.map_map]
  refine List.map_congr_left λk _=>?_
  show Vl.sub _ (.tup [.int (0+(k:Int)),.int (s.2.getD k 0)])=_
  rw[Int.zero_add,bT rfl]
 rw[jF,aJ h1 rfl (aEi s),aA,<-e]
 rfl
end
theorem aBW(n:Nat){h:House}(H:aF h){i:Nat}(hi:i<h.hs.length){a b:List Int}(ha:a.length=h.bs.length)(hb:b.length=h.bs.length):call pg (n+31) 30 [h.d,.int (i:Int),aE a,aE b]=.ok (.bl (a==b||(lI h i).hold a b),false,false):=by
 obtain⟨_,w1,w2⟩:=aEE H hi
 have ch:=aBU n ha hb w1 w2
 refine aG (F:=f30) rfl rfl (v:=.cl (.bl (a==b||(lI h i).hold a b))) ?_
 have v2:=v2_ (P:=pg) (cl:=call pg (n+30)) (s:=.sh true h.d) (t:=.sh true (.int (i:Int))) (r:=[.sh true (aE b)]) (aK a)
 have v3:ev pg (call pg (n+30)) [.sh true h.d,.sh true (.int (i:Int)),.sh true (aE a),.sh true (aE b)] (.v 3)=.ok (.cl (aE b)):=jB 3 true (aK b)
 exact bG (aDO (rM v2 v3 (xK a b)) (bL (aGN H hi rfl rfl) v2 v3 ch))
abbrev biS(h:House)(s:Sta)(s3 s4 s5 s6:Sl):Sg:=[.sh true h.d,.sh true (aO s.1 s.2),.sh false (aE s.1),s3,s4,s5,s6]
theorem brN_or{h:House}{s:Sta}{i:Nat}:(∃d,brN h s i=some d/\d=.tup [.str "note",.int (i:Int)]/\(fX h s i).hold s.1 s.1=false)\/(brN h s i=none/\(fX h s i).hold s.1 s.1=true):=by
 unfold brN
 cases(fX h s i).hold s.1 s.1
 . exact .inl ⟨_,rfl,rfl,rfl⟩
 . exact .inr ⟨rfl,rfl⟩
theorem brP_or{h:House}{s:Sta}{g:(Nat×Nat)×Sta}:(∃d,brP h s g=some d/\d=.tup [.str "promise",.int (g.1.1:Int),.int (g.1.2:Int)]/\(s.1==g.2.1||(lI h g.1.1).hold s.1 g.2.1)=false)\/(brP h s g=none/\(s.1==g.2.1||(lI h g.1.1).hold s.1 g.2.1)=true):=by
 unfold brP
 cases s.1==g.2.1||(lI h g.1.1).hold s.1 g.2.1
 . exact .inl ⟨_,rfl,rfl,rfl⟩
 . exact .inr ⟨rfl,rfl⟩
theorem xM(n:Nat){h:House}(H:aF h){s:Sta}(g:nE h s):call pg (n+32) 29 [h.d,aO s.1 s.2]=.ok ((brk h s).getD .non,false,false):=by
 have S:=g.ok
 have v1:∀{P:Pg} {cl:Caller} {s0:Sl} {r:Sg},ev P cl (s0::.sh true (aO s.1 s.2)::r) (.v 1)=.ok (.cl (aO s.1 s.2)):=λ{P cl s0 r}=>v1_ (cG _ _)
 refine aG (F:=f29) rfl rfl (v:=.cl ((brk h s).getD .non)) ?_
 show exs pg (call pg (n+31)) [.sh true h.d,.sh true (aO s.1 s.2),.dead,.dead,.dead,.dead,.dead] _=_
 refine cs (bJ (aJ v1 rfl (mZ s))) ?_
 refine fF (I:=λσ=>∃s3 s4,σ=biS h s s3 s4 .dead .dead) (forr_of (brN h s) _ (aBa v1 S.len) ⟨_,_,rfl⟩ λi hi σ hσ=>?_) λσ hσ=>?_
 . obtain⟨s3,s4,rfl⟩:=hσ
   have hi:=List.mem_range.mp hi
   obtain⟨_,_,_,_,_,w1,w2⟩:=uN H S hi
   have ch:=pO (n+16) S.st w1 (by omega)
   refine⟨_,mX _ rfl rfl,?_⟩
   have t:=lU (lB (P:=pg) (cl:=call pg (n+31)) (σ:=biS h s (.sh false (.int (i:Int))) (.sh false (.int (s.2.getD i 0))) .dead .dead) (f:=1) (aAZ H S hi (a:=.v 0) (b:=.v 3) (c:=.v 4) rfl rfl rfl) (b:=.v 2) (y:=.cl (aE s.1)) rfl (c:=.c .non) (z:=.cl .non) rfl ch)
   rcases brN_or (h:=h) (s:=s) (i:=i) with⟨d,e1,rfl,e2⟩|⟨e1,e2⟩ <;> rw[e2] at t
   . exact .inl ⟨_,e1,cM t (bG (dM rfl rfl))⟩
   . exact .inr ⟨e1,_,.inl (cs (bU t) (aL ..)),_,_,rfl⟩
 . obtain⟨s3,s4,rfl⟩:=hσ
   have cg:=pX (n+13) H S
   have hw:walk pg (call pg (n+31)) (biS h s s3 s4 .dead .dead) (.seq (.call 24 (.cons (.v 0) (.cons (.v 1) .nil))))=.ok ((goL h s h.hs.length).map (λg=>Vl.cl (goD g)),[]):=by
    have hit:items ⟨.lst ((goL h s h.hs.length).map goD),true,false,[]⟩ ((goL h s h.hs.length).map goD)=(goL h s h.hs.length).map λg=>Vl.cl (goD g):=fD aEu _
    have ee:evs pg (call pg (n+31)) (biS h s s3 s4 .dead .dead) (.cons (.v 0) (.cons (.v 1) .nil))=.ok [⟨h.d,false,true,[]⟩,.cl (aO s.1 s.2)]:=by
     rw[aB,aB,v1];rfl
    rw[cO,aU,ee,aA]
    show(call pg (n+31) 24 [h.d,aO s.1 s.2] >>= _) >>= _=_
    rw[cg,aA]
    show R.ok (items _ _,_)=_
    rw[<-hit]
    rfl
   rw[show(goL h s h.hs.length).findSome? (brP h s)=((goL h s h.hs.length).findSome? (brP h s)).or none by simp]
   refine fF (I:=λσ=>∃s5 s6,σ=biS h s s3 s4 s5 s6) (forr_of (brP h s) _ hw ⟨_,_,rfl⟩ λx hx σ hσ=>?_) λσ hσ=>bG rfl
   obtain⟨s5,s6,rfl⟩:=hσ
   have hi:=aLZ hx
   have gx:=aEx H g hx
   have ck:=aBW n H hi S.st gx.ok.st
   refine⟨_,mX _ (pQ _ _) (cG _ _),?_⟩
   have i0:bM (.cl (iO (x.1.1:Int) (x.1.2:Int))) (.cl (.int 0))=.ok (.cl (.int (x.1.1:Int))):=dG _ _ rfl
   have i1:bM (.cl (iO (x.1.1:Int) (x.1.2:Int))) (.cl (.int 1))=.ok (.cl (.int (x.1.2:Int))):=fU _ _ _ rfl
   have t:=lU (aFX (P:=pg) (cl:=call pg (n+31)) (σ:=biS h s s3 s4 (.sh false (iO (x.1.1:Int) (x.1.2:Int))) (.sh false (aO x.2.1 x.2.2))) (f:=30) (a:=.v 0) (x:=⟨h.d,false,true,[]⟩) rfl (b:=.idx (.v 5) (.c (.int 0))) (aJ rfl rfl i0) (c:=.v 2) (z:=.cl (aE s.1)) rfl (e:=.idx (.v 6) (.c (.int 0))) (aJ rfl rfl (mZ x.2)) ck)
   rcases brP_or (h:=h) (s:=s) (g:=x) with⟨d,e1,rfl,e2⟩|⟨e1,e2⟩ <;> rw[e2] at t
   . exact .inl ⟨_,e1,cM t (bG (fV rfl (aJ rfl rfl i0) (aJ rfl rfl i1)))⟩
   . exact .inr ⟨e1,_,.inl (cs (bU t) (aL ..)),_,_,rfl⟩
abbrev lbS(h:House)(s:Sta)(s2 s3 s4 s5:Sl):Sg:=[.sh true h.d,.sh true (aO s.1 s.2),s2,s3,s4,s5]
abbrev lbB:Ss:=match hdS (match hdS (drp 1 f34.body) with|.for _ _ b=>b|_=>.nil) with|.for _ _ b=>b|_=>.nil
theorem lb_turn(n:Nat){h:House}(H:aF h){s:Sta}(g:nE h s){i:Nat}(hi:i<h.hs.length)(k:Nat)(s3 s5:Sl) :
 (∃d,brK h s i k=some d/\exs pg (call pg (n+30)) (lbS h s (.sh false (.int (i:Int))) s3 (.sh false (.int (k:Int))) s5) lbB=.ret (.cl d)) \/
 (brK h s i k=none/\∃s5',(exs pg (call pg (n+30)) (lbS h s (.sh false (.int (i:Int))) s3 (.sh false (.int (k:Int))) s5) lbB=.next (lbS h s (.sh false (.int (i:Int))) s3 (.sh false (.int (k:Int))) s5')\/exs pg (call pg (n+30)) (lbS h s (.sh false (.int (i:Int))) s3 (.sh false (.int (k:Int))) s5) lbB=.cnt (lbS h s (.sh false (.int (i:Int))) s3 (.sh false (.int (k:Int))) s5'))):=by
 have S:=g.ok
 have v1:∀{P:Pg} {cl:Caller} {s0:Sl} {r:Sg},ev P cl (s0::.sh true (aO s.1 s.2)::r) (.v 1)=.ok (.cl (aO s.1 s.2)):=λ{P cl s0 r}=>v1_ (cG _ _)
 have cg:=xA (n+14) H S hi k
 have e1:ex pg (call pg (n+30)) (lbS h s (.sh false (.int (i:Int))) s3 (.sh false (.int (k:Int))) s5) (hdS lbB)=.next (lbS h s (.sh false (.int (i:Int))) s3 (.sh false (.int (k:Int))) (.sh false (zN (goneS h s i k)))):=bJ (bL (x:=⟨h.d,false,true,[]⟩) rfl v1 (dM rfl rfl) cg)
 unfold brK
 cases q:goneS h s i k with
 | none=>
  rw[q] at e1
  exact .inr ⟨rfl,_,.inr (cs e1 (aGI rfl))⟩
 | some t=>
  rw[q] at e1
  have gt:=mJ H g hi q
  let σ:=lbS h s (.sh false (.int (i:Int))) s3 (.sh false (.int (k:Int))) (.sh false (aO t.1 t.2))
  have i5:ev pg (call pg (n+30)) σ (.idx (.v 5) (.c (.int 0)))=.ok (.cl (aE t.1)):=aJ rfl rfl (mZ t)
  have i1:ev pg (call pg (n+30)) σ (.idx (.v 1) (.c (.int 0)))=.ok (.cl (aE s.1)):=aJ v1 rfl (mZ s)
  have t2:tst pg (call pg (n+30)) σ (.orr (.cmp .Is (.v 5) (.c .non)) (.cmp .Eq (.idx (.v 5) (.c (.int 0))) (.idx (.v 1) (.c (.int 0)))))=.ok (t.1==s.1):=by
   rw[nK,show tst pg (call pg (n+30)) σ (.cmp .Is (.v 5) (.c .non))=.ok false from rfl,aA,if_neg bN,bX,i5,aA,i1,aA,bB,bB,eY,xK]
  obtain⟨_,w1,w2⟩:=aEE H hi
  have ch:=aBV n S.st gt.ok.st w1 w2
  have t3:=lU (lB (P:=pg) (cl:=call pg (n+30)) (σ:=σ) (f:=16) (aGN H hi (a:=.v 0) (b:=.v 2) rfl rfl) i1 i5 ch)
  have sy:(t.1==s.1)=(s.1==t.1):=BEq.comm
  rw[sy] at t2
  show(∃d,brP h s ((i,k),t)=some d/\_)\/(brP h s ((i,k),t)=none/\_)
  cases hq:s.1==t.1 with
  | true=>
   rw[hq] at t2
   refine .inr ⟨by unfold brP;rw[show(s.1==((i,k),t).2.1)=true from hq];rfl,_,.inr (cs e1 (aGI t2))⟩
  | false=>
   rw[hq] at t2
   rcases brP_or (h:=h) (s:=s) (g:=((i,k),t)) with⟨d,a1,rfl,a2⟩|⟨a1,a2⟩
   . rw[show(s.1==((i,k),t).2.1)=false from hq,Bool.false_or] at a2
     rw[show(lI h i).hold s.1 t.1=false from a2] at t3
     exact .inl ⟨_,a1,cs e1 (cs (bU t2) (cM t3 (bG (fV rfl rfl rfl))))⟩
   . rw[show(s.1==((i,k),t).2.1)=false from hq,Bool.false_or] at a2
     rw[show(lI h i).hold s.1 t.1=true from a2] at t3
     exact .inr ⟨a1,_,.inl (cs e1 (cs (bU t2) (cs (bU t3) (aL ..))))⟩
theorem zU(n:Nat){h:House}(H:aF h){s:Sta}(g:nE h s):call pg (n+31) 34 [h.d,aO s.1 s.2]=.ok ((brk h s).getD .non,false,false):=by
 have S:=g.ok
 have v1:∀{P:Pg} {cl:Caller} {s0:Sl} {r:Sg},ev P cl (s0::.sh true (aO s.1 s.2)::r) (.v 1)=.ok (.cl (aO s.1 s.2)):=λ{P cl s0 r}=>v1_ (cG _ _)
 have hf:=H.few
 refine aG (F:=f34) rfl rfl (v:=.cl ((brk h s).getD .non)) ?_
 show exs pg (call pg (n+30)) (lbS h s .dead .dead .dead .dead) _=_
 refine fF (I:=λσ=>∃s2 s3,σ=lbS h s s2 s3 .dead .dead) (forr_of (brN h s) _ (aBa v1 S.len) ⟨_,_,rfl⟩ λi hi σ hσ=>?_) λσ hσ=>?_
 . obtain⟨s2,s3,rfl⟩:=hσ
   have hi:=List.mem_range.mp hi
   obtain⟨_,_,_,_,_,w1,w2⟩:=uN H S hi
   have ch:=pP (n+15) S.st w1 (by omega)
   refine⟨_,mX _ rfl rfl,?_⟩
   have t:=lU (lB (P:=pg) (cl:=call pg (n+30)) (σ:=lbS h s (.sh false (.int (i:Int))) (.sh false (.int (s.2.getD i 0))) .dead .dead) (f:=16) (aAZ H S hi (a:=.v 0) (b:=.v 2) (c:=.v 3) rfl rfl rfl) (b:=.idx (.v 1) (.c (.int 0))) (aJ v1 rfl (mZ s)) (c:=.c .non) (z:=.cl .non) rfl ch)
   rcases brN_or (h:=h) (s:=s) (i:=i) with⟨d,e1,rfl,e2⟩|⟨e1,e2⟩ <;> rw[e2] at t
   . exact .inl ⟨_,e1,cM t (bG (dM rfl rfl))⟩
   . exact .inr ⟨e1,_,.inl (cs (bU t) (aL ..)),_,_,rfl⟩
 . obtain⟨s2,s3,rfl⟩:=hσ
   have hl:ev pg (call pg (n+30)) (lbS h s s2 s3 .dead .dead) (.bi .len (.cons (.idx (.v 0) (.c (.int 2))) .nil))=.ok (.cl (.int (h.hs.length:Int))):=cZ (aJ rfl rfl (fS h)) (by rw[cK,lM])
   rw[aAY H S _ (Nat.le_refl _),show(List.range h.hs.length).findSome? (λi=>(List.range 4).findSome? (brK h s i))=((List.range h.hs.length).findSome? (λi=>(List.range 4).findSome? (brK h s i))).or none by simp]
   refine fF (I:=λσ=>∃s2 s4 s5,σ=lbS h s s2 s3 s4 s5) (forr_of (λi=>(List.range 4).findSome? (brK h s i)) _ (bS hl rfl (n:=h.hs.length) (by omega)) ⟨_,_,_,rfl⟩ λi hi σ hσ=>?_) λσ hσ=>bG rfl
   obtain⟨s2,s4,s5,rfl⟩:=hσ
   have hi:=List.mem_range.mp hi
   refine⟨_,aAD _,?_⟩
   have hw:=bS (P:=pg) (cl:=call pg (n+30)) (σ:=lbS h s (.sh false (.int (i:Int))) s3 s4 s5) (a:=.c (.int 4)) (v:=.cl (.int ((4:Nat):Int))) rfl rfl (by decide)
   rcases forr_of (t:=.n 4) (bd:=lbB) (brK h s i) (λσ=>∃s4 s5,σ=lbS h s (.sh false (.int (i:Int))) s3 s4 s5) hw ⟨_,_,rfl⟩ (λk hk σ hσ=>by
    obtain⟨s4,s5,rfl⟩:=hσ
    refine⟨_,aAD _,?_⟩
    rcases lb_turn n H g hi k s3 s5 with⟨d,e1,e2⟩|⟨e1,s5',e2⟩
    . exact .inl ⟨d,e1,e2⟩
    . exact .inr ⟨e1,_,e2,_,_,rfl⟩) with⟨d,e1,e2⟩|⟨e1,σ',e2,s4',s5',rfl⟩
   . exact .inl ⟨d,e1,aIP e2⟩
   . exact .inr ⟨e1,_,.inl (cs e2 (aL ..)),_,_,_,rfl⟩
def zV(h:House)(r:Rw):Option D:=(brk h r.s).map λb=>.tup [xJ (aW h) r,aGi (aW h) r,b]
def nF(h:House):Option D:=(aW h).findSome? (zV h)
theorem brk_tup{h:House}{s:Sta}{b:D}(e:brk h s=some b):(∃i:Nat,b=.tup [.str "note",.int (i:Int)])\/∃i k:Nat,b=.tup [.str "promise",.int (i:Int),.int (k:Int)]:=by
 unfold brk at e
 rcases Option.or_eq_some_iff.mp e with e|⟨_,e⟩
 . obtain⟨i,_,e⟩:=List.exists_of_findSome?_eq_some e
   rcases brN_or (h:=h) (s:=s) (i:=i) with⟨d,e1,e2,_⟩|⟨e1,_⟩
   . rw[e] at e1;cases e1;exact .inl ⟨i,e2⟩
   . rw[e] at e1;cases e1
 . obtain⟨g,_,e⟩:=List.exists_of_findSome?_eq_some e
   rcases brP_or (h:=h) (s:=s) (g:=g) with⟨d,e1,e2,_⟩|⟨e1,_⟩
   . rw[e] at e1;cases e1;exact .inr ⟨_,_,e2⟩
   . rw[e] at e1;cases e1
theorem qD{h:House}{s:Sta}{b:D}(e:brk h s=some b):isNone b=false/\noL b=true:=by
 rcases brk_tup e with⟨i,rfl⟩|⟨i,k,rfl⟩ <;> exact⟨rfl,rfl⟩
theorem zW{α:Type}(F:α->Option D)(z:α)(xs:List α):(List.range xs.length).findSome? (λk=>F (xs.getD k z))=xs.findSome? F:=by
 have e:(List.range xs.length).map (λk=>xs.getD k z)=xs:=by
  refine List.ext_getElem (by simp) λi h1 h2=>?_
  simp[h2]
 have:=List.findSome?_map (f:=λk=>xs.getD k z) (p:=F) (l:=List.range xs.length)
 rw[e] at this
 rw[this]
 rfl
theorem uO{P:Pg}{cl:Caller}{σ:Sg}{a:E}{d:D}{k:Bool}(h:ev P cl σ a=.ok (.cl d))(q:isNone d=k):tst P cl σ (.cmp .IsNot a (.c .non))=.ok (!k):=by
 rw[bX,h,aA,cI,aA,bB,bB,<-q];rfl
theorem aJe{P:Pg}{cl:Caller}{σ:Sg}(a:E):ev P cl σ (.rvs a)=(ev P cl σ a >>= λx=>match x.d with
 | .lst ds=>.ok ⟨.lst ds.reverse,true,x.pa&&!noLs ds,if noLs ds then [] else x.al⟩
 | _=>.bad):=id rfl
abbrev z0:Rw:=⟨([],[]),none⟩
theorem aBX{v:Vl}(rs:List Rw):items v (eA 0 (rs.map Rw.d))=(List.range rs.length).map λ(k:Nat)=>Vl.cl (.tup [.int (k:Int),(rs.getD k z0).d]):=by
 rw[mL z0 Rw.d rs 0]
 unfold items
 rw[List.map_map]
 refine List.map_congr_left λk _=>?_
 show Vl.sub _ (.tup [.int (0+(k:Int)),_])=_
 rw[Int.zero_add,bT (kZ rfl (mM _))]
abbrev bkS(h:House)(s2 s3 s4:Sl):Sg:=[.sh true h.d,.sh false (.lst ((aW h).map Rw.d)),s2,s3,s4,.dead]
theorem zX(n:Nat){h:House}(H:aF h):call pg (n+33) 28 [h.d]=.ok ((nF h).getD .non,false,false):=by
 have I:=jH H
 have ca:=qO (n+13) H
 refine aG (F:=f28) rfl rfl (v:=.cl ((nF h).getD .non)) ?_
 show exs pg (call pg (n+32)) [.sh true h.d,.dead,.dead,.dead,.dead,.dead] _=_
 refine cs (σ':=[.sh true h.d,.own false ((aW h).map Rw.d),.dead,.dead,.dead,.dead]) ?_ ?_
 . rw[bY,nM (x:=⟨h.d,false,true,[]⟩) rfl ca];rfl
 have hw:walk pg (call pg (n+32)) [.sh true h.d,.own false ((aW h).map Rw.d),.dead,.dead,.dead,.dead] (.enum (.v 1))=.ok ((List.range (aW h).length).map λ(k:Nat)=>Vl.cl (.tup [.int (k:Int),((aW h).getD k z0).d]),[1]):=by
  rw[jF,<-aBX (v:=⟨.lst ((aW h).map Rw.d),false,false,[1]⟩)];rfl
 have fe:nF h=((List.range (aW h).length).findSome? (λk=>zV h ((aW h).getD k z0))).or none:=by rw[zW,Option.or_none];rfl
 rw[fe]
 refine fF (I:=λσ=>∃s2 s3 s4,σ=bkS h s2 s3 s4) (forr_of (λk=>zV h ((aW h).getD k z0)) _ hw ⟨_,_,_,rfl⟩ λk hk σ hσ=>?_) λσ hσ=>bG rfl
 obtain⟨s2,s3,s4,rfl⟩:=hσ
 have hk:=List.mem_range.mp hk
 have hr:(aW h)[k]? = some ((aW h).getD k z0):=by rw[List.getD_eq_getElem?_getD,List.getElem?_eq_getElem hk];rfl
 generalize (aW h).getD k z0=r at hr
 have g:=I.good r (mG hr)
 have cb:=xM n H g
 have cw:=zT (n+31) H hr
 refine⟨_,mX _ rfl (mM r),?_⟩
 have e1:ex pg (call pg (n+32)) (bkS h (.sh false (.int (k:Int))) (.sh false r.d) s4) (.set (.n 4) (.call 29 (.cons (.v 0) (.cons (.idx (.v 3) (.c (.int 0))) .nil))))=.next (bkS h (.sh false (.int (k:Int))) (.sh false r.d) (.sh false ((brk h r.s).getD .non))):=bJ (bZ (x:=⟨h.d,false,true,[]⟩) rfl (aJ rfl rfl (rV r)) cb)
 unfold zV
 cases q:brk h r.s with
 | none=>
  rw[q] at e1
  exact .inr ⟨rfl,_,.inl (cs e1 (cs (bU (uO (k:=true) rfl rfl)) (aL ..))),_,_,_,rfl⟩
 | some b=>
  rw[q] at e1
  refine .inl ⟨_,rfl,cs e1 (cM (uO rfl (qD q).1) (cs (bJ (bZ (x:=⟨.lst ((aW h).map Rw.d),false,false,[]⟩) rfl rfl cw)) (bG (fV (aJ rfl rfl (dG _ _ (aK _))) (aJ rfl rfl ?_) rfl))))⟩
  show R.ok (Vl.sub (.cl _) _)=_
  rw[aIX]
abbrev duS(h:House)(s2 s3 s4:Sl):Sg:=[.sh true h.d,.sh false (.lst ((aW h).map Rw.d)),s2,s3,s4]
theorem aGj(n:Nat){h:House}(H:aF h):call pg (n+32) 35 [h.d]=.ok ((nF h).getD .non,false,false):=by
 have I:=jH H
 have few:=I.few H
 have ca:=zS (n+12) H
 refine aG (F:=f35) rfl rfl (v:=.cl ((nF h).getD .non)) ?_
 show exs pg (call pg (n+31)) [.sh true h.d,.dead,.dead,.dead,.dead] _=_
 refine cs (σ':=[.sh true h.d,.own false ((aW h).map Rw.d),.dead,.dead,.dead]) ?_ ?_
 . rw[bY,nM (x:=⟨h.d,false,true,[]⟩) rfl ca];rfl
 have hw:walk pg (call pg (n+31)) [.sh true h.d,.own false ((aW h).map Rw.d),.dead,.dead,.dead] (.seq (.v 1))=.ok ((aW h).map λr=>Vl.cl r.d,[1]):=by
  have hit:items ⟨.lst ((aW h).map Rw.d),false,false,[1]⟩ ((aW h).map Rw.d)=(aW h).map λr=>Vl.cl r.d:=fD mM _
  rw[cO,<-hit];rfl
 have fe:nF h=((aW h).findSome? (zV h)).or none:=by rw[Option.or_none];rfl
 rw[fe]
 refine fF (I:=λσ=>∃s2 s3,σ=duS h s2 s3 .dead) (forr_of (zV h) _ hw ⟨_,_,rfl⟩ λr hr σ hσ=>?_) λσ hσ=>bG rfl
 obtain⟨s2,s3,rfl⟩:=hσ
 have g:=I.good r hr
 have cb:=zU n H g
 refine⟨_,aAD _,?_⟩
 have e1:ex pg (call pg (n+31)) (duS h (.sh false r.d) s3 .dead) (.set (.n 3) (.call 34 (.cons (.v 0) (.cons (.idx (.v 2) (.c (.int 0))) .nil))))=.next (duS h (.sh false r.d) (.sh false ((brk h r.s).getD .non)) .dead):=bJ (bZ (x:=⟨h.d,false,true,[]⟩) rfl (aJ rfl rfl (rV r)) cb)
 unfold zV
 cases q:brk h r.s with
 | none=>
  rw[q] at e1
  exact .inr ⟨rfl,_,.inl (cs e1 (cs (bU (uO (k:=true) rfl rfl)) (aL ..))),_,_,rfl⟩
 | some b=>
  rw[q] at e1
  obtain⟨j,hj⟩:=List.getElem?_of_mem hr
  have hl:=(List.getElem?_eq_some_iff.mp hj).1
  have ew:=qC (qB h) (t:=λσ=>tst pg (call pg (n+31)) σ wbC) (f:=λσ=>exs pg (call pg (n+31)) σ (.cons (.app 4 (.idx (.v 2) (.c (.int 2)))) (.cons (.set (.n 2) (.idx (.v 1) (.idx (.v 2) (.c (.int 1))))) .nil))) (λr acc=>duS h (.sh false r.d) (.sh false b) (.own false (acc.map stP))) (λr acc=>aED rfl) (λr acc x q hp hq hl=>aAX (v:=⟨.lst ((aW h).map Rw.d),false,false,[]⟩) rfl rfl (λs=>rfl) rfl (by decide) hp hq hl)
   (aW h).length j r hj hl [] fZ (by rw[lN];omega) (by unfold fZ;omega)
  refine .inl ⟨_,rfl,cs e1 (cM (uO rfl (qD q).1) (cs (σ':=duS h (.sh false r.d) (.sh false b) (.own false [])) rfl (cs ((uJ ..).trans ew) (bG ?_))))⟩
  unfold xJ aGi
  generalize back (aW h) (aW h).length r=b'
  have er:ev pg (call pg (n+31)) (duS h (.sh false b'.1.d) (.sh false b) (.own false (b'.2.map stP))) (.rvs (.v 4))=.ok ⟨.lst (b'.2.map stP).reverse,true,false,[]⟩:=by
   rw[aJe,show ev pg (call pg (n+31)) (duS h (.sh false b'.1.d) (.sh false b) (.own false (b'.2.map stP))) (.v 4)=.ok ⟨.lst (b'.2.map stP),false,false,[4]⟩ from rfl,aA]
   show R.ok (⟨_,true,false&&_,if noLs (b'.2.map stP) then [] else _⟩:Vl)=_
   rw[gF aAW,if_pos rfl]
   rfl
  rw[cY,aB,aJ (aJ rfl rfl (rV b'.1)) rfl (mZ b'.1.s),aA,aB]
  show((ev pg (call pg (n+31)) (duS h (.sh false b'.1.d) (.sh false b) (.own false (b'.2.map stP))) (.rvs (.v 4)) >>= _) >>= _) >>= _=_
  rw[er]
  rfl
abbrev keS(m k:Nat)(ow:List Int)(q:Cn)(s:Sl):Sg:=[.sh true (.int (m:Int)),.sh true (.lst (ow.map D.int)),.sh true (.int (k:Int)),.sh false q.d,s]
theorem aEF{v:Vl}{ow:List Int}{j:Nat}(hv:v.d=.lst (ow.map D.int))(hj:j<ow.length):bM v (.cl (.int (j:Int)))=.ok (.cl (.int (ow.getD j 0))):=by
 rw[rN (f:=D.int) hv (List.getElem?_eq_getElem hj),bT rfl,List.getD_eq_getElem?_getD,List.getElem?_eq_getElem hj]
 rfl
theorem aEG(n:Nat){m:Nat}(hm:m<=5){ow:List Int}(ho:ow.length=m)(k:Nat):∃q:Cn,q.wf m false/\q.sz<=1+4*m/\call pg (n+1) 31 [.int (m:Int),.lst (ow.map D.int),.int (k:Int)]=.ok (q.d,false,false):=by
 have hw:=bS (P:=pg) (cl:=call pg n) (σ:=keS m k ow .yes .dead) (a:=.v 0) (v:=.cl (.int (m:Int))) rfl rfl (by omega)
 obtain⟨σ',e,q,s,h1,h2,rfl⟩:=dR (t:=.n 4) (b:=match hdS (drp 1 f31.body) with|.for _ _ b=>b|_=>.nil) (λi σ=>∃q s,q.wf m false/\q.sz<=1+4*i/\σ=keS m k ow q s) hw ⟨.yes,.dead,trivial,by show 1<=1+4*0;omega,rfl⟩ (λi hi σ hσ=>by
  obtain⟨q,s,h1,h2,rfl⟩:=hσ
  have hi':i<m:=by simpa using hi
  have t:=gW (P:=pg) (cl:=call pg n) (σ:=keS m k ow q (.sh false (.int (i:Int)))) (o:=.NotEq) (a:=.idx (.v 1) (.v 4)) (b:=.v 2) (y:=.cl (.int (k:Int))) (aJ (x:=⟨.lst (ow.map D.int),false,true,[]⟩) rfl rfl (aEF rfl (by omega))) rfl (k:=!(ow.getD i 0==(k:Int))) rfl
  cases hq:ow.getD i 0==(k:Int) with
  | true=>
   rw[hq] at t
   exact⟨keS m k ow q (.sh false (.int (i:Int))),_,by simp,cs (bU t) (aL ..),q,_,h1,by omega,rfl⟩
  | false=>
   rw[hq] at t
   exact⟨keS m k ow q (.sh false (.int (i:Int))),keS m k ow (.two true q (.cmp true (.aft i) (.box i))) (.sh false (.int (i:Int))),by simp,cs (zE t (cs (bJ (d:=(Cn.two true q (.cmp true (.aft i) (.box i))).d) (fV rfl rfl (fV rfl (dM rfl rfl) (dM rfl rfl)))) (aL ..))) (aL ..),.two true q (.cmp true (.aft i) (.box i)),_,⟨h1,⟨hi',rfl⟩,hi'⟩,by show 1+q.sz+(1+1+1)<=_;omega,rfl⟩)
 rw[lM,List.length_range] at h2
 refine⟨q,h1,h2,aG (F:=f31) rfl rfl (v:=.cl q.d) ?_⟩
 exact cs (σ':=keS m k ow .yes .dead) rfl (cs e rfl)
def zY(ow:List Int)(k:Nat)(w:Way):Way:=⟨w.g,w.ps.filter λp=>ow.getD p.1 0==(k:Int),w.nx⟩
theorem aGk{m pl k:Nat}{ow:List Int}{w:Way}(o:jR m pl w):jR m pl (zY ow k w):=
 ⟨o.g,o.gs,λp hp=>o.ps p (List.mem_filter.mp hp).1,Nat.le_trans (List.length_filter_le _ _) o.len,o.nx⟩
abbrev owE:E:=.tup (.cons (.idx (.v 0) (.c (.int 0))) (.cons (.bi .tuple (.cons (.comp 1 [1,2] (.n 0) (.seq (.idx (.v 0) (.c (.int 1)))) (.cons (.cmp .Eq (.idx (.v 1) (.idx (.v 0) (.c (.int 0)))) (.v 2)) .nil) (.v 0)) .nil)) (.cons (.idx (.v 0) (.c (.int 2))) .nil)))
theorem aGl{P:Pg}{cl:Caller}{m pl k:Nat}{ow:List Int}(hm:m<=5)(ho:ow.length=m){w:Way}(o:jR m pl w):ev P cl [.sh false w.d,.own false (ow.map D.int),.sh false (.int (k:Int))] owE=.ok (.cl (zY ow k w).d):=by
 have hw:walk P cl [.sh false w.d,.own false (ow.map D.int),.sh false (.int (k:Int))] (.seq (.idx (.v 0) (.c (.int 1))))=.ok (w.ps.map (λp=>Vl.cl (cU p)),[]):=by
  rw[cO,aJ rfl rfl (aEg w),aA]
  show R.ok (items _ _,_)=_
  rw[kG]
  rfl
 have hl:=o.len
 have:=uA (P:=P) (cl:=cl) (k:=1) (caps:=[1,2]) (T:=.n 0) (c:=.cmp .Eq (.idx (.v 1) (.idx (.v 0) (.c (.int 0)))) (.v 2)) (elt:=.v 0) (λp=>Vl.cl (cU p)) cU (λp=>ow.getD p.1 0==(k:Int)) uD hw (by unfold lim;omega) λp hp=>by
  have hb:=(o.ps p hp).box
  refine⟨[.sh false (cU p),.own false (ow.map D.int),.sh false (.int (k:Int))],by rw[dP,bQ];rfl,?_,rfl⟩
  exact gW (aJ (x:=⟨.lst (ow.map D.int),false,false,[1]⟩) rfl (aJ rfl rfl (dG _ _ rfl)) (aEF rfl (by omega))) (y:=.cl (.int (k:Int))) rfl rfl
 exact fV (aJ rfl rfl (aEf w)) (cZ this (aEt (jD _))) (aJ rfl rfl (aEh w))
abbrev owP(L:D)(h:House)(x:Int)(ow:List Int)(t:Sg):Sg:=.sh true L::.sh true h.d::.sh true (.lst (aN h.bs))::.sh false h.bg.d::.sh true (.lst (h.hs.map aH))::.sh true (.lst (h.pr.map Cn.d))::.sh true (.lst (h.nt.map eD))::.sh false (.int x)::.own false (ow.map D.int)::t
def iP(j:Nat):D:=.int (j:Int)
abbrev owT(L:D)(h:House)(x:Int)(ow:List Int)(fo so to:List D)(k:Nat)(hd:D)(s14 s15:Sl)(mi:List Nat)(q:Cn)(ns:List Cn)(s19 s20 s21 s22:Sl):Sg:=
 owP L h x ow [.own false fo,.own false so,.own false to,.sh false (.int (k:Int)),.sh true hd,s14,s15,.own false (mi.map iP),.sh false q.d,.own false (ns.map Cn.d),s19,s20,s21,s22]
theorem aNG{k:Nat}(hk:k<3):opD .Mult (.cl (.int 4)) (.cl (.int (k:Int)))=.ok (.cl (.int (4*(k:Int)))):=mul_int (by
 simp only[eQ,Bool.or_eq_true,bA,decide_eq_true_eq];right;omega)
theorem aNH(n:Nat){σ:Sg}{x:Int}{k p:Nat}(hk:k<3)(hp:p<=3)(h7:ev pg (call pg (n+1)) σ (.v 7)=.ok (.cl (.int x)))(h12:ev pg (call pg (n+1)) σ (.v 12)=.ok (.cl (.int (k:Int))))(h19:ev pg (call pg (n+1)) σ (.v 19)=.ok (.cl (.int (p:Int))))(a:Nat)(ha:a<=100) :
 ev pg (call pg (n+1)) σ (.call 7 (.cons (.v 7) (.cons (.op .Add (.op .Add (.c (.int (a:Int))) (.op .Mult (.c (.int 4)) (.v 12))) (.v 19)) .nil)))=.ok (.cl (.int (mix x ((a:Int)+4*(k:Int)+(p:Int))))):=
 bZ h7 (dU (dU rfl (dU rfl h12 (aNG hk)) (add_int _ _)) h19 (add_int _ _)) (cL n x (by omega) (by omega))
theorem aEH{P:Pg}{cl:Caller}{σ:Sg}{mi:List Nat}{i:Nat}(h:ev P cl σ (.v i)=.ok ⟨.lst (mi.map iP),false,false,[i]⟩):tst P cl σ (.cmp .NotEq (.v i) (.lst .nil))=.ok (!mi.isEmpty):=by
 refine gW h (y:=⟨.lst [],true,false,[]⟩) rfl ?_
 rw[zC]
 cases mi with
 | nil=>rfl
 | cons a l=>rfl
theorem aGO{P:Pg}{cl:Caller}{σ:Sg}{a b:E}(h1:tst P cl σ a=.ok false):tst P cl σ (.an a b)=.ok false:=by rw[kB,h1];rfl
theorem aBb{v:Vl}{mi:List Nat}{j:Nat}(hv:v.d=.lst (mi.map iP))(hj:j<mi.length):bM v (.cl (.int (j:Int)))=.ok (.cl (.int ((mi[j]:Nat):Int))):=by
 rw[rN hv (List.getElem?_eq_getElem hj),bT rfl];rfl
abbrev onB:Ss:=match hdS (drp 8 (match hdS (drp 6 f32.body) with|.for _ _ b=>b|_=>.nil)) with|.for _ _ b=>b|_=>.nil
theorem zZ(n:Nat)(L:D)(h:House)(x:Int)(ow:List Int)(fo so to:List D){k p:Nat}(hk:k<3)(hp:p<=3)(hd:D)(s14 s15:Sl){mi:List Nat}(hmi:∀j∈mi,j<h.bs.length)(kq:Cn){ns:List Cn}(hn:ns.length<=10)(s20 s21 s22:Sl):∃q s20' s21' s22',Cn.wf h.bs.length true q/\q.sz<=7 /\
 exs pg (call pg (n+1)) (owT L h x ow fo so to k hd s14 s15 mi kq ns (.sh false (.int (p:Int))) s20 s21 s22) onB=.next (owT L h x ow fo so to k hd s14 s15 mi kq (ns++[q]) (.sh false (.int (p:Int))) s20' s21' s22'):=by
 have ap:∀(q:Cn) (s21 s22:Sl),exs pg (call pg (n+1)) (owT L h x ow fo so to k hd s14 s15 mi kq ns (.sh false (.int (p:Int))) (.sh false q.d) s21 s22) (.cons (.app 18 (.v 20)) .nil)=.next (owT L h x ow fo so to k hd s14 s15 mi kq (ns++[q]) (.sh false (.int (p:Int))) (.sh false q.d) s21 s22):=λq s21 s22=>by
  refine cs (rO (v:=.cl q.d) rfl rfl (by rw[lM];unfold lim;omega)) ?_
  unfold owT
  rw[List.map_append]
  rfl
 have no:tst pg (call pg (n+1)) (owT L h x ow fo so to k hd s14 s15 mi kq ns (.sh false (.int (p:Int))) (.sh false Cn.yes.d) s21 s22) (.an (.cmp .NotEq (.v 16) (.lst .nil)) (.cmp .Eq (.op .Mod (.call 7 (.cons (.v 7) (.cons (.op .Add (.op .Add (.c (.int 20)) (.op .Mult (.c (.int 4)) (.v 12))) (.v 19)) .nil))) (.c (.int 2))) (.c (.int 0))))=.ok false->∃q s20' s21' s22',Cn.wf h.bs.length true q/\q.sz<=7 /\
  exs pg (call pg (n+1)) (owT L h x ow fo so to k hd s14 s15 mi kq ns (.sh false (.int (p:Int))) s20 s21 s22) onB=.next (owT L h x ow fo so to k hd s14 s15 mi kq (ns++[q]) (.sh false (.int (p:Int))) s20' s21' s22'):=λt=>
  ⟨.yes,_,_,_,trivial,(by decide:1<=7),cs (σ':=owT L h x ow fo so to k hd s14 s15 mi kq ns (.sh false (.int (p:Int))) (.sh false Cn.yes.d) s21 s22) rfl (cs (bU t) (ap .yes s21 s22))⟩
 have tm:=aEH (P:=pg) (cl:=call pg (n+1)) (σ:=owT L h x ow fo so to k hd s14 s15 mi kq ns (.sh false (.int (p:Int))) (.sh false Cn.yes.d) s21 s22) (mi:=mi) (i:=16) rfl
 cases hmi0:mi with
 | nil=>
  rw[hmi0] at tm no
  exact no (aGO tm)
 | cons j0 l=>
  rw[<-hmi0]
  have hpos:0<mi.length:=by rw[hmi0];exact Nat.succ_pos _
  rw[show(!mi.isEmpty)=true by rw[hmi0];rfl] at tm
  have mx:∀(t20 t21 t22:Sl) (a:Nat),a<=100->_:=λt20 t21 t22 a ha=>aNH n (σ:=owT L h x ow fo so to k hd s14 s15 mi kq ns (.sh false (.int (p:Int))) t20 t21 t22) (x:=x) hk hp rfl rfl rfl a ha
  have t2:=aLK tm (gW (o:=.Eq) (dU (mx _ _ _ 20 (by decide)) (b:=.c (.int 2)) (y:=.cl (.int 2)) rfl (dX 2 (by decide) _)) (b:=.c (.int 0)) (y:=.cl (.int 0)) rfl (dE ..))
  rw[Bool.true_and] at t2
  cases hq:mix x ((20:Nat)+4*(k:Int)+(p:Int)) % 2==0 with
  | false=>
   rw[hq] at t2
   exact no t2
  | true=>
   rw[hq] at t2
   have hml:(0:Int)<(mi.length:Int):=by omega
   obtain⟨j,hj,hjl⟩:∃j:Nat,mix x ((33:Nat)+4*(k:Int)+(p:Int)) % (mi.length:Int)=(j:Int)/\j<mi.length:=by
    have h1:=Int.emod_nonneg (mix x ((33:Nat)+4*(k:Int)+(p:Int))) (show(mi.length:Int)≠0 by omega)
    have h2:=Int.emod_lt_of_pos (mix x ((33:Nat)+4*(k:Int)+(p:Int))) hml
    exact⟨(mix x ((33:Nat)+4*(k:Int)+(p:Int)) % (mi.length:Int)).toNat,by omega,by omega⟩
   have hb:=hmi mi[j] (List.getElem_mem hjl)
   let A:Cn:=.cmp false (.box mi[j]) (.num (1+mix x ((46:Nat)+4*(k:Int)+(p:Int)) % 3))
   let B:Cn:=.nt (.cmp true (.box mi[j]) (.num (1+(p:Int))))
   have m3:0<=mix x ((46:Nat)+4*(k:Int)+(p:Int)) % 3/\mix x ((46:Nat)+4*(k:Int)+(p:Int)) % 3<3:=by omega
   have hi:mix x ((60:Nat)+4*(k:Int)+(p:Int)) % 2=0\/mix x ((60:Nat)+4*(k:Int)+(p:Int)) % 2=1:=aAG _
   have el:ev pg (call pg (n+1)) (owT L h x ow fo so to k hd s14 s15 mi kq ns (.sh false (.int (p:Int))) (.sh false Cn.yes.d) (.sh false (Sm.box mi[j]).d) (.sh false A.d)) (.lst (.cons (.v 22) (.cons (.tup (.cons (.c (.str "not")) (.cons (.tup (.cons (.c (.str "is")) (.cons (.v 21) (.cons (.tup (.cons (.c (.str "number")) (.cons (.op .Add (.c (.int 1)) (.v 19)) .nil))) .nil)))) .nil))) .nil)))=.ok ⟨.lst [A.d,B.d],true,false,[]⟩:=by
    have e2:=dM (P:=pg) (cl:=call pg (n+1)) (σ:=owT L h x ow fo so to k hd s14 s15 mi kq ns (.sh false (.int (p:Int))) (.sh false Cn.yes.d) (.sh false (Sm.box mi[j]).d) (.sh false A.d)) (a:=.c (.str "not")) (x:=.str "not") rfl (fV (a:=.c (.str "is")) (x:=.str "is") rfl (b:=.v 21) (y:=(Sm.box mi[j]).d) rfl (dM (a:=.c (.str "number")) (x:=.str "number") rfl (dU (a:=.c (.int 1)) (b:=.v 19) rfl rfl (add_int 1 (p:Int)))))
    rw[gP,aB,show ev pg (call pg (n+1)) (owT L h x ow fo so to k hd s14 s15 mi kq ns (.sh false (.int (p:Int))) (.sh false Cn.yes.d) (.sh false (Sm.box mi[j]).d) (.sh false A.d)) (.v 22)=.ok (.cl A.d) from rfl,aA,aB,e2]
    rfl
   refine⟨if mix x ((60:Nat)+4*(k:Int)+(p:Int)) % 2=0 then A else B,_,_,_,?_,?_,cs (σ':=owT L h x ow fo so to k hd s14 s15 mi kq ns (.sh false (.int (p:Int))) (.sh false Cn.yes.d) s21 s22) rfl (cs (zE t2 (cs (bJ (dM rfl (aJ (x:=⟨.lst (mi.map iP),false,false,[16]⟩) rfl (dU (mx _ _ _ 33 (by decide)) (cZ (x:=⟨.lst (mi.map iP),false,false,[16]⟩) rfl (by rw[cK,lM])) ((kY hml).trans (by rw[hj]))) (aBb rfl hjl)))) (cs (bJ (d:=A.d) (fV rfl rfl (dM rfl (dU rfl (dU (mx _ _ _ 46 (by decide)) rfl (dX 3 (by decide) _)) (add_int _ _))))) (cs (bJ (aJ el (dU (mx _ _ _ 60 (by decide)) rfl (dX 2 (by decide) _)) (aGK hi))) (aL ..))))) (ap _ _ _))⟩
   . split
     . exact⟨hb,(show(0:Int)<=_/\_<=(99:Int) by omega)⟩
     . exact⟨hb,(show(0:Int)<=_/\_<=(99:Int) by omega)⟩
   . split
     . exact(by decide:1+1+1<=7)
     . exact(by decide:1+(1+1+1)<=7)
abbrev owB:Ss:=match hdS (drp 6 f32.body) with|.for _ _ b=>b|_=>.nil
abbrev owU(L:D)(h:House)(x:Int)(ow:List Int)(fo so to:List D)(k:Nat)(hd:D)(s14 s15 s16 s17 s18 s19 s20 s21 s22:Sl):Sg:=
 owP L h x ow [.own false fo,.own false so,.own false to,.sh false (.int (k:Int)),.sh true hd,s14,s15,s16,s17,s18,s19,s20,s21,s22]
def jO(ow:List Int)(k:Nat)(r:List Way):List Way:=r.map (zY ow k)
theorem aGm{m k:Nat}{ow:List Int}{rs:List (List Way)}(o:fW m rs):fW m (rs.map (jO ow k)):=by
 refine⟨by rw[lM];exact o.few,λr hr=>?_⟩
 obtain⟨r0,h0,rfl⟩:=List.mem_map.mp hr
 have q:=o.all r0 h0
 rw[lM]
 refine⟨by unfold jO;rw[lM];exact q.one,by unfold jO;rw[lM];exact q.few,λw hw=>?_⟩
 obtain⟨w0,h1,rfl⟩:=List.mem_map.mp hw
 exact aGk (q.all w0 h1)
theorem aEI(n:Nat)(L:D){h:House}(H:aF h)(x:Int){ow:List Int}(ho:ow.length=h.bs.length)(fo so to:List D)(k:Nat){rs:List (List Way)}(o:fW h.bs.length rs)(s15 s16 s17 s18 s19 s20 s21 s22:Sl):∃s15',
 ex pg (call pg (n+1)) (owU L h x ow fo so to k (aH rs) (.own false []) s15 s16 s17 s18 s19 s20 s21 s22) (hdS (drp 1 owB))=.next (owU L h x ow fo so to k (aH rs) (.own false ((rs.map (jO ow k)).map cN)) s15' s16 s17 s18 s19 s20 s21 s22):=by
 have hm:h.bs.length<=5:=by have:=H.bs.few;omega
 have hw:walk pg (call pg (n+1)) (owU L h x ow fo so to k (aH rs) (.own false []) s15 s16 s17 s18 s19 s20 s21 s22) (.seq (.v 13))=.ok (rs.map (λr=>(⟨cN r,false,true,[]⟩:Vl)),[]):=by
  have hit:items ⟨aH rs,false,true,[]⟩ (rs.map cN)=rs.map λr=>(⟨cN r,false,true,[]⟩:Vl):=by
   unfold items
   rw[List.map_map]
   exact List.map_congr_left λk _=>rfl
  rw[cO,<-hit];rfl
 have hf:=o.few
 obtain⟨σ',e,s15',rfl⟩:=dR (t:=.n 15) (b:=match hdS (drp 1 owB) with|.for _ _ b=>b|_=>.nil) (λi σ=>∃s15,σ=owU L h x ow fo so to k (aH rs) (.own false (((rs.take i).map (jO ow k)).map cN)) s15 s16 s17 s18 s19 s20 s21 s22) hw ⟨_,rfl⟩ (λi hi σ hσ=>by
  obtain⟨s15,rfl⟩:=hσ
  have hi':i<rs.length:=by simpa using hi
  have q:=o.all rs[i] (List.getElem_mem hi')
  have hq:=q.few
  have hw2:walk pg (call pg (n+1)) (owU L h x ow fo so to k (aH rs) (.own false (((rs.take i).map (jO ow k)).map cN)) (.sh true (cN rs[i])) s16 s17 s18 s19 s20 s21 s22) (.seq (.v 15))=.ok (rs[i].map (λw=>Vl.cl w.d),[]):=by
   have hit:items ⟨cN rs[i],false,true,[]⟩ (rs[i].map Way.d)=rs[i].map λw=>Vl.cl w.d:=fD jE _
   rw[cO,<-hit];rfl
  have hc:=iI (P:=pg) (k:=1) (caps:=[8,12]) (T:=.n 0) (elt:=owE) (λw:Way=>Vl.cl w.d) (λw=>(zY ow k w).d) (λw=>jE _) hw2 (by unfold lim;omega) λw hw=>⟨[.sh false w.d,.own false (ow.map D.int),.sh false (.int (k:Int))],by rw[dP,bQ];rfl,aGl hm ho (q.all w hw)⟩
  refine⟨owU L h x ow fo so to k (aH rs) (.own false (((rs.take i).map (jO ow k)).map cN)) (.sh true (cN rs[i])) s16 s17 s18 s19 s20 s21 s22,_,by rw[List.getElem_map];rfl,cs (rO hc rfl (by rw[lM,lM,List.length_take];unfold lim;omega)) (aL ..),.sh true (cN rs[i]),?_⟩
  have e1:((rs.take (i+1)).map (jO ow k)).map cN=((rs.take i).map (jO ow k)).map cN++[.lst (rs[i].map λw=>(zY ow k w).d)]:=by
   rw[List.take_succ_eq_append_getElem hi',List.map_append,List.map_append]
   have em:(rs[i].map (zY ow k)).map Way.d=rs[i].map λw=>(zY ow k w).d:=by rw[List.map_map];rfl
   rw[<-em]
   rfl
  unfold owU
  rw[e1]
  rfl)
 rw[lM,List.take_length] at e
 exact⟨_,e⟩
theorem aEJ(n:Nat)(L:D){h:House}(H:aF h)(x:Int)(ow:List Int)(fo so to:List D){k:Nat}(hk:k<3)(hd:D)(s14 s15 s18 s19 s20 s21 s22:Sl){mi:List Nat}(hmi:∀j∈mi,j<h.bs.length){q:Cn}(w:q.wf h.bs.length false)(z:q.sz<=1+4*h.bs.length):∃q':Cn,q'.wf h.bs.length false/\q'.sz<=30 /\
 ex pg (call pg (n+1)) (owU L h x ow fo so to k hd s14 s15 (.own false (mi.map iP)) (.sh false q.d) s18 s19 s20 s21 s22) (hdS (drp 5 owB))=.next (owU L h x ow fo so to k hd s14 s15 (.own false (mi.map iP)) (.sh false q'.d) s18 s19 s20 s21 s22):=by
 have hm:=H.bs.few
 have tm:=aEH (P:=pg) (cl:=call pg (n+1)) (σ:=owU L h x ow fo so to k hd s14 s15 (.own false (mi.map iP)) (.sh false q.d) s18 s19 s20 s21 s22) (mi:=mi) (i:=16) rfl
 cases hmi0:mi with
 | nil=>
  rw[hmi0] at tm
  exact⟨q,w,by omega,bU (aGO tm)⟩
 | cons j0 l=>
  rw[<-hmi0]
  have hpos:0<mi.length:=by rw[hmi0];exact Nat.succ_pos _
  rw[show(!mi.isEmpty)=true by rw[hmi0];rfl] at tm
  have t2:=aLK tm (gW (o:=.Eq) (dU (bZ (f:=7) (a:=.v 7) (b:=.op .Add (.c (.int 10)) (.v 12)) (x:=.cl (.int x)) rfl (dU rfl rfl (add_int 10 (k:Int))) (cL n x (by omega) (by omega))) (b:=.c (.int 3)) (y:=.cl (.int 3)) rfl (dX 3 (by decide) _)) (b:=.c (.int 0)) (y:=.cl (.int 0)) rfl (dE ..))
  rw[Bool.true_and] at t2
  cases hq:mix x (10+(k:Int)) % 3==0 with
  | false=>
   rw[hq] at t2
   exact⟨q,w,by omega,bU t2⟩
  | true=>
   rw[hq] at t2
   have hb:=hmi mi[0] (List.getElem_mem hpos)
   have i0:ev pg (call pg (n+1)) (owU L h x ow fo so to k hd s14 s15 (.own false (mi.map iP)) (.sh false q.d) s18 s19 s20 s21 s22) (.idx (.v 16) (.c (.int 0)))=.ok (.cl (.int ((mi[0]:Nat):Int))):=aJ (x:=⟨.lst (mi.map iP),false,false,[16]⟩) rfl rfl (aBb (j:=0) rfl hpos)
   refine⟨.two true q (.nt (.cmp false (.aft mi[0]) (.box mi[0]))),⟨w,⟨hb,rfl⟩,hb⟩,by show 1+q.sz+(1+(1+1+1))<=30;omega,zE t2 (cs (bJ (d:=(Cn.two true q (.nt (.cmp false (.aft mi[0]) (.box mi[0])))).d) (fV rfl rfl (dM rfl (fV rfl (dM rfl i0) (dM rfl i0))))) (aL ..))⟩
theorem aEK(n:Nat)(L:D){h:House}(H:aF h)(x:Int){ow:List Int}(ho:ow.length=h.bs.length){fo so to:List D}(l1:fo.length<=10)(l2:so.length<=10)(l3:to.length<=10){k:Nat}(hk:k<3){rs:List (List Way)}(o:fW h.bs.length rs)(s14 s15 s16 s17 s18 s19 s20 s21 s22:Sl):∃(q:Cn) (t:List Cn) (t14 t15 t16 t17 t18 t19 t20 t21 t22:Sl),
 (q.wf h.bs.length false/\q.sz<=30)/\(lE h.bs.length t/\t.length=rs.length+1)/\exs pg (call pg (n+1)) (owU L h x ow fo so to k (aH rs) s14 s15 s16 s17 s18 s19 s20 s21 s22) owB =
  .next (owU L h x ow (fo++[aH (rs.map (jO ow k))]) (so++[q.d]) (to++[eD t]) k (aH rs) t14 t15 t16 t17 t18 t19 t20 t21 t22):=by
 have hm:h.bs.length<=5:=by have:=H.bs.few;omega
 have hf:=o.few
 have hbl:(aN h.bs).length=h.bs.length:=by simp[aN]
 obtain⟨s15',e1⟩:=aEI n L H x ho fo so to k o s15 s16 s17 s18 s19 s20 s21 s22
 let fo':=fo++[aH (rs.map (jO ow k))]
 let t14:Sl:=.sh false (aH (rs.map (jO ow k)))
 have e2:ex pg (call pg (n+1)) (owU L h x ow fo so to k (aH rs) (.own false ((rs.map (jO ow k)).map cN)) s15' s16 s17 s18 s19 s20 s21 s22) (.app 9 (.v 14))=.next (owU L h x ow fo' so to k (aH rs) t14 s15' s16 s17 s18 s19 s20 s21 s22):=by
  refine(rO (pa:=false) (ds:=fo) (v:=⟨.lst ((rs.map (jO ow k)).map cN),false,false,[14]⟩) rfl rfl (by unfold lim;omega)).trans rfl
 let mi:=(List.range h.bs.length).filter λj=>ow.getD j 0==(k:Int)
 have hmi:∀j∈mi,j<h.bs.length:=λj hj=>List.mem_range.mp (List.mem_filter.mp hj).1
 have hlen:∀t:Sg,ev pg (call pg (n+1)) (owP L h x ow t) (.bi .len (.cons (.v 2) .nil))=.ok (.cl (.int (h.bs.length:Int))):=λt=>cZ (x:=⟨.lst (aN h.bs),false,true,[]⟩) rfl (by rw[cK,hbl])
 have hc:=uA (P:=pg) (cl:=call pg (n+1)) (σ:=owU L h x ow fo' so to k (aH rs) t14 s15' s16 s17 s18 s19 s20 s21 s22) (k:=1) (caps:=[8,12]) (T:=.n 0) (c:=.cmp .Eq (.idx (.v 1) (.v 0)) (.v 2)) (elt:=.v 0) (λj:Nat=>Vl.cl (.int (j:Int))) iP (λj=>ow.getD j 0==(k:Int)) (λj=>rfl) (bS (hlen _) rfl (n:=h.bs.length) (by omega)) (by rw[List.length_range];unfold lim;omega) λj hj=>by
  have hj:=List.mem_range.mp hj
  exact⟨[.sh false (.int (j:Int)),.own false (ow.map D.int),.sh false (.int (k:Int))],by rw[dP,bQ];rfl,gW (aJ (x:=⟨.lst (ow.map D.int),false,false,[1]⟩) rfl rfl (aEF rfl (by omega))) (y:=.cl (.int (k:Int))) rfl rfl,rfl⟩
 have e3:=mF (i:=16) hc
 obtain⟨q0,w0,z0,ck⟩:=aEG n hm ho k
 have e4:ex pg (call pg (n+1)) (owU L h x ow fo' so to k (aH rs) t14 s15' (.own false (mi.map iP)) s17 s18 s19 s20 s21 s22) (.set (.n 17) (.call 31 (.cons (.bi .len (.cons (.v 2) .nil)) (.cons (.v 8) (.cons (.v 12) .nil)))))=.next (owU L h x ow fo' so to k (aH rs) t14 s15' (.own false (mi.map iP)) (.sh false q0.d) s18 s19 s20 s21 s22):=bJ (bL (hlen _) (y:=⟨.lst (ow.map D.int),false,false,[8]⟩) rfl (z:=.cl (.int (k:Int))) rfl ck)
 obtain⟨q,w,z,e5⟩:=aEJ n L H x ow fo' so to hk (aH rs) t14 s15' s18 s19 s20 s21 s22 hmi w0 z0
 let so':=so++[q.d]
 have e6:ex pg (call pg (n+1)) (owU L h x ow fo' so to k (aH rs) t14 s15' (.own false (mi.map iP)) (.sh false q.d) s18 s19 s20 s21 s22) (.app 10 (.v 17))=.next (owU L h x ow fo' so' to k (aH rs) t14 s15' (.own false (mi.map iP)) (.sh false q.d) s18 s19 s20 s21 s22):=by
  refine(rO (pa:=false) (ds:=so) (v:=.cl q.d) rfl rfl (by unfold lim;omega)).trans rfl
 have hl13:ev pg (call pg (n+1)) (owT L h x ow fo' so' to k (aH rs) t14 s15' mi q [] s19 s20 s21 s22) (.op .Add (.bi .len (.cons (.v 13) .nil)) (.c (.int 1)))=.ok (.cl (.int ((rs.length+1:Nat):Int))):=dU (cZ (x:=⟨aH rs,false,true,[]⟩) rfl (show biD .len [⟨.lst (rs.map cN),false,true,[]⟩]=.ok (.cl (.int (rs.length:Int))) by rw[cK,lM])) rfl (add_int (rs.length:Int) 1)
 obtain⟨σ',e8,t,t19,t20,t21,t22,g1,g2,rfl⟩:=dR (t:=.n 19) (b:=onB) (λi σ=>∃(t:List Cn) (t19 t20 t21 t22:Sl),(∀q∈t,q.wf h.bs.length true/\q.sz<=7)/\t.length=i/\σ=owT L h x ow fo' so' to k (aH rs) t14 s15' mi q t t19 t20 t21 t22) (bS hl13 rfl (n:=rs.length+1) (by omega)) ⟨[],_,_,_,_,λ_ h=>(nomatch h),rfl,rfl⟩ (λi hi σ hσ=>by
  obtain⟨t,t19,t20,t21,t22,g1,g2,rfl⟩:=hσ
  have hi':i<rs.length+1:=by simpa using hi
  obtain⟨y,u20,u21,u22,y1,y2,y3⟩:=zZ n L h x ow fo' so' to hk (p:=i) (by omega) (aH rs) t14 s15' hmi q (ns:=t) (by omega) t20 t21 t22
  refine⟨_,_,?_,y3,t++[y],_,_,_,_,λz hz=>?_,by simp[g2],rfl⟩
  . simp
  . rcases List.mem_append.mp hz with hz|hz
    . exact g1 z hz
    . rw[List.mem_singleton.mp hz];exact⟨y1,y2⟩)
 have g2:t.length=rs.length+1:=by simpa using g2
 refine⟨q,t,t14,s15',.own false (mi.map iP),.sh false q.d,.sh false (eD t),t19,t20,t21,t22,⟨w,z⟩,⟨⟨by omega,g1⟩,g2⟩,?_⟩
 have e9:ex pg (call pg (n+1)) (owT L h x ow fo' so' to k (aH rs) t14 s15' mi q t t19 t20 t21 t22) (.app 11 (.v 18))=.next (owU L h x ow fo' so' (to++[eD t]) k (aH rs) t14 s15' (.own false (mi.map iP)) (.sh false q.d) (.sh false (eD t)) t19 t20 t21 t22):=by
  refine(rO (pa:=false) (ds:=to) (v:=⟨.lst (t.map Cn.d),false,false,[18]⟩) rfl rfl (by unfold lim;omega)).trans rfl
 exact cs (σ':=owU L h x ow fo so to k (aH rs) (.own false []) s15 s16 s17 s18 s19 s20 s21 s22) rfl (cs e1 (cs e2 (cs e3 (cs e4 (cs e5 (cs e6 (cs (σ':=owT L h x ow fo' so' to k (aH rs) t14 s15' mi q [] s19 s20 s21 s22) rfl (cs e8 (cs e9 (aL ..))))))))))
abbrev owV(L:D)(h:House)(x:Int)(ow:List Int)(fo so to:List D)(s12 s13 s14 s15 s16 s17 s18 s19 s20 s21 s22:Sl):Sg:=
 owP L h x ow [.own false fo,.own false so,.own false to,s12,s13,s14,s15,s16,s17,s18,s19,s20,s21,s22]
def gY(h:House)(ow:List Int)(i:Nat):List (List (List Way)):=(List.range i).map λj=>(h.hs.getD j []).map (jO ow j)
theorem qF(h:House)(ow:List Int)(i:Nat):gY h ow (i+1)=gY h ow i++[(h.hs.getD i []).map (jO ow i)]:=by
 unfold gY;rw[List.range_succ,List.map_append];rfl
theorem aGP{h:House}(H:aF h){i:Nat}(hi:i<h.hs.length):fW h.bs.length (h.hs.getD i []):=by
 rw[List.getD_eq_getElem?_getD,List.getElem?_eq_getElem hi];exact H.hs _ (List.getElem_mem hi)
theorem aNI(σ:Sg)(h:House):cC σ ⟨h.d,false,true,[]⟩ (.t [2,3,4,5,6])=.ok (((((σ.set 2 (.sh true (.lst (aN h.bs)))).set 3 (.sh false h.bg.d)).set 4 (.sh true (.lst (h.hs.map aH)))).set 5 (.sh true (.lst (h.pr.map Cn.d)))).set 6 (.sh true (.lst (h.nt.map eD)))):=by
 have e:Vl.sub ⟨h.d,false,true,[]⟩ h.bg.d=.cl h.bg.d:=bT (Cn.noL _)
 show R.ok (((((σ.set 2 _).set 3 (Vl.sub ⟨h.d,false,true,[]⟩ h.bg.d).slot).set 4 _).set 5 _).set 6 _)=_
 rw[e,bQ]
 rfl
theorem aBY(n:Nat)(ns:List Int){h:House}(H:aF h):∃h':House,aF h'/\call pg (n+2) 32 [.lst (ns.map D.int),h.d]=.ok (h'.d,false,true):=by
 let L:D:=.lst (ns.map D.int)
 have hm:h.bs.length<=5:=by have:=H.bs.few;omega
 have hf:=H.few
 have h1:=H.one
 have hbl:(aN h.bs).length=h.bs.length:=by simp[aN]
 have cc:=dI n ns (k:=30) (by omega)
 generalize cellAt ns 30=x at cc
 let σ0:Sg:=.sh true L::.sh true h.d::.sh true (.lst (aN h.bs))::.sh false h.bg.d::.sh true (.lst (h.hs.map aH))::.sh true (.lst (h.pr.map Cn.d))::.sh true (.lst (h.nt.map eD))::.sh false (.int x)::List.replicate 15 .dead
 have hc:=iI (P:=pg) (cl:=call pg (n+1)) (σ:=σ0) (k:=1) (caps:=[4,7]) (T:=.n 0) (elt:=.op .Mod (.call 7 (.cons (.v 2) (.cons (.v 0) .nil))) (.bi .len (.cons (.v 1) .nil))) (λj:Nat=>Vl.cl (.int (j:Int))) (λj=>.int (mix x (j:Int) % (h.hs.length:Int))) (λj=>rfl)
  (bS (a:=.bi .len (.cons (.v 2) .nil)) (v:=.cl (.int (h.bs.length:Int))) (cZ (x:=⟨.lst (aN h.bs),false,true,[]⟩) rfl (by rw[cK,hbl])) rfl (by omega)) (by rw[List.length_range];unfold lim;omega) λj hj=>by
  have hj:=List.mem_range.mp hj
  refine⟨[.sh false (.int (j:Int)),.sh true (.lst (h.hs.map aH)),.sh false (.int x)],by rw[dP,bQ];rfl,dU (bZ rfl rfl (cL n x (by omega) (by omega))) (cZ (x:=⟨.lst (h.hs.map aH),false,true,[]⟩) rfl (by rw[cK,lM])) (kY (by omega))⟩
 obtain⟨ow,ho,ew⟩:∃ow:List Int,ow.length=h.bs.length/\(List.range h.bs.length).map (λ(j:Nat)=>D.int (mix x (j:Int) % (h.hs.length:Int)))=ow.map D.int:=⟨(List.range h.bs.length).map λ(j:Nat)=>mix x (j:Int) % (h.hs.length:Int),by simp,by rw[List.map_map];rfl⟩
 rw[ew] at hc
 obtain⟨σ',e,qs,ts,s12,s13,s14,s15,s16,s17,s18,s19,s20,s21,s22,l1,o1,l2,o2,rfl⟩:=dR (t:=.t [12,13]) (b:=owB) (λi σ=>∃(qs:List Cn) (ts:List (List Cn)) (s12 s13 s14 s15 s16 s17 s18 s19 s20 s21 s22:Sl),qs.length=i/\(∀p∈qs,p.wf h.bs.length false/\p.sz<=30)/\ts.map (·.length)=(gY h ow i).map (·.length+1)/\(∀t∈ts,lE h.bs.length t) /\
  σ=owV L h x ow ((gY h ow i).map aH) (qs.map Cn.d) (ts.map eD) s12 s13 s14 s15 s16 s17 s18 s19 s20 s21 s22) (pW (P:=pg) (cl:=call pg (n+1)) (σ:=owV L h x ow [] [] [] .dead .dead .dead .dead .dead .dead .dead .dead .dead .dead .dead) (a:=.v 4) (h:=h) rfl) ⟨[],[],_,_,_,_,_,_,_,_,_,_,_,rfl,λ_ h=>(nomatch h),rfl,λ_ h=>(nomatch h),rfl⟩ (λi hi σ hσ=>by
  obtain⟨qs,ts,s12,s13,s14,s15,s16,s17,s18,s19,s20,s21,s22,l1,o1,l2,o2,rfl⟩:=hσ
  have hi':i<h.hs.length:=by simpa using hi
  have lh:(gY h ow i).length=i:=by unfold gY;simp
  have l3:=congrArg List.length l2
  rw[lM,lM,lh] at l3
  obtain⟨q,t,t14,t15,t16,t17,t18,t19,t20,t21,t22,g1,⟨g2,g3⟩,g4⟩:=aEK n L H x ho (fo:=(gY h ow i).map aH) (so:=qs.map Cn.d) (to:=ts.map eD) (by rw[lM,lh];omega) (by rw[lM];omega) (by rw[lM];omega) (k:=i) (by omega) (aGP H hi') s14 s15 s16 s17 s18 s19 s20 s21 s22
  refine⟨_,_,by simp only[List.getElem_map,List.getElem_range];rfl,g4,qs++[q],ts++[t],.sh false (.int (i:Int)),.sh true (aH (h.hs.getD i [])),t14,t15,t16,t17,t18,t19,t20,t21,t22,by simp[l1],λz hz=>?_,?_,λz hz=>?_,?_⟩
  . rcases List.mem_append.mp hz with hz|hz
    . exact o1 z hz
    . rw[List.mem_singleton.mp hz];exact g1
  . rw[qF,List.map_append,List.map_append,l2]
    simp[g3]
  . rcases List.mem_append.mp hz with hz|hz
    . exact o2 z hz
    . rw[List.mem_singleton.mp hz];exact g2
  . unfold owV
    rw[qF,List.map_append,List.map_append,List.map_append]
    rfl)
 rw[lM,List.length_range] at l1 l2 e
 have lh:(gY h ow h.hs.length).length=h.hs.length:=by unfold gY;simp
 refine⟨⟨h.bs,h.bg,gY h ow h.hs.length,qs,ts⟩,⟨H.bs,H.bg,by rw[lh];exact h1,by rw[lh];exact hf,λr hr=>?_,l1.trans lh.symm,o1,l2,o2⟩,?_⟩
 . obtain⟨j,hj,rfl⟩:=List.mem_map.mp hr
   exact aGm (aGP H (List.mem_range.mp hj))
 refine aG (F:=f32) rfl rfl (v:=⟨House.d ⟨h.bs,h.bg,gY h ow h.hs.length,qs,ts⟩,false,true,[9,10,11]⟩) ?_
 show exs pg (call pg (n+1)) (.sh true L::.sh true h.d::List.replicate 21 .dead) _=_
 refine cs (σ':=(.sh true L::.sh true h.d::.sh true (.lst (aN h.bs))::.sh false h.bg.d::.sh true (.lst (h.hs.map aH))::.sh true (.lst (h.pr.map Cn.d))::.sh true (.lst (h.nt.map eD))::List.replicate 16 .dead)) ?_ (cs (σ':=σ0) (bJ (bZ (x:=⟨L,false,true,[]⟩) rfl rfl cc)) (cs (mF hc) (cs (σ':=owP L h x ow (.own false []::List.replicate 13 .dead)) rfl (cs (σ':=owP L h x ow (.own false []::.own false []::List.replicate 12 .dead)) rfl (cs (σ':=owV L h x ow [] [] [] .dead .dead .dead .dead .dead .dead .dead .dead .dead .dead .dead) rfl (cs e (bG ?_)))))))
 . rw[bY,show ev pg (call pg (n+1)) (.sh true L::.sh true h.d::List.replicate 21 .dead) (.v 1)=.ok ⟨h.d,false,true,[]⟩ from rfl,aT,bI,aNI]
   rfl
 . rw[cY]
   have e3:∀t:Sg,ev pg (call pg (n+1)) (owP L h x ow t) (.v 3)=.ok (.cl h.bg.d):=λt=>rfl
   rfl
theorem aBZ(n:Nat)(ns:List Int):∃(h:House) (pa:Bool),aF h/\call pg (n+11) 33 [.lst (ns.map D.int)]=.ok (h.d,false,pa):=by
 obtain⟨h,H,ch⟩:=aBP (n+1) ns
 obtain⟨h',H',ch'⟩:=aBY (n+8) ns H
 have cc:=dI (n+9) ns (k:=30) (by omega)
 generalize cellAt ns 30=x at cc
 have e1:ex pg (call pg (n+10)) [.sh true (.lst (ns.map D.int)),.dead] (.set (.n 1) (.call 14 (.cons (.v 0) (.cons (.c (.int 16)) .nil))))=.next [.sh true (.lst (ns.map D.int)),.sh false h.d]:=bJ (bZ (x:=⟨.lst (ns.map D.int),false,true,[]⟩) rfl rfl ch)
 have t:tst pg (call pg (n+10)) [.sh true (.lst (ns.map D.int)),.sh false h.d] (.cmp .Gt (.op .Mod (.call 7 (.cons (.call 5 (.cons (.v 0) (.cons (.c (.int 30)) .nil))) (.cons (.c (.int 50)) .nil))) (.c (.int 3))) (.c (.int 0)))=.ok (decide (0<mix x 50 % 3)):=gW (dU (bZ (bZ (x:=⟨.lst (ns.map D.int),false,true,[]⟩) rfl rfl cc) rfl (cL (n+9) x (by decide) (by decide))) (b:=.c (.int 3)) (y:=.cl (.int 3)) rfl (dX 3 (by decide) _)) (y:=.cl (.int 0)) rfl (mD ..)
 cases hq:decide (0<mix x 50 % 3) with
 | false=>
  rw[hq] at t
  refine⟨h,false,H,aG (F:=f33) rfl rfl (v:=⟨h.d,false,false,[]⟩) ?_⟩
  exact cs e1 (cs (bU t) rfl)
 | true=>
  rw[hq] at t
  refine⟨h',true,H',aG (F:=f33) rfl rfl (v:=⟨h'.d,false,true,[]⟩) ?_⟩
  have e2:ex pg (call pg (n+10)) [.sh true (.lst (ns.map D.int)),.sh false h.d] (.set (.n 1) (.call 32 (.cons (.v 0) (.cons (.v 1) .nil))))=.next [.sh true (.lst (ns.map D.int)),.sh true h'.d]:=by
   rw[bY,aU]
   show O.from _ ((call pg (n+10) 32 [.lst (ns.map D.int),h.d] >>= _)) _=_
   rw[ch']
   rfl
  exact cs e1 (cs (zE t (cs e2 (aL ..))) rfl)
theorem aMc(v:Vl)(d:D):(Vl.sub v d).d=d:=by unfold Vl.sub;split <;> rfl
abbrev akS(d:D)(s:Sl):Sg:=[.sh true d,.sh true d,s]
theorem aCa(n:Nat):call pg (n+1) 20 [.non,.non]=.ok (.bl true,false,false):=rfl
theorem jI(n:Nat)(i:Int):call pg (n+1) 20 [.int i,.int i]=.ok (.bl true,false,false):=by
 refine aG (F:=f20) rfl rfl (v:=.cl (.bl true)) ?_
 have e:eqD (.int i) (.int i)=some true:=by rw[dE];simp
 exact cs (σ':=akS (.int i) .dead) rfl (cM rfl (bG (aAI (x:=true) (y:=true) rfl (aAI (x:=true) (y:=true) rfl (rM rfl rfl e)))))
theorem rZ(n:Nat)(x:Str):call pg (n+1) 20 [.str x,.str x]=.ok (.bl true,false,false):=by
 refine aG (F:=f20) rfl rfl (v:=.cl (.bl true)) ?_
 have e:eqD (.str x) (.str x)=some true:=by rw[nL];simp
 exact cs (σ':=akS (.str x) .dead) rfl (cs (σ':=akS (.str x) .dead) rfl (cM rfl (bG (aAI (x:=true) (y:=true) rfl (rM rfl rfl e)))))
theorem jJ(n:Nat){d:D}{ds:List D}(hd:d=.tup ds\/d=.lst ds)(hl:ds.length<=1000000)(h:∀e∈ds,call pg (n+1) 20 [e,e]=.ok (.bl true,false,false)):call pg (n+2) 20 [d,d]=.ok (.bl true,false,false):=by
 have len:biD .len [⟨d,false,!noL d,[]⟩]=.ok (.cl (.int (ds.length:Int))):=by rcases hd with rfl|rfl <;> rfl
 have ix:∀{i:Nat} (hi:i<ds.length),bM ⟨d,false,!noL d,[]⟩ (.cl (.int (i:Int)))=.ok (Vl.sub ⟨d,false,!noL d,[]⟩ ds[i]):=λ{i} hi=>by
  rcases hd with rfl|rfl <;> unfold bM <;> simp only[bB,dF hi,List.getElem?_eq_getElem hi]
 have v0:∀s,ev pg (call pg (n+1)) (akS d s) (.v 0)=.ok ⟨d,false,!noL d,[]⟩:=λs=>by rcases hd with rfl|rfl <;> rfl
 have v1:∀s,ev pg (call pg (n+1)) (akS d s) (.v 1)=.ok ⟨d,false,!noL d,[]⟩:=λs=>by rcases hd with rfl|rfl <;> rfl
 obtain⟨σ',e,s,rfl⟩:=dR (t:=.n 2) (b:=match hdS (drp 6 f20.body) with|.for _ _ b=>b|_=>.nil) (λi σ=>∃s,σ=akS d s) (bS (cZ (v1 .dead) len) rfl (n:=ds.length) hl) ⟨_,rfl⟩ (λi hi σ hσ=>by
  obtain⟨s2,rfl⟩:=hσ
  have hi':i<ds.length:=by simpa using hi
  have h2:=h ds[i] (List.getElem_mem hi')
  refine⟨akS d (.sh false (.int i)),_,by simp,cs (bU ?_) (aL ..),_,rfl⟩
  have ee:evs pg (call pg (n+1)) (akS d (.sh false (.int i))) (.cons (.idx (.v 0) (.v 2)) (.cons (.idx (.v 1) (.v 2)) .nil))=.ok [Vl.sub ⟨d,false,!noL d,[]⟩ ds[i],Vl.sub ⟨d,false,!noL d,[]⟩ ds[i]]:=by
   rw[aB,aJ (v0 _) rfl (ix hi'),aA,aB,aJ (v1 _) rfl (ix hi'),aA,aI]
   rfl
  refine lU (k:=true) ?_
  rw[iF,ee,aA,mC,mC,mN,aMc,h2]
  rfl)
 refine aG (F:=f20) rfl rfl (v:=.cl (.bl true)) ?_
 have q:tst pg (call pg (n+1)) (akS d .dead) (.cmp .NotEq (.bi .len (.cons (.v 0) .nil)) (.bi .len (.cons (.v 1) .nil)))=.ok false:=by
  rw[bX,cZ (v0 _) len,aA,cZ (v1 _) len,aA,bB,zC,dE,beq_self_eq_true]
  rfl
 rcases hd with rfl|rfl <;> exact cs (bU rfl) (cs (bU rfl) (cs (bU rfl) (cs (bU rfl) (cs (bU rfl) (cs (bU q) (cs e (bG rfl)))))))
theorem qG(n:Nat){is:List Int}(hl:is.length<=1000000):call pg (n+2) 20 [aE is,aE is]=.ok (.bl true,false,false):=
 jJ n (.inl rfl) (by rw[lM];exact hl) λd hd=>by
  obtain⟨i,_,rfl⟩:=List.mem_map.mp hd
  exact jI n i
theorem aCb(n:Nat){h:House}(H:aF h):call pg (n+5) 20 [(nF h).getD .non,(nF h).getD .non]=.ok (.bl true,false,false):=by
 have few:=(jH H).few H
 cases q:nF h with
 | none=>exact aCa _
 | some d=>
  obtain⟨r,hr,e⟩:=List.exists_of_findSome?_eq_some q
  obtain⟨b,hb,rfl⟩:=Option.map_eq_some_iff.mp e
  refine jJ (n+3) (.inl rfl) (by simp) λz hz=>?_
  have bl:=lH (aW h) (aW h).length r
  simp only[List.mem_cons,List.not_mem_nil,or_false] at hz
  rcases hz with rfl|rfl|rfl
  . refine qG (n+2) ?_
    have hm:∀(F:Nat) (r:Rw),r∈aW h->(back (aW h) F r).1∈aW h:=λF=>by
     induction F with
     | zero=>exact λr hr=>hr
     | succ F ih=>
      intro r hr
      unfold back
      cases r.p with
      | none=>exact hr
      | some x=>
       simp only
       cases hx:(aW h)[x.1]? with
       | none=>exact hr
       | some q=>exact ih q (mG hx)
    have g:=(jH H).good _ (hm (aW h).length r hr)
    have:=g.st.1
    have:=H.bs.few
    omega
  . refine jJ (n+2) (.inr rfl) (by rw[List.length_reverse,lM];omega) λz hz=>?_
    obtain⟨x,_,rfl⟩:=List.mem_map.mp (List.mem_reverse.mp hz)
    exact qG (n+1) (is:=[(x.1:Int),(x.2:Int)]) (by simp)
  . rcases brk_tup hb with⟨i,rfl⟩|⟨i,k,rfl⟩ <;> refine jJ (n+2) (.inl rfl) (by simp) λz hz=>?_
    . simp only[List.mem_cons,List.not_mem_nil,or_false] at hz
      rcases hz with rfl|rfl
      . exact rZ _ _
      . exact jI _ _
    . simp only[List.mem_cons,List.not_mem_nil,or_false] at hz
      rcases hz with rfl|rfl|rfl
      . exact rZ _ _
      . exact jI _ _
      . exact jI _ _
theorem aCc{h:House}(H:aF h){d:D}(q:nF h=some d):∃(x y:D) (ds:List D),d=.tup [x,.lst ds,y]/\noLs [x,y]=true/\noLs ds=true/\ds.length<lim:=by
 have few:=(jH H).few H
 obtain⟨r,hr,e⟩:=List.exists_of_findSome?_eq_some q
 obtain⟨b,hb,rfl⟩:=Option.map_eq_some_iff.mp e
 have bl:=lH (aW h) (aW h).length r
 refine⟨_,_,_,rfl,?_,?_,by rw[List.length_reverse,lM];unfold lim;omega⟩
 . rw[noLs,noLs,noLs,(qD hb).2]
   unfold xJ
   rw[aK]
   rfl
 . rw[<-List.map_reverse]
   exact gF aAW _
theorem aJf{P:Pg}{cl:Caller}{σ:Sg}(i f:Nat)(es:Es):ex P cl σ (.tld i f es)=O.from σ (evs P cl σ es) λvs=>O.from σ (cl f (vs.map (·.d))) λr=>match aCO σ r with|some s=>.next (σ.set i s)|none=>.bad:=id rfl
theorem pure(ns:List Int)(hl:ns.length<=63):∃fr pa,call pg 60 19 [.lst (ns.map D.int)]=.ok (.bl true,fr,pa):=by
 obtain⟨h,pa,H,ch⟩:=aBZ 48 ns
 have cd:=aGj 27 H
 have cb:=zX 26 H
 have ca:=aCb 54 H
 generalize hD:(nF h).getD .non=d at cd cb ca
 let S0:Sl:=.sh true (.lst (ns.map D.int))
 let S1:Sl:=.sh pa h.d
 let R2:D:=.str (vF h.d)
 have v1:∀(t:Sg),ev pg (call pg 59) (S0::S1::t) (.v 1)=.ok ⟨h.d,false,pa,[]⟩:=λt=>by
  show R.ok (⟨h.d,false,pa&&true,[]⟩:Vl)=_
  rw[Bool.and_true]
 have hr:∀t:Sg,ev pg (call pg 59) (S0::S1::t) (.bi .repr (.cons (.v 1) .nil))=.ok (.cl R2):=λt=>by
  refine cZ (v1 t) ?_
  show R.iff (decide (wt h.d<lim)&&decide (dpt h.d<=60)) (R.ok (Vl.cl R2))=_
  rw[decide_eq_true (aEb H),decide_eq_true (aEc H)]
  rfl
 have eq0:eqD R2 R2=some true:=by show eqD (.str _) (.str _)=_;rw[nL];simp
 have e1:ex pg (call pg 59) [S0,.dead,.dead,.dead,.dead] (.set (.n 1) (.call 33 (.cons (.v 0) .nil)))=.next [S0,S1,.dead,.dead,.dead]:=by
  rw[bY,aU]
  show O.from _ ((call pg 59 33 [.lst (ns.map D.int)] >>= _)) _=_
  rw[ch]
  cases pa <;> rfl
 have e2:ex pg (call pg 59) [S0,S1,.dead,.dead,.dead] (.set (.n 2) (.bi .repr (.cons (.v 1) .nil)))=.next [S0,S1,.sh false R2,.dead,.dead]:=bJ (hr _)
 have e3:ex pg (call pg 59) [S0,S1,.sh false R2,.dead,.dead] (.set (.n 3) (.call 35 (.cons (.v 1) .nil)))=.next [S0,S1,.sh false R2,.sh false d,.dead]:=bJ (nM (v1 _) cd)
 /- what stands behind the first telling -/
 have fin:∀s4:Sl,vG [S0,S1,.sh false R2,.sh false d,s4] 4=.ok d->(∃s5,ex pg (call pg 59) [S0,S1,.sh false R2,.sh false d,s4] (.iff (.pnn 4) (.cons (.appP 4 (.tup (.cons (.c (.int 0)) (.cons (.c (.int 0)) .nil)))) .nil) .nil)=.next [S0,S1,.sh false R2,.sh false d,s5])->ex pg (call pg 59) [S0,S1,.sh false R2,.sh false d,.dead] (.tld 4 28 (.cons (.v 1) .nil))=.next [S0,S1,.sh false R2,.sh false d,s4]->exs pg (call pg 59) [S0,.dead,.dead,.dead,.dead] f19.body=.ret (.cl (.bl true)):=λs4 hp ⟨s5,h5⟩ h4=>by
  have t1:tst pg (call pg 59) [S0,S1,.sh false R2,.sh false d,s4] (.callP 20 4 (.cons (.v 3) .nil))=.ok true:=by
   show(evs pg (call pg 59) [S0,S1,.sh false R2,.sh false d,s4] (.cons (.v 3) .nil) >>= λvs=>vG [S0,S1,.sh false R2,.sh false d,s4] 4 >>= λd=>call pg 59 20 (d::vs.map (·.d)) >>= λr=>jW r >>= λx=>eR x)=_
   rw[hp]
   show(call pg 59 20 [d,d] >>= λr=>jW r >>= λx=>eR x)=_
   rw[ca]
   rfl
  have t2:tst pg (call pg 59) [S0,S1,.sh false R2,.sh false d,s4] (.orr (.nt (.callP 20 4 (.cons (.v 3) .nil))) (.cmp .NotEq (.bi .repr (.cons (.v 1) .nil)) (.v 2)))=.ok false:=by
   rw[nK,lU t1,aA,if_neg (by decide)]
   refine gW (hr _) (y:=.cl R2) rfl ?_
   rw[bB,zC,eq0]
   rfl
  have a:ev pg (call pg 59) [S0,S1,.sh false R2,.sh false d,s5] (.call 20 (.cons (.call 28 (.cons (.v 1) .nil)) (.cons (.v 3) .nil)))=.ok (.cl (.bl true)):=bZ (nM (v1 _) cb) (y:=.cl d) rfl ca
  exact cs e1 (cs e2 (cs e3 (cs h4 (cs (bU t2) (cs h5 (bG a))))))
 have tl:∀s,aCO [S0,S1,.sh false R2,.sh false d,.dead] (d,false,false)=some s->ex pg (call pg 59) [S0,S1,.sh false R2,.sh false d,.dead] (.tld 4 28 (.cons (.v 1) .nil))=.next [S0,S1,.sh false R2,.sh false d,s]:=λs hs=>by
  rw[aJf,aB,v1,aA,aI,aA,aT]
  show O.from _ (call pg 59 28 [h.d]) _=_
  rw[cb,aT,hs]
  rfl
 refine⟨false,false,aG (F:=f19) rfl rfl (v:=.cl (.bl true)) ?_⟩
 show exs pg (call pg 59) [S0,.dead,.dead,.dead,.dead] _=_
 cases q:nF h with
 | none=>
  rw[q] at hD
  have hD:D.non=d:=hD
  subst hD
  exact fin (.sh false .non) rfl ⟨_,rfl⟩ (tl _ rfl)
 | some d'=>
  rw[q] at hD
  have hD:d'=d:=hD
  subst hD
  obtain⟨x,y,ds,rfl,n1,n2,n3⟩:=aCc H q
  refine fin (.par ds [x,y]) rfl ⟨.par (ds++[.tup [.int 0,.int 0]]) [x,y],zE rfl (cs ?_ (aL ..))⟩ (tl _ ?_)
  . show(if ds.length<lim then O.next _ else .bad)=_
    rw[if_pos n3]
    rfl
  . show(if (noLs [x,y]&&noLs ds&&true)=true then _ else _)=_
    rw[n1,n2]
    rfl
end K57
end
noncomputable section
set_option maxRecDepth 100000
set_option maxHeartbeats 0
namespace K57
open PySem PySem.W L2 Hp Hh
def ix:List (Nat×List Str):=(3,["one", "ahead", "behind", "word", "left", "right"]) ::
 (4,["cond", "ahead", "behind", "word", "left", "right"]) ::
 (10,["boxes", "way", "stand", "held", "box", "one", "amount"]) ::
 (11,["hand", "place"]) ::
 (18,["house", "state", "step", "hand", "stand", "places", "row", "way", "further"]) ::
 (28,["_law_script", "_law_k"]) ::
 (1,["boxes", "found", "name", "top", "longer", "begun"]) ::
 (30,["_law_cell", "_law_k"]) ::
 (31,["_law_cell", "_law_most", "_law_some", "_law_tops", "_law_letters", "_law_base", "_law_at"]) ::
 (32,["_law_cell", "_law_k", "_law_many", "_law_after", "_law_deep", "_law_way_here", "_law_one"]) ::
 (33,["_law_cell", "_law_k", "_law_many", "_law_after", "_law_deep", "_law_way_here", "_law_one"]) ::
 (34,["_law_cell", "_law_many", "_law_places", "_law_puts", "_law_k", "_law_way_here", "_law_some", "_law_guard"]) ::
 (35,["_law_script", "_law_at", "_law_many", "_law_rows", "_law_hand_here", "_law_k", "_law_cells_here", "_law_some"]) ::
 (36,["_law_cell", "_law_many", "_law_way_here", "_law_box"]) ::
 (37,["_law_script", "_law_most", "_law_great", "_law_boxes_here", "_law_many", "_law_begin", "_law_hands", "_law_promises", "_law_notes", "_law_k", "_law_at", "_law_cell", "_law_some", "_law_place"]) ::
 (41,["_law_one", "_law_ahead", "_law_after", "_law_left"]) ::
 (42,["_law_cond_here", "_law_ahead", "_law_after", "_law_left", "_law_right"]) ::
 (43,["_law_boxes_here", "_law_found", "_law_name", "_law_top", "_law_longer", "_law_stand"]) ::
 (44,["_law_house_here", "_law_state", "_law_step", "_law_stand", "_law_places", "_law_rows", "_law_guard", "_law_puts", "_law_goal", "_law_found", "_law_box", "_law_one"]) ::
 (50,["_law_script", "_law_house_here", "_law_kept", "_law_due_here", "_law_found"]) ::
 (47,["_law_found", "_law_due_here", "_law_k"]) ::
 (5,["boxes", "cond"]) ::
 (19,["house", "start"]) ::
 (20,["house", "rows", "known", "start", "state", "parent", "step"]) ::
 (21,["house", "state", "found", "number", "hand", "way", "further"]) ::
 (45,["_law_house_here"]) ::
 (46,["_law_house_here", "_law_rows", "_law_seen", "_law_at", "_law_hand_here", "_law_number", "_law_after"]) ::
 (22,["rows", "number", "row", "steps"]) ::
 (24,["house", "rows", "number", "row", "found", "weaving"]) ::
 (25,["house", "state", "stand", "hand", "place", "step", "further"]) ::
 (26,["house", "hand", "stand", "further"]) ::
 (38,["_law_many", "_law_owners", "_law_k", "_law_cond_here", "_law_box"]) ::
 (39,["_law_script", "_law_house_here", "_law_boxes_here", "_law_begin", "_law_hands", "_law_promises", "_law_notes", "_law_cell", "_law_owners", "_law_found", "_law_some", "_law_told", "_law_k", "_law_hand_here", "_law_rows", "_law_row", "_law_mine", "_law_kept", "_law_notes_here", "_law_place", "_law_note", "_law_box", "_law_less"]) ::
 (40,["_law_script", "_law_house_here"]) ::
 (48,["_law_house_here", "_law_state", "_law_hand_here", "_law_place", "_law_number", "_law_after"]) ::
 (49,["_law_house_here", "_law_rows", "_law_row", "_law_found", "_law_steps"])::[]
def cns:List (Str×D):=[("GUARD",(.int 0)),("PUTS",(.int 1)),("NEXT",(.int 2)),("BOXES",(.int 0)),("BEGIN",(.int 1)),("HANDS",(.int 2)),("PROMISES",(.int 3)),("NOTES",(.int 4))]
abbrev pw:=PySem.Challenge.pw_handpromise_k57_the_first_break
theorem chk:iE ⟨[],[],(ix.map (nD pw)).map (·.x),cns,[],true,[]⟩ pg.fns (ix.map (nD pw))=true:=by decide +kernel
theorem tw0:(pw.main.body.length != 0)=true:=by k_qdec
theorem lft:LeftO pw (aAx pw) (aDJ pw) (λ_=>true) (λs=>kU pw cns s.heap) (λ_=>oZ pw) 100000:=aID (by kernel_rfl) rfl (λ_=>by kernel_rfl) λw os=>by
 have _:=tw0;unfold pw;rw[PySem.W.Fast.te1748476642714216385];kernel_rfl
end K57
end
noncomputable section
open PySem PySem.W PyProof.Rows Hh
set_option maxRecDepth 100000 in
set_option maxHeartbeats 0 in
theorem PySem.Challenge.cw_handpromise_k57_the_first_break_holds : PySem.Challenge.rw_handpromise_k57_the_first_break.Holds := by
 w_on; o_law; rename_i said
 refine aIH (l := PySem.Challenge.rw_handpromise_k57_the_first_break) (k := 59) (f := 19) (x := "_law_script") (sl := ["_law_house_here", "_law_kept", "_law_due_here", "_law_found"]) said K57.lft (by kernel_rfl) (by kernel_rfl) rfl rfl (by decide +kernel) ⟨rfl, rfl, rfl, rfl, rfl, by decide +kernel⟩ ?hw rfl rfl (by decide +kernel) (by decide +kernel) K57.chk ⟨rfl, rfl, by decide, by decide⟩ (by kernel_rfl) rfl K57.pure
 w_witness2
end
