import PyProof.Rows.All
import Wide.All
import OpenK.AllK
import Wide.FinOn
import Lean
import PyProof.EqAt
import PyProof.EqKinds
import PyProof.TupleCall
import PyProof.FactsAll.tuple_2
import PySem.Syntax
import PySem.Builtin.Str.Common
import PyProof.ReprReads
import PyProof.TupleKey
import PyProof.DictRoadsH
import PyProof.Rows.TupTab
import PyProof.RaisesMany
import PyProof.NeKinds
import PyProof.StrLaws
import PyProof.ReprRoads
import PyProof.FitsInt
import KE.KIsAll
import OpenK.KOwn
import PyProof.RulesDel
import PyProof.RulesAs
import PyProof.ExcArgsOwn
import PyProof.ExcAttrAll.ValueError
import PyProof.Rows.SetFrom
import PyProof.SetRoads
import PyProof.PureStr
import PyProof.ZipIter
import PyProof.StrWalks
import PyProof.EnumFor
import PyProof.EnumStmt
import PyProof.DictTable
import PyProof.ListNew
import PyProof.AutoListH
import PyProof.AttrMissHeap
import KE.KDictOf
import PySem.Challenge.RW_handpromise_k07_steps_of_a_promise
set_option genSizeOf false
set_option genInjectivity false
set_option bootstrap.genMatcherCode false
set_option Elab.async false
set_option linter.all false
theorem nf{p:Prop}(h:false=true):p:=absurd h Bool.false_ne_true
def gS:=@List.getElem?_cons_succ.{0}
def gZ:=@List.getElem?_cons_zero.{0}
def lS:=@List.set_cons_succ.{0}
def lZ:=@List.set_cons_zero.{0}
def bF:=@Bool.false_eq_true
def lC:=@List.length_cons.{0}
def lN:=@List.length_nil.{0}
def lA:=@List.length_append.{0}
def mC:=@List.map_cons.{0,0}
def mN:=@List.map_nil.{0,0}
def lM:=@List.length_map.{0,0}
def mG:=@List.mem_of_getElem?.{0}
def bN:=@Bool.false_ne_true
def bA:=@Bool.and_eq_true
noncomputable section
set_option maxRecDepth 100000
namespace L2
open PySem PySem.Spec PyProof.Rows
abbrev Key:=Sum Int Str
def sR:Key->Value->Bool
 | .inl k,v=>Value.isInt k v
 | .inr x,v=>Value.isStrOf x v
def aJW(w:World):Key->Int
 | .inl k=>hashInt k
 | .inr x=>hashStr w x
theorem keyIs_shape:∀{k:Key} {v:Value},sR k v=true->(∃i t,k=Sum.inl i/\v=Value.int i t)\/(∃x t,k=Sum.inr x/\v=Value.str x t)
 | .inl i,v,h=>by
  obtain⟨t,e⟩:=Value.isInt_shape (k:=i) (v:=v) h
  exact .inl ⟨i,t,rfl,e⟩
 | .inr x,v,h=>by
  obtain⟨t,e⟩:=Value.isStrOf_shape (x:=x) (v:=v) h
  exact .inr ⟨x,t,rfl,e⟩
theorem pE(x:Str)(t:Tok):sR (.inr x) (.str x t)=true:=by simp[sR,Value.isStrOf]
theorem aFg(a b:Int):decide ((Sum.inl a:Key)=Sum.inl b)=(a==b):=by
 by_cases e:a=b
 . subst e;simp
 . have h:¬ (Sum.inl a:Key)=Sum.inl b:=λq=>e (Sum.inl.inj q)
   rw[decide_eq_false h]
   exact(beq_eq_false_iff_ne.mpr e).symm
theorem aFh(a b:Str):decide ((Sum.inr a:Key)=Sum.inr b)=decide (a=b):=by
 by_cases e:a=b
 . subst e;simp
 . have h:¬ (Sum.inr a:Key)=Sum.inr b:=λq=>e (Sum.inr.inj q)
   rw[decide_eq_false h,decide_eq_false e]
theorem aFi(a:Int)(b:Str):decide ((Sum.inl a:Key)=Sum.inr b)=false:=decide_eq_false (λq=>nomatch q)
theorem aFj(a:Str)(b:Int):decide ((Sum.inr a:Key)=Sum.inl b)=false:=decide_eq_false (λq=>nomatch q)
def eC(prog:Program)(w:World):PySem.KeyKind prog w Key where
 is:=sR
 hash:=aJW w
 inj:=λv a b ha hb=>by
  rcases keyIs_shape ha with⟨i,t,rfl,rfl⟩|⟨x,t,rfl,rfl⟩
  . rcases keyIs_shape hb with⟨j,u,rfl,e⟩|⟨y,u,rfl,e⟩
    . injection e with e1 _;rw[e1]
    . exact nomatch e
  . rcases keyIs_shape hb with⟨j,u,rfl,e⟩|⟨y,u,rfl,e⟩
    . exact nomatch e
    . injection e with e1 _;rw[e1]
 byValue:=λk v h=>by
  rcases keyIs_shape h with⟨i,t,rfl,rfl⟩|⟨x,t,rfl,rfl⟩ <;> rfl
 pyHash:=λhv h=>by
  rcases keyIs_shape hv with⟨i,t,rfl,rfl⟩|⟨x,t,rfl,rfl⟩
  . exact wpAny_pyHash_int h
  . exact wpAny_pyHash_str h
 eqBool:=λhu hv h=>by
  rcases keyIs_shape hu with⟨i,t,rfl,rfl⟩|⟨x,t,rfl,rfl⟩
  . rcases keyIs_shape hv with⟨j,u,rfl,rfl⟩|⟨y,u,rfl,rfl⟩
    . rw[aFg] at h;exact wpAny_eqBool_int h
    . rw[aFi] at h;exact SeqAt.EqAt.int_str i t y u _ _ _ _ h
  . rcases keyIs_shape hv with⟨j,u,rfl,rfl⟩|⟨y,u,rfl,rfl⟩
    . rw[aFj] at h;exact SeqAt.EqAt.str_int x t j u _ _ _ _ h
    . rw[aFh] at h;exact wpAny_eqBool_str h
 «strs»:=λk x t v h=>by
  rcases keyIs_shape h with⟨i,u,rfl,e⟩|⟨y,u,rfl,e⟩
  . exact nomatch e
  . injection e with e1 _
    subst e1
    cases v <;> rfl
end L2
namespace L2
open PySem PySem.Spec PyProof.Rows
inductive V where
 | non|bl (b:Bool)|int (i:Int)|str (x:Str)|byt (b:Array UInt8)|flt (b:UInt64)|ref (a:Addr)|ty (n:String)
 deriving DecidableEq
def bQ:V->Value->Prop
 | .non,u=>u=Value.none
 | .bl b,u=>u=Value.bool b
 | .int i,u=>∃t,u=Value.int i t
 | .str x,u=>∃t,u=Value.str x t
 | .byt b,u=>∃t,u=Value.bytes b t
 | .flt b,u=>∃t,u=Value.float b t
 | .ref a,u=>u=Value.ref a
 | .ty n,u=>u=Value.type n
abbrev aW:List V->List Value->Prop:=Paired bQ
theorem aW.length{xs:List V}{us:List Value}(r:aW xs us):xs.length=us.length:=Paired.length r
theorem aW.get:∀{xs:List V} {us:List Value} {i:Nat} {x:V},aW xs us->xs[i]? = some x->∃u,us[i]? = some u/\bQ x u
 | _,_,_,_,.nil,e=>by simp at e
 | _,_,0,_,.cons r _,e=>by simp at e;subst e;exact⟨_,rfl,r⟩
 | _,_,i+1,x,.cons _ t,e=>by
  obtain⟨u,h1,h2⟩:=aW.get (i:=i) (x:=x) t (by simpa using e)
  exact⟨u,by simpa using h1,h2⟩
theorem aW.set{x:V}{u:Value}(r:bQ x u):∀{xs:List V} {us:List Value} (i:Nat),aW xs us->aW (xs.set i x) (us.set i u)
 | _,_,_,.nil=>.nil
 | _,_,0,.cons _ t=>.cons r t
 | _,_,i+1,.cons q t=>.cons q (aW.set r i t)
theorem aW.append:∀{xs ys:List V} {us ws:List Value},aW xs us->aW ys ws->aW (xs++ys) (us++ws)
 | _,_,_,_,.nil,s=>s
 | _,_,_,_,.cons r t,s=>.cons r (aW.append t s)
theorem aW.take:∀{xs:List V} {us:List Value} (n:Nat),aW xs us->aW (xs.take n) (us.take n)
 | _,_,0,_=>.nil
 | _,_,_+1,.nil=>.nil
 | _,_,n+1,.cons r t=>.cons r (aW.take n t)
theorem aW.drop:∀{xs:List V} {us:List Value} (n:Nat),aW xs us->aW (xs.drop n) (us.drop n)
 | _,_,0,r=>r
 | _,_,_+1,.nil=>.nil
 | _,_,n+1,.cons _ t=>aW.drop n t
def aHn:Option V->Option Value->Prop
 | some v,some u=>bQ v u
 | none,none=>True
 | _,_=>False
def KV{κ:Type}:List (κ×V)->List (κ×Value)->Prop:=Paired λ(p:κ×V) (q:κ×Value)=>p.1=q.1/\bQ p.2 q.2
def kV:Key->V
 | .inl i=>.int i
 | .inr x=>.str x
set_option genInjectivity true in
inductive HO where
 | lst (xs:List V)
 | tup (xs:List V)
 | dK (kvs:List (Key×V))|dT (kvs:List (List Key×V))
 | set (S:Int->Bool) (n:Nat)
 | ins (C dx:Addr) (fs:List (Str×V))
 | own (x:Addr)
 | xd (fs:List (Str×V))
 | met (f x:Addr)
 | rng (lo hi:Int)
 | frz (o:Obj) (u:HO)
 | tbl (ps:Array Value)
 | ext (φ:Heap->Prop)
abbrev Hp:=Addr->Option HO
def upd(H:Hp)(a:Addr)(o:HO):Hp:=λb=>if b=a then some o else H b
theorem cE{H:Hp}{a:Addr}{o:HO}:upd H a o a=some o:=by unfold upd;rw[if_pos rfl]
theorem aJ{H:Hp}{a b:Addr}{o:HO}(h:b≠a):upd H a o b=H b:=by unfold upd;rw[if_neg h]
theorem bG{H:Hp}{a b:Addr}{o:HO}(h:H a=some o)(h':H b=none):a≠b:=by
 intro e;subst e;rw[h] at h';cases h'
section
variable (P:Program) (w:World)
def dG(H:Hp)(h:Heap)(a:Addr):HO->Prop
 | .lst xs=>xs.length<=sizeLine/\∃(its:List Value) (n:Nat),aW xs its/\h.get? a=some { cls:=.type "list",data:=.seq its.toArray n }
 | .tup xs=>xs.length<=sizeLine/\∃its:List Value,aW xs its/\IsTup h a its.toArray
 | .dK kvs=>kvs.length<=sizeLine/\(a==sysModules)=false/\∃vs,KV kvs vs/\h.DictOf (eC P w) a vs
 | .dT kvs=>kvs.length<=sizeLine/\(a==sysModules)=false/\∃xs:List (List Key×Addr×Value),
  Paired (λ(p:List Key×V) (q:List Key×Addr×Value)=>p.1=q.1/\H q.2.1=some (.tup (p.1.map kV))/\bQ p.2 q.2.2) kvs xs /\
  ∃o es ep,h.get? a=some o/\o.ExactDict/\o.data=.dict es ep/\es.toList=xs.map (entryOfKey (tupleKind (eC P w)))/\(xs.map (·.1)).Nodup
 | .set S n=>h.SetOf (intKind P w) a S n
 | .ins C dx fs=>H dx=some (.own a)/\fs.length<=1000/\dx≠a/\h.get? a=some (PySem.W.instObj C dx) /\
  ∃mA,h.Ns1 dx mA/\(∀f,aHn (fs.lookup f) (mA f))/\PySem.Within mA (fs.map (·.1))
 | .own _=>∃o,h.get? a=some o
 | .xd fs=>∃mA,h.Ns1 a mA/\∀f,aHn (fs.lookup f) (mA f)
 | .rng lo hi=>∃t u v,h.get? a=some { cls:=.type "range",data:=.fields #[.int lo t,.int hi u,.int 1 v] }
 | .frz o u=>h.get? a=some o/\dG H h a u
 | .tbl ps=>h.get? a=some { cls:=.none,data:=.fields ps }
 | .met f x=>h.get? a=some (PySem.W.methodObj (.ref f) (.ref x))
 | .ext φ=>φ h/\(∃o,h.get? a=some o)/\∀h1 h2:Heap,φ h1->(∀o,h1.get? a=some o->h2.get? a=some o)->φ h2
def HOk(H:Hp)(h:Heap):Prop:=∀a o,H a=some o->dG P w H h a o
end
section
variable {P:Program} {w:World} {H H':Hp} {h h':Heap} {a:Addr} {o:HO}
theorem dG.lt(x:dG P w H h a o):a<h.objs.size:=by
 cases o with
 | lst xs=>obtain⟨_,_,_,_,e⟩:=x;exact Heap.lt_size e
 | tup xs=>obtain⟨_,_,_,p⟩:=x;exact p.lt
 | dK kvs=>obtain⟨_,_,_,_,o,_,_,e,_⟩:=x;exact Heap.lt_size e
 | dT kvs=>obtain⟨_,_,_,_,o,_,_,e,_⟩:=x;exact Heap.lt_size e
 | set S n=>obtain⟨o,_,_,_,e,_⟩:=x;exact Heap.lt_size e
 | ins C dx fs=>obtain⟨_,_,_,e,_⟩:=x;exact Heap.lt_size e
 | own y=>obtain⟨_,e⟩:=x;exact Heap.lt_size e
 | xd fs=>obtain⟨_,⟨_,_,_,e,_⟩,_⟩:=x;exact Heap.lt_size e
 | rng lo hi=>obtain⟨_,_,_,e⟩:=x;exact Heap.lt_size e
 | frz ob u=>obtain⟨e,_⟩:=x;exact Heap.lt_size e
 | tbl ps=>exact Heap.lt_size (show h.get? a=some _ from x)
 | met f y=>exact Heap.lt_size (show h.get? a=some _ from x)
 | ext φ=>obtain⟨_,⟨_,e⟩,_⟩:=x;exact Heap.lt_size e
theorem Paired.mapP{α β:Type}{F G:α->β->Prop}:∀{l₁:List α} {l₂:List β},Paired F l₁ l₂->(∀a b,F a b->G a b)->Paired G l₁ l₂
 | _,_,.nil,_=>.nil
 | _,_,.cons r t,f=>.cons (f _ _ r) (Paired.mapP t f)
theorem dG.stay(x:dG P w H h a o)(k:∀b u,(b=a\/H b=some (.own a))->h.get? b=some u->h'.get? b=some u)
 (ho:∀b,H b=some (.own a)->H' b=some (.own a)) (ht:∀b xs,H b=some (.tup xs)->H' b=some (.tup xs)):dG P w H' h' a o:=by
 induction o with
 | lst xs=>obtain⟨z,its,n,r,e⟩:=x;exact⟨z,its,n,r,k _ _ (.inl rfl) e⟩
 | tup xs=>obtain⟨z,its,r,ob,e,c⟩:=x;exact⟨z,its,r,ob,k _ _ (.inl rfl) e,c⟩
 | dK kvs=>obtain⟨z,y,vs,r,ob,es,ep,e,c⟩:=x;exact⟨z,y,vs,r,ob,es,ep,k _ _ (.inl rfl) e,c⟩
 | dT kvs=>
  obtain⟨z,y,xs,r,ob,es,ep,e,c⟩:=x
  exact⟨z,y,xs,Paired.mapP r λp q z=>⟨z.1,ht _ _ z.2.1,z.2.2⟩,ob,es,ep,k _ _ (.inl rfl) e,c⟩
 | set S n=>obtain⟨ob,es,ep,t,e,c⟩:=x;exact⟨ob,es,ep,t,k _ _ (.inl rfl) e,c⟩
 | ins C dx fs=>
  obtain⟨d,z,ne,e,mA,⟨od,es,ep,e2,c⟩,r⟩:=x
  exact⟨ho _ d,z,ne,k _ _ (.inl rfl) e,mA,⟨od,es,ep,k _ _ (.inr d) e2,c⟩,r⟩
 | own y=>obtain⟨ob,e⟩:=x;exact⟨ob,k _ _ (.inl rfl) e⟩
 | xd fs=>obtain⟨mA,⟨od,es,ep,e,c⟩,r⟩:=x;exact⟨mA,⟨od,es,ep,k _ _ (.inl rfl) e,c⟩,r⟩
 | rng lo hi=>obtain⟨t,u,v,e⟩:=x;exact⟨t,u,v,k _ _ (.inl rfl) e⟩
 | frz ob u ih=>obtain⟨e,q⟩:=x;exact⟨k _ _ (.inl rfl) e,ih q⟩
 | tbl ps=>
  have e:h.get? a=some { cls:=.none,data:=.fields ps }:=x
  show h'.get? a=some { cls:=.none,data:=.fields ps }
  exact k a _ (.inl rfl) e
 | met f y=>
  have e:h.get? a=some (PySem.W.methodObj (.ref f) (.ref y)):=x
  show h'.get? a=some (PySem.W.methodObj (.ref f) (.ref y))
  exact k a _ (.inl rfl) e
 | ext φ=>obtain⟨p,⟨o,e⟩,st⟩:=x;exact⟨st _ _ p λo q=>k _ _ (.inl rfl) q,⟨o,k _ _ (.inl rfl) e⟩,st⟩
theorem HOk.lt(x:HOk P w H h)(e:H a=some o):a<h.objs.size:=(x a o e).lt
theorem HOk.fresh(x:HOk P w H h)(e:h.objs.size<=a):H a=none:=by
 cases q:H a with
 | none=>rfl
 | some u=>exact absurd (Nat.lt_of_lt_of_le (x.lt q) e) (Nat.lt_irrefl _)
theorem HOk.kept(x:HOk P w H h)(k:∀b u,h.get? b=some u->h'.get? b=some u):HOk P w H h':=λa o e=>
 (x a o e).stay (λb u _ q=>k b u q) (λ_ q=>q) λ_ _ q=>q
theorem HOk.laid(x:HOk P w H h)(k:∀b u,h.get? b=some u->h'.get? b=some u)(hp:h.objs.size<=a)(new:dG P w (upd H a o) h' a o):HOk P w (upd H a o) h':=λb u e=>by
 have hn:=x.fresh hp
 by_cases hb:b=a
 . subst hb;rw[cE] at e;cases e;exact new
 . rw[aJ hb] at e
   exact(x b u e).stay (λc v _ q=>k c v q) (λc q=>by rw[aJ (bG q hn)];exact q) λc xs q=>by rw[aJ (bG q hn)];exact q
end
def Rd(H:Hp)(a:Addr)(u:HO):Prop:=H a=some u\/∃o,H a=some (.frz o u)
theorem Rd.ok{P:Program}{w:World}{H:Hp}{h:Heap}{a:Addr}{u:HO}(r:Rd H a u)(x:HOk P w H h):dG P w H h a u:=by
 rcases r with r|⟨o,r⟩
 . exact x a u r
 . obtain⟨_,q⟩:=x a _ r
   exact q
def Mut:Option HO->Prop
 | some (.lst _)=>True
 | some (.dK _)=>True
 | some (.dT _)=>True
 | some (.set _ _)=>True
 | some (.ins _ _ _)=>True
 | some (.ext _)=>True
 | _=>False
section
variable {P:Program} {w:World} {H:Hp} {h h':Heap} {x e:Addr} {o':HO}
theorem HOk.write(ok:HOk P w H h)(mu:Mut (H x))(he:e=x\/H e=some (.own x))(k:∀b u,b≠e->h.get? b=some u->h'.get? b=some u)(heo:∃u,h'.get? e=some u)
 (new:dG P w (upd H x o') h' x o'):HOk P w (upd H x o') h':=λb u q=>by
 have nown:∀c y,H c=some (.own y)->c≠x:=λc y r z=>by subst z;rw[r] at mu;exact mu
 have ntup:∀c xs,H c=some (.tup xs)->c≠x:=λc xs r z=>by subst z;rw[r] at mu;exact mu
 by_cases hb:b=x
 . subst hb;rw[cE] at q;cases q;exact new
 . rw[aJ hb] at q
   by_cases hbe:b=e
   . have q':H b=some (.own x):=by
      rcases he with z|z
      . exact absurd (hbe.trans z) hb
      . rw[hbe];exact z
     rw[q] at q';cases q'
     obtain⟨v,hv⟩:=heo
     exact⟨v,by rw[hbe];exact hv⟩
   . refine(ok b u q).stay (λc v hc r=>k c v ?_ r) (λc r=>by rw[aJ (nown c b r)];exact r) λc xs r=>by rw[aJ (ntup c xs r)];exact r
     rcases hc with rfl|hc
     . exact hbe
     . rintro rfl
       rcases he with z|z
       . exact nown c b hc z
       . rw[hc] at z;cases z;exact hb rfl
end
structure Un (fs ex:List Addr) (H H':Hp) (h h':Heap):Prop where
 keep:∀b o,h.get? b=some o->H b=none->b∉fs->b∉ex->h'.get? b=some o
 slot:∀b o,h.get? b=some o->H b=none->b∈fs->b∉ex->∃sl,h'.get? b=some { o with slots:=sl }
 free:∀b o,h.get? b=some o->H b=none->b∉ex->H' b=none
 there:∀b o,h.get? b=some o->b∉ex->∃o',h'.get? b=some o'
 tups:∀b xs,H b=some (.tup xs)->H' b=some (.tup xs)
 frzs:∀b o u,H b=some (.frz o u)->H' b=some (.frz o u)
 tbls:∀b ps,H b=some (.tbl ps)->∃more,H' b=some (.tbl (ps++more))
section
variable {fs fs' ex ex':List Addr} {H H1 H2:Hp} {h h1 h2 h':Heap} {a x e:Addr} {o:HO}
theorem Un.any(u:Un fs ex H H1 h h1){b:Addr}{ob:Obj}(q:h.get? b=some ob)(n:H b=none)(hx:b∉ex):∃sl,h1.get? b=some { ob with slots:=sl }:=by
 by_cases hb:b∈fs
 . exact u.slot b ob q n hb hx
 . exact⟨ob.slots,u.keep b ob q n hb hx⟩
theorem Un.kept(k:∀b u,h.get? b=some u->h'.get? b=some u):Un fs ex H H h h':=
 ⟨λb ob q _ _ _=>k b ob q,λb ob q _ _ _=>⟨ob.slots,k b ob q⟩,λ_ _ _ n _=>n,λb ob q _=>⟨ob,k b ob q⟩,λ_ _ q=>q,λ_ _ _ q=>q,λ_ ps q=>⟨#[],by rw[q];simp⟩⟩
theorem Un.refl:Un fs ex H H h h:=Un.kept λ_ _ q=>q
theorem Un.laid(k:∀b u,h.get? b=some u->h'.get? b=some u)(hp:h.objs.size<=a)(hn:H a=none):Un fs ex H (upd H a o) h h' where
 keep:=λb u q _ _ _=>k b u q
 slot:=λb u q _ _ _=>⟨u.slots,k b u q⟩
 free:=λb u q n _=>by rw[aJ (Nat.ne_of_lt (Nat.lt_of_lt_of_le (Heap.lt_size q) hp))];exact n
 there:=λb u q _=>⟨u,k b u q⟩
 tups:=λb xs q=>by rw[aJ (bG q hn)];exact q
 frzs:=λb u xs q=>by rw[aJ (bG q hn)];exact q
 tbls:=λb ps q=>⟨#[],by rw[aJ (bG q hn),q];simp⟩
theorem Un.write(mu:Mut (H x))(he:e=x\/H e=some (.own x))(k:∀b u,b≠e->h.get? b=some u->h'.get? b=some u)(heo:∃u,h'.get? e=some u):Un fs ex H (upd H x o) h h':=by
 have hx:∀b,H b=none->b≠x:=λb n z=>by subst z;rw[n] at mu;exact mu
 have hb:∀b,H b=none->b≠e:=λb n z=>by
  subst z
  rcases he with r|r
  . exact hx b n r
  . rw[n] at r;cases r
 have hm:∀b u,H b=some u->¬ Mut (some u)->b≠x:=λb u q nm z=>by subst z;rw[q] at mu;exact nm mu
 refine⟨λb u q n _ _=>k b u (hb b n) q,λb u q n _ _=>⟨u.slots,k b u (hb b n) q⟩,λb u q n _=>by rw[aJ (hx b n)];exact n,λb u q _=>?_,
  λb xs q=>by rw[aJ (hm b _ q λz=>z)];exact q,λb u xs q=>by rw[aJ (hm b _ q λz=>z)];exact q,λb ps q=>⟨#[],by rw[aJ (hm b _ q λz=>z),q];simp⟩⟩
 by_cases hbe:b=e
 . subst hbe;exact heo
 . exact⟨u,k b u hbe q⟩
end
def trk(h:Heap)(H:Hp):List Addr:=(List.range h.objs.size).filter λa=>(H a).isSome
def qN(h:Heap)(H:Hp):Heap:=PySem.W.hideAll h (trk h H)
theorem yR(h:Heap)(H:Hp):(qN h H).objs.size=h.objs.size:=PySem.W.hideAll_size _ _
theorem aAr{h:Heap}{H:Hp}{b:Addr}{o:Obj}(e:h.get? b=some o)(n:H b=none):(qN h H).get? b=some o:=
 PySem.W.hideAll_get _ e λhm=>by
  have q:(H b).isSome=true:=(List.mem_filter.mp hm).2
  rw[n] at q;simp at q
theorem aCY{h:Heap}{H:Hp}{b:Addr}{o:Obj}(e:(qN h H).get? b=some o):h.get? b=some o/\H b=none:=by
 have e':h.get? b=some o:=PySem.W.of_hideAll (trk h H) e
 refine⟨e',?_⟩
 cases q:H b with
 | none=>rfl
 | some x=>
  have hm:b∈trk h H:=List.mem_filter.mpr ⟨List.mem_range.mpr (Heap.lt_size e'),by simp[q]⟩
  have z:(qN h H).get? b=none:=PySem.W.hideAll_none (trk h H) hm
  rw[z] at e;cases e
def aCZ(g h:Heap)(L:Addr):List (Addr×Obj):=(List.range h.objs.size).filterMap λa=>if a=L\/(g.get? a).isSome=true then none else (h.get? a).map λo=>(a,o)
def rest(g h:Heap)(L d:Addr):List (Addr×Obj):=(aCZ g h L).filter λp=>decide (p.1≠d)
end L2
namespace L2
open PySem PySem.Spec PyProof.Rows
structure Mod (K:PySem.W.Frag) (mg:Str->Option Value) (base:Heap):Prop where
 kin:K.In base
 glob:base.Ns mainGlobals mg
 blt:∃mb,base.Ns builtinsNs mb/\∀x:Str,x ≠ "__name__" -> mb x=bootBuiltins x
 nolimit:base.NoLimit
set_option genInjectivity true in
structure Cx where
 prog:Program
 w:World
 K:PySem.W.Frag
 mg:Str->Option Value
 base:Heap
 A:Around
 N:List Str
 s₀:Shared
 H₀:Hp
 env:Env
 outer:List Env
 stack:List Env
 ex:List Addr
 fn:Str->Bool
 calm:Bool
 pn:List (Addr×Obj)
 xe:Value->Shared->Prop
def frs(l:List Env):List Addr:=l.filterMap (·.frame)
abbrev Cx.fs(X:Cx):List Addr:=frs X.outer
def Vis(sc:Scope)(x:Str):Prop:=sc.names.lookup x=some .local\/sc.names.lookup x=some .cell\/sc.names.lookup x=some .free
def Loc(sc:Scope)(x:Str):Prop:=sc.names.lookup x=some .local\/sc.names.lookup x=some .cell
def aJX(env:Env)(h:Heap)(m:Str->Option Value)(x:Str)(u:Value):Prop:=
 (env.kindOf x=some .local/\m x=some u)\/((env.kindOf x=some .cell\/env.kindOf x=some .free)/\∃c,env.cells.lookup x=some c/\h.IsCell c (some u))
structure Cx.Ok (X:Cx):Prop where
 mod:Mod X.K X.mg X.base
 kind:X.env.scope.kind=.function
 glob:X.env.globals=mainGlobals
 blt:X.env.builtins=builtinsNs
 above:X.s₀.heap.objs.size<=X.env.locals
 inj:∀x y c,X.env.cells.lookup x=some c->X.env.cells.lookup y=some c->x=y
 has:∀x,(X.env.kindOf x=some .cell\/X.env.kindOf x=some .free)->∃c,X.env.cells.lookup x=some c
 cab:∀x c,X.fn x=true->X.env.cells.lookup x=some c->X.s₀.heap.objs.size<=c
 hd:X.calm=true->X.A.handled=none
 frames:X.A.frames=some X.stack
 stk:X.stack=X.outer\/(X.stack=X.env::X.outer/\X.env.frame=some X.env.locals)
 exf:∀b∈X.ex,b≠X.env.locals/\∀x c,X.env.cells.lookup x=some c->c≠b
 bs:∀b o,X.base.get? b=some o->X.s₀.heap.get? b=some o/\X.H₀ b=none
 bsz:X.base.objs.size<=X.s₀.heap.objs.size
 noex:∀b o,X.base.get? b=some o->b∉X.ex
 exfs:∀b∈X.ex,b∉X.fs
 funs:X.s₀.heap.FunFrames X.base X.outer
 frf:∀b∈X.fs,X.H₀ b=none
structure Inv (X:Cx) (pins:List (Addr×Obj)) (σ:List (Option V)) (H:Hp) (s:Shared):Prop where
 ok:X.Ok
 os:s.os=X.s₀.os
 bare:AllBare s.gens
 base:Un X.fs X.ex X.H₀ H X.s₀.heap s.heap
 loc:∃m,s.heap.Ns X.env.locals m/\∀(i:Nat) (x:Str) (v:V),X.N[i]? = some x->σ[i]? = some (some v)->Vis X.env.scope x->∃u,bQ v u/\aJX X.env s.heap m x u
 cell:∀x c,X.env.cells.lookup x=some c->∃v,s.heap.IsCell c v
 free:H X.env.locals=none
 freeC:∀x c,X.env.cells.lookup x=some c->H c=none
 pin:∀p∈X.pn++pins,s.heap.get? p.1=some p.2/\H p.1=none/\p.1≠X.env.locals/\p.1∉X.fs/\∀v,p.2.data≠.cell v
 hok:HOk X.prog X.w H s.heap
 len:σ.length=X.N.length
section
variable {X:Cx} {pins:List (Addr×Obj)} {σ:List (Option V)} {H H':Hp} {s:Shared} {h':Heap}
theorem Cx.Ok.nofr(ok:X.Ok){b:Addr}{o:Obj}(e:X.base.get? b=some o):b∉X.fs:=λhb=>by
 have:=(ok.funs.mem hb).1
 rw[e] at this;cases this
theorem Inv.bs(I:Inv X pins σ H s):∀b o,X.base.get? b=some o->s.heap.get? b=some o/\H b=none:=λb o e=>
 ⟨I.base.keep b o (I.ok.bs b o e).1 (I.ok.bs b o e).2 (I.ok.nofr e) (I.ok.noex b o e),I.base.free b o (I.ok.bs b o e).1 (I.ok.bs b o e).2 (I.ok.noex b o e)⟩
theorem Inv.bk(I:Inv X pins σ H s):∀b o,X.base.get? b=some o->s.heap.get? b=some o:=λb o e=>(I.bs b o e).1
theorem Inv.mod(I:Inv X pins σ H s):Mod X.K X.mg X.base:=I.ok.mod
theorem Inv.kIn(I:Inv X pins σ H s):X.K.In s.heap:=I.ok.mod.kin.keeps I.bk
theorem Inv.lt(I:Inv X pins σ H s):X.env.locals<s.heap.objs.size:=let ⟨_,hn,_⟩:=I.loc;hn.lt
theorem Inv.sz(I:Inv X pins σ H s):X.s₀.heap.objs.size<=s.heap.objs.size:=Nat.le_trans I.ok.above (Nat.le_of_lt I.lt)
theorem Inv.nofs(I:Inv X pins σ H s){a:Addr}(h:s.heap.objs.size<=a):a∉X.fs:=λhb=>by
 obtain⟨_,o,ho,_⟩:=I.ok.funs.mem hb
 exact absurd (Nat.lt_of_lt_of_le (Heap.lt_size ho) (Nat.le_trans I.sz h)) (Nat.lt_irrefl _)
theorem Inv.cne(I:Inv X pins σ H s):∀x c,X.env.cells.lookup x=some c->c≠X.env.locals:=λx c e z=>by
 obtain⟨v,o,ho,hd⟩:=I.cell x c e
 obtain⟨m,⟨o',es,ep,ho',hd',_⟩,_⟩:=I.loc
 rw[z,ho'] at ho;cases ho;rw[hd'] at hd;cases hd
theorem Inv.funs(I:Inv X pins σ H s):s.heap.FunFrames X.base X.outer:=by
 have all:∀(l:List Env),(∀b∈frs l,b∈X.fs)->X.s₀.heap.FunFrames X.base l->s.heap.FunFrames X.base l:=by
  intro l
  induction l with
  | nil=>intro _ _;trivial
  | cons env r ih=>
   intro hs hl
   obtain⟨hk,⟨L,o,hf,hn,ho,hd⟩,hr⟩:=hl
   have hL:L∈X.fs:=hs L (by unfold frs;rw[List.filterMap_cons,hf];exact List.mem_cons_self)
   obtain⟨sl,e⟩:=I.base.slot L o ho (I.ok.frf L hL) hL λz=>I.ok.exfs L z hL
   exact⟨hk,⟨L,_,hf,hn,e,hd⟩,ih (λb hb=>hs b (by unfold frs;rw[List.filterMap_cons,hf];exact List.mem_cons_of_mem _ hb)) hr⟩
 exact all X.outer (λ_ hb=>hb) I.ok.funs
theorem Inv.stack(I:Inv X pins σ H s):s.heap.FunFrames X.base X.stack:=by
 rcases I.ok.stk with e|⟨e,hf⟩
 . rw[e];exact I.funs
 . rw[e]
   obtain⟨m,hn,_⟩:=I.loc
   refine .cons (by rw[I.ok.kind];decide) hf hn ?_ I.funs
   exact Heap.get?_none_of_le (Nat.le_trans I.ok.bsz I.ok.above)
theorem Inv.stkSub(I:Inv X pins σ H s):∀b∈frs X.stack,b∈X.env.locals::X.fs:=λb hb=>by
 rcases I.ok.stk with e|⟨e,hf⟩
 . rw[e] at hb;exact List.mem_cons_of_mem _ hb
 . rw[e] at hb
   unfold frs at hb
   rw[List.filterMap_cons,hf] at hb
   exact hb
theorem Inv.stkFree(I:Inv X pins σ H s):∀b∈frs X.stack,H b=none:=λb hb=>by
 rcases List.mem_cons.mp (I.stkSub b hb) with e|hb
 . rw[e];exact I.free
 . obtain⟨_,o,ho,_⟩:=I.ok.funs.mem hb
   exact I.base.free b o ho (I.ok.frf b hb) λz=>I.ok.exfs b z hb
theorem Inv.step{g':Array GenState}{t':Nat}{d':Drawn}{ch:List Addr}(I:Inv X pins σ H s)
 (hch:∀b∈ch,(b∈X.ex\/X.s₀.heap.objs.size<=b)/\b≠X.env.locals/\(∀x c,X.env.cells.lookup x=some c->c≠b)/\∀p∈X.pn++pins,p.1≠b)
 (keep:∀b o,b≠X.env.locals->b∉X.fs->b∉ch->s.heap.get? b=some o->H b=none->h'.get? b=some o)
 (slot:∀b o,b≠X.env.locals->b∈X.fs->b∉ch->s.heap.get? b=some o->H b=none->∃sl,h'.get? b=some { o with slots:=sl }) (free:∀b o,b∉ch->s.heap.get? b=some o->H b=none->H' b=none)
 (there:∀b o,b∉ch->s.heap.get? b=some o->∃o',h'.get? b=some o')
 (tups:∀b xs,H b=some (.tup xs)->H' b=some (.tup xs)) (frzs:∀b o u,H b=some (.frz o u)->H' b=some (.frz o u)) (tbls:∀b ps,H b=some (.tbl ps)->∃more,H' b=some (.tbl (ps++more)))
 (ns:∀m,s.heap.Ns X.env.locals m->h'.Ns X.env.locals m) (hok:HOk X.prog X.w H' h') (hg:AllBare g') :
 Inv X pins σ H' { s with heap:=h',gens:=g',drawn:=d',toks:=t' }:=by
 have neL:∀b o,X.s₀.heap.get? b=some o->b≠X.env.locals:=λb o e=>Nat.ne_of_lt (Nat.lt_of_lt_of_le (Heap.lt_size e) I.ok.above)
 have neC:∀b o,X.s₀.heap.get? b=some o->b∉X.ex->b∉ch:=λb o e hx hb=>by
  rcases(hch b hb).1 with z|z
  . exact hx z
  . exact absurd (Nat.lt_of_lt_of_le (Heap.lt_size e) z) (Nat.lt_irrefl _)
 have cellK:∀x c,X.env.cells.lookup x=some c->∀v,s.heap.IsCell c v->h'.IsCell c v:=λx c e v ⟨o,ho,hd⟩=>by
  have nch:c∉ch:=λz=>(hch c z).2.2.1 x c e rfl
  by_cases hc:c∈X.fs
  . obtain⟨sl,q⟩:=slot c o (I.cne x c e) hc nch ho (I.freeC x c e)
    exact⟨_,q,hd⟩
  . exact⟨o,keep c o (I.cne x c e) hc nch ho (I.freeC x c e),hd⟩
 refine⟨I.ok,I.os,hg,⟨λb o e n hb hx=>?_,λb o e n hb hx=>?_,λb o e n hx=>?_,λb o e hx=>?_,λb xs e=>tups b xs (I.base.tups b xs e),λb o xs e=>frzs b o xs (I.base.frzs b o xs e),λb ps e=>?_⟩,?_,λx c e=>?_,?_,λx c e=>?_,λp hp=>?_,hok,I.len⟩
 . exact keep b o (neL b o e) hb (neC b o e hx) (I.base.keep b o e n hb hx) (I.base.free b o e n hx)
 . obtain⟨sl,e1⟩:=I.base.slot b o e n hb hx
   obtain⟨sl',e2⟩:=slot b _ (neL b o e) hb (neC b o e hx) e1 (I.base.free b o e n hx)
   exact⟨sl',e2⟩
 . obtain⟨o',e1⟩:=I.base.there b o e hx
   exact free b o' (neC b o e hx) e1 (I.base.free b o e n hx)
 . obtain⟨o',e1⟩:=I.base.there b o e hx
   exact there b o' (neC b o e hx) e1
 . obtain⟨m1,e1⟩:=I.base.tbls b ps e
   obtain⟨m2,e2⟩:=tbls b _ e1
   exact⟨m1++m2,by rw[e2,Array.append_assoc]⟩
 . obtain⟨m,hn,hl⟩:=I.loc
   refine⟨m,ns m hn,λi x v e1 e2 e3=>?_⟩
   obtain⟨u,r,l⟩:=hl i x v e1 e2 e3
   refine⟨u,r,?_⟩
   rcases l with l|⟨k,c,e,z⟩
   . exact .inl l
   . exact .inr ⟨k,c,e,cellK x c e _ z⟩
 . obtain⟨v,z⟩:=I.cell x c e
   exact⟨v,cellK x c e v z⟩
 . obtain⟨m,⟨o,_,_,ho,_⟩,_⟩:=I.loc
   exact free _ o (λz=>(hch _ z).2.1 rfl) ho I.free
 . obtain⟨v,o,ho,hd⟩:=I.cell x c e
   exact free c o (λz=>(hch c z).2.2.1 x c e rfl) ho (I.freeC x c e)
 . obtain⟨e,n,ne,nf,d⟩:=I.pin p hp
   have nch:p.1∉ch:=λz=>(hch p.1 z).2.2.2 p hp rfl
   exact⟨keep p.1 p.2 ne nf nch e n,free p.1 p.2 nch e n,ne,nf,d⟩
theorem Inv.un{t':Nat}(I:Inv X pins σ H s)(u:Un X.fs [] H H' s.heap h')(hok:HOk X.prog X.w H' h'):Inv X pins σ H' { s with heap:=h',toks:=t' }:=by
 obtain⟨m,⟨o,es,ep,ho,r⟩,_⟩:=id I.loc
 obtain⟨sl,hL⟩:=u.any ho I.free (by simp)
 exact I.step (g':=s.gens) (d':=s.drawn) (ch:=[]) (λ_ z=>nomatch z) (λb o _ hb _ e n=>u.keep b o e n hb (by simp)) (λb o _ hb _ e n=>u.slot b o e n hb (by simp)) (λb o _ e n=>u.free b o e n (by simp)) (λb o _ e=>u.there b o e (by simp)) u.tups u.frzs u.tbls (λm' hm=>by
  obtain⟨o',es',ep',ho',r'⟩:=hm
  rw[ho] at ho';cases ho'
  exact⟨_,es',ep',hL,r'⟩) hok I.bare
theorem Inv.call{g':Array GenState}{t':Nat}{d':Drawn}{ch:List Addr}(I:Inv X pins σ H s)(u:Un (frs X.stack) ch H H' s.heap h')(hok:HOk X.prog X.w H' h')(hg:AllBare g')
 (hch:∀b∈ch,(b∈X.ex\/X.s₀.heap.objs.size<=b)/\b≠X.env.locals/\(∀x c,X.env.cells.lookup x=some c->c≠b)/\∀p∈X.pn++pins,p.1≠b) :
 Inv X pins σ H' { s with heap:=h',gens:=g',drawn:=d',toks:=t' }:=by
 obtain⟨m,⟨o,es,ep,ho,r⟩,_⟩:=id I.loc
 obtain⟨sl,hL⟩:=u.any ho I.free λz=>(hch _ z).2.1 rfl
 exact I.step (ch:=ch) hch (λb o hL hb hc e n=>u.keep b o e n (λz=>(List.mem_cons.mp (I.stkSub b z)).elim hL hb) hc) (λb o _ _ hc e n=>u.any e n hc) (λb o hc e n=>u.free b o e n hc) (λb o hc e=>u.there b o e hc) u.tups u.frzs u.tbls (λm' hm=>by
  obtain⟨o',es',ep',ho',r'⟩:=hm
  rw[ho] at ho';cases ho'
  exact⟨_,es',ep',hL,r'⟩) hok hg
theorem Inv.turned{t':Nat}{it:Addr}(I:Inv X pins σ H s)(k:∀b o,b≠it->s.heap.get? b=some o->h'.get? b=some o)(hn:H it=none)(hL:it≠X.env.locals)
 (h1:it∈X.ex\/X.s₀.heap.objs.size<=it) (h2:∀x c,X.env.cells.lookup x=some c->c≠it) (h3:∀p∈X.pn++pins,p.1≠it):Inv X pins σ H { s with heap:=h',toks:=t' }:=by
 have nit:∀b u,H b=some u->b≠it:=λb u e z=>by rw[z,hn] at e;cases e
 refine I.step (g':=s.gens) (d':=s.drawn) (ch:=[it]) (λb hb=>?_) (λb o _ _ hc e _=>k b o (λz=>hc (by simp[z])) e) (λb o _ _ hc e _=>⟨o.slots,k b o (λz=>hc (by simp[z])) e⟩) (λ_ _ _ _ n=>n)
  (λb o hc e=>⟨o,k b o (λz=>hc (by simp[z])) e⟩) (λ_ _ e=>e) (λ_ _ _ e=>e) (λb ps e=>⟨#[],by rw[e];simp⟩) (λm hm=>?_) (λb u e=>?_) I.bare
 . have e:b=it:=by simpa using hb
   subst e
   exact⟨h1,hL,h2,h3⟩
 . obtain⟨o,es,ep,ho,r⟩:=hm
   exact⟨o,es,ep,k _ o (Ne.symm hL) ho,r⟩
 . refine(I.hok b u e).stay (λc v hc q=>k c v ?_ q) (λ_ q=>q) λ_ _ q=>q
   rcases hc with z|z
   . rw[z];exact nit b u e
   . exact nit c _ z
theorem Inv.tok(I:Inv X pins σ H s)(t:Nat):Inv X pins σ H { s with toks:=t }:=I.un (h':=s.heap) (t':=t) Un.refl I.hok
theorem Inv.kept{t':Nat}(I:Inv X pins σ H s)(k:∀b u,s.heap.get? b=some u->h'.get? b=some u):Inv X pins σ H { s with heap:=h',toks:=t' }:=I.un (Un.kept k) (I.hok.kept k)
theorem Inv.laid{a:Addr}{o:HO}{t':Nat}(I:Inv X pins σ H s)(k:∀b u,s.heap.get? b=some u->h'.get? b=some u)(hp:s.heap.objs.size<=a)(new:dG X.prog X.w (upd H a o) h' a o) :
 Inv X pins σ (upd H a o) { s with heap:=h',toks:=t' }:=I.un (Un.laid k hp (I.hok.fresh hp)) (I.hok.laid k hp new)
theorem Inv.write{x e:Addr}{o:HO}{t':Nat}(I:Inv X pins σ H s)(mu:Mut (H x))(he:e=x\/H e=some (.own x))(k:∀b u,b≠e->s.heap.get? b=some u->h'.get? b=some u)(heo:∃u,h'.get? e=some u)
 (new:dG X.prog X.w (upd H x o) h' x o):Inv X pins σ (upd H x o) { s with heap:=h',toks:=t' }:=I.un (Un.write mu he k heo) (I.hok.write mu he k heo new)
theorem Inv.pins_of{pins':List (Addr×Obj)}(I:Inv X pins σ H s)(h:∀p∈pins',s.heap.get? p.1=some p.2/\H p.1=none/\p.1≠X.env.locals/\p.1∉X.fs/\∀v,p.2.data≠.cell v):Inv X pins' σ H s:=
 ⟨I.ok,I.os,I.bare,I.base,I.loc,I.cell,I.free,I.freeC,λp hp=>(List.mem_append.mp hp).elim (λz=>I.pin p (List.mem_append_left _ z)) (h p),I.hok,I.len⟩
theorem nF{N:List Str}(hN:N.Nodup){i j:Nat}{x:Str}(a:N[i]? = some x)(b:N[j]? = some x):i=j:=by
 obtain⟨h1,e1⟩:=List.getElem?_eq_some_iff.mp a
 obtain⟨h2,e2⟩:=List.getElem?_eq_some_iff.mp b
 exact(List.getElem_inj hN).mp (e1.trans e2.symm)
theorem pF{M:Model}{A:Around}{E:Value->Shared->Prop}{i:Nat}{x:Str}{v:V}{u:Value}{Q:Unit->Shared->Prop}(I:Inv X pins σ H s)(hN:X.N.Nodup)(hi:X.N[i]? = some x)(hx:Loc X.env.scope x)(r:bQ v u)
 (h:∀s',Inv X pins (σ.set i (some v)) H s'->(∃a,Heap.SameBut a s.heap s'.heap/\(a=X.env.locals\/X.env.cells.lookup x=some a))->Q () s') (hf:X.fn x=true\/X.env.scope.names.lookup x=some .local:=by first|exact .inl rfl|exact .inr rfl|assumption):wpAny M A (storeName X.env x u) Q E s:=by
 obtain⟨m,hn,hl⟩:=id I.loc
 have hcls:(X.env.scope.kind==.class||(X.env.scope.kind==.module&&X.env.locals != X.env.globals))=false:=by rw[I.ok.kind];rfl
 have hiσ:i<σ.length:=by rw[I.len];exact(List.getElem?_eq_some_iff.mp hi).1
 have cne:=I.cne
 have tracked:∀{a:Addr} {h':Heap},(∃o,s.heap.get? a=some o/\H a=none)->Heap.SameBut a s.heap h'->HOk X.prog X.w H h':=λ{a h'} ha hs b ob e=>by
  obtain⟨_,_,hfree⟩:=ha
  refine(I.hok b ob e).stay (λc w' hc q=>(hs.2 c ?_).trans q) (λ_ q=>q) λ_ _ q=>q
  rintro rfl
  rcases hc with rfl|hc
  . rw[hfree] at e;cases e
  . rw[hfree] at hc;cases hc
 rcases hx with hk|hk
 . refine wpAny_storeName_local hk hn (λh' hn' hs=>?_) hcls
   obtain⟨oL,_,_,hoL,_⟩:=id hn
   refine h _ ⟨I.ok,I.os,I.bare,⟨λb o e n hb hx=>?_,λb o e n hb hx=>?_,I.base.free,λb o e hx=>?_,I.base.tups,I.base.frzs,I.base.tbls⟩,⟨_,hn',λj y v' e1 e2 e3=>?_⟩,λy c e=>?_,I.free,I.freeC,λp hp=>?_,tracked ⟨oL,hoL,I.free⟩ hs,by simpa using I.len⟩ ⟨_,hs,.inl rfl⟩
   . exact(hs.2 b (Nat.ne_of_lt (Nat.lt_of_lt_of_le (Heap.lt_size e) I.ok.above))).trans (I.base.keep b o e n hb hx)
   . obtain⟨sl,e1⟩:=I.base.slot b o e n hb hx
     exact⟨sl,(hs.2 b (Nat.ne_of_lt (Nat.lt_of_lt_of_le (Heap.lt_size e) I.ok.above))).trans e1⟩
   . obtain⟨o',e1⟩:=I.base.there b o e hx
     exact⟨o',(hs.2 b (Nat.ne_of_lt (Nat.lt_of_lt_of_le (Heap.lt_size e) I.ok.above))).trans e1⟩
   . by_cases hj:j=i
     . subst hj
       rw[hi] at e1;cases e1
       rw[List.getElem?_set_self hiσ] at e2
       cases e2
       exact⟨u,r,.inl ⟨hk,by simp⟩⟩
     . rw[List.getElem?_set_ne (Ne.symm hj)] at e2
       obtain⟨u',r',q⟩:=hl j y v' e1 e2 e3
       refine⟨u',r',?_⟩
       rcases q with⟨k,e⟩|⟨k,c,e,z⟩
       . refine .inl ⟨k,?_⟩
         have:y≠x:=λe=>hj (nF hN e1 (e▸hi))
         simp[this,e]
       . exact .inr ⟨k,c,e,z.sameBut hs (cne y c e)⟩
   . obtain⟨w',z⟩:=I.cell y c e
     exact⟨w',z.sameBut hs (cne y c e)⟩
   . obtain⟨e,n,ne,nf,d⟩:=I.pin p hp
     exact⟨(hs.2 p.1 ne).trans e,n,ne,nf,d⟩
 . have hfn:X.fn x=true:=by
    rcases hf with z|z
    . exact z
    . rw[z] at hk;cases hk
   obtain⟨c,hc⟩:=I.ok.has x (.inl hk)
   obtain⟨w',z⟩:=I.cell x c hc
   refine wpAny_storeName_cell I.ok.kind hk hc z (λh' hc' hs=>?_)
   obtain⟨oc,hoc,hocd⟩:=id z
   refine h { s with heap:=h' } ⟨I.ok,I.os,I.bare,⟨λb o e n hb hx=>?_,λb o e n hb hx=>?_,I.base.free,λb o e hx=>?_,I.base.tups,I.base.frzs,I.base.tbls⟩,⟨m,hn.sameBut hs (Ne.symm (cne x c hc)),λj y v' e1 e2 e3=>?_⟩,λy c' e=>?_,I.free,I.freeC,λp hp=>?_,tracked ⟨oc,hoc,I.freeC x c hc⟩ hs,by simpa using I.len⟩ ⟨c,hs,.inr hc⟩
   . exact(hs.2 b (Nat.ne_of_lt (Nat.lt_of_lt_of_le (Heap.lt_size e) (I.ok.cab x c hfn hc)))).trans (I.base.keep b o e n hb hx)
   . obtain⟨sl,e1⟩:=I.base.slot b o e n hb hx
     exact⟨sl,(hs.2 b (Nat.ne_of_lt (Nat.lt_of_lt_of_le (Heap.lt_size e) (I.ok.cab x c hfn hc)))).trans e1⟩
   . obtain⟨o',e1⟩:=I.base.there b o e hx
     exact⟨o',(hs.2 b (Nat.ne_of_lt (Nat.lt_of_lt_of_le (Heap.lt_size e) (I.ok.cab x c hfn hc)))).trans e1⟩
   . by_cases hj:j=i
     . subst hj
       rw[hi] at e1;cases e1
       rw[List.getElem?_set_self hiσ] at e2
       cases e2
       exact⟨u,r,.inr ⟨.inl hk,c,hc,hc'⟩⟩
     . rw[List.getElem?_set_ne (Ne.symm hj)] at e2
       obtain⟨u',r',q⟩:=hl j y v' e1 e2 e3
       refine⟨u',r',?_⟩
       rcases q with q|⟨k,c',e,z'⟩
       . exact .inl q
       . refine .inr ⟨k,c',e,z'.sameBut hs ?_⟩
         rintro rfl
         exact hj (nF hN e1 (I.ok.inj _ _ _ e hc▸hi))
   . by_cases hcc:c'=c
     . subst hcc;exact⟨_,hc'⟩
     . obtain⟨w2,z2⟩:=I.cell y c' e
       exact⟨w2,z2.sameBut hs hcc⟩
   . obtain⟨e,n,ne,nf,d⟩:=I.pin p hp
     refine⟨(hs.2 p.1 ?_).trans e,n,ne,nf,d⟩
     intro q
     rw[q,hoc] at e
     have q':oc=p.2:=Option.some.inj e
     exact d w' (by rw[<-q'];exact hocd)
theorem jT{M:Model}{A:Around}{E:Value->Shared->Prop}{i:Nat}{x:Str}{v:V}{u:Value}{Q:Unit->Shared->Prop}(I:Inv X pins σ H s)(hN:X.N.Nodup)(hi:X.N[i]? = some x)(hx:Loc X.env.scope x)(r:bQ v u)
 (h:∀s',Inv X pins (σ.set i (some v)) H s'->Q () s') (hf:X.fn x=true\/X.env.scope.names.lookup x=some .local:=by first|exact .inl rfl|exact .inr rfl|assumption):wpAny M A (storeName X.env x u) Q E s:=
 pF I hN hi hx r (λs' I' _=>h s' I') hf
theorem Inv.call'{s':Shared}{ch:List Addr}(I:Inv X pins σ H s)(ho:s'.os=s.os)(u:Un (frs X.stack) ch H H' s.heap s'.heap)(hok:HOk X.prog X.w H' s'.heap)(hg:AllBare s'.gens)
 (hch:∀b∈ch,(b∈X.ex\/X.s₀.heap.objs.size<=b)/\b≠X.env.locals/\(∀x c,X.env.cells.lookup x=some c->c≠b)/\∀p∈X.pn++pins,p.1≠b):Inv X pins σ H' s':=by
 obtain⟨h',g',d',t',o'⟩:=s'
 have e:o'=s.os:=ho
 subst e
 exact I.call (g':=g') (t':=t') (d':=d') u hok hg hch
end
abbrev XK:=Value->Option Addr->Hp->Prop
abbrev St:=List (Option V)
abbrev VK:=V->Hp->Prop
abbrev TE:=St->Hp->VK->Prop
abbrev TT:=St->Hp->(Bool->Hp->Prop)->Prop
abbrev TA:=St->Hp->(List V->Hp->Prop)->Prop
structure Ends where
 nx:St->Hp->Prop
 rt:VK
 bk:St->Hp->Prop:=λ_ _=>False
 ct:St->Hp->Prop:=λ_ _=>False
abbrev TS:=Ends->St->Hp->Prop
def EP(X:Cx)(pins:List (Addr×Obj))(σ:St)(Q:VK)(u:Value)(s':Shared):Prop:=∃v H',Inv X pins σ H' s'/\bQ v u/\Q v H'
def TP(X:Cx)(pins:List (Addr×Obj))(σ:St)(Q:Bool->Hp->Prop)(b:Bool)(s':Shared):Prop:=∃H',Inv X pins σ H' s'/\Q b H'
def AP(X:Cx)(pins:List (Addr×Obj))(σ:St)(Q:List V->Hp->Prop)(us:List Value)(s':Shared):Prop:=∃vs H',Inv X pins σ H' s'/\aW vs us/\Q vs H'
def SP(X:Cx)(pins:List (Addr×Obj))(D:Ends)(f:Flow)(s':Shared):Prop:=
 match f with
 | .next=>∃σ' H',Inv X pins σ' H' s'/\D.nx σ' H'
 | .brk=>∃σ' H',Inv X pins σ' H' s'/\D.bk σ' H'
 | .cont=>∃σ' H',Inv X pins σ' H' s'/\D.ct σ' H'
 | .ret u=>∃v σ' H',Inv X pins σ' H' s'/\bQ v u/\D.rt v H'
def PE(X:Cx)(e:Expr)(t:TE):Prop:=
 ∀(pins:List (Addr×Obj)) (s:Shared) (σ:St) (H:Hp) (Q:VK),Inv X pins σ H s->t σ H Q->wpAny (model X.prog X.w) X.A (eval e X.env) (EP X pins σ Q) X.xe s
def PT(X:Cx)(e:Expr)(t:TT):Prop:=
 ∀(pins:List (Addr×Obj)) (s:Shared) (σ:St) (H:Hp) (Q:Bool->Hp->Prop),Inv X pins σ H s->t σ H Q->wpAny (model X.prog X.w) X.A (isTrue e X.env (eval e X.env)) (TP X pins σ Q) X.xe s
def PW(X:Cx)(e:Expr)(t:TT):Prop:=
 ∀(whole:Sem Value) (pins:List (Addr×Obj)) (s:Shared) (σ:St) (H:Hp) (Q:Bool->Hp->Prop),Inv X pins σ H s->t σ H Q->wpAny (model X.prog X.w) X.A (isTrue e X.env whole) (TP X pins σ Q) X.xe s
theorem PW.pt{X:Cx}{e:Expr}{t:TT}(h:PW X e t):PT X e t:=h _
def PA(X:Cx)(es:List Expr)(t:TA):Prop:=
 ∀(pos:Pos) (pins:List (Addr×Obj)) (s:Shared) (σ:St) (H:Hp) (Q:List V->Hp->Prop),Inv X pins σ H s->t σ H Q->wpAny (model X.prog X.w) X.A (spliced (backTo pos (starEach es X.env))) (AP X pins σ Q) X.xe s
def PS(X:Cx)(st:Stmt)(t:TS):Prop:=
 ∀(pins:List (Addr×Obj)) (s:Shared) (σ:St) (H:Hp) (D:Ends),Inv X pins σ H s->t D σ H->wpAny (model X.prog X.w) X.A (exec st X.env) (SP X pins D) X.xe s
def PSs(X:Cx)(st:List Stmt)(t:TS):Prop:=
 ∀(pins:List (Addr×Obj)) (s:Shared) (σ:St) (H:Hp) (D:Ends),Inv X pins σ H s->t D σ H->wpAny (model X.prog X.w) X.A (execs st X.env) (SP X pins D) X.xe s
theorem thn{α:Type}{t:Sem α}{Q Q':α->Shared->Prop}{M:Model}{A:Around}{E:Value->Shared->Prop}{s:Shared}(h:wpAny M A t Q E s)(hQ:∀a s,Q a s->Q' a s):wpAny M A t Q' E s:=wpAny_mono h hQ λ_ _ x=>x
end L2
namespace L2
open PySem PySem.Spec PyProof.Rows
section
variable {X:Cx}
def aFk(i:Nat):TE:=λσ H Q=>∃v,σ[i]? = some (some v)/\Q v H
def tC(v:V):TE:=λ_ H Q=>Q v H
theorem qO{i:Nat}{x:Str}{pos:Pos}(hN:X.N[i]? = some x)(hv:Vis X.env.scope x)(hd:(x==("__debug__" : Str))=false:=by decide)(hcd:(x==("__classdict__" : Str))=false:=by decide):PE X (.Name x pos) (aFk i):=by
 intro pins s σ H Q I h
 obtain⟨v,e,h⟩:=h
 obtain⟨m,hn,hl⟩:=I.loc
 obtain⟨u,r,l⟩:=hl i x v hN e hv
 have fin:EP X pins σ Q u s:=⟨v,H,I,r,h⟩
 rcases l with⟨hk,hm⟩|⟨hk,c,hc,hcell⟩
 . exact wpAny_Name (wpAny_loadName_local I.ok.kind hk hn hm fin) hd
 . rcases hk with hk|hk
   . exact wpAny_Name (wpAny_loadName_cell I.ok.kind hk hc hcell fin) hd
   . exact wpAny_Name (wpAny_loadName_free I.ok.kind hk hc hcell fin hcd) hd
theorem aFl{i j pos}:PE X (.Constant (.int i) j pos) (tC (.int i)):=λ_ _ _ H _ I h=>wpAny_Constant_int ⟨.int i,H,I.tok _,⟨_,rfl⟩,h⟩
theorem aHo{b j pos}:PE X (.Constant (.bool b) j pos) (tC (.bl b)):=λ_ _ _ H _ I h=>Constant_bool ⟨.bl b,H,I,rfl,h⟩
theorem aFm{j pos}:PE X (.Constant .none j pos) (tC .non):=λ_ _ _ H _ I h=>Constant_none ⟨.non,H,I,rfl,h⟩
theorem aFn{x j pos}:PE X (.Constant (.str x) j pos) (tC (.str x)):=λ_ _ _ H _ I h=>Calls.Constant_str ⟨.str x,H,I.tok _,⟨_,rfl⟩,h⟩
def Gl(X:Cx)(x:Str):Prop:=X.env.kindOf x=some .globalImplicit
theorem iR{E:Value->Shared->Prop}{pins:List (Addr×Obj)}{s:Shared}{σ:St}{H:Hp}{x:Str}{u:Value}{pos:Pos}{Q:Value->Shared->Prop}(I:Inv X pins σ H s)(hg:Gl X x)(hm:X.mg x=some u)(h:Q u s)
 (hd:(x==("__debug__" : Str))=false:=by decide):wpAny (model X.prog X.w) X.A (eval (.Name x pos) X.env) Q E s:=
 Calls.Name_function_global I.ok.kind hg (Calls.loadGlobal_global (by rw[I.ok.glob];exact I.mod.glob.keeps I.bk) hm h) hd
theorem eV{E:Value->Shared->Prop}{pins:List (Addr×Obj)}{s:Shared}{σ:St}{H:Hp}{x:Str}{u:Value}{pos:Pos}{Q:Value->Shared->Prop}(I:Inv X pins σ H s)(hg:Gl X x)(hm:X.mg x=none)(hv:bootBuiltins x=some u)(h:Q u s)
 (hn:x ≠ "__name__" := by decide) (hd:(x==("__debug__" : Str))=false:=by decide):wpAny (model X.prog X.w) X.A (eval (.Name x pos) X.env) Q E s:=by
 obtain⟨mb,h1,h2⟩:=I.mod.blt
 exact Calls.Name_function_global I.ok.kind hg (Calls.loadGlobal_builtin (by rw[I.ok.glob];exact I.mod.glob.keeps I.bk) hm (by rw[I.ok.blt];exact h1.keeps I.bk) ((h2 x hn).trans hv) h) hd
theorem mR{x:Str}{v:V}{u:Value}{pos:Pos}(hg:Gl X x)(hm:X.mg x=some u)(r:bQ v u)(hd:(x==("__debug__" : Str))=false:=by decide):PE X (.Name x pos) (tC v):=
 λ_ _ _ H _ I h=>iR I hg hm ⟨v,H,I,r,h⟩ hd
theorem aDa{x:Str}{v:V}{u:Value}{pos:Pos}(hg:Gl X x)(hm:X.mg x=none)(hv:bootBuiltins x=some u)(r:bQ v u)(hn:x ≠ "__name__" := by decide)(hd:(x==("__debug__" : Str))=false:=by decide):PE X (.Name x pos) (tC v):=
 λ_ _ _ H _ I h=>eV I hg hm hv ⟨v,H,I,r,h⟩ hn hd
variable {a b:Expr} {ta tb:TE} {pos:Pos}
variable {tA tB':TT} {rest:List Expr}
def aJY(t u:TT):TT:=λσ H Q=>t σ H λc H1=>if c=true then u σ H1 Q else Q false H1
def tOr(t u:TT):TT:=λσ H Q=>t σ H λc H1=>if c=true then Q true H1 else u σ H1 Q
def aJZ(t:TT):TT:=λσ H Q=>t σ H λc H1=>Q (!c) H1
theorem aDb(ha:PT X a tA):PW X (.BoolOp .And [a] pos) tA:=by
 intro wh pins s σ H Q I h
 refine isTrue_and (thn (ha pins s σ H Q I h) λc s1 e=>?_)
 cases c with
 | true=>exact isTrue_and_nil e
 | false=>exact e
theorem aFo(ha:PT X a tA):PW X (.BoolOp .Or [a] pos) tA:=by
 intro wh pins s σ H Q I h
 refine isTrue_or (thn (ha pins s σ H Q I h) λc s1 e=>?_)
 cases c with
 | false=>exact isTrue_or_nil e
 | true=>exact e
theorem aFp(ha:PT X a tA)(hb:PW X (.BoolOp .And (b::rest) pos) tB'):PW X (.BoolOp .And (a::b::rest) pos) (aJY tA tB'):=by
 intro wh pins s σ H Q I h
 refine isTrue_and (thn (ha pins s σ H _ I h) λc s1 ⟨H1,I1,q1⟩=>?_)
 cases c with
 | true=>exact hb wh pins s1 σ H1 Q I1 q1
 | false=>exact⟨H1,I1,q1⟩
theorem aHp(ha:PT X a tA)(hb:PW X (.BoolOp .Or (b::rest) pos) tB'):PW X (.BoolOp .Or (a::b::rest) pos) (tOr tA tB'):=by
 intro wh pins s σ H Q I h
 refine isTrue_or (thn (ha pins s σ H _ I h) λc s1 ⟨H1,I1,q1⟩=>?_)
 cases c with
 | true=>exact⟨H1,I1,q1⟩
 | false=>exact hb wh pins s1 σ H1 Q I1 q1
theorem aFq(ha:PT X a tA):PT X (.UnaryOp .Not a pos) (aJZ tA):=by
 intro pins s σ H Q I h
 exact isTrue_not (ha pins s σ H (λc H1=>Q (!c) H1) I h)
def aHq(ta tb:TE):TE:=λσ H Q=>ta σ H λx H1=>∃c,x=.bl c/\if c=true then tb σ H1 Q else Q (.bl false) H1
def aKa(ta tb:TE):TE:=λσ H Q=>ta σ H λx H1=>∃c,x=.bl c/\if c=true then Q (.bl true) H1 else tb σ H1 Q
theorem aAs{op}{t:TE}(h:PE X a t):PE X (.BoolOp op [a] pos) t:=λpins s σ H Q I hw=>BoolOp_one (h pins s σ H Q I hw)
theorem aFr(ha:PE X a ta)(hb:PE X (.BoolOp .And (b::rest) pos) tb):PE X (.BoolOp .And (a::b::rest) pos) (aHq ta tb):=by
 intro pins s σ H Q I h
 refine BoolOp_and (thn (ha pins s σ H _ I h) λv s1 ⟨x,H1,I1,r1,q1⟩=>?_)
 obtain⟨c,rfl,q1⟩:=q1
 cases r1
 refine wpAny_truthy_bool ?_
 cases c with
 | true=>exact hb pins s1 σ H1 Q I1 q1
 | false=>exact⟨.bl false,H1,I1,rfl,q1⟩
theorem aHr(ha:PE X a ta)(hb:PE X (.BoolOp .Or (b::rest) pos) tb):PE X (.BoolOp .Or (a::b::rest) pos) (aKa ta tb):=by
 intro pins s σ H Q I h
 refine BoolOp_or (thn (ha pins s σ H _ I h) λv s1 ⟨x,H1,I1,r1,q1⟩=>?_)
 obtain⟨c,rfl,q1⟩:=q1
 cases r1
 refine wpAny_truthy_bool ?_
 cases c with
 | false=>exact hb pins s1 σ H1 Q I1 q1
 | true=>exact⟨.bl true,H1,I1,rfl,q1⟩
def tIf(t:TT)(ta tb:TE):TE:=λσ H Q=>t σ H λc H1=>if c=true then ta σ H1 Q else tb σ H1 Q
theorem aAt{c:Expr}(hc:PT X c tA)(ha:PE X a ta)(hb:PE X b tb):PE X (.IfExp c a b pos) (tIf tA ta tb):=by
 intro pins s σ H Q I h
 refine wpAny_IfExp (thn (hc pins s σ H _ I h) λd s1 ⟨H1,I1,q1⟩=>?_)
 cases d with
 | true=>exact ha pins s1 σ H1 Q I1 q1
 | false=>exact hb pins s1 σ H1 Q I1 q1
end
end L2
namespace L2
open PySem PySem.Spec PyProof.Rows
def SqL(K:PySem.W.Frag)(H:Hp)(a:Addr)(xs:List V):Prop:=
 Rd H a (.lst xs) \/
  ∃(o:Obj) (its:Array Value) (n:Nat),K.lookup a=some o/\o.cls=.type "list" /\ o.dict=none/\o.data=.seq its n/\its.size<=sizeLine/\aW xs its.toList
def SqT(K:PySem.W.Frag)(H:Hp)(a:Addr)(xs:List V):Prop:=
 Rd H a (.tup xs) \/
  ∃(o:Obj) (its:Array Value) (n:Nat),K.lookup a=some o/\o.cls=.type "tuple" /\ o.data=.seq its n/\its.size<=sizeLine/\aW xs its.toList
def aKb:Value->Option V
 | .none=>some .non
 | .bool b=>some (.bl b)
 | .int i _=>some (.int i)
 | .str x _=>some (.str x)
 | .bytes b _=>some (.byt b)
 | .float b _=>some (.flt b)
 | .ref a=>some (.ref a)
 | .type n=>some (.ty n)
 | _=>none
theorem bQ.abs{x:V}{u:Value}(r:bQ x u):aKb u=some x:=by
 cases x with
 | non=>cases r;rfl
 | bl _=>cases r;rfl
 | int _=>obtain⟨t,rfl⟩:=r;rfl
 | str _=>obtain⟨t,rfl⟩:=r;rfl
 | byt _=>obtain⟨t,rfl⟩:=r;rfl
 | flt _=>obtain⟨t,rfl⟩:=r;rfl
 | ref _=>cases r;rfl
 | ty _=>cases r;rfl
theorem bQ.inj{x y:V}{u:Value}(r:bQ x u)(q:bQ y u):x=y:=Option.some.inj (r.abs.symm.trans q.abs)
theorem aW.inj:∀{xs ys:List V} {us:List Value},aW xs us->aW ys us->xs=ys
 | _,_,_,.nil,.nil=>rfl
 | _,_,_,.cons r t,.cons r' t'=>by rw[r.inj r',aW.inj t t']
section
variable {X:Cx} {pins:List (Addr×Obj)} {σ:St} {H:Hp} {s:Shared} {a:Addr} {xs ys:List V}
theorem SqL.of{K:PySem.W.Frag}(h:H a=some (.lst xs)):SqL K H a xs:=.inl (.inl h)
theorem SqT.of{K:PySem.W.Frag}(h:H a=some (.tup xs)):SqT K H a xs:=.inl (.inl h)
theorem Inv.list(I:Inv X pins σ H s)(h:SqL X.K H a xs):∃its:List Value,aW xs its/\PlainL s.heap a its.toArray/\xs.length<=sizeLine:=by
 rcases h with h|⟨o,its,n,hk,hc,hd,hs,hz,r⟩
 . obtain⟨z,its,n,r,e⟩:=h.ok I.hok
   exact⟨its,r,⟨_,n,e,rfl,rfl,rfl⟩,z⟩
 . refine⟨its.toList,r,⟨o,n,I.kIn a o hk,hc,hd,by simpa using hs⟩,?_⟩
   have e:=r.length
   simp only[Array.length_toList] at e
   omega
theorem Inv.tuple(I:Inv X pins σ H s)(h:SqT X.K H a xs):∃its:List Value,aW xs its/\IsTup s.heap a its.toArray/\xs.length<=sizeLine:=by
 rcases h with h|⟨o,its,n,hk,hc,hs,hz,r⟩
 . obtain⟨z,its,r,p⟩:=h.ok I.hok
   exact⟨its,r,p,z⟩
 . refine⟨its.toList,r,⟨o,I.kIn a o hk,hc,n,by simpa using hs⟩,?_⟩
   have e:=r.length
   simp only[Array.length_toList] at e
   omega
theorem Inv.list_inj(I:Inv X pins σ H s)(h:SqL X.K H a xs)(h':SqL X.K H a ys):xs=ys:=by
 obtain⟨its,r,⟨o,n,e,_,_,d⟩,_⟩:=I.list h
 obtain⟨its',r',⟨o',n',e',_,_,d'⟩,_⟩:=I.list h'
 rw[e] at e';cases e'
 rw[d] at d'
 injection d' with d1 _
 have:its=its':=by simpa using congrArg Array.toList d1
 subst this
 exact r.inj r'
theorem Inv.tuple_inj(I:Inv X pins σ H s)(h:SqT X.K H a xs)(h':SqT X.K H a ys):xs=ys:=by
 obtain⟨its,r,⟨o,e,_,n,d⟩,_⟩:=I.tuple h
 obtain⟨its',r',⟨o',e',_,n',d'⟩,_⟩:=I.tuple h'
 rw[e] at e';cases e'
 rw[d] at d'
 injection d' with d1 _
 have:its=its':=by simpa using congrArg Array.toList d1
 subst this
 exact r.inj r'
end
section
variable {X:Cx} {pins:List (Addr×Obj)} {σ:St} {H:Hp} {s:Shared} {E:Value->Shared->Prop}
end
section
variable {X:Cx} {st:Stmt} {rest:List Stmt} {t u:TS} {e:Expr} {te:TE} {pos:Pos}
def aEH:TS:=λD σ H=>D.nx σ H
def aKc(t u:TS):TS:=λD σ H=>t { D with nx:=u D } σ H
theorem aDc:PSs X [] aEH:=λ_ _ σ H _ I h=>wpAny_execs_nil ⟨σ,H,I,h⟩
theorem aAu(h1:PS X st t)(h2:PSs X rest u):PSs X (st::rest) (aKc t u):=by
 intro pins s σ H D I h
 refine wpAny_execs_cons (thn (h1 pins s σ H { D with nx:=u D } I h) λf s1 q=>?_)
 cases f with
 | next=>
  obtain⟨σ',H',I',q⟩:=q
  exact h2 pins s1 σ' H' D I' q
 | ret v=>exact q
 | brk=>exact q
 | cont=>exact q
theorem aDd(h1:PS X st t):PSs X [st] t:=by
 intro pins s σ H D I h
 refine wpAny_execs_cons (thn (h1 pins s σ H D I h) λf s1 q=>?_)
 cases f with
 | next=>exact wpAny_execs_nil q
 | ret v=>exact q
 | brk=>exact q
 | cont=>exact q
def aFs:TS:=λD σ H=>D.bk σ H
def aHs:TS:=λD σ H=>D.ct σ H
theorem aDe:PS X (.Pass pos) aEH:=λ_ _ σ H _ I h=>wpAny_Pass ⟨σ,H,I,h⟩
theorem aAv:PS X (.Break pos) aFs:=λ_ _ σ H _ I h=>wpAny_Break ⟨σ,H,I,h⟩
theorem sU:PS X (.Continue pos) aHs:=λ_ _ σ H _ I h=>wpAny_Continue ⟨σ,H,I,h⟩
theorem Inv.quiet{pins:List (Addr×Obj)}{σ:St}{H:Hp}{s:Shared}(I:Inv X pins σ H s):interactive X.env=false:=by simp[interactive,I.ok.kind]
def aHt(te:TE):TS:=λD σ H=>te σ H λ_ H1=>D.nx σ H1
theorem jU(he:PE X e te)(hs:swapsWith e none pos.line X.env=pure false:=by rfl):PS X (.Expr e pos) (aHt te):=by
 intro pins s σ H D I h
 exact wpAny_Expr_any (thn (he pins s σ H _ I h) λv s1 ⟨x,H1,I1,r1,q1⟩=>⟨σ,H1,I1,q1⟩) I.quiet hs
def aKd(te:TE):TS:=λD σ H=>te σ H D.rt
theorem aAw(he:PE X e te):PS X (.Return (some e) pos) (aKd te):=by
 intro pins s σ H D I h
 exact wpAny_Return_some (thn (he pins s σ H _ I h) λv s1 ⟨x,H1,I1,r1,q1⟩=>⟨x,σ,H1,I1,r1,q1⟩)
def aHu:TS:=λD _ H=>D.rt .non H
theorem aDf:PS X (.Return none pos) aHu:=λ_ _ σ H _ I h=>wpAny_Return_none ⟨.non,σ,H,I,rfl,h⟩
def aKe(c:TT)(t u:TS):TS:=λD σ H=>c σ H λb H1=>if b=true then t D σ H1 else u D σ H1
theorem aHv{c:Expr}{a b:List Stmt}{tc:TT}(hc:PT X c tc)(ha:PSs X a t)(hb:PSs X b u):PS X (.If c a b pos) (aKe tc t u):=by
 intro pins s σ H D I h
 refine wpAny_If (thn (hc pins s σ H _ I h) λd s1 ⟨H1,I1,q1⟩=>?_)
 cases d with
 | true=>exact ha pins s1 σ H1 D I1 q1
 | false=>exact hb pins s1 σ H1 D I1 q1
def aFt:TS:=λ_ _ _=>False
theorem aAx:PS X st aFt:=λ_ _ _ _ _ _ h=>h.elim
end
abbrev TG:=V->St->Hp->(St->Hp->Prop)->Prop
abbrev TGs:=List V->St->Hp->(St->Hp->Prop)->Prop
def PG(X:Cx)(target:Expr)(t:TG):Prop:=
 ∀(pins:List (Addr×Obj)) (s:Shared) (σ:St) (H:Hp) (v:V) (u:Value) (Q:St->Hp->Prop),Inv X pins σ H s->bQ v u->t v σ H Q ->
  wpAny (model X.prog X.w) X.A (assign target X.env u) (λ_ s'=>∃σ' H',Inv X pins σ' H' s'/\Q σ' H') X.xe s
def PGs(X:Cx)(ts:List Expr)(t:TGs):Prop:=
 ∀(pins:List (Addr×Obj)) (s:Shared) (σ:St) (H:Hp) (vs:List V) (us:List Value) (Q:St->Hp->Prop),Inv X pins σ H s->aW vs us->t vs σ H Q ->
  wpAny (model X.prog X.w) X.A (assignInOrder ((assignEach ts X.env).map (·.2)) us) (λ_ s'=>∃σ' H',Inv X pins σ' H' s'/\Q σ' H') X.xe s
section
variable {X:Cx} {pos:Pos}
def pG(i:Nat):TG:=λv σ H Q=>Q (σ.set i (some v)) H
theorem wQ{i:Nat}{x:Str}(hN:X.N.Nodup)(hi:X.N[i]? = some x)(hx:Loc X.env.scope x)(hf:X.fn x=true\/X.env.scope.names.lookup x=some .local:=by first|exact .inl rfl|exact .inr rfl|assumption):PG X (.Name x pos) (pG i):=by
 intro pins s σ H v u Q I r h
 exact wpAny_assign_Name (jT I hN hi hx r (λs' I'=>⟨_,H,I',h⟩) hf)
def aHw:TGs:=λvs σ H Q=>vs=[]/\Q σ H
def aEI(t:TG)(u:TGs):TGs:=λvs σ H Q=>∃v r,vs=v::r/\t v σ H λσ' H'=>u r σ' H' Q
theorem aDg:PGs X [] aHw:=by
 intro pins s σ H vs us Q I r h
 obtain⟨e,h⟩:=h
 subst e
 cases r
 exact assignInOrder_nil ⟨σ,H,I,h⟩
theorem aAy{e:Expr}{es:List Expr}{t:TG}{u:TGs}(h1:PG X e t)(h2:PGs X es u)
 (hs:(assignEach (e::es) X.env).map (·.2)=assign e X.env::(assignEach es X.env).map (·.2):=by rfl):PGs X (e::es) (aEI t u):=by
 intro pins s σ H vs us Q I r h
 obtain⟨v,vr,e1,h⟩:=h
 subst e1
 cases r with
 | cons r rr=>
  rw[hs]
  refine assignInOrder_cons (thn (h1 pins s σ H _ _ _ I r h) λ_ s1 ⟨σ1,H1,I1,q1⟩=>?_)
  exact h2 pins s1 σ1 H1 _ _ Q I1 rr q1
def aHx(K:PySem.W.Frag)(n:Nat)(t:TGs):TG:=λv σ H Q=>∃a xs,v=.ref a/\SqT K H a xs/\xs.length=n/\t xs σ H Q
theorem aFu{es:List Expr}{k:Nat}{t:TGs}{n:Nat}(hc:X.calm=true)(h:PGs X es t)
 (hn:(assignEach es X.env).length=n:=by rfl) (hst:(assignEach es X.env).findIdx? (·.1)=none:=by rfl):PG X (.Tuple es k pos) (aHx X.K n t):=by
 intro pins s σ H v u Q I r hw
 obtain⟨a,xs,e1,hq,hl,hw⟩:=hw
 subst e1
 cases r
 obtain⟨its,rv,ht,hz⟩:=I.tuple hq
 refine assign_Tuple_tuple (I.ok.hd hc) ht (by simp[hn,<-hl,rv.length]) hst λh' hx=>?_
 have I1:Inv X pins σ H { s with heap:=h' }:=I.kept (t':=s.toks) λb o e=>hx b o (Nat.ne_of_lt (Heap.lt_size e)) e
 exact h pins _ σ H xs _ Q I1 (by simpa using rv) hw
def aDh(te:TE)(g:TG):TS:=λD σ H=>te σ H λx H1=>g x σ H1 D.nx
theorem aAz{tg e:Expr}{te:TE}{g:TG}(he:PE X e te)(hg:PG X tg g)(hs:swapsWithSole [tg] e pos.line X.env=pure false:=by rfl)(hw:swappedStores [tg] e X.env=pure none:=by rfl)
 (h1:(assignEach [tg] X.env).map (·.2)=[assign tg X.env]:=by rfl):PS X (.Assign [tg] e pos) (aDh te g):=by
 intro pins s σ H D I h
 refine wpAny_Assign_stores (thn (he pins s σ H _ I h) λv s1 ⟨x,H1,I1,r1,q1⟩=>?_) hs hw
 rw[h1]
 exact thn (hg pins s1 σ H1 x v _ I1 r1 q1) λ_ s2 q=>q
theorem qP{i:Nat}{x:Str}{e:Expr}{te:TE}{pos':Pos}(hN:X.N.Nodup)(hi:X.N[i]? = some x)(hx:Loc X.env.scope x)(he:PE X e te)(hs:swapsWith e (some (.Name x pos')) pos.line X.env=pure false:=by rfl)(hf:X.fn x=true\/X.env.scope.names.lookup x=some .local:=by first|exact .inl rfl|exact .inr rfl|assumption) :
 PS X (.Assign [.Name x pos'] e pos) (aDh te (pG i)):=by
 intro pins s σ H D I h
 refine wpAny_Assign_Name (thn (he pins s σ H _ I h) λv s1 ⟨y,H1,I1,r1,q1⟩=>?_) hs
 exact jT I1 hN hi hx r1 (λs2 I2=>⟨_,H1,I2,q1⟩) hf
end
section
variable {X:Cx} {pos:Pos}
def aFv(c:TT)(tb:TS):TS:=λD σ H=>∃W:Nat->St->Hp->Prop,(∃m,W m σ H)/\∀m σ H,W m σ H ->
 c σ H λb H1=>if b=true then ∃N:St->Hp->Prop,(∀σ' H',N σ' H'->∃m',m'<m/\W m' σ' H')/\tb { D with nx:=N,ct:=N,bk:=D.nx } σ H1 else D.nx σ H1
theorem aAA{c:Expr}{body:List Stmt}{tc:TT}{tb:TS}(hp:PassesOwn (model X.prog X.w) X.A X.env X.xe)(hc:PT X c tc)(hb:PSs X body tb):PS X (.While c body [] pos) (aFv tc tb):=by
 intro pins s σ H D I h
 obtain⟨W,⟨m0,w0⟩,turn⟩:=h
 refine wpAny_While (codeAny_whileLoop (λn s'=>∃σ' H',Inv X pins σ' H' s'/\W n σ' H') ?_ m0 ⟨σ,H,I,w0⟩)
 rintro n s1 ⟨σ1,H1,I1,w1⟩
 refine wpAny_passesOwn hp (thn (hc pins s1 σ1 H1 _ I1 (turn n σ1 H1 w1)) λb s2 ⟨H2,I2,q2⟩=>?_)
 cases b with
 | true=>
  obtain⟨N,hN,q2⟩:=q2
  rw[if_pos rfl]
  refine wpAny_passesOwn hp (thn (hb pins s2 σ1 H2 _ I2 q2) λf s3 q3=>?_)
  cases f with
  | next=>
   obtain⟨σ3,H3,I3,n3⟩:=q3
   obtain⟨m',hm,w3⟩:=hN σ3 H3 n3
   exact⟨m',hm,σ3,H3,I3,w3⟩
  | cont=>
   obtain⟨σ3,H3,I3,n3⟩:=q3
   obtain⟨m',hm,w3⟩:=hN σ3 H3 n3
   exact⟨m',hm,σ3,H3,I3,w3⟩
  | brk=>exact q3
  | ret v=>exact q3
 | false=>
  rw[if_neg Bool.false_ne_true]
  exact wpAny_execs_nil ⟨σ1,H2,I2,q2⟩
end
structure It where
 go:Nat->Hp->Prop
 yld:Nat->Hp->V->Hp->Prop
 stop:Nat->Hp->Prop
def jV(X:Cx)(pins:List (Addr×Obj))(H:Hp)(b:Addr):Prop:=
 H b=none/\b≠X.env.locals/\b∉X.fs/\(b∈X.ex\/X.s₀.heap.objs.size<=b)/\(∀x c,X.env.cells.lookup x=some c->c≠b)/\∀p∈X.pn++pins,p.1≠b
theorem Inv.fpOk{X:Cx}{pins:List (Addr×Obj)}{σ:St}{H H':Hp}{s:Shared}{b:Addr}(I:Inv X pins σ H s)(hb:s.heap.objs.size<=b)(hn:H' b=none):jV X pins H' b:=by
 refine⟨hn,Nat.ne_of_gt (Nat.lt_of_lt_of_le I.lt hb),I.nofs hb,.inr (Nat.le_trans I.sz hb),λx c e z=>?_,λp hp z=>?_⟩
 . obtain⟨v,q⟩:=I.cell x c e
   exact absurd (Nat.lt_of_lt_of_le q.lt (by rw[z];exact hb)) (Nat.lt_irrefl _)
 . exact absurd (Nat.lt_of_lt_of_le (Heap.lt_size (I.pin p hp).1) (by rw[z];exact hb)) (Nat.lt_irrefl _)
structure vC (P:Program) (w:World) (K:PySem.W.Frag) (tg:Expr) (J:It) (fp:List Addr) (it:Addr) (tn:Nat->Heap->Prop):Prop where
 mem:it∈fp
 obj:∀i h,tn i h->∀b∈fp,∃o,h.get? b=some o/\∀v,o.data≠.cell v
 keep:∀i h h',tn i h->(∀b∈fp,∀o,h.get? b=some o->h'.get? b=some o)->tn i h'
 item:∀(X:Cx),X.prog=P->X.w=w->X.K=K->X.calm=true->∀(i:Nat) (pins:List (Addr×Obj)) (s:Shared) (σ:St) (H:Hp) (E:Value->Shared->Prop),Inv X pins σ H s->(∀b∈fp,jV X pins H b)->tn i s.heap->J.go i H ->
  wpAny (model P w) X.A (pyNext (.ref it)) (λr s1=>∃u,r=some u /\
   wpAny (model P w) X.A (letOwnedTupleGo tg (.ref it) u) (λ_ s2=>∃x H',Inv X pins σ H' s2/\bQ x u/\J.yld i H x H'/\tn (i+1) s2.heap/\∀b∈fp,H' b=none) E s1) E s
 done:∀(X:Cx),X.prog=P->X.w=w->X.K=K->X.calm=true->∀(i:Nat) (pins:List (Addr×Obj)) (s:Shared) (σ:St) (H:Hp) (E:Value->Shared->Prop),Inv X pins σ H s->(∀b∈fp,jV X pins H b)->tn i s.heap->J.stop i H ->
  wpAny (model P w) X.A (pyNext (.ref it)) (λr s1=>r=none/\Inv X pins σ H s1) E s
 self:∀(A:Around) (i:Nat) (s:Shared) (Q:Value->Shared->Prop) (E:Value->Shared->Prop),tn i s.heap->Q (.ref it) s->wpAny (model P w) A (pyIter (.ref it)) Q E s
abbrev TI:=St->Hp->(It->Hp->Prop)->Prop
def PIE(X:Cx)(pins:List (Addr×Obj))(σ:St)(tg:Expr)(R:It->Hp->Prop)(itv:Value)(s2:Shared):Prop:=
 ∃(it:Addr) (fp:List Addr) (tn:Nat->Heap->Prop) (J:It) (H':Hp),itv=.ref it/\Inv X pins σ H' s2/\vC X.prog X.w X.K tg J fp it tn/\tn 0 s2.heap/\(∀b∈fp,jV X pins H' b)/\R J H'
def PI(X:Cx)(tg iter:Expr)(wi:TI):Prop:=
 ∀(pins:List (Addr×Obj)) (s:Shared) (σ:St) (H:Hp) (R:It->Hp->Prop),Inv X pins σ H s->wi σ H R ->
  wpAny (model X.prog X.w) X.A (eval iter X.env) (λv s1=>wpAny (model X.prog X.w) X.A (pyIter v) (PIE X pins σ tg R) X.xe s1) X.xe s
theorem nG{M:Model}{A:Around}{E:Value->Shared->Prop}{s:Shared}{tg:Expr}{it:Addr}{u:Value}{o:Obj}{n:String}{vs:Array Value}{Q:Unit->Shared->Prop}(ho:s.heap.get? it=some o)(hc:o.cls=.type n)(hd:o.data=.fields vs)
 (hn:["enumerate", "zip", "dict_itemiterator", "dict_reverseitemiterator", "odict_iterator", "itertools.zip_longest", "itertools.pairwise"].contains n=false) (hQ:Q () s):wpAny M A (letOwnedTupleGo tg (.ref it) u) Q E s:=by
 unfold letOwnedTupleGo
 cases tg <;> first
  | exact wpAny_pure hQ
  | (cases u <;> first
   | exact wpAny_pure hQ
   | (refine wpAny_bind (wpAny_load ho ?_)
      rw[hc,hd]
      show wpAny M A (if (["enumerate", "zip", "dict_itemiterator", "dict_reverseitemiterator", "odict_iterator", "itertools.zip_longest", "itertools.pairwise"].contains n&&vs[0]?==some (rawInt _))=true then _ else _) Q E s
      rw[if_neg (by intro h;rw[hn,Bool.false_and] at h;cases h)]
      exact wpAny_pure hQ))
def Itl(K:PySem.W.Frag)(a:Addr):It:=
 ⟨λi H=>∃xs x,SqL K H a xs/\xs[i]? = some x,λi H x H'=>H'=H/\∀xs,SqL K H a xs->xs[i]? = some x,λi H=>∃xs,SqL K H a xs/\xs.length<=i⟩
def Itt(K:PySem.W.Frag)(a:Addr):It:=
 ⟨λi H=>∃xs x,SqT K H a xs/\xs[i]? = some x,λi H x H'=>H'=H/\∀xs,SqT K H a xs->xs[i]? = some x,λi H=>∃xs,SqT K H a xs/\xs.length<=i⟩
def Itr(lo:Int)(n:Nat):It:=⟨λi _=>i<n,λi H x H'=>H'=H/\x=.int (lo+i),λi _=>n<=i⟩
theorem yS{P:Program}{w:World}{K:PySem.W.Frag}{tg:Expr}(a it:Addr):vC P w K tg (Itl K a) [it] it (λi h=>h.IsListIter it a i) where
 mem:=by simp
 obj:=λi h st b hb=>by
  have e:b=it:=by simpa using hb
  subst e
  obtain⟨o,e,c,d⟩:=st
  exact⟨o,e,λv z=>by rw[d] at z;cases z⟩
 keep:=λi h h' st k=>st.at λo e=>k it (by simp) o e
 item:=by
  intro X hP hw hK hc i pins s σ H E I hf st hg
  subst hP hw hK
  obtain⟨xs,x,hq,hx⟩:=hg
  obtain⟨its,rv,p,hz⟩:=I.list hq
  obtain⟨u,hu,ru⟩:=rv.get hx
  obtain⟨f0,f1,f2,f3,f4,f5⟩:=hf it (by simp)
  refine wpAny_pyNext_list_item st p.isList (x:=u) (by simpa using hu) λh' st' sb=>?_
  have I1:Inv X pins σ H { s with heap:=h' }:=I.turned (t':=s.toks) (λb o hb e=>(sb.2 b hb).trans e) f0 f1 f3 f4 f5
  obtain⟨o,e,c,d⟩:=id st'
  exact⟨u,rfl,nG (s:={ s with heap:=h' }) e c d (by decide) ⟨x,H,I1,ru,⟨rfl,λys hy=>by rw[I.list_inj hy hq];exact hx⟩,st',λb hb=>(hf b hb).1⟩⟩
 done:=by
  intro X hP hw hK hc i pins s σ H E I hf st hg
  subst hP hw hK
  obtain⟨xs,hq,hx⟩:=hg
  obtain⟨its,rv,p,hz⟩:=I.list hq
  obtain⟨f0,f1,f2,f3,f4,f5⟩:=hf it (by simp)
  have hl:=rv.length
  exact wpAny_pyNext_list_end (I.ok.hd hc) st p.isList (by simp;omega) λh' eb=>⟨rfl,I.turned (t':=s.toks) (λb o hb e=>eb b o hb e) f0 f1 f3 f4 f5⟩
 self:=λ_ _ _ _ _ st h=>wpAny_pyIter_listiter st h
theorem vD{P:Program}{w:World}{K:PySem.W.Frag}{tg:Expr}(a it:Addr):vC P w K tg (Itt K a) [it] it (λi h=>h.IsTupleIter it a i) where
 mem:=by simp
 obj:=λi h st b hb=>by
  have e:b=it:=by simpa using hb
  subst e
  obtain⟨o,e,c,d⟩:=st
  exact⟨o,e,λv z=>by rw[d] at z;cases z⟩
 keep:=λi h h' st k=>st.at λo e=>k it (by simp) o e
 item:=by
  intro X hP hw hK hc i pins s σ H E I hf st hg
  subst hP hw hK
  obtain⟨xs,x,hq,hx⟩:=hg
  obtain⟨its,rv,p,hz⟩:=I.tuple hq
  obtain⟨u,hu,ru⟩:=rv.get hx
  obtain⟨f0,f1,f2,f3,f4,f5⟩:=hf it (by simp)
  refine wpAny_pyNext_tuple_item st (show s.heap.IsTuple a its.toArray from p) (x:=u) (by simpa using hu) λh' st' sb=>?_
  have I1:Inv X pins σ H { s with heap:=h' }:=I.turned (t':=s.toks) (λb o hb e=>(sb.2 b hb).trans e) f0 f1 f3 f4 f5
  obtain⟨o,e,c,d⟩:=id st'
  exact⟨u,rfl,nG (s:={ s with heap:=h' }) e c d (by decide) ⟨x,H,I1,ru,⟨rfl,λys hy=>by rw[I.tuple_inj hy hq];exact hx⟩,st',λb hb=>(hf b hb).1⟩⟩
 done:=by
  intro X hP hw hK hc i pins s σ H E I hf st hg
  subst hP hw hK
  obtain⟨xs,hq,hx⟩:=hg
  obtain⟨its,rv,p,hz⟩:=I.tuple hq
  obtain⟨f0,f1,f2,f3,f4,f5⟩:=hf it (by simp)
  have hl:=rv.length
  exact wpAny_pyNext_tuple_end (I.ok.hd hc) st (show s.heap.IsTuple a its.toArray from p) (by simp;omega) λh' eb=>⟨rfl,I.turned (t':=s.toks) (λb o hb e=>eb b o hb e) f0 f1 f3 f4 f5⟩
 self:=λ_ _ _ _ _ st h=>wpAny_pyIter_tupleiter st h
theorem vE{P:Program}{w:World}{K:PySem.W.Frag}{tg:Expr}(it:Addr)(lo:Int)(n:Nat):vC P w K tg (Itr lo n) [it] it (λi h=>IsRangeIter h it (lo+(i:Nat)*1) ((n:Int)-(i:Nat)) 1) where
 mem:=by simp
 obj:=λi h st b hb=>by
  have e:b=it:=by simpa using hb
  subst e
  exact⟨_,st,λv z=>by
   have z':Data.fields _=Data.cell v:=z
   cases z'⟩
 keep:=λi h h' st k=>k it (by simp) _ st
 item:=by
  intro X hP hw hK hc i pins s σ H E I hf st hg
  subst hP hw hK
  obtain⟨f0,f1,f2,f3,f4,f5⟩:=hf it (by simp)
  have W:=Walks.range (prog:=X.prog) (w:=X.w) (I.ok.hd hc) it lo 1 n
  refine W.item i s _ _ hg st λv h' tk hv st' kk=>?_
  obtain⟨t,rfl⟩:=hv
  have I1:Inv X pins σ H { s with heap:=h',toks:=tk }:=I.turned (λb o hb e=>kk b o (by simpa using hb) e) f0 f1 f3 f4 f5
  refine⟨_,rfl,nG (s:={ s with heap:=h',toks:=tk }) (n:= "range_iterator") st' rfl rfl (by decide) ⟨.int (lo+i),H,I1,⟨t,?_⟩,⟨rfl,rfl⟩,st',λb hb=>(hf b hb).1⟩⟩
  rw[Int.mul_one]
 done:=by
  intro X hP hw hK hc i pins s σ H E I hf st hg
  subst hP hw hK
  obtain⟨f0,f1,f2,f3,f4,f5⟩:=hf it (by simp)
  exact wpAny_pyNext_range_end (I.ok.hd hc) st (by have:n<=i:=hg;omega) λh' eb=>⟨rfl,I.turned (t':=s.toks) (λb o hb e=>eb b o hb e) f0 f1 f3 f4 f5⟩
 self:=λ_ _ _ _ _ st h=>wpAny_pyIter_rangeiter st h
end L2
namespace L2
open PySem PySem.Spec PyProof.Rows
section
variable {X:Cx} {tg:Expr}
theorem sV{pins:List (Addr×Obj)}{σ:St}{H:Hp}{s:Shared}{R:It->Hp->Prop}{E:Value->Shared->Prop}{lo hi:Int}{t u v:Tok}{tk:Nat}(I:Inv X pins σ H s)(h1:-(2 ^ 62)<=lo)(h2:lo<2 ^ 62)(h3:-(2 ^ 62)<=hi)(h4:hi<2 ^ 62)
 (q:R (Itr lo (hi-lo).toNat) H):wpAny (model X.prog X.w) X.A (pyIter (.ref s.heap.objs.size)) (PIE X pins σ tg R) E { s with heap:=s.heap.push { cls:=.type "range",data:=.fields #[.int lo t,.int hi u,.int 1 v] },toks:=tk }:=by
 refine wpAny_pyIter_range (IsRange.new ..) (small_one h1 h2 h3 h4) ?_
 have I1:Inv X pins σ H { s with heap:=s.heap.push { cls:=.type "range",data:=.fields #[.int lo t,.int hi u,.int 1 v] },toks:=tk }:=I.kept λb o e=>Heap.get?_push_of_some _ e
 refine⟨(s.heap.push { cls:=.type "range",data:=.fields #[.int lo t,.int hi u,.int 1 v] }).objs.size,[(s.heap.push { cls:=.type "range",data:=.fields #[.int lo t,.int hi u,.int 1 v] }).objs.size],_,_,H,rfl,
  I1.kept (t':=tk) λb o e=>Heap.get?_push_of_some _ e,vE _ lo (hi-lo).toNat,?_,λb hb=>?_,q⟩
 . have e1:lo+((0:Nat):Int)*1=lo:=by simp
   have e2:(((hi-lo).toNat:Nat):Int)-((0:Nat):Int)=Builtin.Range.rangeSize lo hi 1:=by rw[rangeSize_one];split <;> omega
   show IsRangeIter _ _ (lo+((0:Nat):Int)*1) ((((hi-lo).toNat:Nat):Int)-((0:Nat):Int)) 1
   rw[e1,e2]
   exact Heap.get?_push_size _ rfl
 . have e:b=(s.heap.push { cls:=.type "range",data:=.fields #[.int lo t,.int hi u,.int 1 v] }).objs.size:=by simpa using hb
   subst e
   exact I1.fpOk (Nat.le_refl _) (I1.hok.fresh (Nat.le_refl _))
def aHy(ta:TA):TI:=λσ H R=>ta σ H λvs H1=>∃j:Int,vs=[.int j]/\-(2 ^ 62)<=j/\j<2 ^ 62/\R (Itr 0 j.toNat) H1
def aHz(ta:TA):TI:=λσ H R=>ta σ H λvs H1=>∃i j:Int,vs=[.int i,.int j]/\(-(2 ^ 62)<=i/\i<2 ^ 62/\-(2 ^ 62)<=j/\j<2 ^ 62)/\R (Itr i (j-i).toNat) H1
theorem yT{a:Expr}{ta:TA}{p pos:Pos}(hg:Gl X "range")(hm:X.mg "range" = none)(ha:PA X [a] ta)(hs:starEach [a] X.env=[(false,eval a X.env)]:=by rfl):PI X tg (.Call (.Name "range" p) [a] [] pos) (aHy ta):=by
 intro pins s σ H R I h
 refine Call_ (eV I hg hm boot_range (PyProof.Rows.callWith_type1 (thn (ha pos pins s σ H _ I h) λus s1 ⟨vs,H1,I1,r1,q1⟩=>?_) hs rfl))
 obtain⟨j,e,q1,q2,q⟩:=q1
 subst e
 cases r1 with
 | cons r rr=>
  cases rr
  obtain⟨t,rfl⟩:=r
  exact call_range_1 (sV I1 (by omega) (by omega) q1 q2 (by simpa using q))
theorem yU{a b:Expr}{ta:TA}{p pos:Pos}(hg:Gl X "range")(hm:X.mg "range" = none)(ha:PA X [a,b] ta)(hs:starEach [a,b] X.env=[(false,eval a X.env),(false,eval b X.env)]:=by rfl)(hs2:starEach [b] X.env=[(false,eval b X.env)]:=by rfl) :
 PI X tg (.Call (.Name "range" p) [a,b] [] pos) (aHz ta):=by
 intro pins s σ H R I h
 refine Call_ (eV I hg hm boot_range (PyProof.Rows.callWith_type1 (thn (ha pos pins s σ H _ I h) λus s1 ⟨vs,H1,I1,r1,q1⟩=>?_) (by rw[hs,hs2]) (by rw[hs2];rfl)))
 obtain⟨i,j,e,⟨q1,q2,q3,q4⟩,q⟩:=q1
 subst e
 cases r1 with
 | cons r rr=>
  cases rr with
  | cons r' rr=>
   cases rr
   obtain⟨t,rfl⟩:=r
   obtain⟨t',rfl⟩:=r'
   exact call_range_2 (sV I1 q1 q2 q3 q4 q)
def aKf(wi:TI)(g:TG)(tb:TS):TS:=λD σ H=>wi σ H λJ H1=>∃W:Nat->Nat->St->Hp->Prop,(∃m,W 0 m σ H1)/\∀i m σ H,W i m σ H ->
 (J.stop i H/\D.nx σ H)\/(J.go i H/\∃N:St->Hp->Prop,(∀σ' H',N σ' H'->∃m',m'<m/\W (i+1) m' σ' H')/\∀x H',J.yld i H x H'->g x σ H' λσ2 H2=>tb { D with nx:=N,ct:=N,bk:=D.nx } σ2 H2)
def kY(fp:List Addr)(h:Heap):List (Addr×Obj):=fp.filterMap λb=>(h.get? b).map λo=>(b,o)
theorem eW{fp:List Addr}{h:Heap}{b:Addr}{o:Obj}(hb:b∈fp)(e:h.get? b=some o):(b,o)∈kY fp h:=List.mem_filterMap.mpr ⟨b,hb,by rw[e];rfl⟩
theorem yV{fp:List Addr}{h:Heap}{p:Addr×Obj}(hp:p∈kY fp h):p.1∈fp/\h.get? p.1=some p.2:=by
 obtain⟨b,hb,e⟩:=List.mem_filterMap.mp hp
 cases q:h.get? b with
 | none=>rw[q] at e;cases e
 | some o=>
  rw[q] at e
  have e':(b,o)=p:=Option.some.inj e
  subst e'
  exact⟨hb,q⟩
theorem Inv.pinned{pins:List (Addr×Obj)}{σ:St}{H:Hp}{s:Shared}{fp:List Addr}(I:Inv X pins σ H s)(hf:∀b∈fp,jV X pins H b)(ho:∀b∈fp,∃o,s.heap.get? b=some o/\∀v,o.data≠.cell v):Inv X (pins++kY fp s.heap) σ H s:=
 I.pins_of λp hp=>(List.mem_append.mp hp).elim (λz=>I.pin p (List.mem_append_right _ z)) λz=>by
  obtain⟨hb,e⟩:=yV z
  obtain⟨f0,f1,f2,_⟩:=hf p.1 hb
  obtain⟨o,e',d⟩:=ho p.1 hb
  rw[e] at e';cases e'
  exact⟨e,f0,f1,f2,d⟩
theorem Inv.unpinned{pins pl:List (Addr×Obj)}{σ:St}{H:Hp}{s:Shared}(I:Inv X (pins++pl) σ H s):Inv X pins σ H s:=I.pins_of λp hp=>I.pin p (List.mem_append_right _ (List.mem_append_left _ hp))
theorem aFw{iter:Expr}{body:List Stmt}{wi:TI}{g:TG}{tb:TS}{pos:Pos}(hp:PassesOwn (model X.prog X.w) X.A X.env X.xe)(hc:X.calm=true)(hi:PI X tg iter wi)(hg:PG X tg g)(hb:PSs X body tb)
 (hs:∀x,foldedSetIterable iter X.env x=pure x:=by intro _;rfl):PS X (.For tg iter body [] pos) (aKf wi g tb):=by
 intro pins s σ H D I h
 refine wpAny_For (thn (hi pins s σ H _ I h) λv s1 h1=>thn h1 λitv s2 h2=>?_) hs
 obtain⟨it,fp,tn,J,H2,e,I2,T,st2,f2,W,⟨m0,w0⟩,turn⟩:=h2
 subst e
 have stat:∀{H':Hp},(∀b∈fp,H' b=none)->∀b∈fp,jV X pins H' b:=λhn b hb=>⟨hn b hb,(f2 b hb).2⟩
 refine codeAny_forLoop_any (λn s'=>∃i σ' H',Inv X pins σ' H' s'/\tn i s'.heap/\(∀b∈fp,H' b=none)/\W i n σ' H') ?_ m0 ⟨0,σ,H2,I2,st2,λb hb=>(f2 b hb).1,w0⟩
 rintro n s3 ⟨i,σ3,H3,I3,st3,fr3,w3⟩
 rcases turn i n σ3 H3 w3 with⟨stop,qn⟩|⟨go,N,hN,step⟩
 . refine wpAny_passesOwn hp (thn (T.done X rfl rfl rfl hc i pins s3 σ3 H3 X.xe I3 (stat fr3) st3 stop) λr s4 ⟨hr,I4⟩=>?_)
   subst hr
   exact wpAny_execs_nil ⟨σ3,H3,I4,qn⟩
 . refine wpAny_passesOwn hp (thn (T.item X rfl rfl rfl hc i pins s3 σ3 H3 X.xe I3 (stat fr3) st3 go) λr s4 ⟨u,hr,h4⟩=>?_)
   subst hr
   refine wpAny_passesOwn hp (thn h4 λ_ s5 ⟨x,H5,I5,r5,y5,st5,fr5⟩=>?_)
   have I5':=I5.pinned (stat fr5) (T.obj _ _ st5)
   refine wpAny_passesOwn hp (thn (hg _ s5 σ3 H5 x u _ I5' r5 (step x H5 y5)) λ_ s6 ⟨σ6,H6,I6,q6⟩=>?_)
   refine wpAny_passesOwn hp (thn (hb _ s6 σ6 H6 _ I6 q6) λf s7 q7=>?_)
   have again:∀{σ7:St} {H7:Hp},Inv X (pins++kY fp s5.heap) σ7 H7 s7->N σ7 H7->∃m,m<n/\∃i σ' H',Inv X pins σ' H' s7/\tn i s7.heap/\(∀b∈fp,H' b=none)/\W i m σ' H':=λ{σ7 H7} I7 n7=>by
    obtain⟨m',hm,w7⟩:=hN σ7 H7 n7
    refine⟨m',hm,i+1,σ7,H7,I7.unpinned,T.keep _ _ _ st5 λb hb o e=>(I7.pin (b,o) (List.mem_append_right _ (List.mem_append_right _ (eW hb e)))).1,λb hb=>?_,w7⟩
    obtain⟨o,e,d⟩:=T.obj _ _ st5 b hb
    exact(I7.pin (b,o) (List.mem_append_right _ (List.mem_append_right _ (eW hb e)))).2.1
   cases f with
   | next=>obtain⟨σ7,H7,I7,n7⟩:=q7;exact again I7 n7
   | cont=>obtain⟨σ7,H7,I7,n7⟩:=q7;exact again I7 n7
   | brk=>obtain⟨σ7,H7,I7,q7⟩:=q7;exact⟨σ7,H7,I7.unpinned,q7⟩
   | ret v=>obtain⟨x7,σ7,H7,I7,r7,q7⟩:=q7;exact⟨x7,σ7,H7,I7.unpinned,r7,q7⟩
end
end L2
namespace L2
open PySem PySem.Spec PyProof.Rows
abbrev R2:=V->V->Hp->VK->Prop
def OpR(X:Cx)(f:Value->Value->Sem Value)(r:R2):Prop:=
 ∀(pins:List (Addr×Obj)) (s:Shared) (σ:St) (H:Hp) (x y:V) (v u:Value) (Q:VK),Inv X pins σ H s->bQ x v->bQ y u->r x y H Q ->
  wpAny (model X.prog X.w) X.A (f v u) (EP X pins σ Q) X.xe s
def gK(X:Cx)(f:Value)(r:List V->Hp->VK->Prop):Prop:=
 ∀(pins:List (Addr×Obj)) (s:Shared) (σ:St) (H:Hp) (xs:List V) (us:List Value) (Q:VK),Inv X pins σ H s->aW xs us->r xs H Q ->
  wpAny (model X.prog X.w) X.A (call f us) (EP X pins σ Q) X.xe s
def aKg(X:Cx)(r:V->Hp->(Bool->Hp->Prop)->Prop):Prop:=
 ∀(pins:List (Addr×Obj)) (s:Shared) (σ:St) (H:Hp) (x:V) (v:Value) (Q:Bool->Hp->Prop),Inv X pins σ H s->bQ x v->r x H Q ->
  wpAny (model X.prog X.w) X.A (truthy v) (TP X pins σ Q) X.xe s
def tOp(r:R2)(ta tb:TE):TE:=λσ H Q=>ta σ H λx H1=>tb σ H1 λy H2=>r x y H2 Q
def rI(C:Int->Int->Prop)(g:Int->Int->V):R2:=λx y H Q=>∃i j,x=.int i/\y=.int j/\C i j/\Q (g i j) H
def rI0(g:Int->Int->V):R2:=λx y H Q=>∃i j,x=.int i/\y=.int j/\Q (g i j) H
section
variable {X:Cx} {a b c:Expr} {ta tb tc:TE} {pos:Pos}
theorem aHA(ha:PE X a ta)(hb:PE X b tb){pins:List (Addr×Obj)}{s:Shared}{σ:St}{H:Hp}{R:V->V->Hp->Prop}(I:Inv X pins σ H s)
 (h:ta σ H λx H1=>tb σ H1 λy H2=>R x y H2) {Q:Value->Shared->Prop} {f:Value->Value->Sem Value}
 (hf:∀v u s2 x y H2,Inv X pins σ H2 s2->bQ x v->bQ y u->R x y H2->wpAny (model X.prog X.w) X.A (f v u) Q X.xe s2) :
 wpAny (model X.prog X.w) X.A (eval a X.env) (λv s₁=>wpAny (model X.prog X.w) X.A (eval b X.env) (λu s₂=>wpAny (model X.prog X.w) X.A (f v u) Q X.xe s₂) X.xe s₁) X.xe s:=by
 refine thn (ha pins s σ H _ I h) λv s1 ⟨x,H1,I1,r1,q1⟩=>?_
 refine thn (hb pins s1 σ H1 _ I1 q1) λu s2 ⟨y,H2,I2,r2,q2⟩=>?_
 exact hf v u s2 x y H2 I2 r1 r2 q2
theorem opI{f:Value->Value->Sem Value}{C:Int->Int->Prop}{g:Int->Int->Int}
 (rule:∀(i j:Int) (t u:Tok) (s:Shared) (Q:Value->Shared->Prop) (E:Value->Shared->Prop),C i j->Q (.int (g i j) s.toks) { s with toks:=s.toks+1 }->wpAny (model X.prog X.w) X.A (f (.int i t) (.int j u)) Q E s) :
 OpR X f (rI C λi j=>.int (g i j)):=by
 intro pins s σ H x y v u Q I rx ry h
 obtain⟨i,j,rfl,rfl,hc,q⟩:=h
 obtain⟨t,rfl⟩:=rx
 obtain⟨t',rfl⟩:=ry
 exact rule i j t t' s _ _ hc ⟨.int (g i j),H,I.tok _,⟨_,rfl⟩,q⟩
theorem aHB{f:Value->Value->Sem Value}{g:Int->Int->Int}
 (rule:∀(i j:Int) (t u:Tok) (s:Shared) (Q:Value->Shared->Prop) (E:Value->Shared->Prop),Q (.int (g i j) s.toks) { s with toks:=s.toks+1 }->wpAny (model X.prog X.w) X.A (f (.int i t) (.int j u)) Q E s) :
 OpR X f (rI0 λi j=>.int (g i j)):=by
 intro pins s σ H x y v u Q I rx ry h
 obtain⟨i,j,rfl,rfl,q⟩:=h
 obtain⟨t,rfl⟩:=rx
 obtain⟨t',rfl⟩:=ry
 exact rule i j t t' s _ _ ⟨.int (g i j),H,I.tok _,⟨_,rfl⟩,q⟩
theorem aDi{f:Value->Value->Sem Value}{g:Int->Int->Bool}
 (rule:∀(i j:Int) (t u:Tok) (s:Shared) (Q:Value->Shared->Prop) (E:Value->Shared->Prop),Q (.bool (g i j)) s->wpAny (model X.prog X.w) X.A (f (.int i t) (.int j u)) Q E s) :
 OpR X f (rI0 λi j=>.bl (g i j)):=by
 intro pins s σ H x y v u Q I rx ry h
 obtain⟨i,j,rfl,rfl,q⟩:=h
 obtain⟨t,rfl⟩:=rx
 obtain⟨t',rfl⟩:=ry
 exact rule i j t t' s _ _ ⟨.bl (g i j),H,I,rfl,q⟩
def aKh(i j:Int):Prop:=0<j/\j<1073741824
def aKi(i j:Int):Prop:=0<=j/\j<=1000000/\i.natAbs<2 ^ 64
def aFx(i j:Int):Prop:=(-(2 ^ 64)<i/\i<2 ^ 64)\/(-(2 ^ 64)<j/\j<2 ^ 64)
theorem aFx.ok{i j:Int}(h:aFx i j):IntMulOk i j:=by
 rcases h with⟨h1,h2⟩|⟨h1,h2⟩
 . exact .of_left (intBits_le_64 h1 h2)
 . exact .of_right (intBits_le_64 h1 h2)
theorem aFy:OpR X (binaryOp .Add) (rI0 λi j=>.int (i+j)):=aHB λ_ _ _ _ _ _ _ q=>add_int q
theorem aFz:OpR X (binaryOp .Sub) (rI0 λi j=>.int (i-j)):=aHB λ_ _ _ _ _ _ _ q=>sub_int q
theorem aFA:OpR X (binaryOp .Mult) (rI aFx λi j=>.int (i*j)):=opI λ_ _ _ _ _ _ _ hc q=>mul_int q hc.ok
theorem aDj:OpR X (binaryOp .FloorDiv) (rI aKh λi j=>.int (i / j)):=opI λi j _ _ _ _ _ hc q=>by
 have h1:(0:Int)<j:=hc.1
 have h2:j<1073741824:=hc.2
 exact floordiv_int (by omega) (by rw[Int.fdiv_eq_ediv_of_nonneg i (by omega)];exact q) (.inl (PyProof.noPylong_small (by omega)))
theorem aFB:OpR X (binaryOp .Mod) (rI (λ_ j=>0<j) λi j=>.int (i % j)):=opI λi j _ _ _ _ _ hc q=>by
 have h1:(0:Int)<j:=hc
 exact mod_int' (by omega) (by rw[Int.fmod_eq_emod_of_nonneg i (by omega)];exact q)
theorem aFC:OpR X (binaryOp .Pow) (rI aKi λi j=>.int (i ^ j.toNat)):=opI λ_ _ _ _ _ _ _ hc q=>pow_int_small hc.1 hc.2.1 hc.2.2 q
end
section
variable {X:Cx} {a b c:Expr} {ta tb tc:TE} {pos:Pos}
theorem vF{pins:List (Addr×Obj)}{σ:St}{H:Hp}{s:Shared}{Q:VK}{k k':Bool}(I:Inv X pins σ H s)(q:Q (.bl k) H)(e:k=k'):EP X pins σ Q (.bool k') s:=by
 subst e
 exact⟨.bl k,H,I,rfl,q⟩
theorem aHC:OpR X (compareOp .Lt) (rI0 λi j=>.bl (decide (i<j))):=aDi λ_ _ _ _ _ _ _ q=>lt_int q
theorem aHD:OpR X (compareOp .LtE) (rI0 λi j=>.bl (decide (i<=j))):=aDi λ_ _ _ _ _ _ _ q=>le_int q
theorem aHE:OpR X (compareOp .Gt) (rI0 λi j=>.bl (decide (j<i))):=aDi λ_ _ _ _ _ _ _ q=>gt_int q
theorem aHF:OpR X (compareOp .GtE) (rI0 λi j=>.bl (decide (j<=i))):=aDi λ_ _ _ _ _ _ _ q=>ge_int q
theorem yW:OpR X (compareOp .In) (λx y H Q=>∃i j,x=.str i/\y=.str j/\Q (.bl (!(Builtin.Str.occurrences j i 0 j.length 1).isEmpty)) H):=by
 intro pins s σ H x y v u Q I rx ry h
 obtain⟨i,j,rfl,rfl,q⟩:=h
 obtain⟨t,rfl⟩:=rx
 obtain⟨t',rfl⟩:=ry
 exact in_str (vF I q rfl)
theorem aFD:OpR X (compareOp .Is) (λx y H Q=>y=.non/\Q (.bl (decide (x=.non))) H):=by
 intro pins s σ H x y v u Q I rx ry h
 obtain⟨rfl,q⟩:=h
 cases ry
 refine is_none_gen (vF I q ?_)
 cases x <;> first
  | (cases rx;rfl)
  | (obtain⟨t,rfl⟩:=rx;rfl)
theorem aDk:OpR X (compareOp .IsNot) (λx y H Q=>y=.non/\Q (.bl (!decide (x=.non))) H):=by
 intro pins s σ H x y v u Q I rx ry h
 obtain⟨rfl,q⟩:=h
 cases ry
 refine isnot_none_gen (vF I q ?_)
 cases x <;> first
  | (cases rx;rfl)
  | (obtain⟨t,rfl⟩:=rx;rfl)
theorem aDl{op:CmpOp}{r:R2}(ho:OpR X (compareOp op) r)(ha:PE X a ta)(hb:PE X b tb)(hm:behindInMarks op b=false):PE X (.Compare a [op] [b] pos) (tOp r ta tb):=by
 intro pins s σ H Q I h
 exact wpAny_Compare1 (aHA ha hb I h λv u s2 x y H2 I2 rx ry q=>ho pins s2 σ H2 x y v u Q I2 rx ry q) hm
def aEJ(t:TE):TT:=λσ H Q=>t σ H λx H'=>∃k,x=.bl k/\Q k H'
theorem aDm{op:CmpOp}{r:R2}(ho:OpR X (compareOp op) r)(ha:PE X a ta)(hb:PE X b tb)(hm:behindInMarks op b=false):PT X (.Compare a [op] [b] pos) (aEJ (tOp r ta tb)):=by
 intro pins s σ H Q I h
 refine wpAny_isTrue_Compare1 (thn (ha pins s σ H _ I h) λv s1 ⟨x,H1,I1,r1,q1⟩=>thn (hb pins s1 σ H1 _ I1 q1) λu s2 ⟨y,H2,I2,r2,q2⟩=>
  thn (ho pins s2 σ H2 x y v u _ I2 r1 r2 q2) λc s3 ⟨z,H3,I3,r3,k,e,q3⟩=>?_) hm
 subst e
 cases r3
 exact wpAny_truthy_bool ⟨H3,I3,q3⟩
def aAB(r r':R2)(ta tb tc:TE):TE:=λσ H Q=>ta σ H λx H1=>tb σ H1 λy H2=>r x y H2 λz H3=>∃k,z=.bl k /\
 (if k=true then tc σ H3 λw' H4=>r' y w' H4 Q else Q (.bl false) H3)
theorem aAC{op op':CmpOp}{r r':R2}(ho:OpR X (compareOp op) r)(ho':OpR X (compareOp op') r')(ha:PE X a ta)(hb:PE X b tb)(hc:PE X c tc)
 (hm:lastMarks [op,op'] [b,c]=false:=by with_unfolding_all rfl):PE X (.Compare a [op,op'] [b,c] pos) (aAB r r' ta tb tc):=by
 intro pins s σ H Q I h
 refine Compare_chain (thn (ha pins s σ H _ I h) λv s1 ⟨x,H1,I1,r1,q1⟩=>chain_link (thn (hb pins s1 σ H1 _ I1 q1) λu s2 ⟨y,H2,I2,r2,q2⟩=>
  thn (ho pins s2 σ H2 x y v u _ I2 r1 r2 q2) λd s3 ⟨z,H3,I3,r3,k,e,q3⟩=>?_)) hm
 subst e
 cases r3
 refine wpAny_truthy_bool ?_
 cases k with
 | false=>exact ite_ff ⟨.bl false,H3,I3,rfl,q3⟩
 | true=>exact ite_tt (chain_last (thn (hc pins s3 σ H3 _ I3 q3) λw' s4 ⟨z',H4,I4,r4,q4⟩=>ho' pins s4 σ H4 y z' u w' Q I4 r2 r4 q4))
theorem aAD{op op':CmpOp}{r r':R2}(ho:OpR X (compareOp op) r)(ho':OpR X (compareOp op') r')(ha:PE X a ta)(hb:PE X b tb)(hc:PE X c tc)
 (hm:lastMarks [op,op'] [b,c]=false:=by with_unfolding_all rfl):PT X (.Compare a [op,op'] [b,c] pos) (aEJ (aAB r r' ta tb tc)):=by
 intro pins s σ H Q I h
 refine isTrue_chain (thn (ha pins s σ H _ I h) λv s1 ⟨x,H1,I1,r1,q1⟩=>test_link (thn (hb pins s1 σ H1 _ I1 q1) λu s2 ⟨y,H2,I2,r2,q2⟩=>
  thn (ho pins s2 σ H2 x y v u _ I2 r1 r2 q2) λd s3 ⟨z,H3,I3,r3,k,e,q3⟩=>?_)) hm
 subst e
 cases r3
 refine wpAny_truthy_bool ?_
 cases k with
 | false=>
  obtain⟨k',e',q'⟩:=q3
  cases e'
  exact ite_ff ⟨H3,I3,q'⟩
 | true=>
  refine ite_tt (test_last (thn (hc pins s3 σ H3 _ I3 q3) λw' s4 ⟨z',H4,I4,r4,q4⟩=>thn (ho' pins s4 σ H4 y z' u w' _ I4 r2 r4 q4) λd' s5 ⟨z2,H5,I5,r5,k2,e2,q5⟩=>?_))
  subst e2
  cases r5
  exact wpAny_truthy_bool ⟨H5,I5,q5⟩
def aDn(K:PySem.W.Frag)(x:V)(H:Hp)(k:Bool):Prop:=
 match x with
 | .non=>k=false
 | .bl b=>k=b
 | .int i=>k=(i != 0)
 | .str y=>y.length<=sizeLine/\k=((y.length:Int) != 0)
 | .byt y=>y.size<=sizeLine/\k=((y.size:Int) != 0)
 | .ref p=>(∃xs,SqL K H p xs/\k=!xs.isEmpty)\/(∃xs,SqT K H p xs/\k=!xs.isEmpty)\/∃kvs,H p=some (.dK kvs)/\k=!kvs.isEmpty
 | _=>False
theorem vG{κ:Type}{kvs:List (κ×V)}{vs:List (κ×Value)}(r:KV kvs vs):(!vs.isEmpty)=!kvs.isEmpty:=by
 cases r <;> rfl
theorem nH{xs:List V}{its:List Value}(r:aW xs its):(!its.toArray.isEmpty)=!xs.isEmpty:=by
 cases r <;> simp
theorem kZ:(sizeLine:Nat)<2 ^ 63:=by rw[sizeLine_eq];decide
theorem aAE:aKg X (λx H Q=>∃k,aDn X.K x H k/\Q k H):=by
 intro pins s σ H x v Q I rx h
 obtain⟨k,e,q⟩:=h
 have hl:=kZ
 have hs:sizeLine=16777216:=sizeLine_eq
 cases x with
 | non=>
  cases rx
  have e':k=false:=e
  subst e'
  exact truthy_none ⟨H,I,q⟩
 | bl b=>
  cases rx
  have e':k=b:=e
  subst e'
  exact wpAny_truthy_bool ⟨H,I,q⟩
 | int i=>
  obtain⟨t,rfl⟩:=rx
  have e':k=(i != 0):=e
  subst e'
  exact PySem.P.truthy_int ⟨H,I,q⟩
 | str y=>
  obtain⟨t,rfl⟩:=rx
  obtain⟨hy,e'⟩:y.length<=sizeLine/\k=((y.length:Int) != 0):=e
  subst e'
  exact PySem.P.truthy_str (by omega) ⟨H,I.tok _,q⟩
 | byt y=>
  obtain⟨t,rfl⟩:=rx
  obtain⟨hy,e'⟩:y.size<=sizeLine/\k=((y.size:Int) != 0):=e
  subst e'
  exact PySem.W.truthy_bytes (by omega) ⟨H,I.tok _,q⟩
 | ref p=>
  cases rx
  have e':(∃xs,SqL X.K H p xs/\k=!xs.isEmpty)\/(∃xs,SqT X.K H p xs/\k=!xs.isEmpty)\/∃kvs,H p=some (.dK kvs)/\k=!kvs.isEmpty:=e
  rcases e' with⟨xs,hx,e'⟩|⟨xs,hx,e'⟩|⟨kvs,hx,e'⟩
  . subst e'
    obtain⟨its,r,pl,hz⟩:=I.list hx
    have hlen:=r.length
    exact wpAny_truthy_list pl.isList (by simp only[List.size_toArray];omega) ⟨H,I.tok _,by rw[nH r];exact q⟩
  . subst e'
    obtain⟨its,r,pl,hz⟩:=I.tuple hx
    have hlen:=r.length
    exact truthy_tuple pl (by simp only[List.size_toArray];omega) ⟨H,I.tok _,by rw[nH r];exact q⟩
  . subst e'
    obtain⟨hz,hS,vs,r,m⟩:kvs.length<=sizeLine/\(p==sysModules)=false/\∃vs,KV kvs vs/\s.heap.DictOf (eC X.prog X.w) p vs:=I.hok p _ hx
    have hlen:kvs.length=vs.length:=Paired.length r
    exact wpAny_truthy_dict hS m (by omega) ⟨H,I.tok _,by rw[vG r];exact q⟩
 | _=>exact(show False from e).elim
theorem aAF(ha:PE X a ta)(he:∀whole,isTrue a X.env whole=(do let v<-whole;standAt a.pos;holding [v] (truthy v))) :
 PT X a (λσ H Q=>ta σ H λx H'=>∃k,aDn X.K x H' k/\Q k H'):=by
 intro pins s σ H Q I h
 exact isTrue_plain (thn (ha pins s σ H _ I h) λv s1 ⟨x,H1,I1,r1,q1⟩=>aAE pins s1 σ H1 x v Q I1 r1 q1) (he _)
theorem vH:OpR X (binaryOp .Add) (λx y H Q=>∃i j,x=.str i/\y=.str j/\i.length+j.length<=sizeLine/\Q (.str (i++j)) H):=by
 intro pins s σ H x y v u Q I rx ry h
 obtain⟨i,j,rfl,rfl,hz,q⟩:=h
 obtain⟨t,rfl⟩:=rx
 obtain⟨t',rfl⟩:=ry
 exact add_str (λt' tk=>⟨.str (i++j),H,I.tok _,⟨_,rfl⟩,q⟩) hz
theorem sW{x:V}{us:List Value}(r:aW [x] us):∃u,us=[u]/\bQ x u:=by
 cases r with
 | cons r1 r2=>cases r2;exact⟨_,rfl,r1⟩
theorem yX:gK X (.type "int") (λxs H Q=>(∃i,xs=[.int i]/\Q (.int i) H)\/∃k,xs=[.bl k]/\Q (.int (if k then 1 else 0)) H):=by
 intro pins s σ H xs us Q I r h
 rcases h with⟨i,rfl,q⟩|⟨k,rfl,q⟩
 . obtain⟨u,rfl,t,rfl⟩:=sW r
   exact call_int_int ⟨.int i,H,I,⟨_,rfl⟩,q⟩
 . obtain⟨u,rfl,r1⟩:=sW r
   cases r1
   exact call_int_bool ⟨.int (if k then 1 else 0),H,I.tok _,⟨_,rfl⟩,q⟩
end
end L2
namespace L2
open PySem PySem.Spec PyProof.Rows
section
variable {prog:Program} {w:World} {A:Around} {E:Value->Shared->Prop} {s:Shared} {K:PySem.W.Frag} {x dx C f:Addr} {mA:Str->Option Value} {name:Str} {v:Value}
end
section
variable {P:Program} {w:World} {H H':Hp} {h h':Heap} {a C dx:Addr} {fs fs':List (Str×V)}
end
section
variable {X:Cx} {pins:List (Addr×Obj)} {σ:St} {H:Hp} {s:Shared} {a C dx:Addr} {fs:List (Str×V)} {f:Str} {v:V} {A:Around} {E:Value->Shared->Prop}
end
section
variable {X:Cx} {o e value:Expr} {f:Str} {pos pos' tpos:Pos} {ta tv:TE}
end
section
variable {X:Cx} {pins:List (Addr×Obj)} {σ:St} {H:Hp} {s:Shared} {A:Around} {E:Value->Shared->Prop} {Q:Value->Shared->Prop} {c:Value} {b:Bool}
end
end L2
namespace L2
open PySem PySem.Spec PyProof.Rows
structure mJ (k:Nat) (A:Around):Prop where
 hd:A.handled=none
 gd:A.guards=some []
 dp:A.depth+3*k+5<recursionLimit
 un:A.units+16*k+200<cLine
theorem mJ.deeper{k:Nat}{A:Around}(r:mJ (k+1) A)(env:Env):mJ k (A.deeper env):=
 ⟨r.hd,r.gd,by have:=r.dp;show A.depth+1+3*k+5<_;omega,by have:=r.un;show A.units+3+16*k+200<_;omega⟩
theorem mJ.depth{k:Nat}{A:Around}(r:mJ k A):A.depth<recursionLimit:=by have:=r.dp;omega
def aKj:TA:=λ_ H Q=>Q [] H
def aHG(ta:TE)(tr:TA):TA:=λσ H Q=>ta σ H λx H1=>tr σ H1 λxs H2=>Q (x::xs) H2
section
variable {X:Cx} {e:Expr} {es:List Expr} {te:TE} {t:TA} {pos:Pos}
theorem gL:PA X [] aKj:=λ_ _ _ _ H Q I h=>Calls.spliced_nil ⟨[],H,I,.nil,h⟩
theorem eS(ha:PE X e te)(hr:PA X es t)(hs:starEach (e::es) X.env=(false,eval e X.env)::starEach es X.env:=by rfl):PA X (e::es) (aHG te t):=by
 intro pos pins s σ H Q I h
 rw[hs]
 show wpAny _ _ (spliced ((false,eval e X.env)::backTo pos (starEach es X.env))) _ _ s
 refine Calls.spliced_cons (thn (ha pins s σ H _ I h) λu s1 ⟨x,H1,I1,r1,q1⟩=>?_)
 exact thn (hr pos pins s1 σ H1 _ I1 q1) λus s2 ⟨xs,H2,I2,r2,q2⟩=>⟨x::xs,H2,I2,.cons r1 r2,q2⟩
def aKk(t:TA):TE:=λσ H Q=>t σ H λxs H1=>xs.length<=sizeLine/\∀p,H1 p=none->Q (.ref p) (upd H1 p (.tup xs))
def aKl(t:TA):TE:=λσ H Q=>t σ H λxs H1=>xs.length<=sizeLine/\∀p,H1 p=none->Q (.ref p) (upd H1 p (.lst xs))
theorem aAG{x1}(h:PA X es t):PE X (.Tuple es x1 pos) (aKk t):=by
 intro pins s σ H Q I hq
 refine wpAny_Tuple_spliced (thn (h pos pins s σ H _ I hq) λus s1 ⟨xs,H1,I1,r,z,q⟩=>⟨by rw[<-r.length];exact z,?_⟩)
 have hf:H1 s1.heap.objs.size=none:=I1.hok.fresh (Nat.le_refl _)
 refine⟨.ref s1.heap.objs.size,upd H1 s1.heap.objs.size (.tup xs),I1.laid (t':=s1.toks) (λb u e=>Heap.get?_push_of_some _ e) (Nat.le_refl _) ?_,rfl,q _ hf⟩
 exact⟨z,us,r,⟨_,Heap.get?_push_size _ rfl,rfl,_,rfl⟩⟩
theorem aFE(h:PA X es t):PE X (.List es pos) (aKl t):=by
 intro pins s σ H Q I hq
 refine wpAny_List_spliced (thn (h pos pins s σ H _ I hq) λus s1 ⟨xs,H1,I1,r,z,q⟩=>⟨by rw[<-r.length];exact z,?_⟩)
 have hf:H1 s1.heap.objs.size=none:=I1.hok.fresh (Nat.le_refl _)
 refine⟨.ref s1.heap.objs.size,upd H1 s1.heap.objs.size (.lst xs),I1.laid (t':=s1.toks) (λb u e=>Heap.get?_push_of_some _ e) (Nat.le_refl _) ?_,rfl,q _ hf⟩
 exact⟨z,us,0,r,Heap.get?_push_size _ rfl⟩
end
abbrev Sp:=List V->Hp->VK->XK->Prop
abbrev CXT:=List Env->Hp->Shared->XK->Value->Shared->Prop
structure aDo (P:Program) (w:World) (K:PySem.W.Frag) (mg:Str->Option Value) (base:Heap) (A:Around) (outer:List Env) (s:Shared) (H:Hp):Prop where
 frames:A.frames=some outer
 mod:Mod K mg base
 bs:∀b o,base.get? b=some o->s.heap.get? b=some o/\H b=none
 bsz:base.objs.size<=s.heap.objs.size
 funs:s.heap.FunFrames base outer
 frf:∀b∈frs outer,H b=none
 hok:HOk P w H s.heap
 bare:AllBare s.gens
def CE(outer:List Env)(P:Program)(w:World)(H:Hp)(s:Shared)(Q:VK)(u:Value)(s':Shared):Prop:=
 ∃v H',s'.os=s.os/\AllBare s'.gens/\Un (frs outer) [] H H' s.heap s'.heap/\HOk P w H' s'.heap/\bQ v u/\Q v H'
def CR(CX:CXT)(outer:List Env)(P:Program)(w:World)(H:Hp)(s:Shared)(Q:VK)(E:XK)(r:Result)(s':Shared):Prop:=
 match r with
 | .ok (.ret u)=>CE outer P w H s Q u s'
 | .ok _=>False
 | .error e=>CX outer H s E e s'
structure qQ (P:Program) (w:World) (K:PySem.W.Frag) (mg:Str->Option Value) (base:Heap) (CX:CXT) (k:Nat) (f:Addr) (fd:FuncData) (ps:List Str) (sp:Sp):Prop where
 len:∀vs H Q E,sp vs H Q E->vs.length=ps.length
 run:∀(A:Around) (outer:List Env) (s:Shared) (H:Hp) (args:Args) (us:List Value) (vs:List V) (Q:VK) (E:XK),mJ k A->aDo P w K mg base A outer s H->BindsTo s fd args (ps.zip us)->aW vs us->sp vs H Q E ->
  codeAny (model P w) A (.call (.ref f) args) (CR CX outer P w H s Q E) s
section
variable {X:Cx} {pins:List (Addr×Obj)} {σ:St} {H:Hp} {s s':Shared}
theorem Inv.env0(I:Inv X pins σ H s):aDo X.prog X.w X.K X.mg X.base X.A X.stack s H:=
 ⟨I.ok.frames,I.ok.mod,I.bs,Nat.le_trans I.ok.bsz I.sz,I.stack,I.stkFree,I.hok,I.bare⟩
theorem Inv.after{Q:VK}{u:Value}(I:Inv X pins σ H s)(h:CE X.stack X.prog X.w H s Q u s'):EP X pins σ Q u s':=by
 obtain⟨v,H',os,bare,un,hok,r,q⟩:=h
 obtain⟨hh,g,d,t,os'⟩:=s'
 obtain rfl:os'=s.os:=os
 exact⟨v,H',I.call (h':=hh) (g':=g) (d':=d) (t':=t) (ch:=[]) un hok bare (λb z=>absurd z (by simp)),r,q⟩
end
def lY(K:PySem.W.Frag)(fd:FuncData)(ps:List Str)(ds:List Value):Prop:=
 ∀(s:Shared) (us:List Value),K.In s.heap->(us++ds).length=ps.length->BindsTo s fd ⟨us,[]⟩ (ps.zip (us++ds))
theorem lY.all{K:PySem.W.Frag}{fd:FuncData}{ps:List Str}(h:∀us:List Value,us.length=ps.length->bindArgs fd ⟨us,[]⟩=pure (ps.zip us)):lY K fd ps []:=λs us _ hl=>by
 rw[List.append_nil] at hl ⊢
 exact .of_eq (h us hl)
section
variable {X:Cx} {CX:CXT} {k:Nat} {f C:Addr} {fd:FuncData} {ps:List Str} {sp:Sp} {dvs:List V} {ds:List Value} {E:XK} {x m:Str} {p pos apos:Pos} {e o:Expr} {es:List Expr} {ta:TE} {t:TA}
end
section
variable {X:Cx} {CX:CXT} {k:Nat} {f C:Addr} {fd:FuncData} {ps ks:List Str} {sp:Sp} {E:XK} {x m:Str} {p pos apos kpos:Pos} {e o:Expr} {es:List Expr} {kws:List Keyword} {te ta:TE} {t tk:TA} {nm:Option Str}
variable {g:List Value->List Value->List Value} {gV:List V->List V->List V}
end
structure qR (N P:List Str) (sc:Scope):Prop where
 kind:sc.kind=.function
 co:sc.isCoroutine=false
 gen:sc.isGenerator=false
 nd:N.Nodup
 pre:N.take P.length=P
 par:∀x∈P,sc.names.lookup x=some .local\/sc.names.lookup x=some .cell
 nofree:∀y∈sc.names,y.2≠.free
theorem pH{kindOf:Str->Option NameKind}{x:Str}:∀{binds:List (Str×Value)} {m:Str->Option Value},(∀v,(x,v)∉binds)->bindL kindOf binds m x=m x
 | [],_,_=>rfl
 | (n,v)::r,m,h=>by
  unfold bindL
  rw[pH λw hw=>h w (List.mem_cons_of_mem _ hw)]
  split
  . have:x≠n:=by rintro rfl;exact h v List.mem_cons_self
    simp[this]
  . rfl
theorem pI{kindOf:Str->Option NameKind}{x:Str}:∀{binds:List (Str×Value)} {m:Str->Option Value},(∀v,(x,v)∉binds)->bindC kindOf binds m x=m x
 | [],_,_=>rfl
 | (n,v)::r,m,h=>by
  unfold bindC
  rw[pI λw hw=>h w (List.mem_cons_of_mem _ hw)]
  split
  . rfl
  . have:x≠n:=by rintro rfl;exact h v List.mem_cons_self
    simp[this]
theorem pJ{kindOf:Str->Option NameKind}{x:Str}{v:Value}:∀{P:List Str} {vs:List Value} {i:Nat} {m:Str->Option Value},P.Nodup->P[i]? = some x->vs[i]? = some v->kindOf x=some .local ->
 bindL kindOf (P.zip vs) m x=some v
 | [],_,_,_,_,h,_,_=>by simp at h
 | _::_,[],_,_,_,_,h,_=>by simp at h
 | p::P,w::vs,0,m,nd,h1,h2,hk=>by
  simp at h1 h2;subst h1;subst h2
  show bindL kindOf ((p,w)::P.zip vs) m p=_
  unfold bindL
  rw[pH λv hv=>(List.nodup_cons.mp nd).1 (List.of_mem_zip hv).1,if_pos hk]
  simp
 | p::P,w::vs,i+1,m,nd,h1,h2,hk=>by
  show bindL kindOf ((p,w)::P.zip vs) m x=_
  unfold bindL
  exact pJ (i:=i) (List.nodup_cons.mp nd).2 (by simpa using h1) (by simpa using h2) hk
theorem pK{kindOf:Str->Option NameKind}{x:Str}{v:Value}:∀{P:List Str} {vs:List Value} {i:Nat} {m:Str->Option Value},P.Nodup->P[i]? = some x->vs[i]? = some v->kindOf x≠some .local ->
 bindC kindOf (P.zip vs) m x=some v
 | [],_,_,_,_,h,_,_=>by simp at h
 | _::_,[],_,_,_,_,h,_=>by simp at h
 | p::P,w::vs,0,m,nd,h1,h2,hk=>by
  simp at h1 h2;subst h1;subst h2
  show bindC kindOf ((p,w)::P.zip vs) m p=_
  unfold bindC
  rw[pI λv hv=>(List.nodup_cons.mp nd).1 (List.of_mem_zip hv).1,if_neg hk]
  simp
 | p::P,w::vs,i+1,m,nd,h1,h2,hk=>by
  show bindC kindOf ((p,w)::P.zip vs) m x=_
  unfold bindC
  exact pK (i:=i) (List.nodup_cons.mp nd).2 (by simpa using h1) (by simpa using h2) hk
def start(N:List Str)(vs:List V):St:=vs.map some++List.replicate (N.length-vs.length) none
def qS(CX:CXT)(P:Program)(w:World)(K:PySem.W.Frag)(mg:Str->Option Value)(base:Heap)(N:List Str)(qual:Str)(scope:Scope)(f:Addr)(cd:Value)(A:Around)(outer:List Env)(s:Shared)(H:Hp)(E:XK):Cx where
 prog:=P
 w:=w
 K:=K
 mg:=mg
 base:=base
 A:=A.deeper (envOfC qual scope s.heap.objs.size f cd)
 N:=N
 s₀:=s
 H₀:=H
 env:=envOfC qual scope s.heap.objs.size f cd
 outer:=outer
 stack:=envOfC qual scope s.heap.objs.size f cd::outer
 ex:=[]
 calm:=true
 fn:=λ_=>true
 pn:=[]
 xe:=λe s'=>wpAny (model P w) (A.deeper (envOfC qual scope s.heap.objs.size f cd)) (leaving (envOfC qual scope s.heap.objs.size f cd) e) (λ_ s''=>CX outer H s E e s'') (λe' s''=>CX outer H s E e' s'') s'
theorem sX{sc:Scope}{n:Nat}{x:Str}(h:sc.names.lookup x=some .cell):∃c,(cellsFrom n sc.names []).lookup x=some c:=by
 have q:=PySem.W.cellsFrom_some sc.names n [] (.inl h)
 exact Option.isSome_iff_exists.mp q
theorem yY{CX:CXT}{P:Program}{w:World}{K:PySem.W.Frag}{mg:Str->Option Value}{base:Heap}{N ps:List Str}{qual:Str}{scope:Scope}{f:Addr}{cd:Value}{A:Around}{outer:List Env}{s s1:Shared}{H:Hp}{E:XK}{us:List Value}{vs:List V}
 (S:qR N ps scope) (hd:A.handled=none) (e0:aDo P w K mg base A outer s H) (hl:vs.length=ps.length) (r:aW vs us)
 (x:InCallC s s.heap.objs.size (bindL (envOfC qual scope s.heap.objs.size f cd).kindOf (ps.zip us) λ_=>none) (cellsFrom (s.heap.objs.size+1) scope.names []) (bindC (envOfC qual scope s.heap.objs.size f cd).kindOf (ps.zip us) λ_=>none) s1) :
 Inv (qS CX P w K mg base N qual scope f cd A outer s H E) [] (start N vs) H s1:=by
 have hpl:ps.length<=N.length:=by have:=congrArg List.length S.pre;rw[List.length_take] at this;omega
 obtain⟨h1,tk,rfl,hk⟩:=x.done
 have noA:∀b:Addr,b∉(qS CX P w K mg base N qual scope f cd A outer s H E).ex:=λb z=>absurd (show b∈([]:List Addr) from z) (by simp)
 refine⟨⟨e0.mod,S.kind,rfl,rfl,Nat.le_refl _,λy z c h1 h2=>?_,λy hy=>?_,λy c _ h=>?_,λ_=>hd,Around.frames_deeper e0.frames,.inr ⟨rfl,rfl⟩,λb z=>absurd z (noA b),e0.bs,e0.bsz,λb _ _=>noA b,λb z=>absurd z (noA b),e0.funs,e0.frf⟩,
  rfl,e0.bare,Un.kept hk,⟨_,x.toInCall.ns,λi y v h1 h2 h3=>?_⟩,λy c h=>⟨_,x.cell y c h⟩,e0.hok.fresh (Nat.le_refl _),λy c h=>?_,λp hp=>absurd (show p∈([]:List (Addr×Obj)) from hp) (by simp),e0.hok.kept hk,?_⟩
 . exact name_of_addr x.apart (PySem.mem_of_lookup h1) (PySem.mem_of_lookup h2)
 . have hy:scope.names.lookup y=some .cell\/scope.names.lookup y=some .free:=hy
   rcases hy with hy|hy
   . exact sX hy
   . exact absurd rfl (S.nofree _ (PySem.mem_of_lookup hy))
 . exact Nat.le_of_lt (x.above y c (PySem.mem_of_lookup h))
 . have hi:i<vs.length:=by
    unfold start at h2
    by_cases hi:i<vs.length
    . exact hi
    . rw[List.getElem?_append_right (by simpa using hi)] at h2
      rw[List.getElem?_replicate] at h2
      split at h2 <;> cases h2
   have ha:vs[i]? = some v:=by
    unfold start at h2
    rw[List.getElem?_append_left (by simpa using hi),List.getElem?_map] at h2
    cases e:vs[i]? with
    | none=>rw[e] at h2;cases h2
    | some a=>rw[e] at h2;cases h2;rfl
   obtain⟨u,hu,rv⟩:=r.get ha
   have hp:ps[i]? = some y:=by
    rw[<-S.pre,List.getElem?_take_of_lt (by omega)];exact h1
   have ndP:ps.Nodup:=by rw[<-S.pre];exact S.nd.sublist (List.take_sublist _ _)
   refine⟨u,rv,?_⟩
   rcases S.par y (List.mem_of_getElem? hp) with k|k
   . exact .inl ⟨k,pJ ndP hp hu k⟩
   . obtain⟨c,e⟩:=sX (n:=s.heap.objs.size+1) k
     refine .inr ⟨.inl k,c,e,?_⟩
     have q:=x.cell y c e
     rw[pK ndP hp hu (by show scope.names.lookup y≠_;rw[k];decide)] at q
     exact q
 . exact e0.hok.fresh (Nat.le_of_lt (x.above y c (PySem.mem_of_lookup h)))
 . unfold start
   show _=N.length
   rw[List.length_append,List.length_map,List.length_replicate]
   omega
theorem aHH{CX:CXT}{P:Program}{w:World}{K:PySem.W.Frag}{mg:Str->Option Value}{base:Heap}{k:Nat}{f:Addr}{name qual:Str}{params:Arguments}{body:List Stmt}{scope:Scope}{dV kV doc pm cdv ct oc:Value}{an od:Option Addr}
 {osl:Array (Option Value)} {N ps:List Str} {sp:Sp} (lk:K.lookup f=some ⟨oc,od,.func (PySem.W.fnOf name qual params body scope dV kV doc pm an cdv ct),osl⟩) (hcd:PySem.W.codeIn K cdv qual=true) (S:qR N ps scope)
 (len:∀vs H Q E,sp vs H Q E->vs.length=ps.length)
 (hbody:∀(A:Around) (outer:List Env) (s:Shared) (H:Hp) (vs:List V) (Q:VK) (E:XK),mJ k (A.deeper (envOfC qual scope s.heap.objs.size f cdv))->sp vs H Q E ->
  ∃t,PSs (qS CX P w K mg base N qual scope f cdv A outer s H E) body t/\t { nx:=λ_ H'=>Q .non H',rt:=Q } (start N vs) H) :
 qQ P w K mg base CX (k+1) f (PySem.W.fnOf name qual params body scope dV kV doc pm an cdv ct) ps sp:=by
 refine⟨len,λA outer s H args us vs Q E hr e0 hb r hsp=>?_⟩
 have hl:=len _ _ _ _ hsp
 have KX:K.In s.heap:=e0.mod.kin.keeps λb o e=>(e0.bs b o e).1
 have lim:s.heap.NoLimit:=e0.mod.nolimit.keeps λb o e=>(e0.bs b o e).1
 have hkind:∀y∈ps.zip us,scope.names.lookup y.1=some .local\/(scope.names.lookup y.1=some .cell/\((cellsFrom (s.heap.objs.size+1) scope.names []).lookup y.1).isSome=true):=λ⟨n,v⟩ hy=>by
  rcases S.par n (List.of_mem_zip hy).1 with q|q
  . exact .inl q
  . exact .inr ⟨q,PySem.W.cellsFrom_some _ _ _ (.inl q)⟩
 refine codeAny_call_function hr.depth (KX _ _ lk) rfl S.co S.gen rfl (PySem.W.codeRec_of KX hcd) (hb _ _ _ _ ?_)
 refine wpAny_newFunctionEnv_cells S.kind hkind λenv he s1 x=>?_
 subst he
 refine⟨lim.keeps x.toInCall.keep,codeAny_func ?_⟩
 obtain⟨t,ht,hq⟩:=hbody A outer s H vs Q E (hr.deeper _) hsp
 have I:Inv (qS CX P w K mg base N qual scope f cdv A outer s H E) [] (start N vs) H s1:=yY S hr.hd e0 hl r x
 refine wpAny_mono (ht [] s1 (start N vs) H _ I hq) (λfl s' hs=>?_) λe s' hs=>hs
 have fin:∀{σ':St} {H':Hp} {v:V} {u:Value},Inv (qS CX P w K mg base N qual scope f cdv A outer s H E) [] σ' H' s'->bQ v u->Q v H'->CE outer P w H s Q u s':=
  λ{σ' H' v u} J rv q=>⟨v,H',J.os,J.bare,J.base,J.hok,rv,q⟩
 cases fl with
 | ret u=>
  obtain⟨v,σ',H',J,rv,q⟩:=hs
  exact fin J rv q
 | next=>
  obtain⟨σ',H',J,q⟩:=hs
  exact fin (v:=V.non) (u:=Value.none) J rfl q
 | brk=>
  obtain⟨_,_,_,q⟩:=hs
  exact False.elim q
 | cont=>
  obtain⟨_,_,_,q⟩:=hs
  exact False.elim q
end L2
namespace L2
open PySem PySem.Spec PyProof.Rows
section
variable {X:Cx} {x:Str} {p pos:Pos} {e:Expr} {es:List Expr} {t:TA} {id T:String} {r:List V->Hp->VK->Prop}
def tCB(r:List V->Hp->VK->Prop)(t:TA):TE:=λσ H Q=>t σ H λvs H1=>r vs H1 Q
theorem aAH(hc:gK X (.builtin id) r)(hg:Gl X x)(hm:X.mg x=none)(hv:bootBuiltins x=some (.builtin id))(ha:PA X (e::es) t)(hn:x ≠ "__name__" := by decide)(hdb:(x==("__debug__" : Str))=false:=by decide)
 (he:starEach (e::es) X.env=(false,eval e X.env)::starEach es X.env:=by rfl) (hpl:(backTo pos (starEach es X.env)).any (·.1)=false:=by rfl):PE X (.Call (.Name x p) (e::es) [] pos) (tCB r t):=by
 intro pins s σ H Q I h
 refine wpAny_Call_Name_kw (eV I hg hm hv ?_ hn hdb)
 exact PyProof.Rows.callWith_builtin1 (thn (ha pos pins s σ H _ I h) λus s1 ⟨vs,H1,I1,r1,q1⟩=>hc pins s1 σ H1 vs us Q I1 r1 q1) he hpl
theorem pL(hc:gK X (.type T) r)(hg:Gl X x)(hm:X.mg x=none)(hv:bootBuiltins x=some (.type T))(ha:PA X (e::es) t)(hn:x ≠ "__name__" := by decide)(hdb:(x==("__debug__" : Str))=false:=by decide)
 (he:starEach (e::es) X.env=(false,eval e X.env)::starEach es X.env:=by rfl) (hpl:(backTo pos (starEach es X.env)).any (·.1)=false:=by rfl):PE X (.Call (.Name x p) (e::es) [] pos) (tCB r t):=by
 intro pins s σ H Q I h
 refine wpAny_Call_Name_kw (eV I hg hm hv ?_ hn hdb)
 exact PyProof.Rows.callWith_type1 (thn (ha pos pins s σ H _ I h) λus s1 ⟨vs,H1,I1,r1,q1⟩=>hc pins s1 σ H1 vs us Q I1 r1 q1) he hpl
end
end L2
namespace HT
open PySem PyProof.Rows
section
open PySem.SeqAt
open PySem.AutoSeq1 (wpAny_loadPart')
open PySem.MeetsSeq PySem.MeetsSeq2 PySem.MeetsSeq3
end
section
variable {prog:Program} {w:World} {A:Around} {E:Value->Shared->Prop} {s:Shared}
theorem cat_tup{t b:Addr}{vs ws:List Value}{Q:Value->Shared->Prop}(ht:IsTup s.heap t vs.toArray)(hb:IsTup s.heap b ws.toArray)(hv:vs≠[])
 (h1:ws=[]->Q (.ref t) s) (h2:ws≠[]->Q (.ref s.heap.objs.size) { s with heap:=s.heap.push { cls:=.type "tuple",data:=.seq (vs++ws).toArray } })
 (hsz:vs.length+ws.length<=sizeLine):wpAny (model prog w) A (binaryOp .Add (.ref t) (.ref b)) Q E s:=by
 obtain⟨⟨cls,dd,data,sl⟩,ho,hc,n,hd⟩:=id ht
 obtain⟨⟨cls2,dd2,data2,sl2⟩,ho2,hc2,n2,hd2⟩:=id hb
 simp only at hc hd hc2 hd2
 subst hc hd hc2 hd2
 have e:vs.toArray++ws.toArray=(vs++ws).toArray:=by simp
 by_cases hw:ws=[]
 . exact concat_meets ⟨_,ho,rfl⟩ ⟨_,ho2,rfl⟩ noFill_tuple_add seq_tuple_add PySem.F.slot_tuple_add PySem.F.entry_tuple_add (PySem.F.args_tuple_add_2 _ _)
    (tuple_addW1 t b vs.toArray ws.toArray n n2 dd dd2 sl sl2 (by simpa using hv) (by simp[hw])) ⟨ho,ho2,h1 hw⟩
 . refine concat_meets ⟨_,ho,rfl⟩ ⟨_,ho2,rfl⟩ noFill_tuple_add seq_tuple_add PySem.F.slot_tuple_add PySem.F.entry_tuple_add (PySem.F.args_tuple_add_2 _ _)
    (tuple_addW2 t b vs.toArray ws.toArray n n2 dd dd2 sl sl2 (by simpa using hv) (by simpa using hw) (by rw[List.size_toArray,List.size_toArray];exact hsz)) ⟨ho,ho2,?_⟩
   rw[e]
   exact h2 hw
def sIx(n d:Nat):Option Int->Nat
 | none=>d
 | some v=>if v<0 then (v+(n:Int)).toNat else min v.toNat n
theorem aFF(n d:Nat)(hd:d<=n)(o:Option Int):sIx n d o<=n:=by
 cases o with
 | none=>exact hd
 | some v=>
  show(if v<0 then (v+(n:Int)).toNat else min v.toNat n)<=n
  by_cases hv:v<0
  . rw[if_pos hv];omega
  . rw[if_neg hv];exact Nat.min_le_right _ _
theorem wR(v:Int)(n d:Nat):(if v<0 then max (v+(n:Int)) 0 else min v (n:Int))=((sIx n d (some v):Nat):Int):=by
 show(if v<0 then max (v+(n:Int)) 0 else min v (n:Int))=(((if v<0 then (v+(n:Int)).toNat else min v.toNat n):Nat):Int)
 by_cases hv:v<0
 . simp only[if_pos hv];omega
 . simp only[if_neg hv];omega
theorem vI(lo hi:Option Int)(n:Nat):Builtin.Slice.sliceAdjust lo hi 1 (n:Int)=(((sIx n 0 lo:Nat):Int),((sIx n n hi:Nat):Int)):=by
 have h1:¬ ((1:Int)<0):=by omega
 unfold Builtin.Slice.sliceAdjust
 simp only[h1,if_false]
 refine Prod.ext ?_ ?_
 . cases lo with
   | none=>rfl
   | some v=>exact wR v n 0
 . cases hi with
   | none=>rfl
   | some v=>exact wR v n n
theorem vJ(i j:Nat):Builtin.Slice.slicePlaces (i:Int) (j:Int) 1=j-i:=by
 unfold Builtin.Slice.slicePlaces
 have h1:(1:Int)>0:=by omega
 simp only[h1,if_true,Int.ediv_one]
 split <;> omega
theorem nI{v:Value}{o:Option Int}{Q:Option Int->Shared->Prop}(p:IsPart v o)(h:Q o s):wpAny (model prog w) A (Builtin.Slice.slicePartIndex v) Q E s:=by
 cases p with
 | none=>exact slicePart_none h
 | int i t=>exact slicePart_int h
theorem sliceApplied_gen{sl:Addr}{vl vu:Value}{lo hi:Option Int}{n:Nat}{Q:Int×Int×Nat->Shared->Prop}(hs:s.heap.IsSliceOf sl vl vu .none)(pl:IsPart vl lo)(pu:IsPart vu hi)
 (h:Q (((sIx n 0 lo:Nat):Int),1,sIx n n hi-sIx n 0 lo) s):wpAny (model prog w) A (Builtin.Slice.sliceApplied (.ref sl) (pure (n:Int))) Q E s:=by
 obtain⟨os,hos,hcs,hds⟩:=id hs
 unfold Builtin.Slice.sliceApplied Builtin.Slice.sliceFields
 refine wpAny_bind (wpAny_bind (wpAny_field hos hds (x:=vl) rfl (wpAny_bind (wpAny_field hos hds (x:=vu) rfl (wpAny_bind (wpAny_field hos hds (x:=.none) rfl (wpAny_pure ?_)))))))
 refine wpAny_bind (slicePart_none ?_)
 show wpAny _ _ (if ((1:Int)==0)=true then _ else _) _ _ s
 rw[if_neg (by decide)]
 refine wpAny_bind (nI pl (wpAny_bind (nI pu (wpAny_bind (wpAny_pure ?_)))))
 show wpAny _ _ (match Builtin.Slice.sliceAdjust lo hi 1 (n:Int) with|(lo,hi)=>pure (lo,(1:Int),Builtin.Slice.slicePlaces lo hi 1)) _ _ s
 rw[vI lo hi n]
 show wpAny _ _ (pure (((sIx n 0 lo:Nat):Int),(1:Int),Builtin.Slice.slicePlaces ((sIx n 0 lo:Nat):Int) ((sIx n n hi:Nat):Int) 1)) _ _ s
 rw[vJ]
 exact wpAny_pure h
theorem aAI(xs:Array Value)(i k:Nat):((List.range k).filterMap λ(m:Nat)=>xs[((i:Int)+(m:Int)*1).toNat]?).toArray=((xs.toList.drop i).take k).toArray:=by
 have e:(λ(m:Nat)=>xs[((i:Int)+(m:Int)*1).toNat]?)=λm=>xs[i+m]? := by
  funext m
  have:((i:Int)+(m:Int)*1).toNat=i+m:=by omega
  rw[this]
 rw[e]
 have:=pick_run xs i k
 rw[List.filterMap_map] at this
 have e2:((λx=>xs[x]?)∘λx=>i+x)=λm=>xs[i+m]? := rfl
 rw[e2] at this
 rw[this]
theorem getItem_tuple_cut{t sl:Addr}{items:Array Value}{vl vu:Value}{lo hi:Option Int}{Q:Value->Shared->Prop}(ht:IsTup s.heap t items)(hs:s.heap.IsSliceOf sl vl vu .none)(pl:IsPart vl lo)(pu:IsPart vu hi)
 (hw:¬ (sIx items.size 0 lo=0/\sIx items.size items.size hi=items.size))
 (h:Q (.ref s.heap.objs.size) { s with heap:=s.heap.push { cls:=.type "tuple",data:=.seq ((items.toList.drop (sIx items.size 0 lo)).take (sIx items.size items.size hi-sIx items.size 0 lo)).toArray } })
 (hsz:items.size<=sizeLine):wpAny (model prog w) A (getItem (.ref t) (.ref sl)) Q E s:=by
 have htake:sizeOk (.seq ((items.toList.drop (sIx items.size 0 lo)).take (sIx items.size items.size hi-sIx items.size 0 lo)).toArray):=by
  show((items.toList.drop (sIx items.size 0 lo)).take (sIx items.size items.size hi-sIx items.size 0 lo)).toArray.size<=sizeLine
  rw[List.size_toArray,List.length_take,List.length_drop,Array.length_toList]
  omega
 have hj:sIx items.size items.size hi<=items.size:=aFF _ _ (Nat.le_refl _) hi
 obtain⟨os,hos,hcs,hds⟩:=id hs
 have hTs:s.TypeIs (.ref sl) "slice" := ⟨os,hos,hcs⟩
 unfold getItem
 try with_reducible refine wpAny_holding ?_
 first|refine wpAny_bind (wpAny_pure ?_)|skip
 refine wpAny_bind (wpAny_sequenceKey ht.typeIs (by decide) ?_)
 refine wpAny_bind (wpAny_callSpecial?_slot (name:=Str.ofString "__getitem__") ht.typeIs PyProof.Rows.slot_tuple_getitem
  (wpAny_call_entry PyProof.Rows.slot_tuple_getitem ht.typeIs entry_tuple_getitem ?_ (args_tuple_getitem _ _)))
 show wpAny _ _ (Builtin.Tuple.tupleItemsOf (.ref t) >>= _) _ _ s
 refine wpAny_bind (tupleItemsOf_ ht ?_)
 refine wpAny_bind (wpAny_typeOf hTs ?_)
 rw[if_pos (by decide)]
 refine wpAny_bind (sliceApplied_gen hs pl pu ?_)
 have hno:¬ ((((sIx items.size 0 lo:Nat):Int)==0&&(1:Int)==1&&(sIx items.size items.size hi-sIx items.size 0 lo)==items.size)=true):=by
  intro q
  rw[Bool.and_eq_true,Bool.and_eq_true] at q
  have q1:((sIx items.size 0 lo:Nat):Int)=0:=eq_of_beq q.1.1
  have q2:sIx items.size items.size hi-sIx items.size 0 lo=items.size:=eq_of_beq q.2
  exact hw ⟨by omega,by omega⟩
 show wpAny _ _ (if (((sIx items.size 0 lo:Nat):Int)==0&&(1:Int)==1&&(sIx items.size items.size hi-sIx items.size 0 lo)==items.size)=true then _ else _) _ _ s
 rw[if_neg hno,aAI]
 first
  | exact wpAny_bind (m:=Builtin.Tuple.tupleExact _) (wpAny_newObj_type (wpAny_pure ⟨_,rfl,wpAny_pure h⟩) htake)
  | exact wpAny_bind (m:=Builtin.Tuple.tupleExact _) (wpAny_newObj_type (wpAny_bind (wpAny_pure (wpAny_pure ⟨_,rfl,wpAny_pure h⟩))) htake)
  | exact wpAny_bind (wpAny_bind (m:=Builtin.Tuple.tupleExact _) (wpAny_newObj_type (wpAny_pure (wpAny_pure ⟨_,rfl,wpAny_pure h⟩)) htake))
  | exact wpAny_bind (wpAny_bind (m:=Builtin.Tuple.tupleExact _) (wpAny_newObj_type (wpAny_pure ⟨_,rfl,wpAny_pure h⟩) htake))
end
end HT
namespace L2
open PySem PySem.Spec PyProof.Rows
abbrev TO:=St->Hp->(Option Int->Hp->Prop)->Prop
def PO(X:Cx)(e:Option Expr)(t:TO):Prop:=
 ∀(pins:List (Addr×Obj)) (s:Shared) (σ:St) (H:Hp) (Q:Option Int->Hp->Prop),Inv X pins σ H s->t σ H Q ->
  wpAny (model X.prog X.w) X.A (evalPart e X.env) (λu s'=>∃o H',Inv X pins σ H' s'/\IsPart u o/\Q o H') X.xe s
def aDp:TO:=λ_ H Q=>Q none H
def aHI(t:TE):TO:=λσ H Q=>t σ H λx H1=>∃i,x=.int i/\Q (some i) H1
section
variable {X:Cx} {e:Expr} {te:TE} {lo hi:Option Expr} {tl th:TO} {pos p2:Pos}
theorem aDq:PO X none aDp:=by
 intro pins s σ H Q I h
 rw[evalPart_none]
 exact wpAny_pure ⟨none,H,I,.none,h⟩
theorem aDr(h:PE X e te):PO X (some e) (aHI te):=by
 intro pins s σ H Q I hw
 rw[evalPart_some]
 refine thn (h pins s σ H _ I hw) λu s1 ⟨x,H1,I1,r1,q1⟩=>?_
 obtain⟨i,rfl,q⟩:=q1
 obtain⟨t,rfl⟩:=r1
 exact⟨some i,H1,I1,.int i t,q⟩
def SlR(X:Cx)(r:V->Option Int->Option Int->Hp->VK->Prop):Prop:=
 ∀(pins:List (Addr×Obj)) (s:Shared) (σ:St) (H:Hp) (x:V) (v vl vu:Value) (lo hi:Option Int) (sl:Addr) (Q:VK),Inv X pins σ H s->bQ x v->s.heap.IsSliceOf sl vl vu .none->IsPart vl lo->IsPart vu hi->r x lo hi H Q ->
  ∃T id,typeLookup (.type T) "__getitem__" = pure (some (.builtin id))/\s.TypeIs v T/\wpAny (model X.prog X.w) X.A (getItem v (.ref sl)) (EP X pins σ Q) X.xe s
theorem SlR.or{r r':V->Option Int->Option Int->Hp->VK->Prop}(h:SlR X r)(h':SlR X r'):SlR X (λx lo hi H Q=>r x lo hi H Q\/r' x lo hi H Q):=by
 intro pins s σ H x v vl vu lo hi sl Q I rx hs pl pu q
 rcases q with q|q
 . exact h pins s σ H x v vl vu lo hi sl Q I rx hs pl pu q
 . exact h' pins s σ H x v vl vu lo hi sl Q I rx hs pl pu q
def tSl(r:V->Option Int->Option Int->Hp->VK->Prop)(te:TE)(tl th:TO):TE:=λσ H Q=>te σ H λx H1=>tl σ H1 λl H2=>th σ H2 λu H3=>r x l u H3 Q
theorem aAJ{r:V->Option Int->Option Int->Hp->VK->Prop}(hr:SlR X r)(he:PE X e te)(hl:PO X lo tl)(hu:PO X hi th):PE X (.Subscript e (.Slice lo hi none p2) pos) (tSl r te tl th):=by
 intro pins s σ H Q I h
 refine Subscript_ (thn (he pins s σ H _ I h) λv s1 ⟨x,H1,I1,r1,q1⟩=>?_)
 refine wpAny_Slice (thn (hl pins s1 σ H1 _ I1 q1) λvl s2 ⟨l,H2,I2,pl,q2⟩=>thn (hu pins s2 σ H2 _ I2 q2) λvu s3 ⟨u,H3,I3,pu,q3⟩=>?_)
 rw[evalPart_none]
 refine wpAny_pure ?_
 have I4:Inv X pins σ H3 { s3 with heap:=s3.heap.push { cls:=.type "slice",data:=.fields #[vl,vu,.none] } }:=I3.kept (t':=s3.toks) λb ob q=>Heap.get?_push_of_some _ q
 obtain⟨T,id,hT,ht,hg⟩:=hr pins { s3 with heap:=s3.heap.push { cls:=.type "slice",data:=.fields #[vl,vu,.none] } } σ H3 x v vl vu l u s3.heap.objs.size Q I4 r1 (Heap.IsSliceOf.new ..) pl pu q3
 show wpAny (model X.prog X.w) X.A (subscriptTail e (.Slice lo hi none p2) v (.ref s3.heap.objs.size)) (EP X pins σ Q) X.xe { s3 with heap:=s3.heap.push { cls:=.type "slice",data:=.fields #[vl,vu,.none] } }
 exact tail_any (ops:=[.ref s3.heap.objs.size,v]) ht hT hg (by with_unfolding_all rfl)
def sY(xs:List V)(lo hi:Option Int):List V:=(xs.drop (HT.sIx xs.length 0 lo)).take (HT.sIx xs.length xs.length hi-HT.sIx xs.length 0 lo)
theorem mB(xs:List V)(lo hi:Option Int):(sY xs lo hi).length<=xs.length:=by
 unfold sY
 rw[List.length_take,List.length_drop]
 omega
def aAK(K:PySem.W.Frag):V->Option Int->Option Int->Hp->VK->Prop:=λx lo hi H Q=>∃a xs,x=.ref a/\SqT K H a xs /\
 ¬ (HT.sIx xs.length 0 lo=0/\HT.sIx xs.length xs.length hi=xs.length)/\∀p,H p=none->Q (.ref p) (upd H p (.tup (sY xs lo hi)))
theorem aFG:SlR X (aAK X.K):=by
 intro pins s σ H x v vl vu lo hi sl Q I rx hs pl pu h
 obtain⟨a,xs,rfl,hx,hw,q⟩:=h
 cases rx
 obtain⟨its,r,ht,hz⟩:=I.tuple hx
 have hlen:its.toArray.size=xs.length:=by rw[List.size_toArray];exact r.length.symm
 refine⟨"tuple",_,PyProof.Rows.slot_tuple_getitem.lookup,ht.typeIs,?_⟩
 refine HT.getItem_tuple_cut ht hs pl pu (by rw[hlen];exact hw) ?_ (by rw[hlen];exact hz)
 rw[hlen]
 refine⟨.ref s.heap.objs.size,_,I.laid (t':=s.toks) (o:=.tup (sY xs lo hi)) (λb ob q=>Heap.get?_push_of_some _ q) (Nat.le_refl _) ?_,rfl,q _ (I.hok.fresh (Nat.le_refl _))⟩
 exact⟨Nat.le_trans (mB xs lo hi) hz,_,(r.drop (HT.sIx xs.length 0 lo)).take (HT.sIx xs.length xs.length hi-HT.sIx xs.length 0 lo),IsTup.new _ _⟩
def aHJ(K:PySem.W.Frag):R2:=λx y H Q=>∃a b xs ys,x=.ref a/\y=.ref b/\SqT K H a xs/\SqT K H b ys/\xs≠[]/\xs.length+ys.length<=sizeLine /\
 (ys=[]->Q (.ref a) H)/\(ys≠[]->∀p,H p=none->Q (.ref p) (upd H p (.tup (xs++ys))))
theorem aW.nil_iff{xs:List V}{us:List Value}(r:aW xs us):us=[]↔xs=[]:=by
 cases r with
 | nil=>simp
 | cons _ _=>simp
theorem aDs:OpR X (binaryOp .Add) (aHJ X.K):=by
 intro pins s σ H x y v u Q I rx ry h
 obtain⟨a,b,xs,ys,rfl,rfl,ha,hb,hx,hz,q1,q2⟩:=h
 cases rx
 cases ry
 obtain⟨its,r1,p1,_⟩:=I.tuple ha
 obtain⟨its2,r2,p2,_⟩:=I.tuple hb
 refine HT.cat_tup p1 p2 (λz=>hx (r1.nil_iff.mp z)) (λz=>⟨.ref a,H,I,rfl,q1 (r2.nil_iff.mp z)⟩) (λz=>?_) (by rw[<-r1.length,<-r2.length];exact hz)
 refine⟨.ref s.heap.objs.size,_,I.laid (t':=s.toks) (o:=.tup (xs++ys)) (λb ob q=>Heap.get?_push_of_some _ q) (Nat.le_refl _) ?_,rfl,q2 (λw=>z (r2.nil_iff.mpr w)) _ (I.hok.fresh (Nat.le_refl _))⟩
 exact⟨by rw[List.length_append];exact hz,_,r1.append r2,IsTup.new _ _⟩
end
end L2
namespace L2
open PySem PySem.Spec PyProof.Rows
def ixN(n:Nat)(i:Int):Option Nat:=if 0<=i then (if i<n then some i.toNat else none) else if -(n:Int)<=i then some (i+n).toNat else none
def atI{α:Type}(xs:List α)(i:Int):Option α:=(ixN xs.length i).bind λj=>xs[j]?
theorem aDt{n:Nat}{i:Int}{j:Nat}(h:ixN n i=some j):seqIndex? i n=some j/\j<n/\-(n:Int)<=i/\i<n:=by
 unfold ixN at h
 by_cases h0:0<=i
 . rw[if_pos h0] at h
   by_cases h1:i<n
   . rw[if_pos h1] at h
     have e:i.toNat=j:=Option.some.inj h
     exact⟨by rw[seqIndex_of h0 h1,e],by omega,by omega,h1⟩
   . rw[if_neg h1] at h;cases h
 . rw[if_neg h0] at h
   by_cases h1:-(n:Int)<=i
   . rw[if_pos h1] at h
     have e:(i+n).toNat=j:=Option.some.inj h
     exact⟨by rw[seqIndex_neg (by omega) h1,e],by omega,h1,by omega⟩
   . rw[if_neg h1] at h;cases h
theorem qT{α:Type}{xs:List α}{i:Int}{v:α}(h:atI xs i=some v):∃j,seqIndex? i xs.length=some j/\xs[j]? = some v/\j<xs.length/\-(xs.length:Int)<=i/\i<xs.length:=by
 unfold atI at h
 cases e:ixN xs.length i with
 | none=>rw[e] at h;cases h
 | some j=>
  rw[e] at h
  obtain⟨h1,h2,h3,h4⟩:=aDt e
  exact⟨j,h1,h,h2,h3,h4⟩
def wU(b:Expr):Prop:=∀o i,subscripted b false o i=operate [o,i] (getItem o i)
def IxR(X:Cx)(r:R2):Prop:=
 ∀(value slice:Expr) (pins:List (Addr×Obj)) (s:Shared) (σ:St) (H:Hp) (x y:V) (v u:Value) (Q:VK),Inv X pins σ H s->bQ x v->bQ y u->r x y H Q ->
  subscripted slice false v u=operate [v,u] (getItem v u)->wpAny (model X.prog X.w) X.A (subscriptTail value slice v u) (EP X pins σ Q) X.xe s
def MtR(X:Cx)(id:String)(r:V->List V->Hp->VK->Prop):Prop:=
 ∀(pins:List (Addr×Obj)) (s:Shared) (σ:St) (H:Hp) (x:V) (xs:List V) (v:Value) (us:List Value) (Q:VK),Inv X pins σ H s->bQ x v->aW xs us->r x xs H Q ->
  wpAny (model X.prog X.w) X.A (call (.builtin id) (v::us)) (EP X pins σ Q) X.xe s
section
variable {X:Cx} {a b:Expr} {ta tb:TE} {pos:Pos}
theorem IxR.or{r r':R2}(h:IxR X r)(h':IxR X r'):IxR X (λx y H Q=>r x y H Q\/r' x y H Q):=by
 intro value slice pins s σ H x y v u Q I rx ry q hs
 rcases q with q|q
 . exact h value slice pins s σ H x y v u Q I rx ry q hs
 . exact h' value slice pins s σ H x y v u Q I rx ry q hs
theorem aHK{r:R2}(hr:IxR X r)(ha:PE X a ta)(hb:PE X b tb)(hs:wU b):PE X (.Subscript a b pos) (tOp r ta tb):=by
 intro pins s σ H Q I h
 exact Subscript_ (aHA ha hb I h λv u s2 x y H2 I2 rx ry q=>hr a b pins s2 σ H2 x y v u Q I2 rx ry q (hs _ _))
def aHL(K:PySem.W.Frag):R2:=λx y H Q=>∃p xs i v,x=.ref p/\y=.int i/\SqL K H p xs/\atI xs i=some v/\Q v H
def aHM(K:PySem.W.Frag):R2:=λx y H Q=>∃p xs i v,x=.ref p/\y=.int i/\SqT K H p xs/\atI xs i=some v/\Q v H
def aHN:R2:=λx y H Q=>∃z i c,x=.str z/\y=.int i/\z.length<=sizeLine/\atI z.cps.toList i=some c/\Q (.str ⟨#[c]⟩) H
theorem aDu:IxR X (aHL X.K):=by
 intro value slice pins s σ H x y v u Q I rx ry h hs
 obtain⟨p,xs,i,z,rfl,rfl,hq,he,q⟩:=h
 cases rx
 obtain⟨t,rfl⟩:=ry
 obtain⟨its,r,pl,hz⟩:=I.list hq
 obtain⟨j,h1,h2,h3,h4,h5⟩:=qT he
 obtain⟨w,ew,rw'⟩:=r.get h2
 have hl:=r.length
 have hn:=kZ
 have fin:EP X pins σ Q w s:=⟨z,H,I,rw',q⟩
 by_cases h0:0<=i
 . have hj:i.toNat=j:=by
    rw[seqIndex_of h0 h5] at h1
    exact Option.some.inj h1
   exact item_listR pl.isList h0 (by omega) (by rw[hj];simpa using ew) fin hs
 . have hj:(i+(its.toArray.size:Int)).toNat=j:=by
    rw[seqIndex_neg (by omega) h4] at h1
    rw[List.size_toArray,<-hl]
    exact Option.some.inj h1
   exact subscriptTail_builtinR (x:=w) pl.isList.typeIs slot_list_getitem.lookup
    (wpAny_getItem_list_neg (Q:=λr s'=>r=w/\EP X pins σ Q r s') pl.isList (by omega) (by rw[List.size_toArray] <;> omega) (by omega) (by rw[hj];simpa using ew) ⟨rfl,fin⟩) hs
theorem aFH:IxR X (aHM X.K):=by
 intro value slice pins s σ H x y v u Q I rx ry h hs
 obtain⟨p,xs,i,z,rfl,rfl,hq,he,q⟩:=h
 cases rx
 obtain⟨t,rfl⟩:=ry
 obtain⟨its,r,pl,hz⟩:=I.tuple hq
 obtain⟨j,h1,h2,h3,h4,h5⟩:=qT he
 obtain⟨w,ew,rw'⟩:=r.get h2
 have hl:=r.length
 have hn:=kZ
 have fin:EP X pins σ Q w s:=⟨z,H,I,rw',q⟩
 exact subscriptTail_builtinR (x:=w) pl.typeIs slot_tuple_getitem.lookup
  (getItem_tuple (j:=j) (Q:=λr s'=>r=w/\EP X pins σ Q r s') pl (by omega) (by omega) (by rw[List.size_toArray,<-hl];exact h1) (by simpa using ew) ⟨rfl,fin⟩) hs
theorem aFI:IxR X aHN:=by
 intro value slice pins s σ H x y v u Q I rx ry h hs
 obtain⟨z,i,c,rfl,rfl,hz,he,q⟩:=h
 obtain⟨t,rfl⟩:=rx
 obtain⟨t',rfl⟩:=ry
 obtain⟨j,h1,h2,h3,h4,h5⟩:=qT he
 have hl:z.cps.toList.length=z.length:=by simp[Str.length]
 rw[hl] at h1 h4 h5
 have hn:=kZ
 exact tail_any (typeIs_str s z t) slot_str_getitem.lookup (getItem_str (c:=c) (by
  have e1:decide (i < -(2 ^ 63:Int))=false:=decide_eq_false (by omega)
  have e2:decide (i ≥ 2 ^ 63)=false:=decide_eq_false (by omega)
  rw[e1,e2,Bool.or_false]) (by rw[h1];simpa using h2) ⟨.str ⟨#[c]⟩,H,I.tok _,⟨_,rfl⟩,q⟩) hs
def rIx(K:PySem.W.Frag):R2:=λx y H Q=>aHL K x y H Q\/aHM K x y H Q\/aHN x y H Q
theorem aFJ:IxR X (rIx X.K):=aDu.or (aFH.or aFI)
theorem Inv.lst{pins:List (Addr×Obj)}{σ:St}{H:Hp}{s:Shared}{p:Addr}{xs:List V}(I:Inv X pins σ H s)(h:H p=some (.lst xs)) :
 ∃(its:List Value) (n:Nat),aW xs its/\s.heap.get? p=some { cls:=.type "list",data:=.seq its.toArray n }/\xs.length<=sizeLine:=by
 obtain⟨z,its,n,r,e⟩:=I.hok p _ h
 exact⟨its,n,r,e,z⟩
theorem qU(lo hi:Option Int)(n:Nat):(sliceBounds lo hi none n).1=((HT.sIx n 0 lo:Nat):Int)/\(sliceBounds lo hi none n).2.1=((HT.sIx n n hi:Nat):Int)/\(sliceBounds lo hi none n).2.2=1:=by
 refine⟨?_,?_,rfl⟩
 . cases lo with
   | none=>simp[sliceBounds,HT.sIx]
   | some i=>
    simp only[sliceBounds,HT.sIx,Option.getD_none,show(1:Int)>0 by decide,if_true]
    by_cases h:i<0
    . simp only[h,if_true] <;> omega
    . simp only[h,if_false] <;> omega
 . cases hi with
   | none=>simp[sliceBounds,HT.sIx]
   | some i=>
    simp only[sliceBounds,HT.sIx,Option.getD_none,show(1:Int)>0 by decide,if_true]
    by_cases h:i<0
    . simp only[h,if_true] <;> omega
    . simp only[h,if_false] <;> omega
theorem pA(its:List Value)(lo hi:Option Int):slicePick its.toArray lo hi none=((its.drop (HT.sIx its.length 0 lo)).take (HT.sIx its.length its.length hi-HT.sIx its.length 0 lo)).toArray:=by
 obtain⟨h1,h2,h3⟩:=qU lo hi its.toArray.size
 unfold slicePick
 rw[h1,h2,h3]
 simp only[sliceRange_one,pick_run,List.size_toArray] <;> rfl
def aAL(K:PySem.W.Frag):V->Option Int->Option Int->Hp->VK->Prop:=λx lo hi H Q=>∃a xs,x=.ref a/\SqL K H a xs/\∀p,H p=none->Q (.ref p) (upd H p (.lst (sY xs lo hi)))
theorem aDv:SlR X (aAL X.K):=by
 intro pins s σ H x v vl vu lo hi sl Q I rx hs pl pu h
 obtain⟨a,xs,rfl,hx,q⟩:=h
 cases rx
 obtain⟨its,r,ht,hz⟩:=I.list hx
 have hlen:=r.length
 refine⟨"list",_,slot_list_getitem.lookup,ht.isList.typeIs,?_⟩
 refine wpAny_getItem_list_slice ht.isList hs pl pu .none (by simp) ?_ (by rw[List.size_toArray] <;> omega)
 rw[pA,<-hlen]
 refine⟨.ref s.heap.objs.size,_,I.laid (t':=s.toks) (o:=.lst (sY xs lo hi)) (λb ob q=>Heap.get?_push_of_some _ q) (Nat.le_refl _) ?_,rfl,q _ (I.hok.fresh (Nat.le_refl _))⟩
 exact⟨Nat.le_trans (mB xs lo hi) hz,_,0,(r.drop (HT.sIx xs.length 0 lo)).take (HT.sIx xs.length xs.length hi-HT.sIx xs.length 0 lo),Heap.get?_push_size _ rfl⟩
theorem qV:OpR X (compareOp .NotIn) (λx y H Q=>∃i j,x=.str i/\y=.str j/\Q (.bl (!(!(Builtin.Str.occurrences j i 0 j.length 1).isEmpty))) H):=by
 intro pins s σ H x y v u Q I rx ry h
 obtain⟨i,j,rfl,rfl,q⟩:=h
 obtain⟨t,rfl⟩:=rx
 obtain⟨t',rfl⟩:=ry
 exact notIn_str ⟨.bl _,H,I,rfl,q⟩
theorem qW:gK X (.builtin "len") (λxs H Q=>∃p ys,xs=[.ref p]/\(SqL X.K H p ys\/SqT X.K H p ys)/\Q (.int ys.length) H):=by
 intro pins s σ H xs us Q I r h
 obtain⟨p,ys,rfl,hq,q⟩:=h
 obtain⟨u,rfl,rx⟩:=sW r
 cases rx
 have hn:=kZ
 rcases hq with hq|hq
 . obtain⟨its,r',pl,hz⟩:=I.list hq
   have hlen:=r'.length
   exact Calls.call_len_list pl.isList (by simp only[List.size_toArray] <;> omega) ⟨.int ys.length,H,I.tok _,⟨s.toks+1,by rw[List.size_toArray,hlen]⟩,q⟩
 . obtain⟨its,r',pl,hz⟩:=I.tuple hq
   have hlen:=r'.length
   exact len_tuple pl (by simp only[List.size_toArray] <;> omega) ⟨.int ys.length,H,I.tok _,⟨s.toks+1,by rw[List.size_toArray,hlen]⟩,q⟩
theorem qX:gK X (.builtin "len") (λxs H Q=>∃z,xs=[.str z]/\z.length<=sizeLine/\Q (.int z.length) H):=by
 intro pins s σ H xs us Q I r h
 obtain⟨z,rfl,hz,q⟩:=h
 obtain⟨u,rfl,t,rfl⟩:=sW r
 have hn:=kZ
 exact len_str (by omega) ⟨.int z.length,H,I.tok _,⟨_,rfl⟩,q⟩
theorem gK.or{f:Value}{r r':List V->Hp->VK->Prop}(h:gK X f r)(h':gK X f r'):gK X f (λxs H Q=>r xs H Q\/r' xs H Q):=by
 intro pins s σ H xs us Q I rs q
 rcases q with q|q
 . exact h pins s σ H xs us Q I rs q
 . exact h' pins s σ H xs us Q I rs q
theorem qY:gK X (.type "list") (λxs H Q=>∃p ys,xs=[.ref p]/\(SqL X.K H p ys\/SqT X.K H p ys)/\∀l,H l=none->Q (.ref l) (upd H l (.lst ys))):=by
 intro pins s σ H xs us Q I r h
 obtain⟨p,ys,rfl,hq,q⟩:=h
 obtain⟨u,rfl,rx⟩:=sW r
 cases rx
 have fin:∀(its:List Value),aW ys its->ys.length<=sizeLine->∀(h':Heap) (c':Nat),(∀b o',s.heap.get? b=some o'->h'.get? b=some o') ->
  h'.get? s.heap.objs.size=some { cls:=.type "list",dict:=none,data:=.seq its.toArray c',slots:=#[] }->EP X pins σ Q (.ref s.heap.objs.size) { s with heap:=h' }:=λits r' hz h' c' kp e=>
  ⟨.ref s.heap.objs.size,_,I.laid (t':=s.toks) kp (Nat.le_refl _) (show dG X.prog X.w _ h' _ (.lst ys) from⟨hz,its,c',r',e⟩),rfl,q _ (I.hok.fresh (Nat.le_refl _))⟩
 rcases hq with hq|hq
 . obtain⟨its,r',pl,hz⟩:=I.list hq
   have hlen:=r'.length
   obtain⟨o,ho,hc,n,hd⟩:=pl.isList
   exact call_list_seq p (.inl rfl) ho hc hd (λh' c' kp e=>fin its r' hz h' c' kp e) (by simp only[List.size_toArray] <;> omega)
 . obtain⟨its,r',pl,hz⟩:=I.tuple hq
   have hlen:=r'.length
   obtain⟨o,ho,hc,n,hd⟩:=pl
   exact call_list_seq p (.inr rfl) ho hc hd (λh' c' kp e=>fin its r' hz h' c' kp e) (by simp only[List.size_toArray] <;> omega)
def tyV(K:PySem.W.Frag)(T:String)(x:V)(H:Hp):Prop:=match x with
 | .str _=>T = "str"
 | .int _=>T = "int"
 | .ref p=>(T = "list" /\ ∃xs,SqL K H p xs)\/(T = "tuple" /\ ∃o,K.lookup p=some o/\o.cls=.type "tuple" /\ o.dict=none) \/
  (T = "dict" /\ ((∃kvs,H p=some (.dK kvs))\/∃kvs,H p=some (.dT kvs)))\/(T = "set" /\ ∃S n,H p=some (.set S n))
 | _=>False
theorem aAM{pins:List (Addr×Obj)}{σ:St}{H:Hp}{s:Shared}{T:String}{x:V}{v:Value}(I:Inv X pins σ H s)(r:bQ x v)(ty:tyV X.K T x H) :
 s.TypeIs v T/\∀a,v=.ref a->∃ob,s.heap.get? a=some ob/\ob.dict=none:=by
 cases x with
 | str z=>
  obtain⟨t,rfl⟩:=r
  cases(show T = "str" from ty)
  exact⟨typeIs_str s z t,λ_ e=>nomatch e⟩
 | int i=>
  obtain⟨t,rfl⟩:=r
  cases(show T = "int" from ty)
  exact⟨typeIs_int s i t,λ_ e=>nomatch e⟩
 | ref p=>
  cases r
  rcases ty with⟨rfl,xs,hq⟩|⟨rfl,o,hk,hc,hd⟩|⟨rfl,hk⟩|⟨rfl,S,n,hk⟩
  . obtain⟨its,_,pl,_⟩:=I.list hq
    refine⟨pl.isList.typeIs,λa e=>?_⟩
    cases e
    obtain⟨o,n,e,c,hd,_⟩:=pl
    exact⟨o,e,hd⟩
  . refine⟨⟨o,I.kIn p o hk,hc⟩,λa e=>?_⟩
    cases e
    exact⟨o,I.kIn _ o hk,hd⟩
  . have z:∃o,s.heap.get? p=some o/\o.ExactDict:=by
     rcases hk with⟨kvs,hk⟩|⟨kvs,hk⟩
     . obtain⟨_,_,_,_,o,_,_,e,ex,_⟩:=I.hok p _ hk
       exact⟨o,e,ex⟩
     . obtain⟨_,_,_,_,o,_,_,e,ex,_⟩:=I.hok p _ hk
       exact⟨o,e,ex⟩
    obtain⟨o,e,ex⟩:=z
    refine⟨⟨o,e,ex.1⟩,λa e2=>?_⟩
    cases e2
    exact⟨o,e,ex.2.1⟩
  . obtain⟨o,_,_,_,e,ex,_⟩:=I.hok p _ hk
    refine⟨⟨o,e,ex.1⟩,λa e2=>?_⟩
    cases e2
    exact⟨o,e,ex.2.1⟩
 | _=>exact False.elim ty
def aKm(K:PySem.W.Frag)(T:String)(r:V->List V->Hp->VK->Prop)(to:TE):TE:=λσ H Q=>to σ H λx H1=>tyV K T x H1/\r x [] H1 Q
def tBM(K:PySem.W.Frag)(T:String)(r:V->List V->Hp->VK->Prop)(to:TE)(t:TA):TE:=λσ H Q=>to σ H λx H1=>tyV K T x H1/\t σ H1 λxs H2=>r x xs H2 Q
variable {o e:Expr} {es:List Expr} {to:TE} {t:TA} {name:Str} {apos cpos:Pos} {T id:String} {r:V->List V->Hp->VK->Prop}
theorem vK(pa:PlainAttrs T)(slot:Slot T name id)(hty:typeOf (.builtin id)=pure (.type "method_descriptor"))(hm:MtR X id r)(ho:PE X o to)
 (hbase:attributeBase o name X.env (eval o X.env)=eval o X.env:=by rfl) (hline:(apos.endLine==cpos.line)=true:=by rfl):PE X (.Call (.Attribute o name apos) [] [] cpos) (aKm X.K T r to):=by
 intro pins s σ H Q I h
 refine wpAny_Call_method0_late hbase hline (thn (ho pins s σ H _ I h) λv s1 ⟨x,H1,I1,r1,ty,q1⟩=>?_)
 obtain⟨h1,h2⟩:=aAM I1 r1 ty
 exact⟨T,id,pa,slot,hty,h1,h2,Calls.callWith_builtin rfl (PySem.evalArgs_none (hm pins s1 σ H1 x [] v [] Q I1 r1 .nil q1))⟩
theorem aAN(pa:PlainAttrs T)(slot:Slot T name id)(hty:typeOf (.builtin id)=pure (.type "method_descriptor"))(hm:MtR X id r)(ho:PE X o to)(ha:PA X (e::es) t)
 (hbase:attributeBase o name X.env (eval o X.env)=eval o X.env:=by rfl)
 (hfew:((backTo cpos (starEach (e::es) X.env)).all (λx=>!x.1)&&(backToKw cpos (keywordEach [] X.env)).all (λx=>x.1.isSome)
  && decide ((e::es).length+([]:List Keyword).length+(if ([]:List Keyword).isEmpty then 0 else 1)<30))=true:=by rfl)
 (hline:(apos.endLine==cpos.line)=true:=by rfl) (hs:starEach (e::es) X.env=(false,eval e X.env)::starEach es X.env:=by rfl) (hplain:(backTo cpos (starEach es X.env)).any (·.1)=false:=by rfl) :
 PE X (.Call (.Attribute o name apos) (e::es) [] cpos) (tBM X.K T r to t):=by
 intro pins s σ H Q I h
 refine wpAny_Call_method_late hbase hfew hline rfl (thn (ho pins s σ H _ I h) λv s1 ⟨x,H1,I1,r1,ty,q1⟩=>?_)
 obtain⟨h1,h2⟩:=aAM I1 r1 ty
 refine⟨T,id,pa,slot,hty,h1,h2,?_⟩
 have hA:=ha cpos pins s1 σ H1 _ I1 q1
 rw[hs] at hA ⊢
 refine Calls.callWith_builtin (by show(false||(backTo cpos (starEach es X.env)).any (·.1))=false;rw[hplain] <;> rfl) (Calls.evalArgs_plain ?_)
 exact thn hA λus s2 ⟨vs,H2,I2,r2,q2⟩=>hm pins s2 σ H2 x vs v us Q I2 r1 r2 q2
end
end L2
namespace L2
open PySem PySem.Spec PyProof.Rows
def MtM(X:Cx)(id:String)(r:V->List V->Hp->VK->Prop):Prop:=
 ∀(pins:List (Addr×Obj)) (s:Shared) (σ:St) (H:Hp) (x:V) (xs:List V) (v:Value) (us:List Value) (Q:VK),Inv X pins σ H s->bQ x v->aW xs us->r x xs H Q ->
  wpAny (model X.prog X.w) X.A (call (.builtin id) (v::us)) (EP X pins σ Q) X.xe s
theorem aW.one:∀{x:V} {us:List Value},aW [x] us->∃u,us=[u]/\bQ x u:=by
 intro x us h
 cases h with|cons r t=>cases t;exact⟨_,rfl,r⟩
theorem aW.two:∀{x y:V} {us:List Value},aW [x,y] us->∃u v,us=[u,v]/\bQ x u/\bQ y v:=by
 intro x y us h
 cases h with|cons r t=>cases t with|cons q t=>cases t;exact⟨_,_,rfl,r,q⟩
theorem aW.zero:∀{us:List Value},aW [] us->us=[]
 | _,.nil=>rfl
theorem aW.dropLast{xs:List V}{us:List Value}(h:aW xs us):aW xs.dropLast us.dropLast:=by
 induction h with
 | nil=>exact .nil
 | cons r t ih=>
  cases t with
  | nil=>exact .nil
  | cons q t'=>exact .cons r ih
theorem aW.eraseIdx:∀{xs:List V} {us:List Value} (i:Nat),aW xs us->aW (xs.eraseIdx i) (us.eraseIdx i)
 | _,_,_,.nil=>.nil
 | _,_,0,.cons _ t=>t
 | _,_,i+1,.cons r t=>.cons r (aW.eraseIdx i t)
theorem aW.reverse{xs:List V}{us:List Value}(h:aW xs us):aW xs.reverse us.reverse:=by
 induction h with
 | nil=>exact .nil
 | cons r t ih=>rw[List.reverse_cons,List.reverse_cons];exact aW.append ih (.cons r .nil)
theorem aW.rep{xs:List V}{us:List Value}(h:aW xs us):∀k:Nat,aW (List.replicate k xs).flatten (List.replicate k us).flatten
 | 0=>.nil
 | k+1=>by
  rw[List.replicate_succ,List.replicate_succ,List.flatten_cons,List.flatten_cons]
  exact aW.append h (aW.rep h k)
theorem jJ{α:Type}(l:List α):l.eraseIdx (l.length-1)=l.dropLast:=by
 induction l with
 | nil=>rfl
 | cons a r ih=>
  cases r with
  | nil=>rfl
  | cons b r=>
   have e:(a::b::r).length-1=((b::r).length-1)+1:=by
    have h1:(a::b::r).length=r.length+2:=rfl
    have h2:(b::r).length=r.length+1:=rfl
    omega
   rw[e,List.eraseIdx_cons_succ,ih]
   all_goals rfl
theorem lB(its:List Value):∀(k:Nat) (acc:List Value),
 List.foldl (λx1 x2=>x1++x2) acc.toArray (List.replicate k its.toArray)=(acc++(List.replicate k its).flatten).toArray
 | 0,acc=>by simp
 | k+1,acc=>by
  have e:acc.toArray++its.toArray=(acc++its).toArray:=by simp
  have e2:(acc++its)++(List.replicate k its).flatten=acc++(List.replicate (k+1) its).flatten:=by
   rw[List.replicate_succ,List.flatten_cons,List.append_assoc]
  rw[<-e2,<-lB its k (acc++its),<-e,List.replicate_succ,List.foldl_cons]
section
variable {X:Cx} {pins:List (Addr×Obj)} {σ:St} {H:Hp} {s:Shared} {l b:Addr} {xs ys zs:List V}
theorem Inv.lset{its its':List Value}{n:Nat}{f:Array Value->Array Value}{t':Nat}(I:Inv X pins σ H s)(hH:H l=some (.lst xs))
 (e:s.heap.get? l=some { cls:=.type "list",data:=.seq its.toArray n }) (hf:f its.toArray=its'.toArray) (hv:aW ys its') (hz:ys.length<=sizeLine) :
 Inv X pins σ (upd H l (.lst ys)) { s with heap:=s.heap.update l (Obj.mapSeq f),toks:=t' }:=by
 have q:=PySem.IsL.update e f
 rw[hf] at q
 refine I.write (x:=l) (e:=l) (by rw[hH];exact trivial) (.inl rfl) (λb' u hb hu=>(Heap.get?_update_other s.heap (Obj.mapSeq f) (Ne.symm hb)).trans hu) ⟨_,q⟩ ?_
 exact⟨hz,its',_,hv,q⟩
theorem Inv.lnew{its:List Value}{t':Nat}(I:Inv X pins σ H s)(hv:aW ys its)(hz:ys.length<=sizeLine) :
 Inv X pins σ (upd H s.heap.objs.size (.lst ys)) { s with heap:=s.heap.push { cls:=.type "list",data:=.seq its.toArray },toks:=t' }:=
 I.laid (λ_ _ q=>Heap.get?_push_of_some _ q) (Nat.le_refl _) ⟨hz,its,0,hv,Heap.get?_push_size _ rfl⟩
theorem Inv.fresh(I:Inv X pins σ H s):H s.heap.objs.size=none:=I.hok.fresh (Nat.le_refl _)
theorem Inv.lstM(I:Inv X pins σ H s)(hH:H l=some (.lst xs)):xs.length<=sizeLine/\∃(its:List Value) (n:Nat),aW xs its/\xs.length=its.length/\s.heap.get? l=some { cls:=.type "list",data:=.seq its.toArray n }:=by
 obtain⟨z,its,n,r,e⟩:=I.hok l _ hH
 exact⟨z,its,n,r,r.length,e⟩
theorem sZ{n:Nat}(h:n<=sizeLine):Builtin.List.listTooLong n=false:=by
 unfold Builtin.List.listTooLong
 exact decide_eq_false (by omega)
end
section
variable {X:Cx}
def aDw:V->List V->Hp->VK->Prop:=λx vs H Q=>∃l xs y,x=.ref l/\vs=[y]/\H l=some (.lst xs)/\xs.length<sizeLine/\Q .non (upd H l (.lst (xs++[y])))
theorem pM:MtM X "list.append" aDw:=by
 intro pins s σ H x vs v us Q I rx rv h
 obtain⟨l,xs,y,rfl,rfl,hH,hz,q⟩:=h
 cases rx
 obtain⟨u,rfl,ru⟩:=rv.one
 obtain⟨z,its,n,r,hl,e⟩:=I.lstM hH
 refine call_meets F.slot_list_append ⟨_,e,rfl⟩ F.entry_list_append (F.args_list_append_2 _ _) (PySem.list_append l its.toArray n u (by rw[List.size_toArray];omega)) ⟨e,?_⟩
 refine⟨.non,_,I.lset (its':=its++[u]) hH e (by simp) (r.append (.cons ru .nil)) ?_,rfl,q⟩
 rw[List.length_append,List.length_singleton]
 omega
def aDx:V->List V->Hp->VK->Prop:=λx vs H Q=>∃l b xs zs,x=.ref l/\vs=[.ref b]/\H l=some (.lst xs)/\H b=some (.lst zs)/\xs.length+zs.length<=sizeLine/\Q .non (upd H l (.lst (xs++zs)))
theorem yZ:MtM X "list.extend" aDx:=by
 intro pins s σ H x vs v us Q I rx rv h
 obtain⟨l,b,xs,zs,rfl,rfl,hH,hB,hz,q⟩:=h
 cases rx
 obtain⟨u,rfl,ru⟩:=rv.one
 cases ru
 obtain⟨z,its,n,r,hl,e⟩:=I.lstM hH
 obtain⟨z2,its2,n2,r2,hl2,e2⟩:=I.lstM hB
 have hsz:its.toArray.size+its2.toArray.size<=sizeLine:=by rw[List.size_toArray,List.size_toArray];omega
 have hlong:¬ (!its.toArray.isEmpty&&Builtin.List.listTooLong (its.toArray.size+its2.toArray.size))=true:=by
  rw[sZ hsz,Bool.and_false]
  exact Bool.false_ne_true
 refine call_meets F.slot_list_extend ⟨_,e,rfl⟩ F.entry_list_extend (F.args_list_extend_2 _ _)
  (AutoSeq1.list_extend_list_list_0 l its.toArray n b its2.toArray n2 hlong (by rw[List.size_toArray];omega) (by omega)) ⟨e,e2,?_⟩
 refine⟨.non,_,I.lset (its':=its++its2) hH e (by simp) (r.append r2) ?_,rfl,q⟩
 rw[List.length_append]
 omega
def aKn:V->List V->Hp->VK->Prop:=λx vs H Q=>∃l xs y,x=.ref l/\vs=[]/\H l=some (.lst xs)/\xs[xs.length-1]? = some y/\Q y (upd H l (.lst xs.dropLast))
theorem aAO:MtM X "list.pop" aKn:=by
 intro pins s σ H x vs v us Q I rx rv h
 obtain⟨l,xs,y,rfl,rfl,hH,hy,q⟩:=h
 cases rx
 have hus:=rv.zero
 subst hus
 obtain⟨z,its,n,r,hl,e⟩:=I.lstM hH
 obtain⟨u,hu,ru⟩:=r.get hy
 have hy':its.toArray[its.toArray.size-1]? = some u:=by
  show its.toArray[its.length-1]? = some u
  rw[<-Array.getElem?_toList,<-hl]
  exact hu
 refine call_meets F.slot_list_pop ⟨_,e,rfl⟩ F.entry_list_pop (F.args_list_pop_1 _) (MeetsSeq.list_pop_last l its.toArray n u hy' (by rw[List.size_toArray];omega)) ⟨e,?_⟩
 refine⟨y,_,I.lset (its':=its.dropLast) hH e ?_ r.dropLast ?_,ru,q⟩
 . show its.toArray.eraseIdxIfInBounds (its.toArray.size-1)=its.dropLast.toArray
   rw[List.size_toArray,List.eraseIdxIfInBounds_toArray,jJ]
 . rw[List.length_dropLast]
   omega
def aAP:V->List V->Hp->VK->Prop:=λx vs H Q=>∃l xs,x=.ref l/\vs=[]/\H l=some (.lst xs)/\Q .non (upd H l (.lst xs.reverse))
theorem vL:MtM X "list.reverse" aAP:=by
 intro pins s σ H x vs v us Q I rx rv h
 obtain⟨l,xs,rfl,rfl,hH,q⟩:=h
 cases rx
 have hus:=rv.zero
 subst hus
 obtain⟨z,its,n,r,hl,e⟩:=I.lstM hH
 refine call_meets F.slot_list_reverse ⟨_,e,rfl⟩ F.entry_list_reverse (F.args_list_reverse_1 _) (AutoSeq1.list_reverse_list_0 l its.toArray n (by rw[List.size_toArray];omega)) ⟨e,?_⟩
 refine⟨.non,_,I.lset (its':=its.reverse) hH e (by simp) r.reverse ?_,rfl,q⟩
 rw[List.length_reverse]
 omega
def aKo:R2:=λx y H Q=>∃l k xs,x=.ref l/\y=.int k/\H l=some (.lst xs)/\-(2 ^ 63)<=k/\k<2 ^ 63/\xs.length*k.toNat<=sizeLine /\
 ∀p,H p=none->Q (.ref p) (upd H p (.lst (List.replicate k.toNat xs).flatten))
theorem qZ{α:Type}(xs:List α)(k:Nat):(List.replicate k xs).flatten.length=k*xs.length:=by
 induction k with
 | zero=>simp
 | succ k ih=>rw[List.replicate_succ,List.flatten_cons,List.length_append,ih,Nat.succ_mul,Nat.add_comm]
theorem aFK:OpR X (binaryOp .Mult) aKo:=by
 intro pins s σ H x y v u Q I rx ry h
 obtain⟨l,k,xs,rfl,rfl,hH,h1,h2,hz,q⟩:=h
 cases rx
 obtain⟨t,rfl⟩:=ry
 obtain⟨z,its,n,r,hl,e⟩:=I.lstM hH
 have hlen:its.toArray.size*k.toNat<=sizeLine:=by rw[List.size_toArray,<-hl];exact hz
 have hcap:¬ its.toArray.size*k.toNat>(2 ^ 63-1) / 8:=by
  have:(sizeLine:Nat)<=(2 ^ 63-1) / 8:=by decide
  omega
 have hfit:¬ (!Builtin.List.listFitsIndex k)=true:=by
  rw[fitsIndex_both h1 h2]
  exact Bool.false_ne_true
 have hlong:¬ Builtin.List.listTooLong (its.toArray.size*k.toNat)=true:=by
  rw[sZ hlen]
  exact Bool.false_ne_true
 have hnew:List.foldl (λx1 x2=>x1++x2) #[] (List.replicate (if its.toArray.isEmpty=true then 0 else k.toNat) its.toArray)=(List.replicate k.toNat its).flatten.toArray:=by
  have f0:∀m:Nat,List.foldl (λx1 x2=>x1++x2) #[] (List.replicate m its.toArray)=(List.replicate m its).flatten.toArray:=λm=>by
   have:=lB its m []
   rw[List.nil_append] at this
   exact this
  rw[f0]
  cases its with
  | nil=>simp
  | cons a r'=>rw[if_neg (by simp)]
 refine wpAny_binaryOp_repeat_ref (T:= "list") (U:= "int") (by decide) ⟨_,e,rfl⟩ (λs'=>typeIs_int s' k t) noFill_list_mul F.fills_int_mul F.slot_int_rmul repeat_list F.slot_int_index.lookup
  (call_meets F.slot_int_rmul (typeIs_int s k t) F.entry_int_rmul (F.args_int_rmul_2 _ _) (int___rmul___int_list k t l its.toArray n)
   ⟨e,rfl,⟨_,e,rfl⟩,call_meets F.slot_list_mul ⟨_,e,rfl⟩ F.entry_list_mul (F.args_list_mul_2 _ _) (AutoListH.list___mul___list_int_3 l its.toArray n k t hfit hcap hlong) ⟨e,?_⟩⟩)
 rw[hnew]
 exact⟨.ref _,_,I.lnew (t':=s.toks) (r.rep k.toNat) (by rw[qZ,Nat.mul_comm];exact hz),rfl,q _ I.fresh⟩
end
section
variable {prog:Program} {w:World} {A:Around} {E:Value->Shared->Prop} {s:Shared}
end
section
variable {X:Cx}
end
end L2
namespace Att
open PySem PySem.W PySem.Calls PyProof.Rows
theorem mK{P:Params}{h:Heap}:∀(ns:List Int) (vs:List Value),WellAll P h vs (ns.map WData.int)->IntsAre vs ns:=by
 intro ns
 induction ns with
 | nil=>
  intro vs w
  rw[List.map_nil] at w
  cases w
  exact .nil
 | cons n ns ih=>
  intro vs w
  rw[List.map_cons] at w
  cases w with
  | cons a b=>
   cases a
   exact .cons _ _ (ih _ b)
theorem zA{l:OpenLaw}{n:Nat}(hn:l.most=some n){P:Params}{h:Heap}{args:List WData}{vals:List Value}
 (hpre:l.row.toRowW.claim.pre args=true) (hwl:WellAll P h vals args) :
 ∃a vs ns,vals=[Value.ref a]/\args=[WData.list (ns.map WData.int)]/\h.get? a=some { cls:=.type "list",data:=.seq vs.toArray }/\IntsAre vs ns/\ns.length<=n:=by
 have hsh:WShape.hasAll [] args [.list .int]=true:=(pre_splitW hpre).1
 have hc:l.pre.holds [] { args:=args }=true:=(pre_splitW hpre).2
 obtain⟨d,r,rfl,h1,h2⟩:=hasAllW_cons hsh
 obtain rfl:=hasAllW_nil h2
 obtain⟨xs,rfl,h3⟩:=hasW_list h1
 obtain⟨ns,rfl⟩:=items_int h3
 have hlen:ns.length<=n:=by
  unfold OpenLaw.pre at hc
  have h4:(WTm.not (.lt (.lit (.int (n:Int))) (.len (.arg 0)))).holds [] { args:=[.list (ns.map .int)] }=true:=by
   have h4:=(holds_andW hc).1
   rw[hn] at h4
   exact h4
  have h5:=condW_of h4 (w_not (w_lt w_lit (w_len_list (w_arg rfl))))
  rw[List.length_map] at h5
  refine Nat.le_of_not_lt λq=>?_
  have q':(n:Int)<((ns.length:Nat):Int):=by omega
  first
   | (rw[decide_eq_true q'] at h5;exact absurd h5 (by decide))
   | (simp at h5;omega)
 cases hwl with
 | cons w1 w2=>
  cases w2
  cases w1 with
  | list ho hall=>exact⟨_,_,ns,rfl,rfl,ho,mK ns _ hall,hlen⟩
theorem zB(l:OpenLaw)(args:List WData):l.row.toRowW.claim.post args (.bool true) args=true:=
 postW_of (r:=l.row.toRowW) (X:=(true==true))
  (show WShape.has [] (.bool true) .bool=true by first|rfl|decide|simp[WShape.has,WShape.arms,WShape.armsAll])
  (show(WTm.eq .res (.lit (.bool true))).value [] { args:=args,res:=some (.bool true),after:=args }=some (.bool (true==true)) from w_eq_bool (w_res rfl) w_lit) rfl
theorem attach_call{l:OpenLaw}{n:Nat}{q:Program}{loose:List Str}{XP:(Str->Option Value)->Heap->Prop}{YP:World->Heap->Prop}{d:DefRec}
 (hn:l.most=some n) (hdf:d.params.defaults=[])
 (call:∀(w:World) (s₀ s₁:Shared) (mg mb:Str->Option Value) (fa:Addr) (o:Obj) (pm cd doc:Value) (a:Addr) (vs:List Value) (ns:List Int),
  Ground q loose [] XP w s₀ mg mb s₁.heap->YP w s₁.heap ->
  s₁.heap.get? fa=some o->o.data=.func (docDef d.name d.params d.body d.scope pm cd doc)->s₁.heap.CodeRec cd d.name->mg d.name=some (.ref fa) ->
  s₁.heap.get? a=some { cls:=.type "list",data:=.seq vs.toArray }->IntsAre vs ns->ns.length<=n->s₁.gens=#[] ->
  codeAny (model l.prog w) callerA (.call (.ref fa) ⟨[.ref a],[]⟩) (λr s'=>r=.ok (.ret (.bool true))/\OldK s₁.heap s'.heap/\s'.os=s₁.os/\AllBare s'.gens) s₁) :
 WalkO q loose XP YP l.row.toRowW d [] (λf vs=>PySem.call f vs):=by
 intro w s₀ s₁ mg mb G Y fa o pm cd doc dV kV ho hd hcd hD hmg hg args vals as hpre hlay hrd hwl hlo
 obtain rfl:dV=.none:=Dflts.none hD hdf
 obtain rfl:kV=.none:=Dflts.noKw hD
 obtain⟨a,vs,ns,rfl,rfl,hobj,hints,hlen⟩:=zA hn hpre hwl
 refine enter_call (codeAny_mono (call w s₀ s₁ mg mb fa o pm cd doc a vs ns G Y ho (fd_plain hd) hcd hmg hobj hints hlen hg) λr s' hq=>?_)
 obtain⟨rfl,h2,h3,h4⟩:=hq
 exact⟨.inl ⟨.bool true,.bool true,[],rfl,λ_=>rfl,.bool true,zB l _,λ_=>⟨List.Pairwise.nil,λ_ hm=>(nomatch hm)⟩⟩,h2,h3,h4⟩
section
variable {prog:Program} {w:World} {A:Around} {E:Value->Shared->Prop} {s:Shared} {K:Frag}
end
end Att
namespace L2
open PySem PySem.Spec PyProof.Rows
theorem pN:∀{vs:List Value} {ns:List Int},IntsAre vs ns->aW (ns.map V.int) vs
 | _,_,.nil=>.nil
 | _,_,.cons n t h=>.cons ⟨t,rfl⟩ (pN h)
def aDy(H:Hp):Prop:=∀b,H b=none\/∃o xs,H b=some (.frz o (.lst xs))
theorem aAQ{P:Program}{w:World}{K:PySem.W.Frag}{mg mb:Str->Option Value}{CX:CXT}{k:Nat}{fa a:Addr}{fd:FuncData}{x:Str}{sp:Sp}{s₁:Shared}{vs:List Value}{ns:List Int}
 (KX:K.In s₁.heap) (hns:s₁.heap.Ns mainGlobals mg) (hb:s₁.heap.Ns builtinsNs mb) (hbb:∀x:Str,x ≠ "__name__" -> mb x=bootBuiltins x) (hlim:s₁.heap.NoLimit) (hg:s₁.gens=#[])
 (ha:s₁.heap.get? a=some { cls:=.type "list",data:=.seq vs.toArray }) (hi:IntsAre vs ns) (hl:ns.length<=sizeLine) (hr:mJ k callerA)
 (F:∀base:Heap,K.In base->base.Ns mainGlobals mg->qQ P w K mg base CX k fa fd [x] sp) (hbind:∀(s:Shared) (u:Value),BindsTo s fd ⟨[u],[]⟩ [(x,u)])
 (hsp:∀H:Hp,aDy H->SqL K H a (ns.map V.int)->sp [.ref a] H (λv _=>v=.bl true) λ_ _ _=>False)
 (hCX:∀H e s',CX [] H s₁ (λ_ _ _=>False) e s'->False) :
 codeAny (model P w) callerA (.call (.ref fa) ⟨[.ref a],[]⟩) (λr s'=>r=.ok (.ret (.bool true))/\OldK s₁.heap s'.heap/\s'.os=s₁.os/\AllBare s'.gens) s₁:=by
 have rv:=pN hi
 have lenV:=hi.length
 have core:∀H:Hp,aDy H->SqL K H a (ns.map V.int)->HOk P w H s₁.heap->(∀b,H b≠none->b=a)->(H a≠none->K.lookup a=none) ->
  codeAny (model P w) callerA (.call (.ref fa) ⟨[.ref a],[]⟩) (λr s'=>r=.ok (.ret (.bool true))/\OldK s₁.heap s'.heap/\s'.os=s₁.os/\AllBare s'.gens) s₁:=by
  intro H hO hS hok hA hK
  have base_of:∀{b:Addr} {o:Obj},s₁.heap.get? b=some o->H b=none->(qN s₁.heap H).get? b=some o:=λe n=>aAr e n
  have noA:∀{b:Addr} {o:Obj} {es:Array DictEntry} {ep:Nat},s₁.heap.get? b=some o->o.data=.dict es ep->H b=none:=λ{b o es ep} e d=>by
   cases q:H b with
   | none=>rfl
   | some u=>
    have e':b=a:=hA b (by rw[q];simp)
    subst e'
    rw[ha] at e;cases e
    have d':Data.seq vs.toArray _=Data.dict es ep:=d
    cases d'
  have nsK:∀{b:Addr} {m:Str->Option Value},s₁.heap.Ns b m->(qN s₁.heap H).Ns b m:=λ{b m} ⟨o,es,ep,e,d,r⟩=>⟨o,es,ep,base_of e (noA e d),d,r⟩
  have hKb:K.In (qN s₁.heap H):=λb o e=>base_of (KX b o e) (by
   cases q:H b with
   | none=>rfl
   | some u=>
    have e':b=a:=hA b (by rw[q];simp)
    subst e'
    rw[hK (by rw[q];simp)] at e;cases e)
  have hM:Mod K mg (qN s₁.heap H):=⟨hKb,nsK hns,⟨mb,nsK hb,hbb⟩,let ⟨mc,h1,h2⟩:=hlim;⟨mc,nsK h1,h2⟩⟩
  have e0:aDo P w K mg (qN s₁.heap H) callerA [] s₁ H:=⟨rfl,hM,λb o e=>aCY e,Nat.le_of_eq (yR _ _),trivial,λb hb=>absurd (show b∈([]:List Addr) from hb) (by simp),hok,.of_eq hg⟩
  refine codeAny_mono ((F _ hKb (nsK hns)).run callerA [] s₁ H ⟨[.ref a],[]⟩ [.ref a] [.ref a] _ _ hr e0 (hbind s₁ (.ref a)) (.cons rfl .nil) (hsp H hO hS)) λr s' h=>?_
  cases r with
  | error e=>exact(hCX H e s' h).elim
  | ok fl=>
   cases fl with
   | next=>exact False.elim h
   | brk=>exact False.elim h
   | cont=>exact False.elim h
   | ret u=>
    obtain⟨v,H',os,bare,un,hok',r',q⟩:=h
    have q':v=.bl true:=q
    subst q'
    obtain rfl:u=Value.bool true:=r'
    refine⟨rfl,OldK.of_keep λb o e=>?_,os,bare⟩
    cases q:H b with
    | none=>exact un.keep b o e q (by intro z;exact absurd (show b∈([]:List Addr) from z) (by simp)) (by simp)
    | some u=>
     rcases hO b with z|⟨ob,xs,z⟩
     . rw[q] at z;cases z
     . have z2:=un.frzs b ob _ z
       obtain⟨e1,_⟩:=hok b _ z
       obtain⟨e2,_⟩:=hok' b _ z2
       rw[e] at e1;cases e1
       exact e2
 cases hk:K.lookup a with
 | some o=>
  have e:=KX a o hk
  rw[ha] at e
  cases e
  refine core (λ_=>none) (λ_=>.inl rfl) (.inr ⟨_,vs.toArray,_,hk,rfl,rfl,rfl,by rw[List.size_toArray,lenV];exact hl,by simpa using rv⟩) (λb u z=>by have z':(none:Option HO)=some u:=z;cases z') (λb z=>absurd rfl z) λz=>absurd rfl z
 | none=>
  refine core (λb=>if b=a then some (.frz { cls:=.type "list",data:=.seq vs.toArray } (.lst (ns.map V.int))) else none) (λb=>?_) (.inl (.inr ⟨{ cls:=.type "list",data:=.seq vs.toArray },if_pos rfl⟩)) (λb u z=>?_) (λb z=>?_) λ_=>hk
  . by_cases hb:b=a
    . exact .inr ⟨_,_,if_pos hb⟩
    . exact .inl (if_neg hb)
  . by_cases hb:b=a
    . have z':=(if_pos hb).symm.trans z
      cases z'
      subst hb
      exact⟨ha,by rw[List.length_map];exact hl,vs,_,rv,ha⟩
    . have z':=(if_neg hb).symm.trans z
      cases z'
  . by_cases hb:b=a
    . exact hb
    . exact absurd (if_neg hb) z
end L2
namespace L2
open PySem PySem.Spec PyProof.Rows
end L2
namespace L2
open PySem PySem.Spec PyProof.Rows
def iS(s:Stmt):Arguments:=match s with
 | .FunctionDef _ a _ _ _ _ _ _ _ _=>a
 | _=>{ posonlyargs:=[],args:=[],vararg:=none,kwonlyargs:=[],kw_defaults:=[],kwarg:=none,defaults:=[] }
def jW(s:Stmt):List Stmt:=match s with
 | .FunctionDef _ _ b _ _ _ _ _ _ _=>b
 | _=>[]
def cF(s:Stmt):Scope:=match s with
 | .FunctionDef _ _ _ _ _ _ sc _ _ _=>sc
 | _=>{ kind:=.function,names:=[],isGenerator:=false,isCoroutine:=false }
abbrev E0:XK:=λ_ _ _=>False
structure Fun (K:PySem.W.Frag) (x qual:Str) (st:Stmt) (f:Addr) (fd:FuncData):Prop where
 ex:∃(oc:Value) (od:Option Addr) (kV doc pm:Value) (an:Option Addr) (cdv ct:Value) (osl:Array (Option Value)),
  fd=PySem.W.fnOf x qual (iS st) (jW st) (cF st) .none kV doc pm an cdv ct/\K.lookup f=some ⟨oc,od,.func fd,osl⟩/\PySem.W.codeIn K cdv qual=true
 kp:PySem.W.keepIn K (.ref f)=true
section
variable {P:Program} {w:World} {K:PySem.W.Frag} {mg:Str->Option Value} {base:Heap}
theorem Fun.binds{x qual:Str}{st:Stmt}{f:Addr}{fd:FuncData}{ps:List Str}(F:Fun K x qual st f fd)
 (h:∀(kV doc pm:Value) (an:Option Addr) (cdv ct:Value) (us:List Value),us.length=ps.length->bindArgs (PySem.W.fnOf x qual (iS st) (jW st) (cF st) .none kV doc pm an cdv ct) ⟨us,[]⟩=pure (ps.zip us)):lY K fd ps []:=by
 obtain⟨oc,od,kV,doc,pm,an,cdv,ct,osl,rfl,lk,hcd⟩:=F.ex
 exact .all (h kV doc pm an cdv ct)
end
section
variable {X:Cx}
end
theorem aFL{A B:Prop}(h:B):if false=true then A else B:=by
 rw[if_neg Bool.false_ne_true]
 exact h
theorem aHO{A B:Prop}(h:A):if true=true then A else B:=by
 rw[if_pos rfl]
 exact h
def aM(H H':Hp):Prop:=∀b o,H b=some o->H' b=some o
theorem aM.refl(H:Hp):aM H H:=λ_ _ h=>h
theorem aM.trans{H H1 H2:Hp}(a:aM H H1)(b:aM H1 H2):aM H H2:=λc o h=>b c o (a c o h)
theorem aM.free{H H':Hp}(e:aM H H'){l:Addr}(h:H' l=Option.none):H l=Option.none:=by
 cases q:H l with
 | none=>rfl
 | some o=>
  rw[e l o q] at h
  cases h
theorem aM.seq{K:PySem.W.Frag}{H H':Hp}{a:Addr}{xs:List V}(e:aM H H')(h:SqL K H a xs):SqL K H' a xs:=by
 rcases h with(h|⟨o,h⟩)|h
 . exact .inl (.inl (e _ _ h))
 . exact .inl (.inr ⟨o,e _ _ h⟩)
 . exact .inr h
end L2
end
noncomputable section
namespace L2
open PySem PySem.Spec PyProof.Rows PySem.Builtin
set_option maxRecDepth 100000 in
theorem lD:fillsNumberSlot (.type "tuple") "mul" = pure false:=
 PySem.fillsNumberSlot_seq (id:= "tuple.__mul__") (r:=some (.builtin "tuple.__rmul__")) F.slot_tuple_mul.lookup (by decide +kernel) F.slot_tuple_rmul.lookup (by decide +kernel)
theorem rA:seqRepeat? (.type "tuple")=pure (some (.builtin "tuple.__mul__")):=by
 unfold seqRepeat?
 rw[PySem.seqSlot_of (T:= "tuple") (name:= "__mul__") (id:= "tuple.__mul__") F.slot_tuple_mul.lookup (by decide +kernel),PySem.seqSlot_of (T:= "tuple") (name:= "__rmul__") (id:= "tuple.__rmul__") F.slot_tuple_rmul.lookup (by decide +kernel)]
 rfl
theorem nJ(a:Int)(t:Tok)(l:Addr)(od:Option Addr)(items:Array Value)(n:Nat)(sl:Array (Option Value)):Meets (Builtin.«int.__rmul__» ⟨[.int a t,.ref l],[]⟩) (λ_ R s=>s.heap.get? l=some { cls:=.type "tuple",dict:=od,data:=.seq items n,slots:=sl }/\R (.ok (.ret Value.notImplemented)) s):=
 .of_wp λprog w A R s h=>by
  obtain⟨hp,g,d,tk,os⟩:=s;obtain⟨hl,h⟩:=h;wp_walk;exact⟨_,rfl,h⟩
theorem tB(l:Addr)(t:Tok)(od:Option Addr)(items:Array Value)(n:Nat)(sl:Array (Option Value)):Meets (Builtin.«tuple.__mul__» ⟨[.ref l,.int 1 t],[]⟩) (λ_ R s=>s.heap.get? l=some { cls:=.type "tuple",dict:=od,data:=.seq items n,slots:=sl }/\R (.ok (.ret (.ref l))) s):=
 .of_wp λprog w A R s h=>by
  obtain⟨hp,g,d,tk,os⟩:=s;obtain⟨hl,h⟩:=h;wp_walk;exact⟨_,rfl,h⟩
theorem tD(l:Addr)(t:Tok)(k:Int)(od:Option Addr)(items:Array Value)(n:Nat)(sl:Array (Option Value))(h1:1<k)(h2:k<2 ^ 63)(h0:items.isEmpty=false)(hz:items.size*k.toNat<=sizeLine)(hs:((List.replicate k.toNat items).foldl (·++·) #[]).size<=sizeLine):Meets (Builtin.«tuple.__mul__» ⟨[.ref l,.int k t],[]⟩) (λ_ R s=>s.heap.get? l=some { cls:=.type "tuple",dict:=od,data:=.seq items n,slots:=sl }/\R (.ok (.ret (.ref s.heap.objs.size))) { s with heap:=s.heap.push { cls:=.type "tuple",data:=.seq ((List.replicate k.toNat items).foldl (·++·) #[]) } }):=
 .of_wp λprog w A R s h=>by
  obtain⟨hp,g,d,tk,os⟩:=s;obtain⟨hl,h⟩:=h;wp_walk
  have k1:(decide (k < -2 ^ 63)||decide (k ≥ 2 ^ 63))=false:=by rw[decide_eq_false (by omega),decide_eq_false (by omega)];rfl
  have k2:(items.isEmpty||k==1)=false:=by rw[h0,beq_eq_false_iff_ne.mpr (by omega)];rfl
  have k3:(decide (k<=0)||items.isEmpty)=false:=by rw[h0,decide_eq_false (by omega)];rfl
  have e:((items.size*k.toNat:Nat):Int)=(items.size:Int)*k:=by rw[Int.natCast_mul,Int.toNat_of_nonneg (by omega)]
  have k4:Tuple.tupleTooMany ((items.size:Int)*k)=false:=by
   unfold Tuple.tupleTooMany
   rw[<-e]
   exact decide_eq_false (by omega)
  have k5:¬ (items.size:Int)*k>(2 ^ 63-1) / 8:=by
   have:(sizeLine:Nat)<=(2 ^ 63-1) / 8:=by decide
   rw[<-e]
   omega
  rw[if_neg (by rw[k1];exact bN)]
  wp_walk
  rw[if_neg (by rw[k2];exact bN),if_neg (by rw[k3];exact bN),if_neg k5,if_neg (by rw[k4];exact bN)]
  unfold Tuple.tupleExact newObj
  simp only[if_neg (Nat.not_lt.mpr hs)]
  wp_walk
  exact⟨_,rfl,h⟩
section
variable {X:Cx}
theorem aDz:OpR X (binaryOp .Mult) (λx y H Q=>∃a k xs,x=.ref a/\y=.int k/\SqT X.K H a xs/\xs≠[]/\1<=k/\k<2 ^ 63/\xs.length*k.toNat<=sizeLine /\
 (k=1->Q (.ref a) H)/\(1<k->∀p,H p=none->Q (.ref p) (upd H p (.tup (List.replicate k.toNat xs).flatten)))):=by
 intro pins s σ H x y v u Q I rx ry h
 obtain⟨a,k,xs,rfl,rfl,ha,hx,h1,h2,hz,q1,q2⟩:=h
 cases rx
 obtain⟨t,rfl⟩:=ry
 obtain⟨its,r,⟨o,ho,hc,n,hd⟩,_⟩:=I.tuple ha
 obtain⟨oc,od,dt,sl⟩:=o
 have hc:oc=.type "tuple" := hc
 have hd:dt=.seq its.toArray n:=hd
 subst hc hd
 have lz:=r.length
 have road:=λQ' (hq:wpAny (model X.prog X.w) X.A (call (.builtin "tuple.__mul__") [.ref a,.int k t]) Q' X.xe s)=>wpAny_binaryOp_repeat_ref (Q:=Q') (T:= "tuple") (U:= "int") (by decide) (show s.TypeIs (.ref a) "tuple" from⟨_,ho,rfl⟩) (λs'=>typeIs_int s' k t) lD F.fills_int_mul F.slot_int_rmul rA F.slot_int_index.lookup
  (call_meets F.slot_int_rmul (typeIs_int s k t) F.entry_int_rmul (F.args_int_rmul_2 _ _) (nJ k t a od its.toArray n sl) ⟨ho,rfl,⟨_,ho,rfl⟩,hq⟩)
 refine road _ ?_
 by_cases hk:k=1
 . subst hk
   exact call_meets F.slot_tuple_mul ⟨_,ho,rfl⟩ F.entry_tuple_mul (F.args_tuple_mul_2 _ _) (tB a t od its.toArray n sl) ⟨ho,.ref a,H,I,rfl,q1 rfl⟩
 . have e0:its.toArray.isEmpty=false:=by
    cases its with
    | nil=>exact absurd (r.nil_iff.mp rfl) hx
    | cons _ _=>rfl
   have f0:=lB its k.toNat []
   rw[List.nil_append] at f0
   have f1:List.foldl (λx1 x2=>x1++x2) #[] (List.replicate k.toNat its.toArray)=(List.replicate k.toNat its).flatten.toArray:=f0
   refine call_meets F.slot_tuple_mul ⟨_,ho,rfl⟩ F.entry_tuple_mul (F.args_tuple_mul_2 _ _) (tD a t k od its.toArray n sl (by omega) h2 e0 (by rw[List.size_toArray,<-lz];exact hz) (by rw[f1,List.size_toArray,qZ,<-lz,Nat.mul_comm];exact hz)) ⟨ho,?_⟩
   rw[f1]
   refine⟨.ref s.heap.objs.size,_,I.laid (t':=s.toks) (o:=.tup (List.replicate k.toNat xs).flatten) (λb ob q=>Heap.get?_push_of_some _ q) (Nat.le_refl _) ?_,rfl,q2 (by omega) _ (I.hok.fresh (Nat.le_refl _))⟩
   exact⟨by rw[qZ,Nat.mul_comm];exact hz,_,r.rep k.toNat,IsTup.new _ _⟩
end
end L2
end
noncomputable section
namespace Hp
open PySem (Str Operator CmpOp)
inductive D where
 | non|bl (b:Bool)|int (i:Int)|str (x:Str)
 | tup (ds:List D)|lst (ds:List D)
 | dic (kvs:List (D×D))
 | err (c:Str) (fs:List D)
 deriving Inhabited
mutual
def noL:D->Bool
 | .tup ds=>noLs ds
 | .lst _=>false
 | .dic _=>false
 | .err _ _=>false
 | _=>true
def noLs:List D->Bool
 | []=>true
 | d::ds=>noL d&&noLs ds
end
mutual
def aHP:D->Bool
 | .tup ds=>noDics ds
 | .lst ds=>noDics ds
 | .dic _=>false
 | .err _ _=>false
 | _=>true
def noDics:List D->Bool
 | []=>true
 | d::ds=>aHP d&&noDics ds
end
def lim:Nat:=1000000
def b2i(b:Bool):Int:=if b then 1 else 0
def eqL(f:D->D->Option Bool):List D->List D->Option Bool
 | [],[]=>some true
 | a::as,b::bs=>match f a b,eqL f as bs with
  | some x,some y=>some (x&&y)
  | _,_=>none
 | _,_=>some false
def eqF:Nat->D->D->Option Bool
 | 0,_,_=>none
 | n+1,a,b=>match a,b with
  | .non,.non=>some true
  | .bl a,.bl b=>some (a==b)
  | .int a,.int b=>some (a==b)
  | .str a,.str b=>some (a==b)
  | .bl a,.int b=>some (b2i a==b)
  | .int a,.bl b=>some (a==b2i b)
  | .tup as,.tup bs=>eqL (eqF n) as bs
  | .lst as,.lst bs=>if as.length=bs.length then eqL (eqF n) as bs else some false
  | .dic _,_=>none
  | _,.dic _=>none
  | .err _ _,_=>none
  | _,.err _ _=>none
  | _,_=>some false
def cV(n:Nat):List D->List D->Option Bool
 | [],[]=>some true
 | a::as,b::bs=>match eqF n a b,cV n as bs with
  | some x,some y=>some (x&&y)
  | _,_=>none
 | _,_=>some false
@[simp] theorem rC (n:Nat):∀as bs:List D,eqL (eqF n) as bs=cV n as bs
 | [],[]=>rfl
 | [],_::_=>rfl
 | _::_,[]=>rfl
 | a::as,b::bs=>by rw[eqL,cV,rC n as bs]
def rD:Nat:=120
def eqD(a b:D):Option Bool:=eqF rD a b
inductive R (α:Type) where
 | ok (a:α)|exc (x:D)|bad
 deriving Inhabited
def R.bind{α β:Type}(x:R α)(f:α->R β):R β:=match x with
 | .ok a=>f a
 | .exc e=>.exc e
 | .bad=>.bad
instance:Monad R where
 pure:=.ok
 bind:=.bind
def R.of{α:Type}:Option α->R α
 | some a=>.ok a
 | none=>.bad
def R.calm{α:Type}:R α->R α
 | .exc _=>.bad
 | x=>x
def R.iff{α:Type}(c:Bool)(x:R α):R α:=if c then x else .bad
structure Vl where
 d:D
 fr:Bool:=false
 pa:Bool:=false
 al:List Nat:=[]
 deriving Inhabited
def Vl.cl(d:D):Vl:=⟨d,false,false,[]⟩
def Vl.sub(v:Vl)(d:D):Vl:=if noL d then .cl d else ⟨d,false,v.pa,v.al⟩
inductive Sl where
 | dead|sh (pa:Bool) (d:D)|own (pa:Bool) (ds:List D)|dct (ks:List (List (List Int)×D))|par (ds es:List D)
 deriving Inhabited
abbrev Sg:=List Sl
def Sl.val(i:Nat):Sl->R Vl
 | .dead=>.bad
 | .sh pa d=>.ok ⟨d,false,pa&&!noL d,[]⟩
 | .own pa ds=>.ok ⟨.lst ds,false,pa,[i]⟩
 | .dct _=>.bad
 | .par _ _=>.bad
def aO(σ:Sg)(i:Nat):R Vl:=match σ[i]? with
 | some s=>s.val i
 | none=>.bad
def Sl.freeze:Sl->Sl
 | .own pa ds=>.sh pa (.lst ds)
 | s=>s
def freeze(σ:Sg):List Nat->Sg
 | []=>σ
 | i::is=>freeze (match σ[i]? with|some s=>σ.set i s.freeze|none=>σ) is
def Vl.slot(v:Vl):Sl:=match v.fr,v.d with
 | true,.lst ds=>.own v.pa ds
 | _,d=>.sh v.pa d
inductive Bi where
 | len|list|tuple|min|max|abs|int|str|sum|all|any|sorted|bool|repr
 deriving DecidableEq,Inhabited
inductive Mt where
 | join|upper|lower|get|startswith|endswith|index|count|copy|isdigit|find|replace|split|strip
 deriving DecidableEq,Inhabited
inductive Cl where
 | tInt|tBool|tStr|tList|tTuple|tDict|own (c:Str)|tValueError
 deriving DecidableEq,Inhabited
inductive T where
 | n (i:Nat)
 | t (ts:List Nat)
 deriving Inhabited
mutual
inductive E where
 | c (d:D)
 | v (i:Nat)
 | op (o:Operator) (a b:E)
 | neg (a:E)
 | nt (a:E)
 | an (a b:E)
 | orr (a b:E)
 | ife (t a b:E)
 | cmp (o:CmpOp) (a b:E)
 | cmp2 (o o':CmpOp) (a b c:E)
 | idx (a b:E)
 | sli (a:E) (lo hi:Es)
 | tup (es:Es)
 | lst (es:Es)
 | dic (ks vs:Es)
 | call (f:Nat) (es:Es)
 | bi (b:Bi) (es:Es)
 | mth (m:Mt) (o:E) (es:Es)
 | isi (a:E) (cs:List Cl)
 | isx (a:E) (cs:List Cl)
 | comp (k:Nat) (caps:List Nat) (t:T) (it:It) (cond:Es) (elt:E)
 | numset (a:E)   -- len(set(a))
 | tget (i:Nat) (a:E)   -- a dict of the module,.get(a)
 | lzip (a b:E)   -- list(zip(a,b))
 | dnin (a:E) (j:Nat)   -- a not in a dict of one's own
 | dget (j:Nat) (a:E)   -- the value at a key in a dict of one's own
 | dlen (j:Nat)   -- len of a dict of one's own
 | callP (f i:Nat) (es:Es)   -- f(x,..),x a list of two lists of its own
inductive Es where
 | nil|cons (e:E) (es:Es)
inductive It where
 | seq (e:E)|rng (a b:E)|zip (a b:E)|enum (a:E)|rev (a:E)
end
instance:Inhabited E:=⟨.c .non⟩
inductive Arg where
 | e (a:E)|pop (i:Nat)
 deriving Inhabited
mutual
inductive S where
 | set (t:T) (e:E)
 | mov (i j:Nat)
 | setIx (i:Nat) (k e:E)
 | app (i:Nat) (e:E)
 | ext (i:Nat) (e:E)
 | pop (t:Option T) (i:Nat) (at':Option E)
 | clr (i:Nat)
 | ins (i:Nat) (k e:E)
 | rev (i:Nat)
 | appCall (i:Nat) (f:Nat) (as:List Arg)
 | ret (e:E)
 | retv (i:Nat)
 | retN
 | iff (c:E) (a b:Ss)
 | for (t:T) (it:It) (b:Ss)
 | whl (c:E) (b:Ss)
 | brk|cnt|pass|off
 | ex (e:E)
 | dnew (i:Nat)   -- {}
 | dput (i:Nat) (e:E)   -- i[e]=True
 | dfrom (i:Nat) (e:E)   -- dict(e),e pairs of a key and a plain value
 | two (i:Nat) (a b:E)   -- i=[a,b],both fresh lists
 | appP (i:Nat) (z:Bool) (e:E)   -- i[0].append(e),i[1].append(e)
 | clrP (i:Nat) (z:Bool)   -- i[0].clear(),i[1].clear()
 | rse (c:Str) (keep:Bool) (es:Es)
 | tryAs (b:Ss) (c:Str) (i j:Nat)   -- try: b except c as j: i=j
inductive Ss where
 | nil|cons (s:S) (ss:Ss)
end
structure Fn where
 np:Nat
 ns:Nat
 body:Ss
structure Pg where
 fns:List Fn
 above:List (Str×List Cl)
 tabs:List (List (Str×D)):=[]
abbrev Rt:=D×Bool×Bool
abbrev Caller:=Nat->List D->R Rt
def jX(i j:Int):Bool:=(decide (-(2 ^ 64)<i)&&decide (i<2 ^ 64))||(decide (-(2 ^ 64)<j)&&decide (j<2 ^ 64))
def aEK(i j:Int):Bool:=decide (0<=j)&&decide (j<=1000)&&decide (i.natAbs<2 ^ 64)
def wV(j:Int):Bool:=decide (0<j)&&decide (j<1073741824)
def aI(k:Int):Bool:=decide (-(2 ^ 62)<=k)&&decide (k<2 ^ 62)
def Str.rep(x:Str)(k:Nat):Str:=⟨(List.replicate k x.cps).foldl (·++·) #[]⟩
@[simp] def aDA (x y:Vl):R Vl:=match x.d,y.d with
 | .int i,.int j=>.ok (.cl (.int (i+j)))
 | .str a,.str b=>.iff (decide (a.length+b.length<=lim)) (.ok (.cl (.str (a++b))))
 | .tup a,.tup b=>.iff (decide (a.length+b.length<=lim)) (.ok ⟨.tup (a++b),false,x.pa||y.pa,x.al++y.al⟩)
 | .lst a,.lst b=>.iff (decide (a.length+b.length<=lim)) (.ok ⟨.lst (a++b),true,(x.pa&&!noLs a)||(y.pa&&!noLs b),(if noLs a then [] else x.al)++(if noLs b then [] else y.al)⟩)
 | _,_=>.bad
@[simp] def aDB (x y:Vl):R Vl:=match x.d,y.d with
 | .int i,.int j=>.iff (jX i j) (.ok (.cl (.int (i*j))))
 | .str a,.int k=>.iff (aI k&&decide (a.length*k.toNat<=lim)) (.ok (.cl (.str (Str.rep a k.toNat))))
 | .lst a,.int k=>.iff (x.fr&&aI k&&decide (a.length*k.toNat<=lim)&&noLs a) (.ok ⟨.lst (List.replicate k.toNat a).flatten,true,false,[]⟩)
 | .tup a,.int k=>.iff (decide (1<=k)&&aI k&&!a.isEmpty&&decide (a.length*k.toNat<=lim)&&noLs a) (.ok (.cl (.tup (List.replicate k.toNat a).flatten)))
 | _,_=>.bad
@[simp] def rE (f:Int->Int->R Vl) (x y:Vl):R Vl:=match x.d,y.d with
 | .int i,.int j=>f i j
 | _,_=>.bad
def opD(o:Operator)(x y:Vl):R Vl:=match o with
 | .Add=>aDA x y
 | .Mult=>aDB x y
 | .Sub=>rE (λi j=>.ok (.cl (.int (i-j)))) x y
 | .FloorDiv=>rE (λi j=>.iff (wV j) (.ok (.cl (.int (i / j))))) x y
 | .Mod=>rE (λi j=>.iff (decide (0<j)) (.ok (.cl (.int (i % j))))) x y
 | .Pow=>rE (λi j=>.iff (aEK i j) (.ok (.cl (.int (i ^ j.toNat))))) x y
 | _=>.bad
def zC:D->Option Bool
 | .non=>some false
 | .bl b=>some b
 | .int i=>some (i != 0)
 | .str x=>if x.length<=lim then some (x.length != 0) else none
 | .tup ds=>some (!ds.isEmpty)
 | .lst ds=>some (!ds.isEmpty)
 | _=>none
def fA(x:Vl):R Bool:=.of (zC x.d)
def aAR:List D->Option (List Int)
 | []=>some []
 | .int a::ds=>match aAR ds with
  | some ns=>some (a::ns)
  | none=>none
 | _=>none
def ltD:D->D->Option Bool
 | .int a,.int b=>some (decide (a<b))
 | _,_=>none
def leD:D->D->Option Bool
 | .int a,.int b=>some (decide (a<=b))
 | _,_=>none
def isNone:D->Bool
 | .non=>true
 | _=>false
def inD(x y:D):Option Bool:=match x,y with
 | .str a,.str b=>some (!(PySem.Builtin.Str.occurrences b a 0 b.length 1).isEmpty)
 | _,_=>none
def cT(o:CmpOp)(x y:D):Option Bool:=match o with
 | .Eq=>eqD x y
 | .NotEq=>(eqD x y).map (!·)
 | .Lt=>ltD x y
 | .Gt=>match x,y with
  | .int a,.int b=>some (decide (b<a))
  | _,_=>none
 | .LtE=>leD x y
 | .GtE=>match x,y with
  | .int a,.int b=>some (decide (b<=a))
  | _,_=>none
 | .Is=>match y with
  | .non=>some (isNone x)
  | _=>none
 | .IsNot=>match y with
  | .non=>some (!isNone x)
  | _=>none
 | .In=>inD x y
 | .NotIn=>(inD x y).map (!·)
def ixN(n:Nat)(k:Int):Option Nat:=
 if 0<=k then (if k<n then some k.toNat else none) else (if -(n:Int)<=k then some (k+n).toNat else none)
def bW(x y:Vl):R Vl:=match x.d,y.d with
 | .lst ds,.int k=>match ixN ds.length k with
  | some j=>match ds[j]? with
   | some d=>.ok (x.sub d)
   | none=>.bad
  | none=>.bad
 | .tup ds,.int k=>match ixN ds.length k with
  | some j=>match ds[j]? with
   | some d=>.ok (x.sub d)
   | none=>.bad
  | none=>.bad
 | .str a,.int k=>.iff (decide (a.length<=lim)) (match ixN a.length k with
  | some j=>match a.cps.toList[j]? with
   | some c=>.ok (.cl (.str ⟨#[c]⟩))
   | none=>.bad
  | none=>.bad)
 | _,_=>.bad
def sIx(n d:Nat):Option Int->Nat
 | none=>d
 | some v=>if v<0 then (v+(n:Int)).toNat else min v.toNat n
def cut{α:Type}(xs:List α)(lo hi:Option Int):List α:=(xs.drop (sIx xs.length 0 lo)).take (sIx xs.length xs.length hi-sIx xs.length 0 lo)
def tE(x:Str)(lo hi:Option Int):Str:=⟨(cut x.cps.toList lo hi).toArray⟩
def dH(x:Vl)(lo hi:Option Int):R Vl:=match x.d with
 | .lst ds=>.ok ⟨.lst (cut ds lo hi),true,x.pa&&!noLs ds,if noLs ds then [] else x.al⟩
 | .tup ds=>.ok ⟨.tup (cut ds lo hi),false,x.pa&&!noLs ds,if noLs ds then [] else x.al⟩
 | .str a=>.iff (decide (a.length<=lim)) (.ok (.cl (.str (tE a lo hi))))
 | _=>.bad
def isI(cs:List Cl)(P:Pg):D->Option Bool
 | .non=>some false
 | .bl _=>some (cs.contains .tBool||cs.contains .tInt)
 | .int _=>some (cs.contains .tInt)
 | .str _=>some (cs.contains .tStr)
 | .tup _=>some (cs.contains .tTuple)
 | .lst _=>some (cs.contains .tList)
 | .dic _=>some (cs.contains .tDict)
 | .err _ _=>none
def isX(cs:List Cl)(P:Pg):D->Option Bool
 | .non=>match cs with
  | [.tValueError]=>some false
  | _=>none
 | .err c _=>match P.above.lookup c with
  | some ab=>some (cs.any λa=>ab.contains a)
  | none=>none
 | _=>none
def aKp(i:Int):Str:=(toString i:String)
def aFM:List D->Int->Option Int
 | [],a=>some a
 | .int i::ds,a=>aFM ds (a+i)
 | .bl b::ds,a=>aFM ds (a+b2i b)
 | _,_=>none
def rF:List D->Option (List Bool)
 | []=>some []
 | .bl a::ds=>match rF ds with
  | some bs=>some (a::bs)
  | none=>none
 | _=>none
def rG:List D->Option (List (Sum Int Str))
 | []=>some []
 | .int a::ds=>match rG ds with
  | some ks=>some (.inl a::ks)
  | none=>none
 | .str a::ds=>match rG ds with
  | some ks=>some (.inr a::ks)
  | none=>none
 | _=>none
def aAS(ks:List (Sum Int Str)):List (Sum Int Str):=ks.foldl (λσ v=>if σ.any (·==v) then σ else σ++[v]) []
def aHQ(x:D):List D->Option (List D)
 | []=>some [x]
 | y::ys=>match ltD x y with
  | some true=>some (x::y::ys)
  | some false=>match aHQ x ys with
   | some r=>some (y::r)
   | none=>none
  | none=>none
def aEL:List D->Option (List D)
 | []=>some []
 | d::ds=>match aEL ds with
  | some r=>aHQ d r
  | none=>none
def aAT(x:Str):Bool:=x.cps.all λc=>decide (97<=c)&&decide (c<=122)
mutual
def wt:D->Nat
 | .non=>4
 | .bl _=>5
 | .int i=>if i.natAbs<1000000000 then 10 else lim
 | .str x=>if aAT x then x.length+2 else lim
 | .tup ds=>3+wts ds
 | .lst ds=>2+wts ds
 | .dic _=>lim
 | .err _ _=>lim
def wts:List D->Nat
 | []=>0
 | d::ds=>wt d+2+wts ds
end
mutual
def dpt:D->Nat
 | .tup ds=>dpts ds+1
 | .lst ds=>dpts ds+1
 | .non=>0
 | .bl _=>0
 | .int _=>0
 | .str _=>0
 | .dic _=>0
 | .err _ _=>0
def dpts:List D->Nat
 | []=>0
 | d::ds=>max (dpt d) (dpts ds)
end
mutual
def fS:D->PySem.PyData
 | .non=>.none
 | .bl b=>.bool b
 | .int i=>.int i
 | .str x=>.str x
 | .tup ds=>.tuple (toPys ds)
 | .lst ds=>.list (toPys ds)
 | .dic _=>.none
 | .err _ _=>.none
def toPys:List D->List PySem.PyData
 | []=>[]
 | d::ds=>fS d::toPys ds
end
def aHR(d:D):Str:=(fS d).shown
@[simp] def aAU (b:Bi) (x:Vl):R Vl:=match b with
 | .len=>match x.d with
  | .lst ds=>.ok (.cl (.int ds.length))
  | .tup ds=>.ok (.cl (.int ds.length))
  | .str a=>.iff (decide (a.length<=lim)) (.ok (.cl (.int a.length)))
  | _=>.bad
 | .list=>match x.d with
  | .lst ds=>.ok ⟨.lst ds,true,x.pa&&!noLs ds,if noLs ds then [] else x.al⟩
  | .tup ds=>.ok ⟨.lst ds,true,x.pa&&!noLs ds,if noLs ds then [] else x.al⟩
  | _=>.bad
 | .tuple=>match x.d with
  | .lst ds=>.ok ⟨.tup ds,false,x.pa&&!noLs ds,if noLs ds then [] else x.al⟩
  | .tup ds=>.ok ⟨.tup ds,false,x.pa,x.al⟩
  | _=>.bad
 | .abs=>match x.d with
  | .int i=>.ok (.cl (.int (if i<0 then -i else i)))
  | _=>.bad
 | .int=>match x.d with
  | .int i=>.ok (.cl (.int i))
  | .bl b=>.ok (.cl (.int (b2i b)))
  | _=>.bad
 | .bool=>match zC x.d with
  | some k=>.ok (.cl (.bl k))
  | none=>.bad
 | .str=>match x.d with
  | .int i=>.iff (decide (i.natAbs<2 ^ 1000)) (.ok (.cl (.str (aKp i))))
  | _=>.bad
 | .repr=>match x.d with
  | .tup ds=>.iff (decide (wt (.tup ds)<lim)&&decide (dpt (.tup ds)<=60)) (.ok (.cl (.str (aHR (.tup ds)))))
  | _=>.bad
 | .sum=>match x.d with
  | .lst ds=>match aFM ds 0 with
   | some i=>.ok (.cl (.int i))
   | none=>.bad
  | _=>.bad
 | .all=>match x.d with
  | .lst ds=>match rF ds with
   | some bs=>.ok (.cl (.bl (bs.all id)))
   | none=>.bad
  | _=>.bad
 | .any=>match x.d with
  | .lst ds=>match rF ds with
   | some bs=>.ok (.cl (.bl (bs.any id)))
   | none=>.bad
  | _=>.bad
 | .sorted=>match x.d with
  | .lst ds=>match aEL ds with
   | some r=>.ok ⟨.lst r,true,x.pa&&!noLs ds,if noLs ds then [] else x.al⟩
   | none=>.bad
  | _=>.bad
 | _=>.bad
@[simp] def aKq (b:Bi) (x y:Vl):R Vl:=match b with
 | .min=>match x.d,y.d with
  | .int i,.int j=>.ok (.cl (.int (if j<i then j else i)))
  | _,_=>.bad
 | .max=>match x.d,y.d with
  | .int i,.int j=>.ok (.cl (.int (if j>i then j else i)))
  | _,_=>.bad
 | _=>.bad
def biD(b:Bi)(xs:List Vl):R Vl:=match xs with
 | [x]=>aAU b x
 | [x,y]=>aKq b x y
 | _=>.bad
def aAV:List D->Option (List Str)
 | []=>some []
 | .str x::ds=>match aAV ds with
  | some r=>some (x::r)
  | none=>none
 | _=>none
def aHS:D->D->Bool
 | .int a,.int b=>a==b
 | .str a,.str b=>a==b
 | _,_=>false
def aHT:D->Bool
 | .int _=>true
 | .str _=>true
 | _=>false
def aEM(k:D):List (D×D)->Option D
 | []=>none
 | (a,d)::r=>if aHS a k then some d else aEM k r
def upC(n:Nat):Nat:=if 97<=n/\n<=122 then n-32 else n
def mtD(m:Mt)(x:Vl)(ys:List Vl):R Vl:=match m,x.d,ys with
 | .join,.str a,[y]=>match y.d with
  | .lst ds=>match aAV ds with
   | some xs=>.iff (decide ((xs.map (·.length)).sum+xs.length*a.length<=lim)) (.ok (.cl (.str (PySem.Str.join a xs))))
   | none=>.bad
  | _=>.bad
 | .get,.dic kvs,[y]=>.iff (aHT y.d) (match aEM y.d kvs with
  | some d=>.ok (x.sub d)
  | none=>.ok (.cl .non))
 | .upper,.str a,[]=>.iff (a.cps.all (·<128)&&decide (a.length<=lim)) (.ok (.cl (.str ⟨a.cps.map upC⟩)))
 | _,_,_=>.bad
def bH(vs:List Vl):List Nat:=vs.flatMap (·.al)
def eX(vs:List Vl):Bool:=vs.any (·.pa)
def cW(vs:List Vl):Vl:=⟨.tup (vs.map (·.d)),false,eX vs,bH vs⟩
def gM(vs:List Vl):Vl:=⟨.lst (vs.map (·.d)),true,eX vs,bH vs⟩
def fB(args:List Vl)(r:Rt):Vl:=if r.2.2 then ⟨r.1,r.2.1,eX args,bH args⟩ else ⟨r.1,r.2.1,false,[]⟩
def fT(a b:Int):List D:=(List.range (b-a).toNat).map λ(k:Nat)=>.int (a+(k:Int))
def aEN:Int->List D->List D
 | _,[]=>[]
 | k,d::ds=>.tup [.int k,d]::aEN (k+1) ds
def dR:List D->List D->List D
 | a::as,b::bs=>.tup [a,b]::dR as bs
 | _,_=>[]
def bR(σ:Sg)(v:Vl):T->R Sg
 | .n i=>.ok (σ.set i v.slot)
 | .t is=>match v.d with
  | .tup ds=>if ds.length=is.length then .ok ((is.zip ds).foldl (λσ p=>σ.set p.1 (v.sub p.2).slot) σ) else .bad
  | _=>.bad
def dX(f:Vl->R (Option Vl)):List Vl->R (List Vl)
 | []=>.ok []
 | x::xs=>do
  let y<-f x
  let ys<-dX f xs
  match y with
  | some y=>.ok (y::ys)
  | none=>.ok ys
def eY:D->Option (List D)
 | .lst ds=>some ds
 | .tup ds=>some ds
 | _=>none
def items(x:Vl)(ds:List D):List Vl:=ds.map x.sub
def aEO:List D->Option (List (List Int))
 | []=>some []
 | .tup as::ds=>match aAR as,aEO ds with
  | some a,some r=>some (a::r)
  | _,_=>none
 | _=>none
def aAW:D->Option (List (List Int))
 | .tup ds=>aEO ds
 | _=>none
def aHU(ks:List (List (List Int)×D))(k:List (List Int)×D):List (List (List Int)×D):=if k.1∈ks.map (·.1) then ks.map (λx=>if x.1=k.1 then (x.1,k.2) else x) else ks++[k]
def aHV:D->Bool
 | .int _|.bl _=>true
 | _=>false
def aHW(ks:List (List (List Int)×D))(k:List (List Int)):Option D:=(ks.find? λx=>decide (x.1=k)).map (·.2)
def aAX:List D->Option (List (List (List Int)×D))
 | []=>some []
 | .tup [k,v]::ds=>match aAW k,aHV v,aAX ds with
  | some a,true,some r=>some ((a,v)::r)
  | _,_,_=>none
 | _=>none
def eP(k:Nat)(caps al:List Nat)(vs:List Vl):Vl:=
 if noLs (vs.map (·.d)) then ⟨.lst (vs.map (·.d)),true,false,[]⟩
 else ⟨.lst (vs.map (·.d)),true,eX vs,al++(bH vs).filterMap λj=>caps[j-k]?⟩
def aHX(σ:Sg)(i:Nat):R D:=match σ[i]? with
 | some (.par ds es)=>.ok (.lst [.lst ds,.lst es])
 | _=>.bad
def aAY(r:Rt):R Vl:=.iff (noL r.1&&!r.2.1) (.ok (.cl r.1))
def frD(v:Vl):Option (List D):=match v.fr,v.d with
 | true,.lst ds=>if noLs ds then some ds else none
 | _,_=>none
def aHY(σ:Sg):Bool:=σ.all λs=>match s with
 | .par _ _=>false
 | _=>true
def aHZ(z:Bool)(f:List D->List D)(ds es:List D):Sl:=if z then .par ds (f es) else .par (f ds) es
def nK(x y:Vl)(ds:List D):Vl:=if noLs ds then ⟨.lst ds,true,false,[]⟩ else ⟨.lst ds,true,x.pa||y.pa,x.al++y.al⟩
section
variable (P:Pg) (cl:Caller)
mutual
def ev(σ:Sg):E->R Vl
 | .c d=>.ok (.cl d)
 | .v i=>aO σ i
 | .op o a b=>do let x<-ev σ a;let y<-ev σ b;opD o x y
 | .neg a=>do
  let x<-ev σ a
  match x.d with
  | .int i=>.ok (.cl (.int (-i)))
  | _=>.bad
 | .nt a=>do let x<-ev σ a;let k<-fA x;.ok (.cl (.bl (!k)))
 | .an a b=>do
  let x<-ev σ a
  match x.d with
  | .bl true=>ev σ b
  | .bl false=>.ok (.cl (.bl false))
  | _=>.bad
 | .orr a b=>do
  let x<-ev σ a
  match x.d with
  | .bl true=>.ok (.cl (.bl true))
  | .bl false=>ev σ b
  | _=>.bad
 | .ife t a b=>do
  let x<-tst σ t
  if x then ev σ a else ev σ b
 | .cmp o a b=>do
  let x<-ev σ a
  let y<-ev σ b
  match cT o x.d y.d with
  | some k=>.ok (.cl (.bl k))
  | none=>.bad
 | .cmp2 o o' a b c=>do
  let x<-ev σ a
  let y<-ev σ b
  match cT o x.d y.d with
  | some true=>do
   let z<-ev σ c
   match cT o' y.d z.d with
   | some k=>.ok (.cl (.bl k))
   | none=>.bad
  | some false=>.ok (.cl (.bl false))
  | none=>.bad
 | .idx a b=>do let x<-ev σ a;let y<-ev σ b;bW x y
 | .sli a lo hi=>do
  let x<-ev σ a
  let l<-evs σ lo
  let h<-evs σ hi
  match l,h with
  | [],[]=>dH x none none
  | [l],[]=>match l.d with
   | .int l=>.iff (aI l) (dH x (some l) none)
   | _=>.bad
  | [],[h]=>match h.d with
   | .int h=>.iff (aI h) (dH x none (some h))
   | _=>.bad
  | [l],[h]=>match l.d,h.d with
   | .int l,.int h=>.iff (aI l&&aI h) (dH x (some l) (some h))
   | _,_=>.bad
  | _,_=>.bad
 | .tup es=>do let vs<-evs σ es;.ok (cW vs)
 | .lst es=>do let vs<-evs σ es;.ok (gM vs)
 | .dic ks vs=>do
  let ks<-evs σ ks
  let vs<-evs σ vs
  match (ks.map (λ(v:Vl)=>v.d):List D),(vs.map (λ(v:Vl)=>v.d):List D) with
  | [.int k],[.int v]=>.ok (.cl (.dic [(.int k,.int v)]))
  | [],[]=>.ok (.cl (.dic []))
  | _,_=>.bad
 | .call f es=>do
  let vs<-evs σ es
  let r<-cl f (vs.map (·.d))
  .ok (fB vs r)
 | .bi b es=>do let vs<-evs σ es;biD b vs
 | .mth m o es=>do let x<-ev σ o;let ys<-evs σ es;mtD m x ys
 | .isi a cs=>do
  let x<-ev σ a
  match isI cs P x.d with
  | some k=>.ok (.cl (.bl k))
  | none=>.bad
 | .isx a cs=>do
  let x<-ev σ a
  match isX cs P x.d with
  | some k=>.ok (.cl (.bl k))
  | none=>.bad
 | .comp k caps t it cond elt=>do
  let xs<-walk σ it
  .iff (decide (xs.1.length<=lim)) (do
   let vs<-dX (λx=>do
    let σ1<-bR (List.replicate k .dead++caps.map λi=>((freeze σ xs.2)[i]?).getD .dead) x t
    let k<-(tsts σ1 cond).calm
    if k then do let y<-ev σ1 elt;.ok (some y) else .ok none) xs.1
   .ok (eP k caps xs.2 vs))
 | .numset a=>do
  let x<-ev σ a
  match x.d with
  | .lst ds=>match rG ds with
   | some ks=>.iff (decide (ds.length<=1000)) (.ok (.cl (.int (aAS ks).length)))
   | none=>.bad
  | _=>.bad
 | .tget i a=>do
  let x<-ev σ a
  match x.d,P.tabs[i]? with
  | .str k,some t=>.ok (.cl ((t.lookup k).getD .non))
  | _,_=>.bad
 | .lzip a b=>do
  let x<-ev σ a
  let y<-ev σ b
  match eY x.d,eY y.d with
  | some as,some bs=>.iff (decide (as.length<=lim)) (.ok (nK x y (dR as bs)))
  | _,_=>.bad
 | .dnin a j=>do
  let x<-ev σ a
  match σ[j]?,aAW x.d with
  | some (.dct ks),some k=>.ok (.cl (.bl (!decide (k∈ks.map (·.1)))))
  | _,_=>.bad
 | .dget j a=>do
  let x<-(ev σ a).calm
  match σ[j]?,aAW x.d with
  | some (.dct ks),some k=>(match aHW ks k with
   | some d=>.iff (aHV d) (.ok (.cl d))
   | none=>.bad)
  | _,_=>.bad
 | .dlen j=>match σ[j]? with
  | some (.dct ks)=>.ok (.cl (.int ks.length))
  | _=>.bad
 | .callP f i es=>do
  let vs<-(evs σ es).calm
  let d<-aHX σ i
  let r<-(cl f (d::vs.map (·.d))).calm
  aAY r
def tst(σ:Sg):E->R Bool
 | .nt a=>do let x<-tst σ a;.ok (!x)
 | .an a b=>do
  let x<-tst σ a
  if x then tst σ b else .ok false
 | .orr a b=>do
  let x<-tst σ a
  if x then .ok true else tst σ b
 | .c d=>fA (.cl d)
 | .v i=>do let x<-aO σ i;fA x
 | .cmp o a b=>do
  let x<-ev σ a
  let y<-ev σ b
  match cT o x.d y.d with
  | some k=>.ok k
  | none=>.bad
 | .cmp2 o o' a b c=>do
  let x<-ev σ a
  let y<-ev σ b
  match cT o x.d y.d with
  | some true=>do
   let z<-ev σ c
   match cT o' y.d z.d with
   | some k=>.ok k
   | none=>.bad
  | some false=>.ok false
  | none=>.bad
 | .call f es=>do
  let vs<-evs σ es
  let r<-cl f (vs.map (·.d))
  fA (fB vs r)
 | .bi b es=>do let vs<-evs σ es;let x<-biD b vs;fA x
 | .mth m o es=>do let x<-ev σ o;let ys<-evs σ es;let z<-mtD m x ys;fA z
 | .idx a b=>do let x<-ev σ a;let y<-ev σ b;let z<-bW x y;fA z
 | .isi a cs=>do
  let x<-ev σ a
  match isI cs P x.d with
  | some k=>.ok k
  | none=>.bad
 | .dnin a j=>do
  let x<-ev σ a
  match σ[j]?,aAW x.d with
  | some (.dct ks),some k=>.ok (!decide (k∈ks.map (·.1)))
  | _,_=>.bad
 | .callP f i es=>do
  let vs<-(evs σ es).calm
  let d<-aHX σ i
  let r<-(cl f (d::vs.map (·.d))).calm
  let x<-aAY r
  fA x
 | .isx a cs=>do
  let x<-ev σ a
  match isX cs P x.d with
  | some k=>.ok k
  | none=>.bad
 | _=>.bad
def evs(σ:Sg):Es->R (List Vl)
 | .nil=>.ok []
 | .cons e es=>do let x<-ev σ e;let xs<-evs σ es;.ok (x::xs)
def walk(σ:Sg):It->R (List Vl×List Nat)
 | .seq e=>do
  let x<-ev σ e
  match x.d with
  | .lst ds=>.ok (items x ds,x.al)
  | .tup ds=>.ok (items x ds,x.al)
  | .str a=>.iff (decide (a.length<=lim)) (.ok (a.cps.toList.map λn=>.cl (.str ⟨#[n]⟩),[]))
  | _=>.bad
 | .rng a b=>do
  let x<-ev σ a
  let y<-ev σ b
  match x.d,y.d with
  | .int i,.int j=>.iff (aI i&&aI j) (.ok ((fT i j).map .cl,[]))
  | _,_=>.bad
 | .zip a b=>do
  let x<-ev σ a
  let y<-ev σ b
  match eY x.d,eY y.d with
  | some as,some bs=>.ok (items ⟨.non,false,x.pa||y.pa,x.al++y.al⟩ (dR as bs),x.al++y.al)
  | _,_=>.bad
 | .enum a=>do
  let x<-ev σ a
  match eY x.d with
  | some as=>.ok (items x (aEN 0 as),x.al)
  | none=>.bad
 | .rev a=>do
  let x<-ev σ a
  match eY x.d with
  | some as=>.ok (items x as.reverse,x.al)
  | none=>.bad
def tsts(σ:Sg):Es->R Bool
 | .nil=>.ok true
 | .cons e es=>do
  let x<-tst σ e
  if x then tsts σ es else .ok false
end
set_option genInjectivity true in
inductive O where
 | next (σ:Sg)|brk (σ:Sg)|cnt (σ:Sg)|ret (v:Vl)|exc (x:D) (σ:Sg)|bad
 deriving Inhabited
def O.from{α:Type}(σ:Sg)(x:R α)(f:α->O):O:=match x with
 | .ok a=>f a
 | .exc e=>.exc e σ
 | .bad=>.bad
def O.on(o:O)(f:Sg->O):O:=match o with
 | .next σ=>f σ
 | o=>o
def cZ(f:Sg->Vl->O):List Vl->Sg->O
 | [],σ=>.next σ
 | x::xs,σ=>match f σ x with
  | .next σ'=>cZ f xs σ'
  | .cnt σ'=>cZ f xs σ'
  | .brk σ'=>.next σ'
  | o=>o
def gN(t:Sg->R Bool)(f:Sg->O):Nat->Sg->O
 | 0,_=>.bad
 | n+1,σ=>O.from σ (t σ) λk=>if k then (match f σ with
     | .next σ'=>gN t f n σ'
     | .cnt σ'=>gN t f n σ'
     | .brk σ'=>.next σ'
     | o=>o) else .next σ
def tF:Nat:=1000000
def eF(σ:Sg)(i:Nat):Option (Bool×List D):=match σ[i]? with
 | some (.own pa ds)=>some (pa,ds)
 | _=>none
def put(σ:Sg)(i:Nat)(v:Vl)(f:List D->Option (List D)):O:=match eF (freeze σ v.al) i with
 | some (pa,ds)=>match f ds with
  | some ds'=>if ds'.length<=lim then .next ((freeze σ v.al).set i (.own (pa||v.pa) ds')) else .bad
  | none=>.bad
 | none=>.bad
def aEP(σ:Sg)(i:Nat)(v:Vl):O:=put σ i v λds=>some (ds++[v.d])
def nL(v:Vl):Option (Vl×List D):=match v.fr,v.d with
 | true,.lst ds=>some (⟨.non,false,v.pa&&!noLs ds,if noLs ds then [] else v.al⟩,ds)
 | _,_=>none
def dW(σ:Sg)(i:Nat)(k:Option Int):R (Vl×Sg):=match eF σ i with
 | some (pa,ds)=>match (match k with|none=>ixN ds.length (-1)|some k=>ixN ds.length k) with
  | some j=>match ds[j]? with
   | some d=>.ok (Vl.sub ⟨.non,false,pa,[]⟩ d,σ.set i (.own pa (ds.eraseIdx j)))
   | none=>.bad
  | none=>.bad
 | none=>.bad
def cQ(e:Sg->E->R Vl):Sg->List Vl->List Arg->R (List Vl×Sg)
 | σ,acc,[]=>.ok (acc,σ)
 | σ,acc,.e a::as=>do let x<-e σ a;cQ e σ (acc++[x]) as
 | σ,acc,.pop j::as=>do
  let (x,σ')<-dW σ j none
  if (bH acc).contains j then .bad else cQ e σ' (acc++[x]) as
def tG(e:Option (R Vl)):R (Option Int):=match e with
 | none=>.ok none
 | some x=>do
  let v<-x
  match v.d with
  | .int k=>.iff (aI k) (.ok (some k))
  | _=>.bad
mutual
def ex(σ:Sg):S->O
 | .set t e=>O.from σ (ev P cl σ e) λv=>O.from σ (bR (freeze σ v.al) v t) .next
 | .mov i j=>match σ[j]? with
  | some (.own pa ds)=>if i=j then .bad else .next ((σ.set j .dead).set i (.own pa ds))
  | some (.sh pa d)=>.next (σ.set i (.sh (pa&&!noL d) d))
  | _=>.bad
 | .setIx i k e=>O.from σ (ev P cl σ e) λv=>O.from σ (ev P cl σ k).calm λkv=>match kv.d with
  | .int k=>put σ i v λds=>match ixN ds.length k with
   | some j=>some (ds.set j v.d)
   | none=>none
  | _=>.bad
 | .app i e=>O.from σ (ev P cl σ e).calm λv=>aEP σ i v
 | .ext i e=>O.from σ (ev P cl σ e).calm λv=>match nL v with
  | some (v',ds')=>put σ i v' λds=>some (ds++ds')
  | none=>.bad
 | .pop t i k=>O.from σ (tG (k.map λe=>(ev P cl σ e).calm)) λk=>O.from σ (dW σ i k) λ(v,σ')=>match t with
  | none=>.next σ'
  | some t=>O.from σ' (bR σ' v t) .next
 | .clr i=>put σ i (.cl .non) λ_=>some []
 | .ins i k e=>O.from σ (ev P cl σ k).calm λkv=>O.from σ (ev P cl σ e).calm λv=>match kv.d with
  | .int k=>if 0<=k/\k<1000000 then put σ i v λds=>some (ds.take k.toNat++v.d::ds.drop k.toNat) else .bad
  | _=>.bad
 | .rev i=>put σ i (.cl .non) λds=>some ds.reverse
 | .appCall i f as=>O.from σ (cQ (λσ a=>ev P cl σ a) σ [] as).calm λ(vs,σ')=>O.from σ' (cl f (vs.map (·.d))).calm λr=>aEP σ' i (fB vs r)
 | .ret e=>O.from σ (ev P cl σ e) .ret
 | .retv i=>match σ[i]? with
  | some (.own pa ds)=>.ret ⟨.lst ds,true,pa,[]⟩
  | _=>O.from σ (aO σ i) .ret
 | .retN=>.ret (.cl .non)
 | .iff c a b=>O.from σ (tst P cl σ c) λk=>if k then exs σ a else exs σ b
 | .for t it b=>O.from σ (walk P cl σ it) λxs=>cZ (λσ x=>O.from σ (bR σ x t) λσ'=>exs σ' b) xs.1 (freeze σ xs.2)
 | .whl c b=>gN (λσ=>tst P cl σ c) (λσ=>exs σ b) tF σ
 | .brk=>.brk σ
 | .cnt=>.cnt σ
 | .pass=>.next σ
 | .off=>.bad
 | .ex e=>O.from σ (ev P cl σ e) λ_=>.next σ
 | .dnew i=>.next (σ.set i (.dct []))
 | .dput i e=>O.from σ (ev P cl σ e).calm λv=>match σ[i]?,aAW v.d with
  | some (.dct ks),some k=>if ks.length<lim then .next (σ.set i (.dct (aHU ks (k,.bl true)))) else .bad
  | _,_=>.bad
 | .dfrom i e=>O.from σ (ev P cl σ e).calm λv=>match v.fr,v.d with
  | true,.lst ds=>(match aAX ds with
   | some ks=>.next (σ.set i (.dct (ks.foldl aHU [])))
   | none=>.bad)
  | _,_=>.bad
 | .two i a b=>O.from σ (ev P cl σ a).calm λx=>O.from σ (ev P cl σ b).calm λy=>match frD x,frD y,aHY σ with
  | some ds,some es,true=>.next (σ.set i (.par ds es))
  | _,_,_=>.bad
 | .appP i z e=>O.from σ (ev P cl σ e).calm λv=>match σ[i]?,noL v.d with
  | some (.par ds es),true=>if ds.length<lim/\es.length<lim then .next (σ.set i (aHZ z (·++[v.d]) ds es)) else .bad
  | _,_=>.bad
 | .clrP i z=>match σ[i]? with
  | some (.par ds es)=>.next (σ.set i (aHZ z (λ_=>[]) ds es))
  | _=>.bad
 | .rse c keep es=>O.from σ (evs P cl σ es) λvs=>.exc (.err c (if keep then vs.map (·.d) else [])) σ
 | .tryAs b c i j=>match exs σ b with
  | .exc x σ'=>match isX [.own c] P x with
   | some true=>.next ((σ'.set i (.sh true x)).set j .dead)
   | _=>.bad
  | o=>o
def exs(σ:Sg):Ss->O
 | .nil=>.next σ
 | .cons s ss=>(ex σ s).on λσ'=>exs σ' ss
end
def nM(f:Nat)(ds:List D):R Rt:=match P.fns[f]? with
 | none=>.bad
 | some F=>if ds.length=F.np then
  match exs P cl ((ds.map λd=>Sl.sh true d)++List.replicate (F.ns-F.np) Sl.dead) F.body with
  | .ret v=>.ok (v.d,v.fr,v.pa)
  | .next _=>.ok (.non,false,false)
  | .exc x _=>.exc x
  | _=>.bad
  else .bad
end
def call(P:Pg):Nat->Caller
 | 0=>λ_ _=>.bad
 | n+1=>nM P (call P n)
end Hp
end
noncomputable section
namespace L2
open PySem PySem.Spec PyProof.Rows
section
variable {prog:Program} {w:World} {K:Type} [DecidableEq K] (knd:HeapKind prog w K)
inductive cR (h:Heap):List K->List Value->Prop
 | nil:cR h [] []
 | cons {k:K} {a:Addr} {ks:List K} {vs:List Value}:knd.is h k a->cR h ks vs->cR h (k::ks) (.ref a::vs)
def gO(h:Heap)(ks:List K)(a:Addr):Prop:=∃o its n,h.get? a=some o/\o.cls=.type "tuple" /\ o.data=.seq its n/\cR knd h ks its.toList
variable {knd}
theorem cR.inj{h:Heap}:∀{x y:List K} {vs:List Value},cR knd h x vs->cR knd h y vs->x=y
 | _,_,_,.nil,hy=>by cases hy;rfl
 | _,_,_,.cons h1 t,hy=>by
  cases hy with
  | cons h2 t2=>rw[knd.inj h1 h2,t.inj t2]
theorem cR.keeps{h h':Heap}{d:Addr}{o:Obj}{es ep}(ho:h.get? d=some o)(hd:o.data=.dict es ep)(hs:Heap.SameBut d h h'):∀{x:List K} {vs:List Value},cR knd h x vs->cR knd h' x vs
 | _,_,.nil=>.nil
 | _,_,.cons h1 t=>.cons (knd.keeps h1 ho hd hs) (t.keeps ho hd hs)
theorem gO.typeIs{s:Shared}{ks:List K}{a:Addr}(x:gO knd s.heap ks a):s.TypeIs (.ref a) "tuple" := let ⟨o,_,_,ho,hc,_⟩:=x;⟨o,ho,hc⟩
variable {A:Around} {E:Value->Shared->Prop} {s:Shared}
theorem gO.inj{h:Heap}{a:Addr}{x y:List K}(hx:gO knd h x a)(hy:gO knd h y a):x=y:=by
 obtain⟨o,its,n,ho,_,hd,hi⟩:=hx
 obtain⟨o',its',n',ho',_,hd',hi'⟩:=hy
 rw[ho] at ho'
 cases ho'
 rw[hd] at hd'
 cases hd'
 exact hi.inj hi'
end
section
variable {prog:Program} {w:World} {A:Around} {E:Value->Shared->Prop} {s:Shared}
end
abbrev NK:=List (List Int)
abbrev NE:=NK×Addr×V
abbrev pj(x:NE):NK×V:=(x.1,x.2.2)
def aKr(x:NE)(e:NK×Addr×Value):Prop:=e.1=x.1/\e.2.1=x.2.1/\bQ x.2.2 e.2.2
def nkH(k:NK):Int:=reduceHash (Builtin.Tuple.tupleHashOf (k.map λk=>reduceHash (Builtin.Tuple.tupleHashOf (k.map hashInt))))
def aKs(x:NK×Addr×Value):DictEntry:=⟨nkH x.1,.ref x.2.1,x.2.2⟩
def aIa(a:Addr)(xs:List NE)(h:Heap):Prop:=
 (a==sysModules)=false/\xs.length<=sizeLine/\∃o es ep vs,h.get? a=some o/\o.ExactDict/\o.data=.dict es ep/\es.toList=vs.map aKs/\Paired aKr xs vs/\(xs.map (·.1)).Nodup
abbrev gP(a:Addr)(xs:List NE):HO:=.ext (aIa a xs)
def tH(K:PySem.W.Frag)(H:Hp)(k:NK)(b:Addr):Prop:=∃bs:List Addr,SqT K H b (bs.map V.ref)/\Paired (λis c=>SqT K H c (is.map V.int)) k bs
section
variable {X:Cx} {pins:List (Addr×Obj)} {σ:St} {H:Hp} {s:Shared}
end
end L2
end
noncomputable section
namespace Hp
open PySem L2
abbrev Fg:=PySem.W.Frag
def _root_.L2.excO(a C:Addr):HO:=.ext λh=>∃o,PySem.W.InstAt h a o C none
theorem aFN(a C:Addr)(xs:List NE):excO a C≠gP a xs:=λe=>by
 have e:=HO.ext.inj e
 let o:Obj:={ cls:=.ref C,dict:=none,data:=.plain }
 let h:Heap:={ (default:Heap) with objs:=Array.replicate (a+1) o }
 have g:h.get? a=some o:=by
  have e:(Array.replicate (a+1) o)[a]? = some o:=by rw[Array.getElem?_replicate,if_pos (Nat.lt_succ_self _)]
  show(match (Array.replicate (a+1) o)[a]? with|some ⟨_,_,.freed,_⟩=>none|r=>r)=some o
  rw[e]
 have h1:∃o,PySem.W.InstAt h a o C none:=⟨o,g,rfl,rfl,trivial⟩
 have h2:aIa a xs h:=by rw[<-e];exact h1
 obtain⟨_,_,o2,es,ep,vs,g2,x,_⟩:=h2
 rw[g] at g2
 cases g2
 cases x.1
def kD:Key->D
 | .inl i=>.int i
 | .inr x=>.str x
mutual
def Rep(K:Fg)(H:Hp)(ex:Addr->Prop):D->V->Prop
 | .non,v=>v=.non
 | .bl b,v=>v=.bl b
 | .int i,v=>v=.int i
 | .str x,v=>v=.str x
 | .tup ds,v=>∃a xs,v=.ref a/\SqT K H a xs/\Reps K H ex ds xs
 | .lst ds,v=>∃a xs,v=.ref a/\SqL K H a xs/\¬ ex a/\Reps K H ex ds xs
 | .dic kvs,v=>∃a ks,v=.ref a/\H a=some (.dK ks)/\RepKV K H ex kvs ks
 | .err c _,v=>∃a C1,v=.ref a/\H a=some (excO a C1)/\PySem.W.nsIn K mainGlobals c=some (some (.ref C1))
def Reps(K:Fg)(H:Hp)(ex:Addr->Prop):List D->List V->Prop
 | [],xs=>xs=[]
 | d::ds,xs=>∃x r,xs=x::r/\Rep K H ex d x/\Reps K H ex ds r
def RepKV(K:Fg)(H:Hp)(ex:Addr->Prop):List (D×D)->List (Key×V)->Prop
 | [],ks=>ks=[]
 | (k,d)::r,ks=>∃k' x r',ks=(k',x)::r'/\kD k'=k/\Rep K H ex d x/\RepKV K H ex r r'
end
section
variable {K:Fg} {H H':Hp} {ex ex':Addr->Prop}
theorem aM.seqT{a:Addr}{xs:List V}(e:aM H H')(h:SqT K H a xs):SqT K H' a xs:=by
 rcases h with(h|⟨o,h⟩)|h
 . exact .inl (.inl (e _ _ h))
 . exact .inl (.inr ⟨o,e _ _ h⟩)
 . exact .inr h
mutual
theorem Rep.imp(hT:∀a xs,SqT K H a xs->SqT K H' a xs)(hL:∀a xs,¬ ex a->SqL K H a xs->¬ ex' a/\SqL K H' a xs)(hD:∀a o,(∀xs,o≠.lst xs)->(∀xs,o≠gP a xs)->H a=some o->H' a=some o) :
 ∀(d:D) (v:V),Rep K H ex d v->Rep K H' ex' d v
 | .non,_,h=>h
 | .bl _,_,h=>h
 | .int _,_,h=>h
 | .str _,_,h=>h
 | .tup ds,_,h=>by
  obtain⟨a,xs,e,q,r⟩:=h
  exact⟨a,xs,e,hT a xs q,Reps.imp hT hL hD ds xs r⟩
 | .lst ds,_,h=>by
  obtain⟨a,xs,e,q,n,r⟩:=h
  obtain⟨n',q'⟩:=hL a xs n q
  exact⟨a,xs,e,q',n',Reps.imp hT hL hD ds xs r⟩
 | .dic kvs,_,h=>by
  obtain⟨a,ks,e,q,r⟩:=h
  exact⟨a,ks,e,hD a _ (λ_ z=>nomatch z) (λ_ z=>nomatch z) q,RepKV.imp hT hL hD kvs ks r⟩
 | .err _ _,_,h=>by
  obtain⟨a,C1,e,q,r⟩:=h
  exact⟨a,C1,e,hD a _ (λ_ z=>nomatch z) (λxs=>aFN a C1 xs) q,r⟩
theorem Reps.imp(hT:∀a xs,SqT K H a xs->SqT K H' a xs)(hL:∀a xs,¬ ex a->SqL K H a xs->¬ ex' a/\SqL K H' a xs)(hD:∀a o,(∀xs,o≠.lst xs)->(∀xs,o≠gP a xs)->H a=some o->H' a=some o) :
 ∀(ds:List D) (xs:List V),Reps K H ex ds xs->Reps K H' ex' ds xs
 | [],_,h=>h
 | d::ds,_,h=>by
  obtain⟨x,r,e,h1,h2⟩:=h
  exact⟨x,r,e,Rep.imp hT hL hD d x h1,Reps.imp hT hL hD ds r h2⟩
theorem RepKV.imp(hT:∀a xs,SqT K H a xs->SqT K H' a xs)(hL:∀a xs,¬ ex a->SqL K H a xs->¬ ex' a/\SqL K H' a xs)(hD:∀a o,(∀xs,o≠.lst xs)->(∀xs,o≠gP a xs)->H a=some o->H' a=some o) :
 ∀(ds:List (D×D)) (xs:List (Key×V)),RepKV K H ex ds xs->RepKV K H' ex' ds xs
 | [],_,h=>h
 | (k,d)::ds,_,h=>by
  obtain⟨k',x,r,e,ek,h1,h2⟩:=h
  exact⟨k',x,r,e,ek,Rep.imp hT hL hD d x h1,RepKV.imp hT hL hD ds r h2⟩
end
theorem Rep.weak{d:D}{v:V}(h:Rep K H ex d v)(e:∀a,ex' a->ex a):Rep K H ex' d v:=Rep.imp (λ_ _ q=>q) (λa _ n q=>⟨λz=>n (e a z),q⟩) (λ_ _ _ _ q=>q) d v h
theorem Reps.weak{d:List D}{v:List V}(h:Reps K H ex d v)(e:∀a,ex' a->ex a):Reps K H ex' d v:=Reps.imp (λ_ _ q=>q) (λa _ n q=>⟨λz=>n (e a z),q⟩) (λ_ _ _ _ q=>q) d v h
theorem Rep.grow{d:D}{v:V}(h:Rep K H ex d v)(s:aM H H'):Rep K H' ex d v:=Rep.imp (λ_ _ q=>aM.seqT s q) (λ_ _ n q=>⟨n,s.seq q⟩) (λ_ _ _ _ q=>s _ _ q) d v h
theorem Reps.grow{d:List D}{v:List V}(h:Reps K H ex d v)(s:aM H H'):Reps K H' ex d v:=Reps.imp (λ_ _ q=>aM.seqT s q) (λ_ _ n q=>⟨n,s.seq q⟩) (λ_ _ _ _ q=>s _ _ q) d v h
theorem Rep.keep{d:D}{v:V}(h:Rep K H ex d v)(s:∀a o,H a=some o->(∀xs,o=.lst xs->¬ ex a)->(∀xs,o≠gP a xs)->H' a=some o):Rep K H' ex d v:=by
 refine Rep.imp (λa xs q=>?_) (λa xs n q=>⟨n,?_⟩) (λa o nl nd q=>s a _ q (λxs e=>absurd e (nl xs)) nd) d v h
 . rcases q with(q|⟨o,q⟩)|q
   . exact .inl (.inl (s _ _ q (λxs e=>by cases e) (λ_ z=>by cases z)))
   . exact .inl (.inr ⟨o,s _ _ q (λxs e=>by cases e) (λ_ z=>by cases z)⟩)
   . exact .inr q
 . rcases q with(q|⟨o,q⟩)|q
   . exact .inl (.inl (s _ _ q (λ_ _=>n) (λ_ z=>by cases z)))
   . exact .inl (.inr ⟨o,s _ _ q (λxs e=>by cases e) (λ_ z=>by cases z)⟩)
   . exact .inr q
theorem Reps.keep{d:List D}{v:List V}(h:Reps K H ex d v)(s:∀a o,H a=some o->(∀xs,o=.lst xs->¬ ex a)->(∀xs,o≠gP a xs)->H' a=some o):Reps K H' ex d v:=by
 refine Reps.imp (λa xs q=>?_) (λa xs n q=>⟨n,?_⟩) (λa o nl nd q=>s a _ q (λxs e=>absurd e (nl xs)) nd) d v h
 . rcases q with(q|⟨o,q⟩)|q
   . exact .inl (.inl (s _ _ q (λxs e=>by cases e) (λ_ z=>by cases z)))
   . exact .inl (.inr ⟨o,s _ _ q (λxs e=>by cases e) (λ_ z=>by cases z)⟩)
   . exact .inr q
 . rcases q with(q|⟨o,q⟩)|q
   . exact .inl (.inl (s _ _ q (λ_ _=>n) (λ_ z=>by cases z)))
   . exact .inl (.inr ⟨o,s _ _ q (λxs e=>by cases e) (λ_ z=>by cases z)⟩)
   . exact .inr q
mutual
theorem Rep.free:∀(d:D) (v:V),noL d=true->Rep K H ex d v->Rep K H ex' d v
 | .non,_,_,h=>h
 | .bl _,_,_,h=>h
 | .int _,_,_,h=>h
 | .str _,_,_,h=>h
 | .tup ds,_,n,h=>by
  obtain⟨a,xs,e,q,r⟩:=h
  exact⟨a,xs,e,q,Reps.free ds xs (by simpa[noL] using n) r⟩
 | .lst ds,_,n,_=>by simp[noL] at n
 | .dic kvs,_,n,_=>by simp[noL] at n
 | .err _ _,_,n,_=>by simp[noL] at n
theorem Reps.free:∀(ds:List D) (xs:List V),noLs ds=true->Reps K H ex ds xs->Reps K H ex' ds xs
 | [],_,_,h=>h
 | d::ds,_,n,h=>by
  obtain⟨x,r,e,h1,h2⟩:=h
  simp only[noLs,bA] at n
  exact⟨x,r,e,Rep.free d x n.1 h1,Reps.free ds r n.2 h2⟩
end
theorem Reps.length:∀{ds:List D} {xs:List V},Reps K H ex ds xs->ds.length=xs.length
 | [],_,h=>by rw[show _=[] from h];rfl
 | d::ds,_,h=>by
  obtain⟨x,r,e,_,h2⟩:=h
  subst e
  rw[lC,lC,Reps.length h2]
theorem Reps.get:∀{ds:List D} {xs:List V} {j:Nat} {d:D},Reps K H ex ds xs->ds[j]? = some d->∃x,xs[j]? = some x/\Rep K H ex d x
 | [],_,_,_,_,e=>by simp at e
 | d::ds,_,0,_,h,e=>by
  obtain⟨x,r,e',h1,_⟩:=h
  subst e'
  simp at e
  subst e
  exact⟨x,rfl,h1⟩
 | d::ds,_,j+1,d',h,e=>by
  obtain⟨x,r,e',_,h2⟩:=h
  subst e'
  obtain⟨y,hy,q⟩:=Reps.get (j:=j) (d:=d') h2 (by simpa using e)
  exact⟨y,by simpa using hy,q⟩
theorem Reps.get'{ds:List D}{xs:List V}{j:Nat}{x:V}(h:Reps K H ex ds xs)(e:xs[j]? = some x):∃d,ds[j]? = some d/\Rep K H ex d x:=by
 have hl:=h.length
 have hj:j<xs.length:=(List.getElem?_eq_some_iff.mp e).1
 obtain⟨d,hd⟩:∃d,ds[j]? = some d:=⟨ds[j],List.getElem?_eq_getElem (by omega)⟩
 obtain⟨y,hy,q⟩:=h.get hd
 rw[e] at hy
 cases hy
 exact⟨d,hd,q⟩
theorem Reps.nil:Reps K H ex [] []:=rfl
theorem Reps.cons{d:D}{ds:List D}{x:V}{xs:List V}(h:Rep K H ex d x)(t:Reps K H ex ds xs):Reps K H ex (d::ds) (x::xs):=⟨x,xs,rfl,h,t⟩
theorem Reps.append:∀{ds es:List D} {xs ys:List V},Reps K H ex ds xs->Reps K H ex es ys->Reps K H ex (ds++es) (xs++ys)
 | [],_,_,_,h,t=>by rw[show _=[] from h];exact t
 | d::ds,_,_,_,h,t=>by
  obtain⟨x,r,e,h1,h2⟩:=h
  subst e
  exact⟨x,_,rfl,h1,Reps.append h2 t⟩
theorem Reps.take:∀{ds:List D} {xs:List V} (n:Nat),Reps K H ex ds xs->Reps K H ex (ds.take n) (xs.take n)
 | _,_,0,_=>by simp[Reps]
 | [],_,n+1,h=>by rw[show _=[] from h];simp[Reps]
 | d::ds,_,n+1,h=>by
  obtain⟨x,r,e,h1,h2⟩:=h
  subst e
  exact⟨x,_,rfl,h1,Reps.take n h2⟩
theorem Reps.drop:∀{ds:List D} {xs:List V} (n:Nat),Reps K H ex ds xs->Reps K H ex (ds.drop n) (xs.drop n)
 | _,_,0,h=>h
 | [],_,n+1,h=>by rw[show _=[] from h];simp[Reps]
 | d::ds,_,n+1,h=>by
  obtain⟨x,r,e,h1,h2⟩:=h
  subst e
  exact Reps.drop n h2
theorem Reps.set:∀{ds:List D} {xs:List V} {d:D} {x:V} (j:Nat),Reps K H ex ds xs->Rep K H ex d x->Reps K H ex (ds.set j d) (xs.set j x)
 | [],_,_,_,_,h,_=>by rw[show _=[] from h];simp[Reps]
 | d::ds,_,_,_,0,h,q=>by
  obtain⟨x,r,e,h1,h2⟩:=h
  subst e
  exact⟨_,_,rfl,q,h2⟩
 | d::ds,_,_,_,j+1,h,q=>by
  obtain⟨x,r,e,h1,h2⟩:=h
  subst e
  exact⟨x,_,rfl,h1,Reps.set j h2 q⟩
theorem Reps.eraseIdx:∀{ds:List D} {xs:List V} (j:Nat),Reps K H ex ds xs->Reps K H ex (ds.eraseIdx j) (xs.eraseIdx j)
 | [],_,_,h=>by rw[show _=[] from h];simp[Reps]
 | d::ds,_,0,h=>by
  obtain⟨x,r,e,h1,h2⟩:=h
  subst e
  exact h2
 | d::ds,_,j+1,h=>by
  obtain⟨x,r,e,h1,h2⟩:=h
  subst e
  exact⟨x,_,rfl,h1,Reps.eraseIdx j h2⟩
theorem Reps.reverse:∀{ds:List D} {xs:List V},Reps K H ex ds xs->Reps K H ex ds.reverse xs.reverse
 | [],_,h=>by rw[show _=[] from h];simp[Reps]
 | d::ds,_,h=>by
  obtain⟨x,r,e,h1,h2⟩:=h
  subst e
  rw[List.reverse_cons,List.reverse_cons]
  exact(Reps.reverse h2).append (.cons h1 .nil)
theorem Reps.flat:∀{ds:List D} {xs:List V},Reps K H ex ds xs->∀k:Nat,Reps K H ex (List.replicate k ds).flatten (List.replicate k xs).flatten
 | _,_,_,0=>by simp[Reps]
 | ds,xs,h,k+1=>by
  rw[List.replicate_succ,List.replicate_succ,List.flatten_cons,List.flatten_cons]
  exact h.append (Reps.flat h k)
end
end Hp
end
noncomputable section
namespace Hp
open PySem
structure Ct where
 N:List Str
 sc:List (Str×NameKind)
 fns:List Str
 cns:List (Str×D)
 cls:List Str
 fn:Bool
 tbs:List Str
 rsd:List Str:=[]
def aAZ(Γ:Ct)(x:Str):Bool:=match Γ.sc.lookup x with
 | some .local=>true
 | some .cell=>true
 | some .free=>true
 | _=>false
def tJ(Γ:Ct)(x:Str):Bool:=match Γ.sc.lookup x with
 | some .local=>true
 | some .cell=>Γ.fn
 | _=>false
def nN(sc names:List (Str×NameKind)):List (Str×NameKind):=names.map λ(n,k)=>if (k==.free&&sc.lookup n==some .cell) then (n,.cell) else (n,k)
def pO:Expr->Bool
 | .Tuple _ _ _=>true
 | _=>false
def tIx:T->List Nat
 | .n i=>[i]
 | .t is=>is
def cS(Γ:Ct)(x:Str):Bool:=match Γ.sc.lookup x with
 | some .globalImplicit=>true
 | _=>false
def bM(x:Str):Bool:=!(x==("__debug__" : Str))&&!(x==("__classdict__" : Str))
def eJ(Γ:Ct)(i:Nat)(x:Str):Bool:=(Γ.N[i]?==some x)&&aAZ Γ x&&bM x
def bS(Γ:Ct)(i:Nat)(x:Str):Bool:=(Γ.N[i]?==some x)&&tJ Γ x&&bM x
def eqC:D->Const->Bool
 | .non,.none=>true
 | .bl a,.bool b=>a==b
 | .int a,.int b=>a==b
 | .str a,.str b=>a==b
 | _,_=>false
def eqK:D->D->Bool
 | .non,.non=>true
 | .bl a,.bl b=>a==b
 | .int a,.int b=>a==b
 | .str a,.str b=>a==b
 | _,_=>false
def jK:Bi->Str
 | .len => "len" | .list => "list" | .tuple => "tuple" | .min => "min" | .max => "max" | .abs => "abs" | .int => "int" | .str => "str" | .sum => "sum" | .all => "all" | .any => "any" | .sorted => "sorted" | .bool => "bool" | .repr => "repr"
def aBa:Bi->Bool
 | .len=>true|.list=>true|.int=>true
 | _=>false
def aKt:Cl->Bool
 | .own _=>false
 | .tValueError=>false
 | _=>true
def vM(Γ:Ct):Cl->Option Str
 | .tInt=>some "int" | .tBool=>some "bool" | .tStr=>some "str" | .tList=>some "list" | .tTuple=>some "tuple" | .tDict=>some "dict" | .tValueError=>some "ValueError"
 | .own c=>some c
def aEQ(Γ:Ct)(c:Cl):Expr->Bool
 | .Name x _=>(vM Γ c==some x)&&cS Γ x&&bM x
 | _=>false
def wW(Γ:Ct)(c:Cl)(y:Expr):Bool:=match c,y with
 | .own x,.Name z _=>(z==x)&&cS Γ x&&bM x&&Γ.cls.contains x
 | _,_=>false
def wX(Γ:Ct):List Cl->List Expr->Bool
 | [],[]=>true
 | c::cs,y::ys=>wW Γ c y&&wX Γ cs ys
 | _,_=>false
def aIb(Γ:Ct)(cs:List Cl)(y:Expr):Bool:=match y with
 | .Tuple es _ _=>wX Γ cs es&&decide (es.length<=1000)
 | .Name x _=>(match cs with
  | [.tValueError]=>(x==("ValueError" : Str))&&cS Γ x
  | [c]=>wW Γ c y
  | _=>false)
 | _=>false
def mL(Γ:Ct):T->Expr->Bool
 | .n i,.Name x _=>bS Γ i x
 | .t is,.Tuple es _ _=>is.length==es.length&&(is.zip es).all λp=>match p.2 with
  | .Name x _=>bS Γ p.1 x
  | _=>false
 | _,_=>false
def fK:Expr->List Str
 | .Name x _=>[x]
 | .Tuple es _ _=>es.filterMap fun|.Name x _=>some x|_=>none
 | _=>[]
def vN:E->Bool
 | .c (.int i)=>i==0
 | _=>false
def asC(e:Expr):Option { c:Const // ∃k p,e=.Constant c k p }:=match e with
 | .Constant c k p=>some ⟨c,k,p,rfl⟩
 | _=>none
def asN(e:Expr):Option { x:Str // ∃p,e=.Name x p }:=match e with
 | .Name x p=>some ⟨x,p,rfl⟩
 | _=>none
def aIc(e:Expr):Option { r:Expr×Operator×Expr // ∃p,e=.BinOp r.1 r.2.1 r.2.2 p }:=match e with
 | .BinOp l o r p=>some ⟨(l,o,r),p,rfl⟩
 | _=>none
def aKu(e:Expr):Option { r:UnaryOp×Expr // ∃p,e=.UnaryOp r.1 r.2 p }:=match e with
 | .UnaryOp o x p=>some ⟨(o,x),p,rfl⟩
 | _=>none
def aId(e:Expr):Option { r:BoolOp×List Expr×Pos // e=.BoolOp r.1 r.2.1 r.2.2 }:=match e with
 | .BoolOp o xs p=>some ⟨(o,xs,p),rfl⟩
 | _=>none
def aKv(e:Expr):Option { r:Expr×Expr×Expr // ∃p,e=.IfExp r.1 r.2.1 r.2.2 p }:=match e with
 | .IfExp t a b p=>some ⟨(t,a,b),p,rfl⟩
 | _=>none
def aER(e:Expr):Option { r:Expr×List CmpOp×List Expr // ∃p,e=.Compare r.1 r.2.1 r.2.2 p }:=match e with
 | .Compare l os rs p=>some ⟨(l,os,rs),p,rfl⟩
 | _=>none
def aES(e:Expr):Option { r:Expr×Expr // ∃p,e=.Subscript r.1 r.2 p }:=match e with
 | .Subscript x i p=>some ⟨(x,i),p,rfl⟩
 | _=>none
def aKw(e:Expr):Option { r:Option Expr×Option Expr // ∃p,e=.Slice r.1 r.2 none p }:=match e with
 | .Slice l h none p=>some ⟨(l,h),p,rfl⟩
 | _=>none
def aIe(e:Expr):Option { r:List Expr // ∃k p,e=.Tuple r k p }:=match e with
 | .Tuple xs k p=>some ⟨xs,k,p,rfl⟩
 | _=>none
def aIf(e:Expr):Option { r:List Expr // ∃p,e=.List r p }:=match e with
 | .List xs p=>some ⟨xs,p,rfl⟩
 | _=>none
def pC(e:Expr):Option { r:Str×List Expr // ∃p1 p2,e=.Call (.Name r.1 p1) r.2 [] p2 }:=match e with
 | .Call (.Name x p1) xs [] p2=>some ⟨(x,xs),p1,p2,rfl⟩
 | _=>none
def aKx(e:Expr):Option { r:Expr×Str×List Expr×Bool // ∃ap cp,e=.Call (.Attribute r.1 r.2.1 ap) r.2.2.1 [] cp/\(ap.endLine==cp.line)=r.2.2.2 }:=match e with
 | .Call (.Attribute x a ap) xs [] cp=>some ⟨(x,a,xs,ap.endLine==cp.line),ap,cp,rfl,rfl⟩
 | _=>none
def aKy(e:Expr):Option { r:Expr×List Comprehension×Scope // ∃p,e=.ListComp r.1 r.2.1 r.2.2 p }:=match e with
 | .ListComp e gs s p=>some ⟨(e,gs,s),p,rfl⟩
 | _=>none
def oB{α:Type}(o:Option α)(f:α->Bool):Bool:=match o with
 | some a=>f a
 | none=>false
def oS{α:Type}{q:α->Prop}(o:Option { a:α // q a })(f:α->Bool):Bool:=match o with
 | some a=>f a.1
 | none=>false
mutual
def gH:E->Bool
 | .c _=>true
 | .v _=>true
 | .op _ a b=>gH a&&gH b
 | .idx a b=>gH a&&gH b
 | .bi b es=>b==.len&&calmEs es
 | _=>false
def calmEs:Es->Bool
 | .nil=>true
 | .cons a r=>gH a&&calmEs r
end
mutual
def aY(Γ:Ct):E->Expr->Bool
 | .c d,e=>oS (asC e) (eqC d)||oS (asN e) λx=>cS Γ x&&bM x&&oB (Γ.cns.lookup x) (eqK d)
 | .v i,e=>oS (asN e) (eJ Γ i)
 | .op o a b,e=>oS (aIc e) λp=>o==p.2.1&&aY Γ a p.1&&aY Γ b p.2.2
 | .neg _,_=>false
 | .nt a,e=>oS (aKu e) λp=>p.1==.Not&&aY Γ a p.2
 | .an a b,e=>oS (aId e) λp=>p.1==.And&&(match p.2.1 with
  | [x,y]=>aY Γ a x&&aY Γ b y
  | x::y::z::r=>aY Γ a x&&aY Γ b (.BoolOp .And (y::z::r) p.2.2)
  | _=>false)
 | .orr a b,e=>oS (aId e) λp=>p.1==.Or&&(match p.2.1 with
  | [x,y]=>aY Γ a x&&aY Γ b y
  | x::y::z::r=>aY Γ a x&&aY Γ b (.BoolOp .Or (y::z::r) p.2.2)
  | _=>false)
 | .ife t a b,e=>oS (aKv e) λp=>aY Γ t p.1&&aY Γ a p.2.1&&aY Γ b p.2.2
 | .cmp o a b,e=>oS (aER e) λp=>(match p.2.1,p.2.2 with
  | [o'],[r]=>o==o'&&aY Γ a p.1&&aY Γ b r
  | _,_=>false)
 | .cmp2 o1 o2 a b c,e=>oS (aER e) λp=>(match p.2.1,p.2.2 with
  | [o1',o2'],[m,r]=>o1==o1'&&o2==o2'&&aY Γ a p.1&&aY Γ b m&&aY Γ c r
  | _,_=>false)
 | .dnin _ _,_=>false
 | .dget _ _,_=>false
 | .dlen _,_=>false
 | .idx a b,e=>oS (aES e) λp=>aY Γ a p.1&&aY Γ b p.2
 | .sli a lo hi,e=>oS (aES e) λp=>oS (aKw p.2) λq=>(aY Γ a p.1&&calmEs hi)&&chkO Γ lo q.1&&chkO Γ hi q.2
 | .tup es,e=>oS (aIe e) λxs=>decide (xs.length<=1000)&&chkEs Γ es xs
 | .lst es,e=>oS (aIf e) λxs=>decide (xs.length<=1000)&&chkEs Γ es xs
 | .call f es,e=>oS (pC e) λp=>(Γ.fns[f]?==some p.1)&&cS Γ p.1&&bM p.1&&chkEs Γ es p.2
 | .callP _ _ _,_=>false
 | .bi b es,e=>oS (pC e) λp=>aBa b&&(jK b==p.1)&&cS Γ p.1&&bM p.1&&!p.2.isEmpty&&chkEs Γ es p.2
 | .mth _ _ _,_=>false
 | .numset _,_=>false
 | .tget i a,e=>oS (aKx e) λp=>oS (asN p.1) λx=>(p.2.1==("get" : Str))&&(Γ.tbs[i]?==some x)&&cS Γ x&&bM x&&p.2.2.2&&(match p.2.2.1 with|[y]=>aY Γ a y|_=>false)
 | .lzip a b,e=>oS (pC e) λp=>(match p.2 with
  | [s]=>oS (pC s) λq=>(p.1==("list" : Str))&&cS Γ p.1&&(q.1==("zip" : Str))&&cS Γ q.1&&(match q.2 with|[x,y]=>aY Γ a x&&aY Γ b y|_=>false)
  | _=>false)
 | .isi a cs,e=>oS (pC e) λp=>(match cs,p.2 with
  | [c],[x,y]=>(p.1==("isinstance" : Str))&&cS Γ p.1&&aKt c&&aY Γ a x&&aEQ Γ c y
  | _,_=>false)
 | .isx a cs,e=>oS (pC e) λp=>(match p.2 with
  | [x,y]=>(p.1==("isinstance" : Str))&&cS Γ p.1&&aY Γ a x&&aIb Γ cs y
  | _=>false)
 | .comp k caps t it cond elt,e=>oS (aKy e) λp=>(match p.2.1 with
  | [⟨tg,iter,ifs,as⟩]=>
   as==0&&(fK tg).length==k&&(caps.all λi=>decide (i<Γ.N.length))&&decide caps.Nodup&&p.2.2.kind==.function&&decide (fK tg++caps.filterMap λi=>Γ.N[i]?).Nodup &&
   ((caps.filterMap λi=>Γ.N[i]?).all λx=>p.2.2.names.lookup x==some .free&&Γ.sc.lookup x==some .cell) &&
   (p.2.2.names.all λq=>q.2 != .cell&&(q.2 != .local||p.2.2.names.lookup q.1==some .local)&&(q.2 != .free||Γ.sc.lookup q.1==some .cell)) &&
   ((tIx t).all λi=>decide (i<k))&&decide (ifs.length<=1)&&(Γ.fn||gH elt) &&
   mL { Γ with N:=fK tg++caps.filterMap λi=>Γ.N[i]?,sc:=nN Γ.sc p.2.2.names,fn:=false } t tg&&chkI Γ (pO tg) it iter &&
   chkEs { Γ with N:=fK tg++caps.filterMap λi=>Γ.N[i]?,sc:=nN Γ.sc p.2.2.names,fn:=false } cond ifs &&
   aY { Γ with N:=fK tg++caps.filterMap λi=>Γ.N[i]?,sc:=nN Γ.sc p.2.2.names,fn:=false } elt p.1
  | _=>false)
 | .dic _ _,_=>false
def chkEs(Γ:Ct):Es->List Expr->Bool
 | .nil,[]=>true
 | .cons e es,x::xs=>aY Γ e x&&chkEs Γ es xs
 | _,_=>false
def chkO(Γ:Ct):Es->Option Expr->Bool
 | .nil,none=>true
 | .cons e .nil,some x=>aY Γ e x
 | _,_=>false
def chkI(Γ:Ct)(tt:Bool):It->Expr->Bool
 | .rng a b,e=>oS (pC e) λp=>(p.1==("range" : Str))&&cS Γ p.1&&(match p.2 with
  | [x]=>vN a&&aY Γ b x
  | [x,y]=>aY Γ a x&&aY Γ b y
  | _=>false)
 | .zip a b,e=>oS (pC e) λp=>(match p.2 with
  | [x,y]=>tt&&(p.1==("zip" : Str))&&cS Γ p.1&&aY Γ a x&&aY Γ b y
  | _=>false)
 | .seq c,x=>aY Γ c x
 | .enum _,_=>false
 | .rev _,_=>false
end
def gQ:Expr->Bool
 | .ListComp _ _ _ _=>true
 | .SetComp _ _ _ _=>true
 | .DictComp _ _ _ _ _=>true
 | _=>false
def isC:E->Bool
 | .comp _ _ _ _ _ _=>true
 | _=>false
def nO:Expr->Bool
 | .Tuple _ _ _=>true
 | .List _ _=>true
 | _=>false
def aFO:Expr->Bool
 | .Name _ _=>true
 | _=>false
def fL(Γ:Ct)(i:Nat)(m:Str):Expr->Option (List Expr)
 | .Call (.Attribute (.Name x _) a ap) xs [] cp=>if (a==m)&&eJ Γ i x&&(ap.endLine==cp.line) then some xs else none
 | _=>none
def nP(Γ:Ct):List Arg->List Expr->Bool
 | [],[]=>true
 | .e a::as,x::xs=>aY Γ a x&&nP Γ as xs
 | .pop j::as,x::xs=>(match fL Γ j "pop" x with|some []=>true|_=>false)&&nP Γ as xs
 | _,_=>false
def aDC(Γ:Ct)(f:Nat)(as:List Arg):Expr->Bool
 | .Call (.Name g _) (y::ys) [] _=>(Γ.fns[f]?==some g)&&cS Γ g&&bM g&&nP Γ as (y::ys)
 | _=>false
def aFP(s:Stmt):Option { r:Expr×Expr // ∃p,s=.Assign [r.1] r.2 p }:=match s with
 | .Assign [t] v p=>some ⟨(t,v),p,rfl⟩
 | _=>none
def sEx(s:Stmt):Option { r:Expr // ∃p,s=.Expr r p }:=match s with
 | .Expr v p=>some ⟨v,p,rfl⟩
 | _=>none
def aFQ(s:Stmt):Option { r:Option Expr // ∃p,s=.Return r p }:=match s with
 | .Return v p=>some ⟨v,p,rfl⟩
 | _=>none
def sIf(s:Stmt):Option { r:Expr×List Stmt×List Stmt // ∃p,s=.If r.1 r.2.1 r.2.2 p }:=match s with
 | .If t x y p=>some ⟨(t,x,y),p,rfl⟩
 | _=>none
def aKz(s:Stmt):Option { r:Expr×Expr×List Stmt // ∃p,s=.For r.1 r.2.1 r.2.2 [] p }:=match s with
 | .For t i b [] p=>some ⟨(t,i,b),p,rfl⟩
 | _=>none
def aKA(s:Stmt):Option { r:Expr×List Stmt // ∃p,s=.While r.1 r.2 [] p }:=match s with
 | .While t b [] p=>some ⟨(t,b),p,rfl⟩
 | _=>none
def aKB(s:Stmt):Option { r:Unit // ∃p,s=.Break p }:=match s with
 | .Break p=>some ⟨(),p,rfl⟩
 | _=>none
def aKC(s:Stmt):Option { r:Unit // ∃p,s=.Continue p }:=match s with
 | .Continue p=>some ⟨(),p,rfl⟩
 | _=>none
def aIg(s:Stmt):Option { r:Unit // ∃p,s=.Pass p }:=match s with
 | .Pass p=>some ⟨(),p,rfl⟩
 | _=>none
def aKD(s:Stmt):Option { r:Str×Expr // ∃np cp p,s=.Raise (some (.Call (.Name r.1 np) [r.2] [] cp)) none p }:=match s with
 | .Raise (some (.Call (.Name x np) [a] [] cp)) none p=>some ⟨(x,a),np,cp,p,rfl⟩
 | _=>none
structure aIh where
 body:List Stmt
 x:Str
 n:Str
 y:Str
def aKE(s:Stmt):Option { r:aIh // ∃np yp np2 ap hp p,s=.Try r.body [.ExceptHandler (some (.Name r.x np)) (some r.n) [.Assign [.Name r.y yp] (.Name r.n np2) ap] hp] [] [] p }:=match s with
 | .Try body [.ExceptHandler (some (.Name x np)) (some n) [.Assign [.Name y yp] (.Name n' np2) ap] hp] [] [] p=>if h:n'=n then some ⟨⟨body,x,n,y⟩,np,yp,np2,ap,hp,p,by rw[h]⟩ else none
 | _=>none
mutual
def fC(Γ:Ct):S->Stmt->Bool
 | .set t e,s=>oS (aFP s) λr=>mL Γ t r.1&&aY Γ e r.2&&(aFO r.1||!nO r.2)&&(gQ r.2==isC e)
 | .mov i j,s=>oS (aFP s) λr=>oS (asN r.1) λx=>oS (asN r.2) λy=>bS Γ i x&&eJ Γ j y
 | .dnew _,_=>false
 | .dput _ _,_=>false
 | .dfrom _ _,_=>false
 | .setIx _ _ _,_=>false
 | .two _ _ _,_=>false
 | .appP _ _ _,_=>false
 | .clrP _ _,_=>false
 | .app i e,s=>oS (sEx s) λc=>(match fL Γ i "append" c with|some [a]=>aY Γ e a|_=>false)
 | .appCall i f as,s=>oS (sEx s) λc=>(match fL Γ i "append" c with|some [a]=>aDC Γ f as a|_=>false)
 | .ext i e,s=>oS (sEx s) λc=>(match fL Γ i "extend" c with|some [a]=>aY Γ e a|_=>false)
 | .pop t i k,s=>(match t,k with
  | none,none=>false
  | none,some _=>false
  | some t,none=>oS (aFP s) λr=>mL Γ t r.1&&(match fL Γ i "pop" r.2 with|some []=>true|_=>false)
  | some _,some _=>false)
 | .clr _,_=>false
 | .rev i,s=>oS (sEx s) λc=>(match fL Γ i "reverse" c with|some []=>true|_=>false)
 | .ret e,s=>oS (aFQ s) λr=>oB r (aY Γ e)
 | .retv i,s=>oS (aFQ s) λr=>oB r λv=>oS (asN v) (eJ Γ i)
 | .retN,s=>oS (aFQ s) λr=>r.isNone
 | .iff c a b,s=>oS (sIf s) λr=>aY Γ c r.1&&chkSs Γ a r.2.1&&chkSs Γ b r.2.2
 | .for t it b,s=>oS (aKz s) λr=>mL Γ t r.1&&chkI Γ (pO r.1) it r.2.1&&chkSs Γ b r.2.2
 | .whl c b,s=>oS (aKA s) λr=>aY Γ c r.1&&chkSs Γ b r.2
 | .brk,s=>oS (aKB s) λ_=>true
 | .cnt,s=>oS (aKC s) λ_=>true
 | .pass,s=>oS (aIg s) λ_=>true
 | .ex e,s=>oS (sEx s) λv=>aY Γ e v&&!gQ v
 | .off,_=>true
 | .rse c _ (.cons e .nil),s=>oS (aKD s) λr=>(r.1==c)&&cS Γ c&&bM c&&Γ.rsd.contains c&&aY Γ e r.2
 | .rse _ _ _,_=>false
 | .ins _ _ _,_=>false
 | .tryAs b c i j,s=>oS (aKE s) λr=>(r.x==c)&&cS Γ c&&bM c&&Γ.cls.contains c&&Γ.rsd.contains c&&bS Γ i r.y&&bS Γ j r.n&&(Γ.sc.lookup r.n==some .local)&&bM r.n&&(i != j)&&Γ.fn&&chkSs Γ b r.body
def chkSs(Γ:Ct):Ss->List Stmt->Bool
 | .nil,[]=>true
 | .cons s ss,x::xs=>fC Γ s x&&chkSs Γ ss xs
 | _,_=>false
end
end Hp
end
noncomputable section
namespace L2
open PySem PySem.Spec PyProof.Rows
def Rec(h:Heap)(e:Addr)(cls:Value)(T:Option Addr):Prop:=∃oe vs,h.get? e=some oe/\oe.cls=cls/\oe.dict=none/\oe.data=.fields vs/\match T with
 | none=>vs[1]? = some .none
 | some T=>vs[1]? = some (.ref T)/\T≠e/\∃oT ts,h.get? T=some oT/\oT.data=.fields ts/\∃f:Option Addr,ts[3]? = some (f.elim .none λf=>rawInt f)
structure Lx (fr:List Addr) (e:Addr) (T:Option Addr) (h h':Heap):Prop where
 keep:∀b o,h.get? b=some o->b∉fr->b≠e->T≠some b->h'.get? b=some o
 slot:∀b o,h.get? b=some o->b∈fr->∃sl,h'.get? b=some { o with slots:=sl }
theorem gR(f:Array Value->Array Value)(o:Obj):(o.mapFields f).dict=o.dict:=by
 obtain⟨c,d,dt,sl⟩:=o
 cases dt <;> rfl
section
variable {M:Model} {A:Around} {E:Value->Shared->Prop} {s:Shared}
theorem wY{base:Heap}{env:Env}{outer:List Env}{L e:Addr}{oe:Obj}{vs:Array Value}{head:Value}{hadNext:Bool}{Q:Unit->Shared->Prop}
 (hfr:A.frames=some (env::outer)) (hl:s.heap.FunFrames base (env::outer)) (hf:env.frame=some L)
 (he:s.heap.get? e=some oe) (hdi:oe.dict=none) (hd:oe.data=.fields vs) (hsz:1<vs.size)
 (h:∀h' T',s.heap.objs.size<=T'->Lx (frs (env::outer)) e none s.heap h'->Rec h' e oe.cls (some T')->Q () { s with heap:=h' }) :
 wpAny M A (do let a<-frameOf env;let pl<-entryPlaceOf L hadNext;let b<-EntryCells.newEntry head a .none (rawInt L) .none pl;setField (.ref e) 1 b) Q E s:=by
 have hene:e∉(env::outer).filterMap (·.frame):=λhm=>by
  obtain⟨_,o,ho,hnf⟩:=hl.mem hm
  rw[he] at ho;injection ho with ho;subst ho;exact hnf vs hd
 refine wpAny_bind (wpAny_frameOf_fun hfr hl hf λh₁ hs₁=>?_)
 refine wpAny_bind (wpAny_entryPlaceOf λpl hpl=>?_)
 unfold EntryCells.newEntry newFields
 refine wpAny_bind (wpAny_newObj_type ?_ (hpl.sizeOk5 _ _ _ _ _))
 have he₁:h₁.get? e=some oe:=(hs₁.2.1 e hene).trans he
 have he₂:=Heap.get?_push_of_some (h:=h₁) { cls:=.type "traceback",dict:=none,data:=.fields ([head,.ref L,.none,rawInt L,.none]++(if pl.isEmpty then List.replicate 6 Value.none else pl)).toArray } he₁
 refine wpAny_setField he₂ hd hsz ?_
 have hTe:h₁.objs.size≠e:=Nat.ne_of_gt (Heap.lt_size he₁)
 have hd₃:=Obj.data_mapFields hd (·.setIfInBounds 1 (Value.ref h₁.objs.size))
 have he₃:=Heap.get?_update_self (Obj.mapFields (·.setIfInBounds 1 (Value.ref h₁.objs.size))) he₂ (Obj.isFreed_of_fields hd₃)
 have hT₃:=(Heap.get?_update_other (h₁.push { cls:=.type "traceback",dict:=none,data:=.fields ([head,.ref L,.none,rawInt L,.none]++(if pl.isEmpty then List.replicate 6 Value.none else pl)).toArray })
  (Obj.mapFields (·.setIfInBounds 1 (Value.ref h₁.objs.size))) (Ne.symm hTe)).trans (Heap.get?_push_size h₁ rfl)
 refine h _ h₁.objs.size (by rw[hs₁.1];exact Nat.le_refl _) ?_ ?_
 . have keep:∀b o,b≠e->h₁.get? b=some o ->
    ((h₁.push { cls:=.type "traceback",dict:=none,data:=.fields ([head,.ref L,.none,rawInt L,.none]++(if pl.isEmpty then List.replicate 6 Value.none else pl)).toArray }).update e (Obj.mapFields (·.setIfInBounds 1 (Value.ref h₁.objs.size)))).get? b=some o:=λb o hbe hb=>by
    rw[Heap.get?_update_other _ _ (Ne.symm hbe)]
    exact Heap.get?_push_of_some _ hb
   refine⟨λb o hb hn hbe _=>keep b o hbe ((hs₁.2.1 b hn).trans hb),λb o hb hn=>?_⟩
   obtain⟨sl,hs⟩:=hs₁.2.2 b o hb
   refine⟨sl,keep b _ (λz=>?_) hs⟩
   subst z
   exact hene hn
 . exact⟨_,_,he₃,Obj.cls_mapFields _ _,(gR _ _).trans hdi,hd₃,by simp[hsz],hTe,_,_,hT₃,rfl,some L,by simp⟩
theorem wZ{base:Heap}{env:Env}{outer:List Env}{L e:Addr}{oe:Obj}{vs:Array Value}{head:Value}{hadNext:Bool}{Q:Unit->Shared->Prop}
 (hfr:A.frames=some (env::outer)) (hl:s.heap.FunFrames base (env::outer)) (hf:env.frame=some L)
 (he:s.heap.get? e=some oe) (hdi:oe.dict=none) (hd:oe.data=.fields vs) (hsz:1<vs.size)
 (h:∀h' T',s.heap.objs.size<=T'->Lx (frs (env::outer)) e none s.heap h'->Rec h' e oe.cls (some T')->Q () { s with heap:=h' }) :
 wpAny M A (do let a<-frameOf env;let pl<-entryPlaceOf L hadNext;let b<-EntryCells.newEntry head a .none (rawInt L) .none pl;setField (.ref e) 1 b) (λ_ s'=>wpAny M A (setFlight (.ref e) none) Q E s') E s:=by
 have hene:e∉(env::outer).filterMap (·.frame):=λhm=>by
  obtain⟨_,o,ho,hnf⟩:=hl.mem hm
  rw[he] at ho;injection ho with ho;subst ho;exact hnf vs hd
 refine wpAny_bind (wpAny_frameOf_fun hfr hl hf λh₁ hs₁=>?_)
 refine wpAny_bind (wpAny_entryPlaceOf λpl hpl=>?_)
 unfold EntryCells.newEntry newFields
 refine wpAny_bind (wpAny_newObj_type ?_ (hpl.sizeOk5 _ _ _ _ _))
 have he₁:h₁.get? e=some oe:=(hs₁.2.1 e hene).trans he
 have he₂:=Heap.get?_push_of_some (h:=h₁) { cls:=.type "traceback",dict:=none,data:=.fields ([head,.ref L,.none,rawInt L,.none]++(if pl.isEmpty then List.replicate 6 Value.none else pl)).toArray } he₁
 refine wpAny_setField he₂ hd hsz ?_
 have hTe:h₁.objs.size≠e:=Nat.ne_of_gt (Heap.lt_size he₁)
 have hd₃:=Obj.data_mapFields hd (·.setIfInBounds 1 (Value.ref h₁.objs.size))
 have he₃:=Heap.get?_update_self (Obj.mapFields (·.setIfInBounds 1 (Value.ref h₁.objs.size))) he₂ (Obj.isFreed_of_fields hd₃)
 have hT₃:=(Heap.get?_update_other (h₁.push { cls:=.type "traceback",dict:=none,data:=.fields ([head,.ref L,.none,rawInt L,.none]++(if pl.isEmpty then List.replicate 6 Value.none else pl)).toArray })
  (Obj.mapFields (·.setIfInBounds 1 (Value.ref h₁.objs.size))) (Ne.symm hTe)).trans (Heap.get?_push_size h₁ rfl)
 unfold setFlight
 refine wpAny_bind (wpAny_field he₃ hd₃ (x:=.ref h₁.objs.size) (by simp[hsz]) ?_)
 rw[if_pos (show(Value.ref h₁.objs.size != Value.none)=true from by simp)]
 refine wpAny_setField hT₃ rfl (by simp only[List.size_toArray,lA,lC,lN] <;> omega) (h _ h₁.objs.size (by rw[hs₁.1];exact Nat.le_refl _) ?_ ?_)
 . have keep:∀b o,b≠e->h₁.get? b=some o ->
    (((h₁.push { cls:=.type "traceback",dict:=none,data:=.fields ([head,.ref L,.none,rawInt L,.none]++(if pl.isEmpty then List.replicate 6 Value.none else pl)).toArray }).update e (Obj.mapFields (·.setIfInBounds 1 (Value.ref h₁.objs.size)))).update h₁.objs.size
     (Obj.mapFields (·.setIfInBounds 3 ((none:Option Addr).elim Value.none λf=>rawInt f)))).get? b=some o:=λb o hbe hb=>by
    have hbT:h₁.objs.size≠b:=Nat.ne_of_gt (Heap.lt_size hb)
    rw[Heap.get?_update_other _ _ hbT,Heap.get?_update_other _ _ (Ne.symm hbe)]
    exact Heap.get?_push_of_some _ hb
   refine⟨λb o hb hn hbe _=>keep b o hbe ((hs₁.2.1 b hn).trans hb),λb o hb hn=>?_⟩
   obtain⟨sl,hs⟩:=hs₁.2.2 b o hb
   refine⟨sl,keep b _ (λz=>?_) hs⟩
   subst z
   exact hene hn
 . refine⟨_,_,(Heap.get?_update_other _ _ hTe).trans he₃,Obj.cls_mapFields _ _,(gR _ _).trans hdi,hd₃,by simp[hsz],hTe,_,_,Heap.get?_update_self _ hT₃ (Obj.isFreed_of_fields (Obj.data_mapFields rfl _)),Obj.data_mapFields rfl _,none,by first|(simp;done)|(rcases hpl with rfl|⟨_,_,_,_,_,_,_,rfl⟩ <;> simp)⟩
theorem aBb{base:Heap}{env:Env}{outer:List Env}{L e:Addr}{cls:Value}{T:Option Addr}{Q:Unit->Shared->Prop}
 (hfr:A.frames=some (env::outer)) (hl:s.heap.FunFrames base (env::outer)) (hf:env.frame=some L) (hr:Rec s.heap e cls T)
 (h:∀h' T',(s.heap.objs.size<=T'\/T=some T')->Lx (frs (env::outer)) e T s.heap h'->Rec h' e cls (some T')->Q () { s with heap:=h' }):wpAny M A (noteFrame (.ref e) env) (λ_ s'=>wpAny M A (setFlight (.ref e) none) Q E s') E s:=by
 obtain⟨oe,vs,he,hcls,hdi,hd,hT⟩:=hr
 subst hcls
 unfold noteFrame
 simp only[hf]
 cases T with
 | none=>
  have h1:vs[1]? = some .none:=hT
  refine wpAny_bind (wpAny_field he hd h1 ?_)
  rw[if_neg (by decide)]
  exact wZ hfr hl hf he hdi hd (Array.getElem?_eq_some_iff.mp h1).1 λh' T' l=>h h' T' (.inl l)
 | some T=>
  obtain⟨h1,hTe,oT,ts,hT,hdT,fl,h3⟩:vs[1]? = some (.ref T)/\T≠e/\∃oT ts,s.heap.get? T=some oT/\oT.data=.fields ts/\∃f:Option Addr,ts[3]? = some (f.elim .none λf=>rawInt f):=hT
  refine wpAny_bind (wpAny_field he hd h1 ?_)
  rw[if_pos (show(Value.ref T != Value.none)=true from by simp)]
  have noRecord0:∀b o,s.heap.get? b=some o->(∀vs,o.data≠.fields vs)->b≠T:=λb o hb hnf q=>by
   rw[q,hT] at hb;injection hb with hb;subst hb;exact hnf ts hdT
  refine wpAny_bind (wpAny_field hT hdT h3 ?_)
  by_cases hfl:(fl.elim Value.none (λf=>rawInt f)==rawInt L)=true
  . rw[if_pos hfl]
    refine wpAny_pure ?_
    refine wpAny_setFlight_none he hd h1 hT hdT (Array.getElem?_eq_some_iff.mp h3).1 (h _ T (.inr rfl) ⟨λb o q _ _ hb=>?_,λb o q hb=>⟨o.slots,?_⟩⟩ ?_)
    . exact(Heap.get?_update_other _ _ λz=>hb (by rw[z])).trans q
    . obtain⟨_,o',ho',hnf⟩:=hl.mem hb
      rw[q] at ho'
      cases ho'
      exact(Heap.get?_update_other _ _ (Ne.symm (noRecord0 b o q hnf))).trans q
    . refine⟨oe,vs,(Heap.get?_update_other _ _ hTe).trans he,rfl,hdi,hd,h1,hTe,_,_,Heap.get?_update_self _ hT (Obj.isFreed_of_fields (Obj.data_mapFields hdT _)),Obj.data_mapFields hdT _,none,?_⟩
      have:=(Array.getElem?_eq_some_iff.mp h3).1
      simp[this]
  rw[if_neg hfl]
  refine wpAny_bind (wpAny_setField hT hdT (Array.getElem?_eq_some_iff.mp h3).1 ?_)
  have other:∀b,b≠T->(s.heap.update T (Obj.mapFields (·.setIfInBounds 3 Value.none))).get? b=s.heap.get? b:=λb hb=>Heap.get?_update_other _ _ (Ne.symm hb)
  have noRecord:∀b o,s.heap.get? b=some o->(∀vs,o.data≠.fields vs)->b≠T:=λb o hb hnf q=>by
   rw[q,hT] at hb;injection hb with hb;subst hb;exact hnf ts hdT
  have hsz:(s.heap.update T (Obj.mapFields (·.setIfInBounds 3 Value.none))).objs.size=s.heap.objs.size:=Heap.size_after_update ..
  refine wZ hfr (hl.of_keeps λb o hb hnf=>⟨o,(other b (noRecord b o hb hnf)).trans hb,rfl⟩) hf ((other e (Ne.symm hTe)).trans he) hdi hd (Array.getElem?_eq_some_iff.mp h1).1
   λh' T' l1 x1 x2=>h h' T' (.inl (by rw[<-hsz];exact l1)) ⟨λb o hb hn hbe hbT=>x1.keep b o ((other b λz=>hbT (by rw[z])).trans hb) hn hbe (λz=>nomatch z),λb o hb hn=>?_⟩ x2
  refine x1.slot b o ((other b ?_).trans hb) hn
  obtain⟨_,o',ho',hnf⟩:=hl.mem hn
  rw[hb] at ho'
  cases ho'
  exact noRecord b o hb hnf
theorem aDD{base:Heap}{env:Env}{outer:List Env}{L e:Addr}{cls:Value}{T:Option Addr}{Q:Unit->Shared->Prop}
 (hfr:A.frames=some (env::outer)) (hl:s.heap.FunFrames base (env::outer)) (hf:env.frame=some L) (hr:Rec s.heap e cls T)
 (h:∀h' T',(s.heap.objs.size<=T'\/T=some T')->Lx (frs (env::outer)) e T s.heap h'->Rec h' e cls (some T')->Q () { s with heap:=h' }):wpAny M A (noteFrame (.ref e) env) Q E s:=by
 have hr0:=hr
 obtain⟨oe,vs,he,hcls,hdi,hd,hT⟩:=hr
 subst hcls
 unfold noteFrame
 simp only[hf]
 cases T with
 | none=>
  have h1:vs[1]? = some .none:=hT
  refine wpAny_bind (wpAny_field he hd h1 ?_)
  rw[if_neg (by decide)]
  exact wY hfr hl hf he hdi hd (Array.getElem?_eq_some_iff.mp h1).1 λh' T' l=>h h' T' (.inl l)
 | some T=>
  obtain⟨h1,hTe,oT,ts,hT,hdT,fl,h3⟩:vs[1]? = some (.ref T)/\T≠e/\∃oT ts,s.heap.get? T=some oT/\oT.data=.fields ts/\∃f:Option Addr,ts[3]? = some (f.elim .none λf=>rawInt f):=hT
  refine wpAny_bind (wpAny_field he hd h1 ?_)
  rw[if_pos (show(Value.ref T != Value.none)=true from by simp)]
  refine wpAny_bind (wpAny_field hT hdT h3 ?_)
  by_cases hfl:(fl.elim Value.none (λf=>rawInt f)==rawInt L)=true
  . rw[if_pos hfl]
    exact wpAny_pure (h s.heap T (.inr rfl) ⟨λb o q _ _ _=>q,λb o q _=>⟨o.slots,q⟩⟩ hr0)
  rw[if_neg hfl]
  refine wpAny_bind (wpAny_setField hT hdT (Array.getElem?_eq_some_iff.mp h3).1 ?_)
  have other:∀b,b≠T->(s.heap.update T (Obj.mapFields (·.setIfInBounds 3 Value.none))).get? b=s.heap.get? b:=λb hb=>Heap.get?_update_other _ _ (Ne.symm hb)
  have noRecord:∀b o,s.heap.get? b=some o->(∀vs,o.data≠.fields vs)->b≠T:=λb o hb hnf q=>by
   rw[q,hT] at hb;injection hb with hb;subst hb;exact hnf ts hdT
  have hsz:(s.heap.update T (Obj.mapFields (·.setIfInBounds 3 Value.none))).objs.size=s.heap.objs.size:=Heap.size_after_update ..
  refine wY hfr (hl.of_keeps λb o hb hnf=>⟨o,(other b (noRecord b o hb hnf)).trans hb,rfl⟩) hf ((other e (Ne.symm hTe)).trans he) hdi hd (Array.getElem?_eq_some_iff.mp h1).1
   λh' T' l1 x1 x2=>h h' T' (.inl (by rw[<-hsz];exact l1)) ⟨λb o hb hn hbe hbT=>x1.keep b o ((other b λz=>hbT (by rw[z])).trans hb) hn hbe (λz=>nomatch z),λb o hb hn=>?_⟩ x2
  refine x1.slot b o ((other b ?_).trans hb) hn
  obtain⟨_,o',ho',hnf⟩:=hl.mem hn
  rw[hb] at ho'
  cases ho'
  exact noRecord b o hb hnf
theorem zD{base:Heap}{env:Env}{outer:List Env}{L e:Addr}{cls:Value}{T:Option Addr}{Q:Unit->Shared->Prop}
 (hfr:A.frames=some (env::outer)) (hl:s.heap.FunFrames base (env::outer)) (hf:env.frame=some L) (hr:Rec s.heap e cls T)
 (h:∀h' T',(s.heap.objs.size<=T'\/T=some T')->Lx (frs (env::outer)) e T s.heap h'->Rec h' e cls (some T')->Q () { s with heap:=h' }):wpAny M A (leaving env (.ref e)) Q E s:=by
 unfold leaving
 exact wpAny_bind (aBb hfr hl hf hr h)
end
def Old(h:Heap)(b:Addr):Prop:=∃o,h.get? b=some o
theorem Old.lt{h:Heap}{b:Addr}(x:Old h b):b<h.objs.size:=let ⟨_,q⟩:=x;Heap.lt_size q
def Fly(h0:Heap)(ex:List Addr)(H:Hp)(L:List Addr)(e:Addr)(cls:Value)(h:Heap):Prop:=∃T,Rec h e cls T/\∀b,(b=e\/T=some b)->¬ (Old h0 b/\b∉ex)/\H b=none/\b∉L
theorem Fly.older{h0 h1 h:Heap}{H:Hp}{L L':List Addr}{e:Addr}{cls:Value}{ex:List Addr}(f:Fly h1 [] H L e cls h)(l:∀b,Old h0 b->b∉ex->Old h1 b)(l':∀b∈L',Old h1 b):Fly h0 ex H L' e cls h:=
 let ⟨T,c,d⟩:=f
 ⟨T,c,λb z=>⟨λy=>(d b z).1 ⟨l _ y.1 y.2,List.not_mem_nil⟩,(d b z).2.1,λy=>(d b z).1 ⟨l' b y,List.not_mem_nil⟩⟩⟩
def CX1(P:Program)(w:World):CXT:=λouter H s E e s'=>∃a cls H',e=.ref a/\s'.os=s.os/\AllBare s'.gens/\Un (frs outer) [] H H' s.heap s'.heap/\HOk P w H' s'.heap/\Fly s.heap [] H' [] a cls s'.heap/\E cls none H'
abbrev pinA(X:Cx)(pins:List (Addr×Obj)):List Addr:=(X.pn++pins).map (·.1)
def Rs(X:Cx)(W:Value->St->Hp->Prop):Prop:=∀(pins:List (Addr×Obj)) (σ:St) (H:Hp) (s:Shared) (a:Addr) (cls:Value),Inv X pins σ H s->Fly X.s₀.heap X.ex H (pinA X pins) a cls s.heap->W cls σ H->X.xe (.ref a) s
def RX(X:Cx)(cls:Value)(σV:St)(H:Hp):Prop:=∀(pins:List (Addr×Obj)) (s:Shared) (a:Addr),Inv X pins σV H s->Fly X.s₀.heap X.ex H (pinA X pins) a cls s.heap->X.xe (.ref a) s
theorem xA(X:Cx):Rs X (RX X):=λpins σ H s a cls I fl h=>h pins s a I fl
section
variable {X:Cx} {pins:List (Addr×Obj)} {σ:St} {H:Hp} {s:Shared}
theorem vO(I:Inv X pins σ H s):∀b,Old X.s₀.heap b->b∉X.ex->Old s.heap b:=λb ⟨o,q⟩ hb=>I.base.there b o q hb
theorem mS(I:Inv X pins σ H s):∀b∈pinA X pins,Old s.heap b:=λb hb=>by
 obtain⟨p,hp,rfl⟩:=List.mem_map.mp hb
 exact⟨_,(I.pin p hp).1⟩
theorem Rs.pass{W:Value->St->Hp->Prop}{e:Value}{s':Shared}(h:Rs X W)(I:Inv X pins σ H s)(c:CX1 X.prog X.w X.stack H s (λc _ H=>W c σ H) e s'):X.xe e s':=by
 obtain⟨a,cls,H',ee,os,bare,un,hok,fl,q⟩:=c
 subst ee
 exact h pins σ H' s' a cls (I.call' (ch:=[]) os un hok bare (λb z=>absurd z (by simp))) (fl.older (vO I) (mS I)) q
theorem rH{k:Nat}{f:Addr}{fd:FuncData}{ps:List Str}{sp:Sp}{dvs:List V}{ds:List Value}{Q:VK}{W:Value->St->Hp->Prop}{us:List Value}{vs:List V}(F:qQ X.prog X.w X.K X.mg X.base (CX1 X.prog X.w) k f fd ps sp)(hr:mJ k X.A)(hb:lY X.K fd ps ds)(hd:aW dvs ds)(hR:Rs X W)
 (I:Inv X pins σ H s) (r:aW vs us) (h:sp (vs++dvs) H Q λc _ H=>W c σ H):wpAny (model X.prog X.w) X.A (call (.ref f) us) (EP X pins σ Q) X.xe s:=by
 have r2:aW (vs++dvs) (us++ds):=r.append hd
 have hl:(us++ds).length=ps.length:=by rw[<-r2.length];exact F.len _ _ _ _ h
 refine wpAny_call (codeAny_mono (F.run X.A X.stack s H ⟨us,[]⟩ (us++ds) (vs++dvs) Q _ hr I.env0 (hb s us I.kIn hl) r2 h) λr s' hq=>?_)
 cases r with
 | error e=>exact hR.pass I hq
 | ok fl=>
  cases fl with
  | ret u=>exact I.after hq
  | next=>exact False.elim hq
  | brk=>exact False.elim hq
  | cont=>exact False.elim hq
end
theorem aBc{fs ex:List Addr}{H H1:Hp}{h h1 h':Heap}{fr:List Addr}{e:Addr}{T:Option Addr}(u:Un fs ex H H1 h h1)(x:Lx fr e T h1 h')(hfr:∀b,b∈fr->b∈fs\/h.objs.size<=b)(he:¬ (Old h e/\e∉ex))(hT:∀t,T=some t->¬ (Old h t/\t∉ex))(hfs:∀b∈fs,b∈fr) :
 Un fs ex H H1 h h' where
 keep:=λb o q n hb hx=>by
  have l:=Heap.lt_size q
  refine x.keep b o (u.keep b o q n hb hx) (λz=>?_) (λz=>?_) λz=>?_
  . rcases hfr b z with z|z
    . exact hb z
    . exact absurd l (Nat.not_lt.mpr z)
  . subst z;exact he ⟨⟨o,q⟩,hx⟩
  . exact hT b z ⟨⟨o,q⟩,hx⟩
 slot:=λb o q n hb hx=>by
  obtain⟨sl,e1⟩:=u.slot b o q n hb hx
  obtain⟨sl',e2⟩:=x.slot b _ e1 (hfs b hb)
  exact⟨sl',e2⟩
 free:=u.free
 there:=λb o q hx=>by
  obtain⟨o',e1⟩:=u.there b o q hx
  by_cases hb:b∈fr
  . obtain⟨sl,e2⟩:=x.slot b o' e1 hb
    exact⟨_,e2⟩
  . exact⟨o',x.keep b o' e1 hb (λz=>by subst z;exact he ⟨⟨o,q⟩,hx⟩) λz=>hT b z ⟨⟨o,q⟩,hx⟩⟩
 tups:=u.tups
 frzs:=u.frzs
 tbls:=u.tbls
theorem pP{P:Program}{w:World}{H:Hp}{h h':Heap}{fr:List Addr}{e:Addr}{T:Option Addr}(k:HOk P w H h)(x:Lx fr e T h h')(hfr:∀b∈fr,H b=none)(he:H e=none)(hT:∀t,T=some t->H t=none):HOk P w H h':=λa o q=>
 (k a o q).stay (λb u hb g=>by
  have hn:H b≠none:=by
   rcases hb with z|z
   . rw[z,q];exact λz=>nomatch z
   . rw[z];exact λz=>nomatch z
  exact x.keep b u g (λz=>hn (hfr b z)) (λz=>hn (by rw[z];exact he)) λz=>hn (hT b z)) (λ_ z=>z) λ_ _ z=>z
theorem vP{P:Program}{w:World}{K:PySem.W.Frag}{mg:Str->Option Value}{base:Heap}{N:List Str}{qual:Str}{scope:Scope}{f:Addr}{cd:Value}{A:Around}{outer:List Env}{s:Shared}{H:Hp}{E:XK} :
 Rs (qS (CX1 P w) P w K mg base N qual scope f cd A outer s H E) λc _ H'=>E c none H':=by
 intro pins σ H1 s1 a cls I fl hE
 obtain⟨T,f3,f4⟩:=fl
 have hst:(qS (CX1 P w) P w K mg base N qual scope f cd A outer s H E).env.frame=some (qS (CX1 P w) P w K mg base N qual scope f cd A outer s H E).env.locals:=by
  rcases I.ok.stk with z|⟨_,z⟩
  . have z:envOfC qual scope s.heap.objs.size f cd::outer=outer:=z
    exact absurd (congrArg List.length z) (by simp)
  . exact z
 show wpAny (model P w) (A.deeper (envOfC qual scope s.heap.objs.size f cd)) (leaving (envOfC qual scope s.heap.objs.size f cd) (.ref a)) _ _ s1
 refine zD (base:=base) (outer:=outer) I.ok.frames I.stack hst f3 λh' T' l1 x r=>?_
 have hsub:∀b,b∈frs (envOfC qual scope s.heap.objs.size f cd::outer)->b=(envOfC qual scope s.heap.objs.size f cd).locals\/b∈frs outer:=λb hb=>List.mem_cons.mp (I.stkSub b hb)
 have un:Un (frs outer) [] H H1 s.heap h':=aBc I.base x (λb hb=>?_) (f4 a (.inl rfl)).1 (λt z=>(f4 t (.inr z)).1) λb hb=>?_
 . refine⟨a,cls,H1,rfl,I.os,I.bare,un,pP I.hok x I.stkFree (f4 a (.inl rfl)).2.1 λt z=>(f4 t (.inr z)).2.1,⟨some T',r,λt z=>?_⟩,hE⟩
   rcases z with rfl|z
   . exact⟨(f4 _ (.inl rfl)).1,(f4 _ (.inl rfl)).2.1,by simp⟩
   . cases z
     rcases l1 with l1|l1
     . exact⟨λz=>absurd z.1.lt (Nat.not_lt.mpr (Nat.le_trans I.sz l1)),I.hok.fresh l1,by simp⟩
     . exact⟨(f4 _ (.inr l1)).1,(f4 _ (.inr l1)).2.1,by simp⟩
 . rcases hsub b hb with z|z
   . rw[z];exact .inr I.ok.above
   . exact .inl z
 . unfold frs at hb ⊢
   rw[List.filterMap_cons]
   have:(envOfC qual scope s.heap.objs.size f cd).frame=some (envOfC qual scope s.heap.objs.size f cd).locals:=hst
   rw[this]
   exact List.mem_cons_of_mem _ hb
end L2
end
noncomputable section
namespace Hp
open PySem PySem.Spec PyProof.Rows L2
def Kp(R:Addr->Prop)(H H':Hp):Prop:=∀a o,H a=some o->¬ R a->H' a=some o
def RE{α:Type}(w:D->Prop):R α->(α->Prop)->Prop
 | .ok a,p=>p a
 | .exc x,_=>w x
 | .bad,_=>False
theorem RE.mono{α:Type}{x:R α}{p q:α->Prop}{w:D->Prop}(h:RE w x p)(f:∀a,p a->q a):RE w x q:=by
 cases x with
 | ok a=>exact f a h
 | exc e=>exact h
 | bad=>exact h
theorem RE.bind{α β:Type}{x:R α}{f:α->R β}{p:β->Prop}{w:D->Prop}:RE w (x >>= f) p=RE w x λa=>RE w (f a) p:=by
 cases x <;> rfl
theorem RE.iff{α:Type}{c:Bool}{x:R α}{p:α->Prop}{w:D->Prop}(h:RE w (R.iff c x) p):c=true/\RE w x p:=by
 cases c with
 | true=>exact⟨rfl,h⟩
 | false=>exact h.elim
section
variable (K:Fg) (RT Y old:Addr->Prop)
def exB(pa:Bool)(a:Addr):Prop:=Y a\/(pa=false/\old a)
def Tk(H:Hp):Prop:=∀b,H b≠none->K.lookup b=none
def dV:D->V
 | .int i=>.int i
 | .bl b=>.bl b
 | _=>.non
abbrev kV(x:NK×D):NK×V:=(x.1,dV x.2)
def Pt(σ:Sg)(σV:L2.St)(p:Addr):Prop:=RT p/\¬ old p/\∀(k:Nat) (pa:Bool) (ds:List D),σ[k]? = some (.own pa ds)->σV[k]?≠some (some (.ref p))
structure Dx (σ:Sg) (σV:L2.St) (H:Hp):Prop where
 at':∀(i:Nat) (ks:List (NK×D)),σ[i]? = some (.dct ks)->∃a xs,σV[i]? = some (some (.ref a))/\H a=some (gP a xs)/\RT a/\¬ old a/\xs.map pj=ks.map kV/\∀x∈xs,tH K H x.1 x.2.1
 inj:∀(i j:Nat) (ks ks':List (NK×D)) (a:Addr),σ[i]? = some (.dct ks)->σ[j]? = some (.dct ks')->σV[i]? = some (some (.ref a))->σV[j]? = some (some (.ref a))->i=j
 at2:∀(i:Nat) (ds es:List D),σ[i]? = some (.par ds es)->∃a b c xs ys,σV[i]? = some (some (.ref a))/\(H a=some (.lst [.ref b,.ref c])/\H b=some (.lst xs)/\H c=some (.lst ys))/\(Pt RT old σ σV a/\Pt RT old σ σV b/\Pt RT old σ σV c)/\(a≠b/\a≠c/\b≠c)/\(noLs ds=true/\noLs es=true)/\Reps K H (λ_=>False) ds xs/\Reps K H (λ_=>False) es ys
 one:∀(i j:Nat) (ds es ds' es':List D),σ[i]? = some (.par ds es)->σ[j]? = some (.par ds' es')->i=j
def RtO(H:Hp)(a:Addr):Prop:=(∃xs,H a=some (.lst xs))\/∃xs,H a=some (gP a xs)
structure Sx (σ:Sg) (σV:L2.St) (H:Hp):Prop where
 sh:∀(i:Nat) (pa:Bool) (d:D),σ[i]? = some (.sh pa d)->∃v,σV[i]? = some (some v)/\Rep K H (λa=>RT a\/exB Y old pa a) d v
 own:∀(i:Nat) (pa:Bool) (ds:List D),σ[i]? = some (.own pa ds)->∃a xs,σV[i]? = some (some (.ref a))/\H a=some (.lst xs)/\RT a/\¬ old a/\Reps K H (λa=>RT a\/exB Y old pa a) ds xs
 trk:∀a,RT a\/Y a\/old a->H a≠none
 yo:∀a,Y a->old a
 tk:Tk K H
 rt:∀a,RT a->RtO H a
 inj:∀(i j:Nat) (pa pa':Bool) (ds ds':List D) (a:Addr),σ[i]? = some (.own pa ds)->σ[j]? = some (.own pa' ds')->σV[i]? = some (some (.ref a))->σV[j]? = some (some (.ref a))->i=j
 len:σ.length=σV.length
 dx:Dx K RT old σ σV H
def alR(σ:Sg)(σV:L2.St)(al:List Nat)(a:Addr):Prop:=∃j∈al,(∃pa ds,σ[j]? = some (.own pa ds))/\σV[j]? = some (some (.ref a))
def exV(σ:Sg)(σV:L2.St)(pa:Bool)(al:List Nat)(a:Addr):Prop:=(RT a/\¬ alR σ σV al a)\/exB Y old pa a
def Rv(σ:Sg)(σV:L2.St)(H:Hp)(v:Vl)(u:V):Prop:=Rep K H (exV RT Y old σ σV v.pa v.al) v.d u
def Ro(σ:Sg)(σV:L2.St)(H H':Hp)(v:Vl)(u:V):Prop:=
 aM H H'/\(if v.fr=true then ∃a xs ds,u=.ref a/\v.d=.lst ds/\H a=none/\H' a=some (.lst xs)/\Reps K H' (λb=>b=a\/exV RT Y old σ σV v.pa v.al b) ds xs
  else Rv K RT Y old σ σV H' v u)
def Rvs(σ:Sg)(σV:L2.St)(H:Hp):List Vl->List V->Prop
 | [],us=>us=[]
 | v::vs,us=>∃u r,us=u::r/\Rv K RT Y old σ σV H v u/\Rvs σ σV H vs r
end
section
variable {K:Fg} {RT Y old:Addr->Prop} {σ:Sg} {σV:L2.St} {H H' H1 H2:Hp} {v:Vl} {u:V}
theorem tH.imp(hr:∀b ks,SqT K H b ks->SqT K H' b ks){k:NK}{b:Addr}(h:tH K H k b):tH K H' k b:=by
 obtain⟨bs,h1,h2⟩:=h
 refine⟨bs,hr _ _ h1,?_⟩
 clear h1
 induction h2 with
 | nil=>exact .nil
 | cons h t ih=>exact .cons (hr _ _ h) ih
mutual
theorem Rep.noT{ex:Addr->Prop}(hr:∀b ks,SqT K H b ks->SqT K H' b ks):∀(d:D) (v:V),noL d=true->Rep K H ex d v->Rep K H' ex d v
 | .non,_,_,h=>h
 | .bl _,_,_,h=>h
 | .int _,_,_,h=>h
 | .str _,_,_,h=>h
 | .tup ds,_,n,h=>by
  obtain⟨a,xs,e,q,r⟩:=h
  exact⟨a,xs,e,hr _ _ q,Reps.noT hr ds xs (by simpa[noL] using n) r⟩
 | .lst ds,_,n,_=>by simp[noL] at n
 | .dic kvs,_,n,_=>by simp[noL] at n
 | .err _ _,_,n,_=>by simp[noL] at n
theorem Reps.noT{ex:Addr->Prop}(hr:∀b ks,SqT K H b ks->SqT K H' b ks):∀(ds:List D) (xs:List V),noLs ds=true->Reps K H ex ds xs->Reps K H' ex ds xs
 | [],_,_,h=>h
 | d::ds,_,n,h=>by
  obtain⟨x,r,e,h1,h2⟩:=h
  simp only[noLs,bA] at n
  exact⟨x,r,e,Rep.noT hr d x n.1 h1,Reps.noT hr ds r n.2 h2⟩
end
theorem Dx.imp{RT':Addr->Prop}{σ':Sg}{σV':L2.St}(L:Dx K RT old σ σV H)(m:Nat->Nat)(hs:∀j ks,σ'[j]? = some (.dct ks)->σ[m j]? = some (.dct ks)/\σV'[j]? = σV[m j]?)(hm:∀i j ks ks',σ'[i]? = some (.dct ks)->σ'[j]? = some (.dct ks')->m i=m j->i=j)
 (hh:∀a xs,H a=some (gP a xs)->RT a->¬ old a->H' a=some (gP a xs)/\RT' a) (hr:∀b ks,SqT K H b ks->SqT K H' b ks)
 (hs2:∀j ds es,σ'[j]? = some (.par ds es)->σ[m j]? = some (.par ds es)/\σV'[j]? = σV[m j]?) (hm2:∀i j ds es ds' es',σ'[i]? = some (.par ds es)->σ'[j]? = some (.par ds' es')->m i=m j->i=j)
 (hh2:∀p xs,H p=some (.lst xs)->Pt RT old σ σV p->H' p=some (.lst xs)/\Pt RT' old σ' σV' p):Dx K RT' old σ' σV' H' where
 at':=λi ks e=>by
  obtain⟨e1,e2⟩:=hs i ks e
  obtain⟨a,xs,h1,h2,h3,h4,h5,h6⟩:=L.at' (m i) ks e1
  obtain⟨g1,g2⟩:=hh a xs h2 h3 h4
  exact⟨a,xs,by rw[e2];exact h1,g1,g2,h4,h5,λx hx=>tH.imp hr (h6 x hx)⟩
 inj:=λi j ks ks' a q1 q2 v1 v2=>by
  obtain⟨e1,e2⟩:=hs i ks q1
  obtain⟨e3,e4⟩:=hs j ks' q2
  exact hm i j ks ks' q1 q2 (L.inj (m i) (m j) ks ks' a e1 e3 (by rw[<-e2];exact v1) (by rw[<-e4];exact v2))
 at2:=λi ds es e=>by
  obtain⟨e1,e2⟩:=hs2 i ds es e
  obtain⟨a,b,c,xs,ys,h1,⟨ha,hb,hc⟩,⟨pa,pb,pc⟩,hn,⟨n1,n2⟩,r1,r2⟩:=L.at2 (m i) ds es e1
  obtain⟨ha,pa⟩:=hh2 a _ ha pa
  obtain⟨hb,pb⟩:=hh2 b _ hb pb
  obtain⟨hc,pc⟩:=hh2 c _ hc pc
  exact⟨a,b,c,xs,ys,by rw[e2];exact h1,⟨ha,hb,hc⟩,⟨pa,pb,pc⟩,hn,⟨n1,n2⟩,Reps.noT hr ds xs n1 r1,Reps.noT hr es ys n2 r2⟩
 one:=λi j ds es ds' es' q1 q2=>hm2 i j ds es ds' es' q1 q2 (L.one _ _ _ _ _ _ (hs2 i ds es q1).1 (hs2 j ds' es' q2).1)
theorem RtO.grow{a:Addr}(h:RtO H a)(s:aM H H'):RtO H' a:=h.imp (λ⟨xs,e⟩=>⟨xs,s _ _ e⟩) λ⟨xs,e⟩=>⟨xs,s _ _ e⟩
theorem Sx.grow(S:Sx K RT Y old σ σV H)(s:aM H H')(t:Tk K H'):Sx K RT Y old σ σV H' where
 sh:=λi pa d e=>let ⟨v,h1,h2⟩:=S.sh i pa d e;⟨v,h1,h2.grow s⟩
 own:=λi pa ds e=>let ⟨a,xs,h1,h2,h3,h4,h5⟩:=S.own i pa ds e;⟨a,xs,h1,s _ _ h2,h3,h4,h5.grow s⟩
 trk:=λa h z=>S.trk a h (s.free z)
 yo:=S.yo
 tk:=t
 rt:=λa h=>(S.rt a h).grow s
 inj:=S.inj
 len:=S.len
 dx:=S.dx.imp id (λ_ _ e=>⟨e,rfl⟩) (λ_ _ _ _ _ _ e=>e) (λa xs e z _=>⟨s _ _ e,z⟩) (λ_ _ r=>aM.seqT s r) (λ_ _ _ e=>⟨e,rfl⟩) (λ_ _ _ _ _ _ _ _ e=>e) λp xs e z=>⟨s _ _ e,z⟩
theorem exV.trk(S:Sx K RT Y old σ σV H){pa:Bool}{al:List Nat}{a:Addr}(h:exV RT Y old σ σV pa al a):H a≠none:=by
 rcases h with⟨h,_⟩|h|⟨_,h⟩
 . exact S.trk a (.inl h)
 . exact S.trk a (.inr (.inl h))
 . exact S.trk a (.inr (.inr h))
theorem Ro.rv(S:Sx K RT Y old σ σV H)(h:Ro K RT Y old σ σV H H' v u):Rv K RT Y old σ σV H' v u:=by
 obtain⟨s,h⟩:=h
 by_cases hf:v.fr=true
 . rw[if_pos hf] at h
   obtain⟨a,xs,ds,e1,e2,e3,e4,r⟩:=h
   unfold Rv
   rw[e2]
   exact⟨a,xs,e1,SqL.of e4,λz=>exV.trk S z e3,r.weak λb z=>.inr z⟩
 . rw[if_neg hf] at h
   exact h
theorem Rv.grow(h:Rv K RT Y old σ σV H v u)(s:aM H H'):Rv K RT Y old σ σV H' v u:=Rep.grow h s
theorem Rvs.grow:∀{vs:List Vl} {us:List V},Rvs K RT Y old σ σV H vs us->aM H H'->Rvs K RT Y old σ σV H' vs us
 | [],_,h,_=>h
 | v::vs,_,h,s=>by
  obtain⟨u,r,e,h1,h2⟩:=h
  exact⟨u,r,e,h1.grow s,Rvs.grow h2 s⟩
theorem Ro.plain(s:aM H H')(hf:v.fr=false)(h:Rv K RT Y old σ σV H' v u):Ro K RT Y old σ σV H H' v u:=⟨s,by rw[if_neg (by rw[hf];decide)];exact h⟩
theorem Ro.from(h:Ro K RT Y old σ σV H1 H' v u)(s:aM H H1):Ro K RT Y old σ σV H H' v u:=by
 obtain⟨s',h⟩:=h
 refine⟨s.trans s',?_⟩
 by_cases hf:v.fr=true
 . rw[if_pos hf] at h ⊢
   obtain⟨a,xs,ds,e1,e2,e3,e4,r⟩:=h
   exact⟨a,xs,ds,e1,e2,s.free e3,e4,r⟩
 . rw[if_neg hf] at h ⊢
   exact h
theorem Ro.cl{d:D}(s:aM H H')(h:Rep K H' (exV RT Y old σ σV false []) d u):Ro K RT Y old σ σV H H' (.cl d) u:=Ro.plain s rfl h
theorem Rv.sub{d:D}{x:V}{ds:List D}{xs:List V}{j:Nat}(h:Rep K H (exV RT Y old σ σV v.pa v.al) d x):Rv K RT Y old σ σV H (v.sub d) x:=by
 unfold Rv Vl.sub
 by_cases hn:noL d=true
 . rw[if_pos hn]
   exact Rep.free d x hn h
 . rw[if_neg hn]
   exact h
theorem alR.mono{al al':List Nat}{a:Addr}(h:alR σ σV al a)(s:∀j∈al,j∈al'):alR σ σV al' a:=by
 obtain⟨j,hj,q⟩:=h
 exact⟨j,s j hj,q⟩
theorem exV.mono{pa pa':Bool}{al al':List Nat}{a:Addr}(h:exV RT Y old σ σV pa' al' a)(hp:pa=true->pa'=true)(s:∀j∈al,j∈al'):exV RT Y old σ σV pa al a:=by
 rcases h with⟨h1,h2⟩|h|⟨h1,h2⟩
 . exact .inl ⟨h1,λz=>h2 (z.mono s)⟩
 . exact .inr (.inl h)
 . refine .inr (.inr ⟨?_,h2⟩)
   cases pa with
   | false=>rfl
   | true=>rw[hp rfl] at h1;cases h1
theorem Rvs.length:∀{vs:List Vl} {us:List V},Rvs K RT Y old σ σV H vs us->vs.length=us.length
 | [],_,h=>by rw[show _=[] from h];rfl
 | v::vs,_,h=>by
  obtain⟨u,r,e,_,h2⟩:=h
  subst e
  rw[lC,lC,Rvs.length h2]
theorem fD{vs:List Vl}{v:Vl}(h:v∈vs):∀j∈v.al,j∈bH vs:=λj hj=>List.mem_flatMap.mpr ⟨v,h,hj⟩
theorem tK{vs:List Vl}{v:Vl}(h:v∈vs)(hp:v.pa=true):eX vs=true:=List.any_eq_true.mpr ⟨v,h,hp⟩
theorem Rvs.reps:∀{vs:List Vl} {us:List V} {pa:Bool} {al:List Nat},Rvs K RT Y old σ σV H vs us->(∀v∈vs,(v.pa=true->pa=true)/\∀j∈v.al,j∈al) ->
 Reps K H (exV RT Y old σ σV pa al) (vs.map (·.d)) us
 | [],_,_,_,h,_=>h
 | v::vs,_,_,_,h,q=>by
  obtain⟨u,r,e,h1,h2⟩:=h
  have q1:=q v List.mem_cons_self
  exact⟨u,r,e,Rep.weak h1 λa z=>z.mono q1.1 q1.2,Rvs.reps h2 λw hw=>q w (List.mem_cons_of_mem _ hw)⟩
theorem Rvs.all{vs:List Vl}{us:List V}(h:Rvs K RT Y old σ σV H vs us):Reps K H (exV RT Y old σ σV (eX vs) (bH vs)) (vs.map (·.d)) us:=
 h.reps λv hv=>⟨λz=>tK hv z,fD hv⟩
theorem Ro.fresh{p:Addr}{xs:List V}{ds:List D}(hp:H p=none)(ht:Tk K (upd H p (.lst xs)))(hd:v.d=.lst ds)(hf:v.fr=true)(S:Sx K RT Y old σ σV H)(r:Reps K H (exV RT Y old σ σV v.pa v.al) ds xs) :
 Ro K RT Y old σ σV H (upd H p (.lst xs)) v (.ref p):=by
 have s:aM H (upd H p (.lst xs)):=λb o q=>by rw[aJ (bG q hp)];exact q
 refine⟨s,?_⟩
 rw[if_pos hf]
 refine⟨p,xs,ds,rfl,hd,hp,cE,?_⟩
 refine Reps.imp (λ_ _ q=>aM.seqT s q) (λa ys n q=>⟨λz=>?_,s.seq q⟩) (λ_ _ _ _ q=>s _ _ q) ds xs r
 rcases z with z|z
 . subst z
   rcases q with(q|⟨o,q⟩)|⟨o,its,n',q,_⟩
   . rw[hp] at q;cases q
   . rw[hp] at q;cases q
   . have z:=ht a (by rw[cE];simp)
     rw[q] at z;cases z
 . exact n z
theorem aM.new{p:Addr}{o:HO}(hp:H p=none):aM H (upd H p o):=λb u q=>by rw[aJ (bG q hp)];exact q
theorem Ro.tup{p:Addr}{xs:List V}{ds:List D}(hp:H p=none)(hd:v.d=.tup ds)(hf:v.fr=false)(r:Reps K H (exV RT Y old σ σV v.pa v.al) ds xs) :
 Ro K RT Y old σ σV H (upd H p (.tup xs)) v (.ref p):=by
 refine Ro.plain (aM.new hp) hf ?_
 unfold Rv
 rw[hd]
 exact⟨p,xs,rfl,SqT.of cE,r.grow (aM.new hp)⟩
end
def XW(X:Cx)(σV:L2.St)(H:Hp):D->Prop
 | .err c _=>∀cls:Value,PySem.W.nsIn X.K mainGlobals c=some (some cls)->RX X cls σV H
 | _=>False
def wx(X:Cx)(σV:L2.St)(H:Hp)(x:D):Prop:=∀H',Tk X.K H'->aM H H'->XW X σV H' x
theorem wx.grow{X:Cx}{σV:L2.St}{H H1:Hp}{x:D}(h:wx X σV H x)(s:aM H H1):wx X σV H1 x:=λH' t z=>h H' t (s.trans z)
theorem RE.weak{α:Type}{x:R α}{p:α->Prop}{w w':D->Prop}(h:RE w x p)(f:∀x,w x->w' x):RE w' x p:=by
 cases x with
 | ok a=>exact h
 | exc e=>exact f e h
 | bad=>exact h
theorem RE.at{α:Type}{x:R α}{p:α->Prop}{X:Cx}{σV:L2.St}{H H1:Hp}(h:RE (wx X σV H) x p)(s:aM H H1):RE (wx X σV H1) x p:=h.weak λ_ z=>z.grow s
section
variable (X:Cx) (P:Pg) (cl:Caller) (RT Y old:Addr->Prop)
def wE(σ:Sg)(c:E):TE:=λσV H Q=>Sx X.K RT Y old σ σV H/\RE (wx X σV H) (ev P cl σ c) λv=>∀u H',Tk X.K H'->Ro X.K RT Y old σ σV H H' v u->Q u H'
def wT(σ:Sg)(c:E):TT:=λσV H Q=>Sx X.K RT Y old σ σV H/\RE (wx X σV H) (tst P cl σ c) λk=>∀H',Tk X.K H'->aM H H'->Q k H'
def wA(σ:Sg)(cs:Es):TA:=λσV H Q=>Sx X.K RT Y old σ σV H/\RE (wx X σV H) (evs P cl σ cs) λvs=>∀us H',Tk X.K H'->aM H H'->Rvs X.K RT Y old σ σV H' vs us->Q us H'
end
section
variable {X:Cx} {P:Pg} {cl:Caller} {RT Y old:Addr->Prop} {σ:Sg} {pos:Pos}
theorem _root_.L2.Inv.tk{pins:List (Addr×Obj)}{σV:L2.St}{H:Hp}{s:Shared}(I:Inv X pins σV H s):Tk X.K H:=λb hb=>by
 cases q:X.K.lookup b with
 | none=>rfl
 | some o=>exact absurd (I.bs b o (I.ok.mod.kin b o q)).2 hb
theorem _root_.L2.PE.imp{e:Expr}{t t':TE}(h:PE X e t)(f:∀σV H Q,Tk X.K H->t' σV H Q->t σV H λv H'=>Tk X.K H'->Q v H'):PE X e t':=λpins s σV H Q I hw=>
 thn (h pins s σV H _ I (f σV H Q I.tk hw)) λu s' ⟨v,H',I',r,q⟩=>⟨v,H',I',r,q I'.tk⟩
theorem _root_.L2.PT.imp{e:Expr}{t t':TT}(h:PT X e t)(f:∀σV H Q,Tk X.K H->t' σV H Q->t σV H λv H'=>Tk X.K H'->Q v H'):PT X e t':=λpins s σV H Q I hw=>
 thn (h pins s σV H _ I (f σV H Q I.tk hw)) λk s' ⟨H',I',q⟩=>⟨H',I',q I'.tk⟩
theorem _root_.L2.PA.imp{es:List Expr}{t t':TA}(h:PA X es t)(f:∀σV H Q,Tk X.K H->t' σV H Q->t σV H λv H'=>Tk X.K H'->Q v H'):PA X es t':=λpos pins s σV H Q I hw=>
 thn (h pos pins s σV H _ I (f σV H Q I.tk hw)) λu s' ⟨v,H',I',r,q⟩=>⟨v,H',I',r,q I'.tk⟩
theorem wE.two{a b:E}{σV:L2.St}{H:Hp}{p:Vl->Vl->Prop}{Q:V->V->Hp->Prop}(S:Sx X.K RT Y old σ σV H)(h:RE (wx X σV H) (ev P cl σ a) λx=>RE (wx X σV H) (ev P cl σ b) λy=>p x y)
 (f:∀x y ux uy H2,p x y->Tk X.K H2->aM H H2->Sx X.K RT Y old σ σV H2->Rv X.K RT Y old σ σV H2 x ux->Rv X.K RT Y old σ σV H2 y uy->Q ux uy H2) :
 wE X P cl RT Y old σ a σV H λux H1=>wE X P cl RT Y old σ b σV H1 λuy H2=>Q ux uy H2:=by
 refine⟨S,h.mono λx hx ux H1 t1 r1=>⟨S.grow r1.1 t1,(hx.at r1.1).mono λy hy uy H2 t2 r2=>?_⟩⟩
 have S1:=S.grow r1.1 t1
 exact f x y ux uy H2 hy t2 (r1.1.trans r2.1) (S1.grow r2.1 t2) ((r1.rv S).grow r2.1) (r2.rv S1)
theorem Ro.val{d:D}{u:V}{σV:L2.St}{H H':Hp}(s:aM H H')(h:∀ex,Rep X.K H' ex d u):Ro X.K RT Y old σ σV H H' (.cl d) u:=Ro.cl s (h _)
theorem s_c {d : D} {c : Const} {k : Nat} (h : eqC d c = true) : PE X (.Constant c k pos) (wE X P cl RT Y old σ (.c d)) := by
 have key : ∀ {v : V}, (∀ (H : Hp) ex, Rep X.K H ex d v) -> PE X (.Constant c k pos) (tC v) -> PE X (.Constant c k pos) (wE X P cl RT Y old σ (.c d)) := λ hv hp =>
  hp.imp λ σV H Q t ⟨S, q⟩ t' => q _ H t' (Ro.val (aM.refl H) (hv H))
 cases d with
 | non => cases c with
  | none => exact key (λ _ _ => rfl) aFm
  | _ => cases h
 | bl b => cases c with
  | bool b' => have e : b = b' := by simpa [eqC] using h
               subst e; exact key (λ _ _ => rfl) aHo
  | _ => cases h
 | int b => cases c with
  | int b' => have e : b = b' := by simpa [eqC] using h
              subst e; exact key (λ _ _ => rfl) aFl
  | _ => cases h
 | str b => cases c with
  | str b' => have e : b = b' := by simpa [eqC] using h
              subst e; exact key (λ _ _ => rfl) aFn
  | _ => cases h
 | _ => cases c <;> cases h
theorem s_v{i:Nat}{x:Str}(hN:X.N[i]? = some x)(hv:Vis X.env.scope x)(hd:(x==("__debug__" : Str))=false)(hcd:(x==("__classdict__" : Str))=false) :
 PE X (.Name x pos) (wE X P cl RT Y old σ (.v i)):=by
 refine(qO hN hv hd hcd).imp λσV H Q t ⟨S,q⟩=>?_
 have q:RE (wx X σV H) (aO σ i) _:=q
 unfold aO at q
 cases e:σ[i]? with
 | none=>rw[e] at q;exact q.elim
 | some sl=>
  rw[e] at q
  cases sl with
  | dead=>exact q.elim
  | dct _=>exact q.elim
  | par _ _=>exact q.elim
  | sh pa d=>
   obtain⟨v,h1,h2⟩:=S.sh i pa d e
   refine⟨v,h1,λt'=>q v H t' (Ro.plain (aM.refl H) rfl ?_)⟩
   unfold Rv
   by_cases hn:noL d=true
   . exact Rep.free d v hn h2
   . refine Rep.weak h2 λa z=>?_
     rcases z with⟨z,_⟩|z|⟨z,z'⟩
     . exact .inl z
     . exact .inr (.inl z)
     . have:pa=false:=by simpa[hn] using z
       exact .inr (.inr ⟨this,z'⟩)
  | own pa ds=>
   obtain⟨a,xs,h1,h2,h3,h4,h5⟩:=S.own i pa ds e
   refine⟨.ref a,h1,λt'=>q _ H t' (Ro.plain (aM.refl H) rfl ?_)⟩
   unfold Rv
   refine⟨a,xs,rfl,SqL.of h2,λz=>?_,h5.weak λb z=>?_⟩
   . rcases z with⟨_,z⟩|z|⟨_,z⟩
     . exact z ⟨i,by simp,⟨pa,ds,e⟩,h1⟩
     . exact h4 (S.yo a z)
     . exact h4 z
   . rcases z with⟨z,_⟩|z
     . exact .inl z
     . exact .inr z
end
section
variable {X:Cx} {RT Y old:Addr->Prop} {σ:Sg} {σV:L2.St} {H:Hp} {s:Shared} {pins:List (Addr×Obj)} {Q:VK} {ux uy:V} {vx vy:Value} {x y:Vl}
theorem _root_.L2.EP.tk{u:Value}{s':Shared}(h:EP X pins σV (λv H'=>Tk X.K H'->Q v H') u s'):EP X pins σV Q u s':=by
 obtain⟨v,H',I',r,q⟩:=h
 exact⟨v,H',I',r,q (Inv.tk I')⟩
abbrev Wn(X:Cx)(RT Y old:Addr->Prop)(σ:Sg)(σV:L2.St)(H:Hp)(Q:VK)(v:Vl):Prop:=∀u H',Tk X.K H'->Ro X.K RT Y old σ σV H H' v u->Q u H'
theorem Wn.val{d:D}{u:V}(w:Wn X RT Y old σ σV H Q (.cl d))(t:Tk X.K H)(h:∀ex,Rep X.K H ex d u):Q u H:=w u H t (Ro.cl (aM.refl H) (h _))
theorem Rv.int{i:Int}{u:V}(h:Rv X.K RT Y old σ σV H x u)(e:x.d=.int i):u=.int i:=by unfold Rv at h;rw[e] at h;exact h
theorem Rv.str{i:Str}{u:V}(h:Rv X.K RT Y old σ σV H x u)(e:x.d=.str i):u=.str i:=by unfold Rv at h;rw[e] at h;exact h
theorem Rv.bl{i:Bool}{u:V}(h:Rv X.K RT Y old σ σV H x u)(e:x.d=.bl i):u=.bl i:=by unfold Rv at h;rw[e] at h;exact h
theorem Rv.non{u:V}(h:Rv X.K RT Y old σ σV H x u)(e:x.d=.non):u=.non:=by unfold Rv at h;rw[e] at h;exact h
theorem Rv.tup{ds:List D}{u:V}(h:Rv X.K RT Y old σ σV H x u)(e:x.d=.tup ds):∃a xs,u=.ref a/\SqT X.K H a xs/\Reps X.K H (exV RT Y old σ σV x.pa x.al) ds xs:=by unfold Rv at h;rw[e] at h;exact h
theorem Rv.lst{ds:List D}{u:V}(h:Rv X.K RT Y old σ σV H x u)(e:x.d=.lst ds):∃a xs,u=.ref a/\SqL X.K H a xs/\¬ exV RT Y old σ σV x.pa x.al a/\Reps X.K H (exV RT Y old σ σV x.pa x.al) ds xs:=by unfold Rv at h;rw[e] at h;exact h
theorem aFR:lim<=sizeLine:=by unfold lim;rw[sizeLine_eq];decide
theorem eK{n:Nat}(h:n<=lim):n<=sizeLine:=Nat.le_trans h aFR
theorem fU{ds:List D}{xs:List V}{pa:Bool}{al:List Nat}{K:Fg}(r:Reps K H (exV RT Y old σ σV pa al) ds xs) :
 Reps K H (exV RT Y old σ σV (pa&&!noLs ds) (if noLs ds=true then [] else al)) ds xs:=by
 by_cases hn:noLs ds=true
 . exact Reps.free ds xs hn r
 . rw[if_neg hn]
   refine r.weak λa z=>z.mono (λhp=>?_) λj hj=>hj
   rw[hp];simp[hn]
def aIi(K:Fg):R2:=λx y H Q=>∃l b xs zs,x=.ref l/\y=.ref b/\SqL K H l xs/\SqL K H b zs/\xs.length+zs.length<=sizeLine/\∀p,H p=none->Q (.ref p) (upd H p (.lst (xs++zs)))
theorem aDE:OpR X (binaryOp .Add) (aIi X.K):=by
 intro pins s σV H x y v u Q I rx ry h
 obtain⟨l,b,xs,zs,rfl,rfl,hH,hB,hz,q⟩:=h
 cases rx
 cases ry
 obtain⟨its,r,pl,z⟩:=I.list hH
 obtain⟨its2,r2,pl2,z2⟩:=I.list hB
 obtain⟨⟨cls,dd,data,sl⟩,ho,hc,n,hd⟩:=pl.isList
 obtain⟨⟨cls2,dd2,data2,sl2⟩,ho2,hc2,n2,hd2⟩:=pl2.isList
 simp only at hc hd hc2 hd2
 subst hc hd hc2 hd2
 have e:its.toArray++its2.toArray=(its++its2).toArray:=by simp
 have hl:=r.length
 have hl2:=r2.length
 refine concat_meets ⟨_,ho,rfl⟩ ⟨_,ho2,rfl⟩ noFill_list_add seq_list_add PySem.F.slot_list_add PySem.F.entry_list_add (PySem.F.args_list_add_2 _ _) (list_addW l b its.toArray its2.toArray n n2 dd dd2 sl sl2 (by rw[List.size_toArray,List.size_toArray];omega)) ⟨ho,ho2,?_⟩
 rw[e]
 exact⟨.ref _,_,I.lnew (t':=s.toks) (r.append r2) (by rw[lA];omega),rfl,q _ I.fresh⟩
theorem aDF(x:Str):Str.rep x 1=x:=by
 unfold Str.rep
 cases x
 simp
theorem zE(x:Str)(h:x.length=0)(k:Nat):Str.rep x k=x:=by
 have hx:x.cps=#[]:=by
  unfold Str.length at h
  exact Array.eq_empty_of_size_eq_zero h
 have go:∀k,(List.replicate k x.cps).foldl (·++·) #[]=#[]:=by
  intro k
  rw[hx]
  induction k with
  | zero=>rfl
  | succ k ih=>rw[List.replicate_succ,List.foldl_cons];simpa using ih
 unfold Str.rep
 rw[go k]
 cases x
 simp at hx
 rw[hx]
theorem vQ(x:Str)(k:Nat):(⟨(List.replicate k x.cps).foldl (·++·) #[]⟩:Str).length=x.length*k:=by
 have go:∀(k:Nat) (acc:Array Nat),((List.replicate k x.cps).foldl (·++·) acc).size=acc.size+x.cps.size*k:=by
  intro k
  induction k with
  | zero=>intro acc;simp
  | succ k ih=>
   intro acc
   rw[List.replicate_succ,List.foldl_cons,ih,Array.size_append,Nat.mul_succ]
   omega
 show((List.replicate k x.cps).foldl (·++·) #[]).size=x.cps.size*k
 rw[go]
 simp
theorem aDG:OpR X (binaryOp .Mult) (λx y H Q=>∃a k,x=.str a/\y=.int k/\aI k=true/\a.length*k.toNat<=lim/\Q (.str (Str.rep a k.toNat)) H):=by
 intro pins s σV H x y v u Q I rx ry h
 obtain⟨a,k,rfl,rfl,hk,hl,q⟩:=h
 obtain⟨t,rfl⟩:=rx
 obtain⟨t',rfl⟩:=ry
 unfold aI at hk
 simp only[bA,decide_eq_true_eq] at hk
 have h1:-(2 ^ 62:Int)<=k:=hk.1
 have h2:k<(2 ^ 62:Int):=hk.2
 have e1:decide (k < -(2 ^ 63:Int))=false:=decide_eq_false (by omega)
 have e2:decide (k ≥ (2 ^ 63:Int))=false:=decide_eq_false (by omega)
 have fin:∀z:Str,z=Str.rep a k.toNat->∀tk,EP X pins σV Q (.str z tk) { s with toks:=s.toks+1 }:=λz e tk=>by
  subst e
  exact⟨.str _,H,I.tok _,⟨_,rfl⟩,q⟩
 refine P.mul_str (by rw[e1,e2];rfl) (λn1 n2 z=>?_) (λn1 n2=>?_) ?_
 . have k1:1<=k:=by omega
   have z1:(a.length:Int)*k<=(lim:Int):=by
    have hk':((k.toNat:Nat):Int)=k:=by omega
    have:=Int.ofNat_le.mpr hl
    rw[Int.natCast_mul] at this
    rw[<-hk']
    exact_mod_cast this
   have z2:(2 ^ 63-1:Int) / k<a.length:=z
   have z3:(2 ^ 63-1:Int)<a.length*k:=Int.lt_mul_of_ediv_lt (by omega) z2
   have z4:(lim:Int)=1000000:=rfl
   omega
 . unfold Builtin.Str.tooLong
   have:=eK hl
   exact decide_eq_false (by omega)
 . split
   . rename_i hn
     have:k.toNat=0:=by omega
     refine⟨by decide,?_⟩
     exact fin _ (by rw[this];rfl) _
   . split
     . rename_i hn h1'
       have hz:Str.rep a k.toNat=a:=by
        rcases Bool.or_eq_true_iff.mp h1' with z|z
        . have:k=1:=eq_of_beq z
          subst this
          exact aDF a
        . exact zE a (eq_of_beq z) _
       exact⟨.str a,H,I,⟨_,rfl⟩,by rw[hz] at q;exact q⟩
     . refine⟨?_,fin _ rfl _⟩
       have:=eK hl
       rw[vQ]
       exact this
def aFS(K:Fg):R2:=λx y H Q=>∃a b xs ys,x=.ref a/\y=.ref b/\SqT K H a xs/\SqT K H b ys/\xs.length+ys.length<=sizeLine /\
 (xs=[]->Q (.ref b) H)/\(xs≠[]->ys=[]->Q (.ref a) H)/\(xs≠[]->ys≠[]->∀p,H p=none->Q (.ref p) (upd H p (.tup (xs++ys))))
theorem aBd:OpR X (binaryOp .Add) (aFS X.K):=by
 intro pins s σ H x y v u Q I rx ry h
 obtain⟨a,b,xs,ys,rfl,rfl,ha,hb,hz,q0,q1,q2⟩:=h
 by_cases hx:xs=[]
 . cases rx
   cases ry
   obtain⟨its,r1,p1,_⟩:=I.tuple ha
   obtain⟨its2,r2,p2,_⟩:=I.tuple hb
   obtain⟨⟨cls,dd,data,sl⟩,ho,hc,n,hd⟩:=id p1
   obtain⟨⟨cls2,dd2,data2,sl2⟩,ho2,hc2,n2,hd2⟩:=id p2
   simp only at hc hd hc2 hd2
   subst hc hd hc2 hd2
   have hi:its=[]:=r1.nil_iff.mpr hx
   exact concat_meets ⟨_,ho,rfl⟩ ⟨_,ho2,rfl⟩ noFill_tuple_add seq_tuple_add PySem.F.slot_tuple_add PySem.F.entry_tuple_add (PySem.F.args_tuple_add_2 _ _)
    (tuple_addW0 a b its.toArray its2.toArray n n2 dd dd2 sl sl2 (by simp[hi])) ⟨ho,ho2,⟨.ref b,H,I,rfl,q0 hx⟩⟩
 . exact aDs pins s σ H _ _ v u Q I rx ry ⟨a,b,xs,ys,rfl,rfl,ha,hb,hx,hz,q1 hx,q2 hx⟩
theorem aBe{o:Operator}(I:Inv X pins σV H s)(S:Sx X.K RT Y old σ σV H)(rx:bQ ux vx)(ry:bQ uy vy)(hx:Rv X.K RT Y old σ σV H x ux)(hy:Rv X.K RT Y old σ σV H y uy)
 (hfr:x.fr=true->∃a xs,ux=.ref a/\H a=some (.lst xs)) {w:D->Prop} (h:RE w (opD o x y) (Wn X RT Y old σ σV H Q)):wpAny (model X.prog X.w) X.A (binaryOp o vx vy) (EP X pins σV Q) X.xe s:=by
 have t:=Inv.tk I
 have go:∀{f:Value->Value->Sem Value} {r:R2},OpR X f r->(r ux uy H λv H'=>Tk X.K H'->Q v H')->wpAny (model X.prog X.w) X.A (f vx vy) (EP X pins σV Q) X.xe s:=λhr q=>
  thn (hr pins s σV H ux uy vx vy _ I rx ry q) λu s' z=>EP.tk z
 cases o with
 | Add=>
  have h:RE w (aDA x y) (Wn X RT Y old σ σV H Q):=h
  unfold aDA at h
  split at h
  . rename_i i j d1 d2
    exact go aFy ⟨i,j,hx.int d1,hy.int d2,λ_=>h.val t λ_=>rfl⟩
  . rename_i i j d1 d2
    obtain⟨c,h⟩:=h.iff
    exact go vH ⟨i,j,hx.str d1,hy.str d2,eK (of_decide_eq_true c),λ_=>Wn.val h t λ_=>rfl⟩
  . rename_i as bs d1 d2
    obtain⟨c,h⟩:=h.iff
    obtain⟨a,xs,e1,q1,r1⟩:=hx.tup d1
    obtain⟨b,ys,e2,q2,r2⟩:=hy.tup d2
    have l1:=r1.length
    have l2:=r2.length
    have c':=of_decide_eq_true c
    have r1':Reps X.K H (exV RT Y old σ σV (x.pa||y.pa) (x.al++y.al)) as xs:=r1.weak λa z=>z.mono (λhp=>by rw[hp];rfl) λj hj=>List.mem_append_left _ hj
    have r2':Reps X.K H (exV RT Y old σ σV (x.pa||y.pa) (x.al++y.al)) bs ys:=r2.weak λa z=>z.mono (λhp=>by rw[hp,Bool.or_true]) λj hj=>List.mem_append_right _ hj
    refine go aBd ⟨a,b,xs,ys,e1,e2,q1,q2,eK (by omega),λz t'=>?_,λz z' t'=>?_,λz z' p hp t'=>?_⟩
    . subst z
      have:as=[]:=List.length_eq_zero_iff.mp (by simpa using l1)
      subst this
      exact h _ _ t' (Ro.plain (aM.refl H) rfl ⟨b,ys,rfl,q2,r2'⟩)
    . subst z'
      have:bs=[]:=List.length_eq_zero_iff.mp (by simpa using l2)
      subst this
      exact h _ _ t' (Ro.plain (aM.refl H) rfl ⟨a,xs,rfl,q1,by rw[List.append_nil];exact r1'⟩)
    . exact h _ _ t' (Ro.tup hp rfl rfl (r1'.append r2'))
  . rename_i as bs d1 d2
    obtain⟨c,h⟩:=h.iff
    obtain⟨a,xs,e1,q1,_,r1⟩:=hx.lst d1
    obtain⟨b,ys,e2,q2,_,r2⟩:=hy.lst d2
    have l1:=r1.length
    have l2:=r2.length
    have c':=of_decide_eq_true c
    refine go aDE ⟨a,b,xs,ys,e1,e2,q1,q2,eK (by omega),λp hp t'=>h _ _ t' (Ro.fresh hp t' rfl rfl S ?_)⟩
    refine Reps.append ((fU r1).weak λa z=>z.mono (λhp=>?_) λj hj=>List.mem_append_left _ hj) ((fU r2).weak λa z=>z.mono (λhp=>?_) λj hj=>List.mem_append_right _ hj)
    . show(_||_)=true
      rw[hp];rfl
    . show(_||_)=true
      rw[hp,Bool.or_true]
  . exact h.elim
 | Mult=>
  have h:RE w (aDB x y) (Wn X RT Y old σ σV H Q):=h
  unfold aDB at h
  split at h
  . rename_i i j d1 d2
    obtain⟨c,h⟩:=h.iff
    refine go aFA ⟨i,j,hx.int d1,hy.int d2,?_,λ_=>Wn.val h t λ_=>rfl⟩
    simp only[jX,Bool.or_eq_true,bA,decide_eq_true_eq] at c
    exact c
  . rename_i i j d1 d2
    obtain⟨c,h⟩:=h.iff
    simp only[bA,decide_eq_true_eq] at c
    exact go aDG ⟨i,j,hx.str d1,hy.int d2,c.1,c.2,λ_=>Wn.val h t λ_=>rfl⟩
  . rename_i as k d1 d2
    obtain⟨c,h⟩:=h.iff
    simp only[bA,decide_eq_true_eq] at c
    obtain⟨a,xs,e1,q1,_,r1⟩:=hx.lst d1
    obtain⟨a',xs',e1',q1'⟩:=hfr c.1.1.1
    rw[e1] at e1'
    cases e1'
    have e3:xs=xs':=I.list_inj q1 (SqL.of q1')
    subst e3
    have l1:=r1.length
    have hk:=c.1.1.2
    unfold aI at hk
    simp only[bA,decide_eq_true_eq] at hk
    have hk1:=hk.1
    have hk2:=hk.2
    refine go aFK ⟨a,k,xs,e1,hy.int d2,q1',by omega,by omega,eK (by rw[<-l1];exact c.1.2),λp hp t'=>h _ _ t' (Ro.fresh hp t' rfl rfl S ?_)⟩
    exact Reps.flat (Reps.free as xs c.2 r1) _
  . rename_i as k d1 d2
    obtain⟨c,h⟩:=h.iff
    simp only[bA,decide_eq_true_eq,Bool.not_eq_true',List.isEmpty_eq_false_iff] at c
    obtain⟨⟨⟨⟨c1,c2⟩,c3⟩,c4⟩,c5⟩:=c
    obtain⟨a,xs,e1,q1,r1⟩:=hx.tup d1
    have l1:=r1.length
    unfold aI at c2
    simp only[bA,decide_eq_true_eq] at c2
    have hk2:=c2.2
    have r2:=Reps.flat (Reps.free (ex':=exV RT Y old σ σV false []) as xs c5 r1) k.toNat
    refine go aDz ⟨a,k,xs,e1,hy.int d2,q1,λz=>c3 (List.length_eq_zero_iff.mp (by rw[l1,z];rfl)),c1,by omega,eK (by rw[<-l1];exact c4),λz t'=>?_,λ_ p hp t'=>h _ _ t' (Ro.tup hp rfl rfl r2)⟩
    subst z
    have e:∀{α:Type} (l:List α),(List.replicate (1:Int).toNat l).flatten=l:=λl=>by simp
    rw[e] at h
    rw[e,e] at r2
    exact h _ _ t' (Ro.cl (aM.refl H) ⟨a,xs,rfl,q1,r2⟩)
  . exact h.elim
 | Sub=>
  dsimp only[opD,rE] at h
  split at h
  . rename_i i j d1 d2
    exact go aFz ⟨i,j,hx.int d1,hy.int d2,λ_=>h.val t λ_=>rfl⟩
  . exact h.elim
 | FloorDiv=>
  dsimp only[opD,rE] at h
  split at h
  . rename_i i j d1 d2
    obtain⟨c,h⟩:=h.iff
    refine go aDj ⟨i,j,hx.int d1,hy.int d2,?_,λ_=>Wn.val h t λ_=>rfl⟩
    simp only[wV,bA,decide_eq_true_eq] at c
    exact c
  . exact h.elim
 | Mod=>
  dsimp only[opD,rE] at h
  split at h
  . rename_i i j d1 d2
    obtain⟨c,h⟩:=h.iff
    exact go aFB ⟨i,j,hx.int d1,hy.int d2,of_decide_eq_true c,λ_=>Wn.val h t λ_=>rfl⟩
  . exact h.elim
 | Pow=>
  dsimp only[opD,rE] at h
  split at h
  . rename_i i j d1 d2
    obtain⟨c,h⟩:=h.iff
    refine go aFC ⟨i,j,hx.int d1,hy.int d2,?_,λ_=>Wn.val h t λ_=>rfl⟩
    simp only[aEK,bA,decide_eq_true_eq] at c
    exact⟨c.1.1,by omega,c.2⟩
  . exact h.elim
 | _=>exact h.elim
end
end Hp
end
noncomputable section
namespace Hp
open PySem PySem.Spec PyProof.Rows L2 PySem.SeqAt
def gU(n:Nat)(ds es:List D)(j:Nat):Bool:=match ds[j]?,es[j]? with
 | some x,some y=>(eqF n x y).getD false
 | _,_=>false
theorem xB:∀{n:Nat} {ds es:List D} {k:Bool},cV n ds es=some k->∀{j:Nat} {x y:D},ds[j]? = some x->es[j]? = some y->∃b,eqF n x y=some b
 | n,[],es,k,h,j,x,y,e1,e2=>by simp at e1
 | n,d::ds,[],k,h,j,x,y,e1,e2=>by simp at e2
 | n,d::ds,e::es,k,h,j,x,y,e1,e2=>by
  rw[cV] at h
  cases h1:eqF n d e with
  | none=>rw[h1] at h;simp at h
  | some b=>
   cases h2:cV n ds es with
   | none=>rw[h1,h2] at h;simp at h
   | some b'=>
    cases j with
    | zero=>simp at e1 e2;subst e1 e2;exact⟨b,h1⟩
    | succ j=>exact xB h2 (by simpa using e1) (by simpa using e2)
theorem nQ:∀{n:Nat} {ds es:List D} {k:Bool},cV n ds es=some k->k=((List.range (min ds.length es.length)).all (gU n ds es)&&ds.length==es.length)
 | n,[],[],k,h=>by simp[cV] at h;simp[<-h]
 | n,[],e::es,k,h=>by simp[cV] at h;simp[<-h]
 | n,d::ds,[],k,h=>by simp[cV] at h;simp[<-h]
 | n,d::ds,e::es,k,h=>by
  rw[cV] at h
  cases h1:eqF n d e with
  | none=>rw[h1] at h;simp at h
  | some b=>
   cases h2:cV n ds es with
   | none=>rw[h1,h2] at h;simp at h
   | some b'=>
    rw[h1,h2] at h
    have hk:(b&&b')=k:=Option.some.inj h
    have ih:=nQ h2
    have e0:gU n (d::ds) (e::es) 0=b:=by simp[gU,h1]
    have es':∀j,gU n (d::ds) (e::es) (j+1)=gU n ds es j:=λj=>by simp[gU]
    have hm:min (d::ds).length (e::es).length=min ds.length es.length+1:=by simp only[lC];omega
    rw[hm,List.range_succ_eq_map,List.all_cons,e0,List.all_map]
    have:(gU n (d::ds) (e::es))∘Nat.succ=gU n ds es:=funext λj=>es' j
    rw[this,<-hk,ih]
    simp[Bool.and_assoc]
section
variable {X:Cx} {σV:L2.St} {H:Hp} {s:Shared} {pins:List (Addr×Obj)}
theorem _root_.L2.Inv.lt_ne(I:L2.Inv X pins σV H s){a:Addr}{xs ys:List V}(h1:SqL X.K H a xs)(h2:SqT X.K H a ys):False:=by
 obtain⟨its,_,pl,_⟩:=I.list h1
 obtain⟨its2,_,pt,_⟩:=I.tuple h2
 exact ne_of_list_tuple pl.isList (show s.heap.IsTuple a its2.toArray from pt) rfl
theorem aBf{n:Nat}{ds:List (D×D)}{e:D}{k:Bool}(h:eqF (n+1) (.dic ds) e=some k):False:=by
 unfold eqF at h
 split at h <;> first|(cases h;done)|(rename_i e1 e2;cases e1;done)|(rename_i e1;cases e1;done)
mutual
theorem rJ(I:L2.Inv X pins σV H s):∀(n:Nat) (d e:D) (u:V) (k:Bool) (ex ex':Addr->Prop),Rep X.K H ex d u->Rep X.K H ex' e u->eqF n d e=some k->k=true
 | 0,d,e,u,k,_,_,_,_,h=>by simp[eqF] at h
 | n+1,.non,e,u,k,_,_,h1,h2,h=>by
  rw[show u=.non from h1] at h2
  cases e with
  | non=>simpa[eqF] using h.symm
  | tup ds=>obtain⟨a,xs,z,_⟩:=h2;cases z
  | lst ds=>obtain⟨a,xs,z,_⟩:=h2;cases z
  | dic ds=>obtain⟨a,xs,z,_⟩:=h2;cases z
  | err _ _=>simp[eqF] at h
  | bl b=>cases(show V.non=.bl b from h2)
  | int b=>cases(show V.non=.int b from h2)
  | str b=>cases(show V.non=.str b from h2)
 | n+1,.bl b,e,u,k,_,_,h1,h2,h=>by
  rw[show u=.bl b from h1] at h2
  cases e with
  | bl b'=>cases(show V.bl b=.bl b' from h2);simpa[eqF] using h.symm
  | tup ds=>obtain⟨a,xs,z,_⟩:=h2;cases z
  | lst ds=>obtain⟨a,xs,z,_⟩:=h2;cases z
  | dic ds=>obtain⟨a,xs,z,_⟩:=h2;cases z
  | err _ _=>simp[eqF] at h
  | non=>cases(show V.bl b=.non from h2)
  | int b'=>cases(show V.bl b=.int b' from h2)
  | str b'=>cases(show V.bl b=.str b' from h2)
 | n+1,.int b,e,u,k,_,_,h1,h2,h=>by
  rw[show u=.int b from h1] at h2
  cases e with
  | int b'=>cases(show V.int b=.int b' from h2);simpa[eqF] using h.symm
  | tup ds=>obtain⟨a,xs,z,_⟩:=h2;cases z
  | lst ds=>obtain⟨a,xs,z,_⟩:=h2;cases z
  | dic ds=>obtain⟨a,xs,z,_⟩:=h2;cases z
  | err _ _=>simp[eqF] at h
  | non=>cases(show V.int b=.non from h2)
  | bl b'=>cases(show V.int b=.bl b' from h2)
  | str b'=>cases(show V.int b=.str b' from h2)
 | n+1,.str b,e,u,k,_,_,h1,h2,h=>by
  rw[show u=.str b from h1] at h2
  cases e with
  | str b'=>cases(show V.str b=.str b' from h2);simpa[eqF] using h.symm
  | tup ds=>obtain⟨a,xs,z,_⟩:=h2;cases z
  | lst ds=>obtain⟨a,xs,z,_⟩:=h2;cases z
  | dic ds=>obtain⟨a,xs,z,_⟩:=h2;cases z
  | err _ _=>simp[eqF] at h
  | non=>cases(show V.str b=.non from h2)
  | bl b'=>cases(show V.str b=.bl b' from h2)
  | int b'=>cases(show V.str b=.int b' from h2)
 | n+1,.tup ds,e,u,k,ex,ex',h1,h2,h=>by
  obtain⟨a,xs,z,q,r⟩:=h1
  subst z
  cases e with
  | tup es=>
   obtain⟨a',ys,z,q',r'⟩:=h2
   cases z
   have:xs=ys:=I.tuple_inj q q'
   subst this
   exact eqs_same I n ds es xs k ex ex' r r' (by simpa[eqF] using h)
  | lst es=>
   obtain⟨a',ys,z,q',_,r'⟩:=h2
   cases z
   exact(I.lt_ne q' q).elim
  | dic ds=>simp[eqF] at h
  | err _ _=>simp[eqF] at h
  | non=>cases(show V.ref a=.non from h2)
  | bl b'=>cases(show V.ref a=.bl b' from h2)
  | int b'=>cases(show V.ref a=.int b' from h2)
  | str b'=>cases(show V.ref a=.str b' from h2)
 | n+1,.lst ds,e,u,k,ex,ex',h1,h2,h=>by
  obtain⟨a,xs,z,q,_,r⟩:=h1
  subst z
  cases e with
  | lst es=>
   obtain⟨a',ys,z,q',_,r'⟩:=h2
   cases z
   have:xs=ys:=I.list_inj q q'
   subst this
   have hl:ds.length=es.length:=r.length.trans r'.length.symm
   exact eqs_same I n ds es xs k ex ex' r r' (by simpa[eqF,hl] using h)
  | tup es=>
   obtain⟨a',ys,z,q',r'⟩:=h2
   cases z
   exact(I.lt_ne q q').elim
  | dic ds=>simp[eqF] at h
  | err _ _=>simp[eqF] at h
  | non=>cases(show V.ref a=.non from h2)
  | bl b'=>cases(show V.ref a=.bl b' from h2)
  | int b'=>cases(show V.ref a=.int b' from h2)
  | str b'=>cases(show V.ref a=.str b' from h2)
 | n+1,.dic ds,e,u,k,ex,ex',h1,h2,h=>by
  exact(aBf h).elim
 | n+1,.err _ _,e,u,k,ex,ex',h1,h2,h=>by cases e <;> cases h
theorem eqs_same(I:L2.Inv X pins σV H s):∀(n:Nat) (ds es:List D) (us:List V) (k:Bool) (ex ex':Addr->Prop),Reps X.K H ex ds us->Reps X.K H ex' es us->cV n ds es=some k->k=true
 | n,[],[],us,k,_,_,h1,h2,h=>by simpa[cV] using h.symm
 | n,[],e::es,us,k,_,_,h1,h2,h=>by
  obtain⟨x,r,z,_⟩:=h2
  rw[show us=[] from h1] at z;cases z
 | n,d::ds,[],us,k,_,_,h1,h2,h=>by
  obtain⟨x,r,z,_⟩:=h1
  rw[show us=[] from h2] at z;cases z
 | n,d::ds,e::es,us,k,ex,ex',h1,h2,h=>by
  obtain⟨x,r,z,a1,b1⟩:=h1
  obtain⟨x',r',z',a2,b2⟩:=h2
  rw[z] at z'
  cases z'
  rw[cV] at h
  cases q1:eqF n d e with
  | none=>rw[q1] at h;simp at h
  | some b=>
   cases q2:cV n ds es with
   | none=>rw[q1,q2] at h;simp at h
   | some b'=>
    rw[q1,q2] at h
    have e1:=rJ I n d e x b ex ex' a1 a2 q1
    have e2:=eqs_same I n ds es r b' ex ex' b1 b2 q2
    subst e1 e2
    simpa using h.symm
end
def Eq3(A:Around)(s:Shared)(v z:Value)(k:Bool):Prop:=EqAt A s v z k/\RcAt A s v z k/\RcNeAt A s v z (!k)
theorem xC{xs:List V}{us:List Value}(r:aW xs us){j:Nat}(h:j<us.toArray.size):∃x,xs[j]? = some x/\bQ x us.toArray[j]:=by
 have hl:=r.length
 have hj:j<xs.length:=by rw[List.size_toArray] at h;omega
 obtain⟨u,e,q⟩:=r.get (List.getElem?_eq_getElem hj)
 refine⟨xs[j],List.getElem?_eq_getElem hj,?_⟩
 have:us.toArray[j]=u:=by
  have e':us[j]? = some us.toArray[j]:=by simp[List.getElem?_eq_getElem (show j<us.length by simpa using h)]
  rw[e'] at e
  exact Option.some.inj e
 rw[this]
 exact q
theorem zF(A:Around):A.in1.units=A.units+1:=rfl
theorem aDH(I:L2.Inv X pins σV H s):∀(n:Nat) (A:Around) (d e:D) (u w:V) (v z:Value) (k:Bool) (ex ex':Addr->Prop),A.units+n<cLine->Rep X.K H ex d u->Rep X.K H ex' e w->bQ u v->bQ w z->eqF n d e=some k->Eq3 A s v z k:=by
 intro n
 induction n with
 | zero=>intro A d e u w v z k ex ex' _ _ _ _ _ h;simp[eqF] at h
 | succ n ih=>
  intro A d e u w v z k ex ex' hA h1 h2 r1 r2 h
  have hu:A.units<cLine:=by omega
  have items:∀{ds es:List D} {xs ys:List V} {its its2:List Value} {k:Bool},Reps X.K H ex ds xs->Reps X.K H ex' es ys->aW xs its->aW ys its2->cV n ds es=some k ->
   ∀j (_:j<its.toArray.size) (_:j<its2.toArray.size),EqAt A.in1 s its.toArray[j] its2.toArray[j] (gU n ds es j):=by
   intro ds es xs ys its its2 k q1 q2 v1 v2 hk j hj1 hj2
   obtain⟨x,ex1,rx⟩:=xC v1 hj1
   obtain⟨y,ey1,ry⟩:=xC v2 hj2
   obtain⟨d',ed,rd⟩:=q1.get' ex1
   obtain⟨e',ee,re⟩:=q2.get' ey1
   obtain⟨b,hb⟩:=xB hk ed ee
   have hj:gU n ds es j=b:=by simp[gU,ed,ee,hb]
   rw[hj]
   exact(ih A.in1 d' e' x y _ _ b ex ex' (by rw[zF];omega) rd re rx ry hb).1
  cases d with
  | err _ _=>cases e <;> cases h
  | dic ds=>
   exact(aBf h).elim
  | non=>
   rw[show u=.non from h1] at r1
   cases r1
   cases e with
   | err _ _=>simp[eqF] at h
   | dic _=>simp[eqF] at h
   | non=>rw[show w=.non from h2] at r2;cases r2;simp[eqF] at h;subst h;exact⟨EqAt.same _,RcAt.none_none,RcNeAt.none_none⟩
   | bl b=>rw[show w=.bl b from h2] at r2;cases r2;simp[eqF] at h;subst h;exact⟨EqAt.none_bool _,RcAt.none_bool _,RcNeAt.none_bool _⟩
   | int b=>rw[show w=.int b from h2] at r2;obtain⟨t,rfl⟩:=r2;simp[eqF] at h;subst h;exact⟨EqAt.none_int _ _,RcAt.none_int _ _,RcNeAt.none_int _ _⟩
   | str b=>rw[show w=.str b from h2] at r2;obtain⟨t,rfl⟩:=r2;simp[eqF] at h;subst h;exact⟨EqAt.none_str _ _,RcAt.none_str _ _,RcNeAt.none_str _ _⟩
   | tup es=>
    obtain⟨b,ys,rfl,q,r⟩:=h2
    cases r2
    obtain⟨its,_,p,_⟩:=I.tuple q
    simp[eqF] at h;subst h
    exact⟨EqAt.none_tuple (show s.heap.IsTuple b its.toArray from p) hu,RcAt.none_tuple (show s.heap.IsTuple b its.toArray from p) hu,RcNeAt.none_tuple (show s.heap.IsTuple b its.toArray from p) hu⟩
   | lst es=>
    obtain⟨b,ys,rfl,q,_,r⟩:=h2
    cases r2
    obtain⟨its,_,p,_⟩:=I.list q
    simp[eqF] at h;subst h
    exact⟨EqAt.none_list p.isList hu,RcAt.none_list p.isList hu,RcNeAt.none_list p.isList hu⟩
  | bl a=>
   rw[show u=.bl a from h1] at r1
   cases r1
   cases e with
   | err _ _=>simp[eqF] at h
   | dic _=>simp[eqF] at h
   | non=>rw[show w=.non from h2] at r2;cases r2;simp[eqF] at h;subst h;exact⟨EqAt.bool_none _,RcAt.bool_none _,RcNeAt.bool_none _⟩
   | bl b=>rw[show w=.bl b from h2] at r2;cases r2;simp only[eqF,Option.some.injEq] at h;subst h;exact⟨EqAt.bool_bool _ _,RcAt.bool_bool _ _,RcNeAt.bool_bool _ _⟩
   | int b=>rw[show w=.int b from h2] at r2;obtain⟨t,rfl⟩:=r2;simp only[eqF,Option.some.injEq] at h;subst h;exact⟨EqAt.bool_int _ _ _,RcAt.bool_int _ _ _,RcNeAt.bool_int _ _ _⟩
   | str b=>rw[show w=.str b from h2] at r2;obtain⟨t,rfl⟩:=r2;simp[eqF] at h;subst h;exact⟨EqAt.bool_str _ _ _,RcAt.bool_str _ _ _,RcNeAt.bool_str _ _ _⟩
   | tup es=>
    obtain⟨b,ys,rfl,q,r⟩:=h2
    cases r2
    obtain⟨its,_,p,_⟩:=I.tuple q
    simp[eqF] at h;subst h
    exact⟨EqAt.bool_tuple _ (show s.heap.IsTuple b its.toArray from p) hu,RcAt.bool_tuple _ (show s.heap.IsTuple b its.toArray from p) hu,RcNeAt.bool_tuple _ (show s.heap.IsTuple b its.toArray from p) hu⟩
   | lst es=>
    obtain⟨b,ys,rfl,q,_,r⟩:=h2
    cases r2
    obtain⟨its,_,p,_⟩:=I.list q
    simp[eqF] at h;subst h
    exact⟨EqAt.bool_list _ p.isList hu,RcAt.bool_list _ p.isList hu,RcNeAt.bool_list _ p.isList hu⟩
  | int a=>
   rw[show u=.int a from h1] at r1
   obtain⟨t1,rfl⟩:=r1
   cases e with
   | err _ _=>simp[eqF] at h
   | dic _=>simp[eqF] at h
   | non=>rw[show w=.non from h2] at r2;cases r2;simp[eqF] at h;subst h;exact⟨EqAt.int_none _ _,RcAt.int_none _ _,RcNeAt.int_none _ _⟩
   | bl b=>rw[show w=.bl b from h2] at r2;cases r2;simp only[eqF,Option.some.injEq] at h;subst h;exact⟨EqAt.int_bool _ _ _,RcAt.int_bool _ _ _,RcNeAt.int_bool _ _ _⟩
   | int b=>rw[show w=.int b from h2] at r2;obtain⟨t,rfl⟩:=r2;simp only[eqF,Option.some.injEq] at h;subst h;exact⟨EqAt.int_int _ _ _ _,RcAt.int_int _ _ _ _,RcNeAt.int_int _ _ _ _⟩
   | str b=>rw[show w=.str b from h2] at r2;obtain⟨t,rfl⟩:=r2;simp[eqF] at h;subst h;exact⟨EqAt.int_str _ _ _ _,RcAt.int_str _ _ _ _,RcNeAt.int_str _ _ _ _⟩
   | tup es=>
    obtain⟨b,ys,rfl,q,r⟩:=h2
    cases r2
    obtain⟨its,_,p,_⟩:=I.tuple q
    simp[eqF] at h;subst h
    exact⟨EqAt.int_tuple _ _ (show s.heap.IsTuple b its.toArray from p) hu,RcAt.int_tuple _ _ (show s.heap.IsTuple b its.toArray from p) hu,RcNeAt.int_tuple _ _ (show s.heap.IsTuple b its.toArray from p) hu⟩
   | lst es=>
    obtain⟨b,ys,rfl,q,_,r⟩:=h2
    cases r2
    obtain⟨its,_,p,_⟩:=I.list q
    simp[eqF] at h;subst h
    exact⟨EqAt.int_list _ _ p.isList hu,RcAt.int_list _ _ p.isList hu,RcNeAt.int_list _ _ p.isList hu⟩
  | str a=>
   rw[show u=.str a from h1] at r1
   obtain⟨t1,rfl⟩:=r1
   cases e with
   | err _ _=>simp[eqF] at h
   | dic _=>simp[eqF] at h
   | non=>rw[show w=.non from h2] at r2;cases r2;simp[eqF] at h;subst h;exact⟨EqAt.str_none _ _,RcAt.str_none _ _,RcNeAt.str_none _ _⟩
   | bl b=>rw[show w=.bl b from h2] at r2;cases r2;simp[eqF] at h;subst h;exact⟨EqAt.str_bool _ _ _,RcAt.str_bool _ _ _,RcNeAt.str_bool _ _ _⟩
   | int b=>rw[show w=.int b from h2] at r2;obtain⟨t,rfl⟩:=r2;simp[eqF] at h;subst h;exact⟨EqAt.str_int _ _ _ _,RcAt.str_int _ _ _ _,RcNeAt.str_int _ _ _ _⟩
   | str b=>rw[show w=.str b from h2] at r2;obtain⟨t,rfl⟩:=r2;simp only[eqF,Option.some.injEq] at h;subst h;exact⟨EqAt.str_str _ _ _ _,RcAt.str_str _ _ _ _,RcNeAt.str_str _ _ _ _⟩
   | tup es=>
    obtain⟨b,ys,rfl,q,r⟩:=h2
    cases r2
    obtain⟨its,_,p,_⟩:=I.tuple q
    simp[eqF] at h;subst h
    exact⟨EqAt.str_tuple _ _ (show s.heap.IsTuple b its.toArray from p) hu,RcAt.str_tuple _ _ (show s.heap.IsTuple b its.toArray from p) hu,RcNeAt.str_tuple _ _ (show s.heap.IsTuple b its.toArray from p) hu⟩
   | lst es=>
    obtain⟨b,ys,rfl,q,_,r⟩:=h2
    cases r2
    obtain⟨its,_,p,_⟩:=I.list q
    simp[eqF] at h;subst h
    exact⟨EqAt.str_list _ _ p.isList hu,RcAt.str_list _ _ p.isList hu,RcNeAt.str_list _ _ p.isList hu⟩
  | tup ds=>
   have h1':=h1
   obtain⟨a,xs,rfl,q1,rp1⟩:=h1
   cases r1
   obtain⟨its1,v1,p1,_⟩:=I.tuple q1
   have p1':s.heap.IsTuple a its1.toArray:=p1
   cases e with
   | err _ _=>simp[eqF] at h
   | dic _=>simp[eqF] at h
   | non=>rw[show w=.non from h2] at r2;cases r2;simp[eqF] at h;subst h;exact⟨EqAt.tuple_none p1' hu,RcAt.tuple_none p1' hu,RcNeAt.tuple_none p1' hu⟩
   | bl b=>rw[show w=.bl b from h2] at r2;cases r2;simp[eqF] at h;subst h;exact⟨EqAt.tuple_bool _ p1' hu,RcAt.tuple_bool _ p1' hu,RcNeAt.tuple_bool _ p1' hu⟩
   | int b=>rw[show w=.int b from h2] at r2;obtain⟨t,rfl⟩:=r2;simp[eqF] at h;subst h;exact⟨EqAt.tuple_int _ _ p1' hu,RcAt.tuple_int _ _ p1' hu,RcNeAt.tuple_int _ _ p1' hu⟩
   | str b=>rw[show w=.str b from h2] at r2;obtain⟨t,rfl⟩:=r2;simp[eqF] at h;subst h;exact⟨EqAt.tuple_str _ _ p1' hu,RcAt.tuple_str _ _ p1' hu,RcNeAt.tuple_str _ _ p1' hu⟩
   | tup es=>
    have h2':=h2
    obtain⟨b,ys,rfl,q2,rp2⟩:=h2
    cases r2
    obtain⟨its2,v2,p2,_⟩:=I.tuple q2
    have hk:cV n ds es=some k:=by simpa[eqF] using h
    have hv:=nQ hk
    have l1:its1.toArray.size=ds.length:=by rw[List.size_toArray,<-v1.length,rp1.length]
    have l2:its2.toArray.size=es.length:=by rw[List.size_toArray,<-v2.length,rp2.length]
    have rc:RcAt A s (.ref a) (.ref b) k:=by
     rw[hv,<-l1,<-l2]
     exact RcAt.tuples p1' (show s.heap.IsTuple b its2.toArray from p2) hu (items rp1 rp2 v1 v2 hk)
    have rn:RcNeAt A s (.ref a) (.ref b) (!k):=by
     rw[hv,<-l1,<-l2]
     exact RcNeAt.tuples p1' (show s.heap.IsTuple b its2.toArray from p2) hu (items rp1 rp2 v1 v2 hk)
    refine⟨?_,rc,rn⟩
    by_cases hab:a=b
    . subst hab
      have:=rJ I (n+1) (.tup ds) (.tup es) (.ref a) k ex ex' h1' h2' h
      subst this
      exact EqAt.same _
    . exact EqAt.of_refs hab rc
   | lst es=>
    obtain⟨b,ys,rfl,q2,_,rp2⟩:=h2
    cases r2
    obtain⟨its2,v2,p2,_⟩:=I.list q2
    simp[eqF] at h;subst h
    exact⟨EqAt.tuple_list p1' p2.isList hu,RcAt.tuple_list p1' p2.isList hu,RcNeAt.tuple_list p1' p2.isList hu⟩
  | lst ds=>
   have h1':=h1
   obtain⟨a,xs,rfl,q1,_,rp1⟩:=h1
   cases r1
   obtain⟨its1,v1,p1,_⟩:=I.list q1
   have p1':=p1.isList
   cases e with
   | err _ _=>simp[eqF] at h
   | dic _=>simp[eqF] at h
   | non=>rw[show w=.non from h2] at r2;cases r2;simp[eqF] at h;subst h;exact⟨EqAt.list_none p1' hu,RcAt.list_none p1' hu,RcNeAt.list_none p1' hu⟩
   | bl b=>rw[show w=.bl b from h2] at r2;cases r2;simp[eqF] at h;subst h;exact⟨EqAt.list_bool _ p1' hu,RcAt.list_bool _ p1' hu,RcNeAt.list_bool _ p1' hu⟩
   | int b=>rw[show w=.int b from h2] at r2;obtain⟨t,rfl⟩:=r2;simp[eqF] at h;subst h;exact⟨EqAt.list_int _ _ p1' hu,RcAt.list_int _ _ p1' hu,RcNeAt.list_int _ _ p1' hu⟩
   | str b=>rw[show w=.str b from h2] at r2;obtain⟨t,rfl⟩:=r2;simp[eqF] at h;subst h;exact⟨EqAt.list_str _ _ p1' hu,RcAt.list_str _ _ p1' hu,RcNeAt.list_str _ _ p1' hu⟩
   | lst es=>
    have h2':=h2
    obtain⟨b,ys,rfl,q2,_,rp2⟩:=h2
    cases r2
    obtain⟨its2,v2,p2,_⟩:=I.list q2
    have l1:its1.toArray.size=ds.length:=by rw[List.size_toArray,<-v1.length,rp1.length]
    have l2:its2.toArray.size=es.length:=by rw[List.size_toArray,<-v2.length,rp2.length]
    have both:RcAt A s (.ref a) (.ref b) k/\RcNeAt A s (.ref a) (.ref b) (!k):=by
     by_cases hl:ds.length=es.length
     . have hk:cV n ds es=some k:=by simpa[eqF,hl] using h
       have hv:=nQ hk
       rw[<-hl,Nat.min_self,beq_self_eq_true,Bool.and_true,<-l1] at hv
       rw[hv]
       exact⟨RcAt.lists p1' p2.isList (by rw[l1,l2,hl]) hu (items rp1 rp2 v1 v2 hk),RcNeAt.lists p1' p2.isList (by rw[l1,l2,hl]) hu (items rp1 rp2 v1 v2 hk)⟩
     . have hk:k=false:=by simpa[eqF,hl] using h.symm
       subst hk
       have hz:(its1.toArray.size != its2.toArray.size)=true:=by rw[l1,l2];simpa using hl
       exact⟨RcAt.lists_lengths p1' p2.isList hz hu,RcNeAt.lists_lengths p1' p2.isList hz hu⟩
    refine⟨?_,both.1,both.2⟩
    by_cases hab:a=b
    . subst hab
      have:=rJ I (n+1) (.lst ds) (.lst es) (.ref a) k ex ex' h1' h2' h
      subst this
      exact EqAt.same _
    . exact EqAt.of_refs hab both.1
   | tup es=>
    obtain⟨b,ys,rfl,q2,rp2⟩:=h2
    cases r2
    obtain⟨its2,v2,p2,_⟩:=I.tuple q2
    have p2':s.heap.IsTuple b its2.toArray:=p2
    simp[eqF] at h;subst h
    exact⟨EqAt.list_tuple p1' p2' hu,RcAt.list_tuple p1' p2' hu,RcNeAt.list_tuple p1' p2' hu⟩
end
end Hp
end
noncomputable section
namespace HT
open PySem PyProof.Rows
section
open PySem.SeqAt
open PySem.AutoSeq1 (wpAny_loadPart')
open PySem.MeetsSeq PySem.MeetsSeq2 PySem.MeetsSeq3
end
section
variable {prog:Program} {w:World} {A:Around} {E:Value->Shared->Prop} {s:Shared}
end
end HT
end
noncomputable section
namespace Hp
open PySem PySem.Spec PyProof.Rows L2 PySem.SeqAt
section
variable {X:Cx} {RT Y old:Addr->Prop} {σ:Sg} {σV:L2.St} {H:Hp} {s:Shared} {pins:List (Addr×Obj)} {Q:VK} {ux uy:V} {vx vy:Value} {x y:Vl}
theorem zG{o:CmpOp}{k:Bool}{σV2:L2.St}(I:L2.Inv X pins σV H s)(hA:X.A.units+200<cLine)(rx:bQ ux vx)(ry:bQ uy vy)(hx:Rv X.K RT Y old σ σV2 H x ux)(hy:Rv X.K RT Y old σ σV2 H y uy)
 (h:cT o x.d y.d=some k) (q:Q (.bl k) H):wpAny (model X.prog X.w) X.A (compareOp o vx vy) (EP X pins σV Q) X.xe s:=by
 have hu:X.A.units<cLine:=by omega
 have fin:EP X pins σV Q (.bool k) s:=⟨.bl k,H,I,rfl,q⟩
 have hD:rD=120:=rfl
 have go:∀{f:Value->Value->Sem Value} {r:R2},OpR X f r->r ux uy H Q->wpAny (model X.prog X.w) X.A (f vx vy) (EP X pins σV Q) X.xe s:=λhr q=>hr pins s σV H ux uy vx vy Q I rx ry q
 have e3:∀{b:Bool},eqD x.d y.d=some b->Eq3 X.A s vx vy b:=λ{b} hb=>aDH I rD X.A x.d y.d ux uy vx vy b _ _ (by omega) hx hy rx ry hb
 cases o with
 | Eq=>exact(e3 h).2.1 X.prog X.w X.xe _ fin
 | NotEq=>
  simp only[cT,Option.map_eq_some_iff] at h
  obtain⟨b,hb,e⟩:=h
  subst e
  exact(e3 hb).2.2 X.prog X.w X.xe _ fin
 | Lt=>
  simp only[cT] at h
  unfold ltD at h
  split at h
  . rename_i a b d1 d2
    exact go aHC ⟨a,b,hx.int d1,hy.int d2,by show Q (.bl (decide (a<b))) H;rw[Option.some.inj h];exact q⟩
  . cases h
 | Gt=>
  simp only[cT] at h
  split at h
  . rename_i a b d1 d2
    exact go aHE ⟨a,b,hx.int d1,hy.int d2,by show Q (.bl (decide (b<a))) H;rw[Option.some.inj h];exact q⟩
  . cases h
 | LtE=>
  simp only[cT] at h
  unfold leD at h
  split at h
  . rename_i a b d1 d2
    exact go aHD ⟨a,b,hx.int d1,hy.int d2,by show Q (.bl (decide (a<=b))) H;rw[Option.some.inj h];exact q⟩
  . cases h
 | GtE=>
  simp only[cT] at h
  split at h
  . rename_i a b d1 d2
    exact go aHF ⟨a,b,hx.int d1,hy.int d2,by show Q (.bl (decide (b<=a))) H;rw[Option.some.inj h];exact q⟩
  . cases h
 | Is=>
  simp only[cT] at h
  split at h
  . rename_i d2
    refine go aFD ⟨hy.non d2,?_⟩
    have:decide (ux=V.non)=k:=by
     rw[<-Option.some.inj h]
     unfold isNone
     split
     . rename_i d1;rw[hx.non d1];simp
     . rename_i d1
       refine decide_eq_false λz=>?_
       rw[z] at hx
       unfold Rv at hx
       cases q':x.d with
       | non=>exact d1 q'
       | _=>rw[q'] at hx;first|(obtain⟨a,xs,z',_⟩:=hx;cases z')|exact hx.elim|injection hx
    rw[this]
    exact q
  . cases h
 | IsNot=>
  simp only[cT] at h
  split at h
  . rename_i d2
    refine go aDk ⟨hy.non d2,?_⟩
    have:(!decide (ux=V.non))=k:=by
     rw[<-Option.some.inj h]
     unfold isNone
     split
     . rename_i d1;rw[hx.non d1];simp
     . rename_i d1
       rw[decide_eq_false λz=>?_]
       rw[z] at hx
       unfold Rv at hx
       cases q':x.d with
       | non=>exact d1 q'
       | _=>rw[q'] at hx;first|(obtain⟨a,xs,z',_⟩:=hx;cases z')|exact hx.elim|injection hx
    rw[this]
    exact q
  . cases h
 | In=>
  simp only[cT] at h
  unfold inD at h
  split at h
  . rename_i a b d1 d2
    exact go yW ⟨a,b,hx.str d1,hy.str d2,by rw[show(!(Builtin.Str.occurrences b a 0 b.length 1).isEmpty)=k from Option.some.inj h];exact q⟩
  . cases h
 | NotIn=>
  simp only[cT,Option.map_eq_some_iff] at h
  obtain⟨k',h,ek⟩:=h
  subst ek
  unfold inD at h
  split at h
  . rename_i a b d1 d2
    exact go qV ⟨a,b,hx.str d1,hy.str d2,by rw[show(!(Builtin.Str.occurrences b a 0 b.length 1).isEmpty)=k' from Option.some.inj h];exact q⟩
  . cases h
end
end Hp
end
noncomputable section
namespace Hp
open PySem PySem.Spec PyProof.Rows L2
theorem jY(n:Nat){d:Nat}(hd:d<=n):∀lo,sIx n d lo<=n
 | none=>hd
 | some v=>by
  unfold sIx
  dsimp only
  split <;> omega
theorem tL(lo hi:Option Int)(n:Nat):Builtin.Str.strSliceIndices lo hi 1 n=Builtin.Str.strSliceIndices (some ((sIx n 0 lo:Nat):Int)) (some ((sIx n n hi:Nat):Int)) 1 n:=by
 have h1:(1:Int)>0:=by decide
 have key:∀(d:Nat) (hd:d<=n) (o:Option Int),(match o with|none=>(d:Int)|some i=>max 0 (min (if i<0 then i+(n:Int) else i) (n:Int)))=((sIx n d o:Nat):Int):=by
  intro d hd o
  cases o with
  | none=>rfl
  | some i=>
   unfold sIx
   dsimp only
   split <;> omega
 have k2:∀(m:Nat),m<=n->max (0:Int) (min (if (m:Int)<0 then (m:Int)+(n:Int) else (m:Int)) (n:Int))=(m:Int):=by
  intro m hm
  split <;> omega
 unfold Builtin.Str.strSliceIndices
 simp only[h1,if_true]
 have e1:=key 0 (Nat.zero_le _) lo
 have e2:=key n (Nat.le_refl _) hi
 have f1:=k2 _ (jY n (Nat.zero_le _) lo)
 have f2:=k2 _ (jY n (Nat.le_refl _) hi)
 rw[f1,f2]
 cases lo <;> cases hi <;> simp_all
theorem pD(x:Str)(lo hi:Option Int):StrLaws.sliceText x lo hi=tE x lo hi:=by
 have hl:x.cps.toList.length=x.length:=by show _=x.cps.size;simp
 have e:StrLaws.sliceText x lo hi=StrLaws.sliceText x (some ((sIx x.length 0 lo:Nat):Int)) (some ((sIx x.length x.length hi:Nat):Int)):=by
  unfold StrLaws.sliceText
  rw[tL]
 rw[e]
 unfold tE cut
 rw[hl]
 by_cases h:sIx x.length 0 lo<=sIx x.length x.length hi
 . exact StrLaws.sliceText_nat x h (jY _ (Nat.le_refl _) hi)
 . have h0:sIx x.length x.length hi-sIx x.length 0 lo=0:=by omega
   have hlo:=jY x.length (Nat.zero_le _) lo
   have hhi:=jY x.length (Nat.le_refl _) hi
   rw[h0,List.take_zero]
   generalize sIx x.length 0 lo=i at *
   generalize sIx x.length x.length hi=j at *
   have he:Builtin.Str.strSliceIndices (some (i:Int)) (some (j:Int)) 1 x.length=[]:=by
    unfold Builtin.Str.strSliceIndices
    have h1:(1:Int)>0:=by decide
    simp only[h1,if_true]
    rw[if_neg (by omega),if_neg (by omega)]
    have a1:max (0:Int) (min (i:Int) (x.length:Int))=i:=by omega
    have a2:max (0:Int) (min (j:Int) (x.length:Int))=j:=by omega
    rw[a1,a2]
    unfold sliceRange
    simp
    omega
   unfold StrLaws.sliceText
   rw[he]
   simp
   intro hz
   omega
def aBg:V->Option Int->Option Int->L2.Hp->VK->Prop:=λx lo hi H Q=>∃a,x=.str a/\a.length<=sizeLine/\Q (.str (tE a lo hi)) H
section
variable {X:Cx}
theorem aFT:SlR X aBg:=by
 intro pins s σ H x v vl vu lo hi sl Q I rx hs pl pu h
 obtain⟨a,rfl,hz,q⟩:=h
 obtain⟨t,rfl⟩:=rx
 have fin:∀(l u:Option (Int×Tok)),l.map (·.1)=lo->u.map (·.1)=hi->s.heap.IsSlice sl l u none->wpAny (model X.prog X.w) X.A (getItem (.str a t) (.ref sl)) (EP X pins σ Q) X.xe s:=by
  intro l u e1 e2 h
  refine wpAny_getItem_str_slice h rfl ?_
  have e:StrLaws.sliceText a lo hi=tE a lo hi:=pD a lo hi
  unfold StrLaws.sliceText at e
  subst e1 e2
  show Made.post (if ((1:Int)==1&&(Builtin.Str.strSliceIndices (l.map (·.1)) (u.map (·.1)) 1 a.length).length==a.length)=true then _ else _) _ s
  split
  . rename_i hc
    rw[if_pos hc] at e
    exact⟨.str a,H,I,⟨t,rfl⟩,by rw[e];exact q⟩
  . rename_i hc
    rw[if_neg hc] at e
    have hle:(tE a (l.map (·.1)) (u.map (·.1))).length<=sizeLine:=by
     refine Nat.le_trans ?_ hz
     show(cut a.cps.toList _ _).toArray.size<=a.cps.size
     unfold cut
     rw[List.size_toArray,List.length_take,List.length_drop,Array.length_toList]
     omega
    refine⟨by rw[<-e] at hle;exact hle,.str (tE a (l.map (·.1)) (u.map (·.1))),H,I.tok _,?_,q⟩
    rw[<-e]
    exact⟨_,rfl⟩
 refine⟨"str",_,slot_str_getitem.lookup,rfl,?_⟩
 cases pl with
 | none=>
  cases pu with
  | none=>exact fin none none rfl rfl hs
  | int j tj=>exact fin none (some (j,tj)) rfl rfl hs
 | int i ti=>
  cases pu with
  | none=>exact fin (some (i,ti)) none rfl rfl hs
  | int j tj=>exact fin (some (i,ti)) (some (j,tj)) rfl rfl hs
end
theorem jZ(a b:Str):(a++b).length=a.length+b.length:=by
 show(a.cps++b.cps).size=_
 rw[Array.size_append];rfl
theorem aDI{x:Str}(h:aAT x=true):(reprText x).length=x.length+2:=by
 have q:reprQuote x=39:=by
  unfold reprQuote
  have:x.cps.contains 39=false:=by
   cases z:x.cps.contains 39 with
   | false=>rfl
   | true=>
    have hm:39∈x.cps:=by simpa using z
    unfold aAT at h
    rw[Array.all_eq_true'] at h
    have:=h 39 hm
    simp at this
  rw[this];rfl
 have all:∀c∈List.range 26,(Builtin.Str.reprChar 39 (97+c)).length=1:=by decide +kernel
 have one:∀c∈x.cps.toList,(Builtin.Str.reprChar 39 c).length=1:=λc hc=>by
  unfold aAT at h
  rw[Array.all_eq_true'] at h
  have:=h c (by simpa using hc)
  simp only[bA,decide_eq_true_eq] at this
  have z:=all (c-97) (by rw[List.mem_range];omega)
  rwa [show 97+(c-97)=c by omega] at z
 have fold:∀(l:List Nat) (n:Nat),(∀c∈l,(Builtin.Str.reprChar 39 c).length=1)->l.foldl (λn c=>n+(Builtin.Str.reprChar 39 c).length) n=n+l.length:=by
  intro l
  induction l with
  | nil=>intro n _;rfl
  | cons c l ih=>
   intro n hl
   rw[List.foldl_cons,ih _ λd hd=>hl d (List.mem_cons_of_mem _ hd),hl c List.mem_cons_self,lC]
   omega
 have e:=reprLen_eq x
 rw[q,<-Array.foldl_toList,fold _ _ one] at e
 rw[<-e]
 show 2+x.cps.toList.length=x.cps.size+2
 rw[Array.length_toList];omega
mutual
theorem aBh:∀d:D,wt d<lim->(fS d).shown.length<=wt d/\(fS d).showable=true/\(fS d).hasDict=false/\(fS d).depth=dpt d
 | .non,_=>by simp only[fS,PyData.shown,PyData.showable,PyData.hasDict,PyData.depth,dpt,wt];decide
 | .bl b,_=>by simp only[fS,PyData.shown,PyData.showable,PyData.hasDict,PyData.depth,dpt,wt];cases b <;> decide
 | .int i,h=>by
  rw[wt] at h
  by_cases hi:i.natAbs<1000000000
  . have e:=int_text_length_le10 (k:=9) (by decide) (show i.natAbs<10 ^ 9 from hi)
    have l:=log2_of hi
    simp only[fS,PyData.shown,PyData.showable,PyData.hasDict,PyData.depth,dpt,wt,if_pos hi,decide_eq_true l,and_self,and_true]
    rw[PySem.ofString_length];omega
  . rw[if_neg hi] at h;exact absurd h (Nat.lt_irrefl _)
 | .str x,h=>by
  rw[wt] at h
  by_cases hx:aAT x=true
  . have e:=aDI hx
    simp only[fS,PyData.shown,PyData.showable,PyData.hasDict,PyData.depth,dpt,wt,if_pos hx,e,and_self,Nat.le_refl]
  . rw[if_neg hx] at h;exact absurd h (Nat.lt_irrefl _)
 | .tup ds,h=>by
  rw[wt] at h
  obtain⟨h1,h2,h3,h4⟩:=shown_les ds (by omega)
  have e:(tupleText (PyData.shownAll (toPys ds))).length<=3+piled (PyData.shownAll (toPys ds)):=by
   unfold tupleText
   rw[jZ,jZ]
   have e1:((("(" : String):Str)).length=1:=rfl
   have e2:(((if (PyData.shownAll (toPys ds)).length==1 then ",)" else ")" : String):Str)).length<=2:=by split <;> decide
   have e3:(Str.join ", " (PyData.shownAll (toPys ds))).length<=piled (PyData.shownAll (toPys ds)):=by
    by_cases z:PyData.shownAll (toPys ds)=[]
    . rw[z];decide
    . have:=join_length_add _ z;omega
   omega
  simp only[fS,PyData.shown,PyData.showable,PyData.hasDict,PyData.depth,dpt,wt,h2,h3,h4,and_self,and_true]
  omega
 | .lst ds,h=>by
  rw[wt] at h
  obtain⟨h1,h2,h3,h4⟩:=shown_les ds (by omega)
  have e:(listText (PyData.shownAll (toPys ds))).length<=2+piled (PyData.shownAll (toPys ds)):=by
   unfold listText
   rw[jZ]
   have e1:((("]" : String):Str)).length=1:=rfl
   have e2:(textFrom 0 "[" (PyData.shownAll (toPys ds))).length<=1+piled (PyData.shownAll (toPys ds)):=by
    cases PyData.shownAll (toPys ds) with
    | nil=>decide
    | cons t r=>
     have z:=textFrom_length_pos r 1 (("[" : Str)++(if (0:Nat)>0 then ", " else "" : String)++t) (Nat.succ_pos 0)
     show(textFrom 1 (("[" : Str)++(if (0:Nat)>0 then ", " else "" : String)++t) r).length<=_
     rw[z,jZ,jZ,piled_cons]
     have e0:((("[" : String):Str)).length=1:=rfl
     have e1:(((if (0:Nat)>0 then ", " else "" : String):Str)).length=0:=rfl
     omega
   omega
  simp only[fS,PyData.shown,PyData.showable,PyData.hasDict,PyData.depth,dpt,wt,h2,h3,h4,and_self,and_true]
  omega
 | .dic _,h=>by rw[wt] at h;exact absurd h (Nat.lt_irrefl _)
 | .err _ _,h=>by rw[wt] at h;exact absurd h (Nat.lt_irrefl _)
theorem shown_les:∀ds:List D,wts ds<lim->piled (PyData.shownAll (toPys ds))<=wts ds/\PyData.showableAll (toPys ds)=true/\PyData.hasDictAll (toPys ds)=false/\PyData.depthAll (toPys ds)=dpts ds
 | [],_=>by simp only[toPys,PyData.shownAll,PyData.showableAll,PyData.hasDictAll,PyData.depthAll,dpts,wts];decide
 | d::ds,h=>by
  rw[wts] at h
  obtain⟨h1,h2,h3,h4⟩:=aBh d (by omega)
  obtain⟨g1,g2,g3,g4⟩:=shown_les ds (by omega)
  simp only[toPys,PyData.shownAll,PyData.showableAll,PyData.hasDictAll,PyData.depthAll,dpts,wts,piled_cons,h2,h3,h4,g2,g3,g4,Bool.and_self,Bool.or_self,and_self,and_true]
  omega
theorem log2_of{n:Nat}(h:n<1000000000):n.log2<1920:=by
 by_cases hz:n=0
 . rw[hz];decide
 . exact Nat.lt_of_lt_of_le ((Nat.log2_lt hz).mpr (Nat.lt_trans h (by decide:1000000000<2 ^ 30))) (by decide)
end
section
variable {X:Cx} {pins:List (Addr×Obj)} {σ:L2.St} {H:Hp} {s:Shared}
mutual
theorem aBi{ex:Addr->Prop}(I:Inv X pins σ H s):∀(d:D) {v:V} {u:Value},Rep X.K H ex d v->bQ v u->wt d<lim->∃as,Reads s.heap u (fS d) as
 | .non,v,u,h,r,_=>by
  rw[show v=.non from h] at r
  rw[show u=.none from r,fS]
  exact⟨_,.none⟩
 | .bl b,v,u,h,r,_=>by
  rw[show v=.bl b from h] at r
  rw[show u=.bool b from r,fS]
  exact⟨_,.bool b⟩
 | .int i,v,u,h,r,_=>by
  rw[show v=.int i from h] at r
  obtain⟨t,e⟩:∃t,u=.int i t:=r
  rw[e,fS]
  exact⟨_,.int i t⟩
 | .str x,v,u,h,r,_=>by
  rw[show v=.str x from h] at r
  obtain⟨t,e⟩:∃t,u=.str x t:=r
  rw[e,fS]
  exact⟨_,.str x t⟩
 | .tup ds,v,u,h,r,hw=>by
  obtain⟨a,xs,e,q,rr⟩:=h
  subst e
  rw[show u=.ref a from r,fS]
  rw[wt] at hw
  obtain⟨its,rv,⟨o,ho,hc,n,hd⟩,_⟩:=I.tuple q
  obtain⟨as,ra⟩:=reads_ofs I ds rr rv (by omega)
  exact⟨_,.tuple ho hc hd (by simpa using ra)⟩
 | .lst ds,v,u,h,r,hw=>by
  obtain⟨a,xs,e,q,_,rr⟩:=h
  subst e
  rw[show u=.ref a from r,fS]
  rw[wt] at hw
  obtain⟨its,rv,pl,_⟩:=I.list q
  obtain⟨o,ho,hc,n,hd⟩:=pl.isList
  obtain⟨as,ra⟩:=reads_ofs I ds rr rv (by omega)
  exact⟨_,.list ho hc hd (by simpa using ra)⟩
 | .dic _,_,_,_,_,hw=>by rw[wt] at hw;exact absurd hw (Nat.lt_irrefl _)
 | .err _ _,_,_,_,_,hw=>by rw[wt] at hw;exact absurd hw (Nat.lt_irrefl _)
theorem reads_ofs{ex:Addr->Prop}(I:Inv X pins σ H s):∀(ds:List D) {vs:List V} {us:List Value},Reps X.K H ex ds vs->aW vs us->wts ds<lim->∃as,ReadsAll s.heap us (toPys ds) as
 | [],vs,us,h,r,_=>by
  rw[show vs=[] from h] at r
  cases r
  exact⟨_,by rw[toPys];exact .nil⟩
 | d::ds,vs,us,h,r,hw=>by
  obtain⟨x,r',e,h1,h2⟩:=h
  subst e
  cases r with
  | cons r1 r2=>
   rw[wts] at hw
   obtain⟨as,ra⟩:=aBi I d h1 r1 (by omega)
   obtain⟨bs,rb⟩:=reads_ofs I ds h2 r2 (by omega)
   exact⟨_,by rw[toPys];exact .cons ra rb⟩
end
end
section
variable {X:Cx} {RT Y old:Addr->Prop} {σ:Sg} {σV:L2.St} {H:Hp} {s:Shared} {pins:List (Addr×Obj)} {Q:VK} {ux uy:V} {vx vy:Value} {x y:Vl}
theorem vR(n:Nat)(k:Int):Hp.ixN n k=L2.ixN n k:=rfl
theorem Rv.ofSub{d:D}{u:V}(h:Rep X.K H (exV RT Y old σ σV x.pa x.al) d u):Ro X.K RT Y old σ σV H H (x.sub d) u:=by
 refine Ro.plain (aM.refl H) ?_ (Rv.sub (ds:=[]) (xs:=[]) (j:=0) h)
 unfold Vl.sub Vl.cl
 split <;> rfl
theorem zH(t:Tk X.K H)(hx:Rv X.K RT Y old σ σV H x ux)(hy:Rv X.K RT Y old σ σV H y uy){w:D->Prop}(h:RE w (bW x y) (Wn X RT Y old σ σV H Q)):rIx X.K ux uy H (λv H'=>Tk X.K H'->Q v H'):=by
 unfold bW at h
 split at h
 . rename_i ds k d1 d2
   obtain⟨a,xs,e,q,_,r⟩:=hx.lst d1
   cases hj:Hp.ixN ds.length k with
   | none=>rw[hj] at h;exact h.elim
   | some j=>
    rw[hj] at h
    cases hd:ds[j]? with
    | none=>simp only[hd] at h;exact h.elim
    | some d=>
     simp only[hd] at h
     obtain⟨v,hv,rv⟩:=r.get hd
     refine .inl ⟨a,xs,k,v,e,hy.int d2,q,?_,λt'=>h v H t' (Rv.ofSub rv)⟩
     unfold atI
     rw[<-r.length,<-vR,hj]
     exact hv
 . rename_i ds k d1 d2
   obtain⟨a,xs,e,q,r⟩:=hx.tup d1
   cases hj:Hp.ixN ds.length k with
   | none=>rw[hj] at h;exact h.elim
   | some j=>
    rw[hj] at h
    cases hd:ds[j]? with
    | none=>simp only[hd] at h;exact h.elim
    | some d=>
     simp only[hd] at h
     obtain⟨v,hv,rv⟩:=r.get hd
     refine .inr (.inl ⟨a,xs,k,v,e,hy.int d2,q,?_,λt'=>h v H t' (Rv.ofSub rv)⟩)
     unfold atI
     rw[<-r.length,<-vR,hj]
     exact hv
 . rename_i z k d1 d2
   obtain⟨c,h⟩:=h.iff
   have c':=of_decide_eq_true c
   cases hj:Hp.ixN z.length k with
   | none=>rw[hj] at h;exact h.elim
   | some j=>
    rw[hj] at h
    cases hd:z.cps.toList[j]? with
    | none=>simp only[hd] at h;exact h.elim
    | some c=>
     simp only[hd] at h
     refine .inr (.inr ⟨z,k,c,hx.str d1,hy.int d2,eK c',?_,λt'=>Wn.val h t' λ_=>rfl⟩)
     unfold atI
     have hl:z.cps.toList.length=z.length:=by simp[Str.length]
     rw[hl,<-vR,hj]
     exact hd
 . exact h.elim
theorem rK(n d:Nat)(o:Option Int):Hp.sIx n d o=HT.sIx n d o:=by cases o <;> rfl
theorem tM{K:Fg}{ex:Addr->Prop}{ds:List D}{xs:List V}(r:Reps K H ex ds xs)(lo hi:Option Int):Reps K H ex (cut ds lo hi) (sY xs lo hi):=by
 unfold cut sY
 rw[rK,rK,r.length]
 exact(r.drop _).take _
theorem jI{prog:Program}{w:World}{A:Around}{E:Value->Shared->Prop}{t sl:Addr}{items:Array Value}{vl vu:Value}{lo hi:Option Int}{Q:Value->Shared->Prop}(ht:IsTup s.heap t items)(hs:s.heap.IsSliceOf sl vl vu .none)(pl:IsPart vl lo)(pu:IsPart vu hi)
 (hw:HT.sIx items.size 0 lo=0/\HT.sIx items.size items.size hi=items.size) (h:Q (.ref t) s):wpAny (model prog w) A (getItem (.ref t) (.ref sl)) Q E s:=by
 obtain⟨os,hos,hcs,hds⟩:=id hs
 have hTs:s.TypeIs (.ref sl) "slice" := ⟨os,hos,hcs⟩
 unfold getItem
 try with_reducible refine wpAny_holding ?_
 first|refine wpAny_bind (wpAny_pure ?_)|skip
 refine wpAny_bind (wpAny_sequenceKey ht.typeIs (by decide) ?_)
 refine wpAny_bind (wpAny_callSpecial?_slot (name:=Str.ofString "__getitem__") ht.typeIs PyProof.Rows.slot_tuple_getitem
  (wpAny_call_entry PyProof.Rows.slot_tuple_getitem ht.typeIs entry_tuple_getitem ?_ (args_tuple_getitem _ _)))
 show wpAny _ _ (Builtin.Tuple.tupleItemsOf (.ref t) >>= _) _ _ s
 refine wpAny_bind (tupleItemsOf_ ht ?_)
 refine wpAny_bind (wpAny_typeOf hTs ?_)
 rw[if_pos (by decide)]
 refine wpAny_bind (HT.sliceApplied_gen hs pl pu ?_)
 have hyes:(((HT.sIx items.size 0 lo:Nat):Int)==0&&(1:Int)==1&&(HT.sIx items.size items.size hi-HT.sIx items.size 0 lo)==items.size)=true:=by
  rw[hw.1,hw.2]
  simp
 show wpAny _ _ (if (((HT.sIx items.size 0 lo:Nat):Int)==0&&(1:Int)==1&&(HT.sIx items.size items.size hi-HT.sIx items.size 0 lo)==items.size)=true then _ else _) _ _ s
 rw[if_pos hyes]
 unfold Builtin.Tuple.tupleIsExact
 refine wpAny_bind (wpAny_bind (wpAny_typeOf ht.typeIs (wpAny_pure ?_)))
 rw[if_pos (beq_self_eq_true _)]
 exact wpAny_bind (wpAny_rule (wpAny_pure ⟨_,rfl,wpAny_pure h⟩))
def tN(K:Fg):V->Option Int->Option Int->Hp->VK->Prop:=λx lo hi H Q=>∃a xs,x=.ref a/\SqT K H a xs/\(HT.sIx xs.length 0 lo=0/\HT.sIx xs.length xs.length hi=xs.length)/\Q (.ref a) H
theorem aDJ:SlR X (tN X.K):=by
 intro pins s σ H x v vl vu lo hi sl Q I rx hs pl pu h
 obtain⟨a,xs,rfl,hx,hw,q⟩:=h
 cases rx
 obtain⟨its,r,ht,hz⟩:=I.tuple hx
 have hlen:its.toArray.size=xs.length:=by rw[List.size_toArray];exact r.length.symm
 refine⟨"tuple",_,PyProof.Rows.slot_tuple_getitem.lookup,ht.typeIs,?_⟩
 exact jI ht hs pl pu (by rw[hlen];exact hw) ⟨.ref a,H,I,rfl,q⟩
theorem aFU:SlR X (λx lo hi H Q=>aAL X.K x lo hi H Q\/aAK X.K x lo hi H Q\/tN X.K x lo hi H Q\/aBg x lo hi H Q):=aDv.or (aFG.or (aDJ.or aFT))
theorem zI{α:Type}{xs:List α}{lo hi:Option Int}(h1:Hp.sIx xs.length 0 lo=0)(h2:Hp.sIx xs.length xs.length hi=xs.length):cut xs lo hi=xs:=by
 unfold cut
 rw[h1,h2,List.drop_zero,Nat.sub_zero,List.take_length]
theorem zJ{lo hi:Option Int}(S:Sx X.K RT Y old σ σV H)(t:Tk X.K H)(hx:Rv X.K RT Y old σ σV H x ux){w:D->Prop}(h:RE w (dH x lo hi) (Wn X RT Y old σ σV H Q)) :
 aAL X.K ux lo hi H (λv H'=>Tk X.K H'->Q v H')\/aAK X.K ux lo hi H (λv H'=>Tk X.K H'->Q v H')\/tN X.K ux lo hi H (λv H'=>Tk X.K H'->Q v H')\/aBg ux lo hi H (λv H'=>Tk X.K H'->Q v H'):=by
 unfold dH at h
 split at h
 . rename_i ds d1
   obtain⟨a,xs,e,q,_,r⟩:=hx.lst d1
   refine .inl ⟨a,xs,e,q,λp hp t'=>h _ _ t' (Ro.fresh hp t' rfl rfl S ?_)⟩
   exact tM (fU r) lo hi
 . rename_i ds d1
   obtain⟨a,xs,e,q,r⟩:=hx.tup d1
   have r':=fU r
   by_cases hw:HT.sIx xs.length 0 lo=0/\HT.sIx xs.length xs.length hi=xs.length
   . refine .inr (.inr (.inl ⟨a,xs,e,q,hw,λt'=>h _ _ t' (Ro.plain (aM.refl H) rfl ?_)⟩))
     have e':cut ds lo hi=ds:=zI (by rw[rK,r.length];exact hw.1) (by rw[rK,r.length];exact hw.2)
     unfold Rv
     show Rep X.K H _ (.tup (cut ds lo hi)) (.ref a)
     rw[e']
     exact⟨a,xs,rfl,q,r'⟩
   . exact .inr (.inl ⟨a,xs,e,q,hw,λp hp t'=>h _ _ t' (Ro.tup hp rfl rfl (tM r' lo hi))⟩)
 . rename_i a d1
   obtain⟨hl,h⟩:=h.iff
   have e:ux=.str a:=by
    have z:=hx
    unfold Rv at z
    rw[d1] at z
    exact z
   exact .inr (.inr (.inr ⟨a,e,eK (of_decide_eq_true hl),λt'=>h _ _ t' (Ro.cl (aM.refl H) rfl)⟩))
 . exact h.elim
def rBi(X:Cx)(b:Bi):List V->Hp->VK->Prop:=match b with
 | .len=>λxs H Q=>(∃p ys,xs=[.ref p]/\(SqL X.K H p ys\/SqT X.K H p ys)/\Q (.int ys.length) H)\/∃z,xs=[.str z]/\z.length<=sizeLine/\Q (.int z.length) H
 | .list=>λxs H Q=>∃p ys,xs=[.ref p]/\(SqL X.K H p ys\/SqT X.K H p ys)/\∀l,H l=none->Q (.ref l) (upd H l (.lst ys))
 | .int=>λxs H Q=>(∃i,xs=[.int i]/\Q (.int i) H)\/∃k,xs=[.bl k]/\Q (.int (if k then 1 else 0)) H
 | _=>λ_ _ _=>False
def aET:Bi->Value
 | .len=>.builtin "len" | .list=>.type "list" | .tuple=>.type "tuple" | .min=>.builtin "min" | .max=>.builtin "max" | .abs=>.builtin "abs" | .int=>.type "int" | .str=>.type "str"
 | .all=>.builtin "all" | .any=>.builtin "any" | .sum=>.builtin "sum" | .sorted=>.builtin "sorted" | .bool=>.type "bool" | .repr=>.builtin "repr"
theorem aDK(hc:X.calm=true)(hg:X.A.guards=some [])(hu:X.A.units+200<cLine)(b:Bi)(hb:aBa b=true):gK X (aET b) (rBi X b):=by
 cases b with
 | len=>exact qW.or qX
 | list=>exact qY
 | int=>exact yX
 | _=>cases hb
theorem aBj{b:Bi}(hb:aBa b=true)(S:Sx X.K RT Y old σ σV H){vs:List Vl}{us:List V}(hv:Rvs X.K RT Y old σ σV H vs us){w:D->Prop}(h:RE w (biD b vs) (Wn X RT Y old σ σV H Q)) :
 rBi X b us H (λv H'=>Tk X.K H'->Q v H'):=by
 unfold biD at h
 split at h
 . rename_i x
   obtain⟨u,r,e,hx,hr⟩:=hv
   rw[show r=[] from hr] at e
   subst e
   cases b with
   | len=>
    dsimp only[aAU] at h
    split at h
    . rename_i ds d1
      obtain⟨a,xs,e,q,_,r⟩:=hx.lst d1
      exact .inl ⟨a,xs,by rw[e],.inl q,λt'=>by rw[<-r.length];exact Wn.val h t' λ_=>rfl⟩
    . rename_i ds d1
      obtain⟨a,xs,e,q,r⟩:=hx.tup d1
      exact .inl ⟨a,xs,by rw[e],.inr q,λt'=>by rw[<-r.length];exact Wn.val h t' λ_=>rfl⟩
    . rename_i z d1
      obtain⟨c,h⟩:=h.iff
      exact .inr ⟨z,by rw[hx.str d1],eK (of_decide_eq_true c),λt'=>Wn.val h t' λ_=>rfl⟩
    . exact h.elim
   | list=>
    dsimp only[aAU] at h
    split at h
    . rename_i ds d1
      obtain⟨a,xs,e,q,_,r⟩:=hx.lst d1
      exact⟨a,xs,by rw[e],.inl q,λp hp t'=>h _ _ t' (Ro.fresh hp t' rfl rfl S (fU r))⟩
    . rename_i ds d1
      obtain⟨a,xs,e,q,r⟩:=hx.tup d1
      exact⟨a,xs,by rw[e],.inr q,λp hp t'=>h _ _ t' (Ro.fresh hp t' rfl rfl S (fU r))⟩
    . exact h.elim
   | tuple=>cases hb
   | abs=>cases hb
   | int=>
    dsimp only[aAU] at h
    split at h
    . rename_i i d1
      exact .inl ⟨i,by rw[hx.int d1],λt'=>Wn.val h t' λ_=>rfl⟩
    . rename_i k d1
      exact .inr ⟨k,by rw[hx.bl d1],λt'=>Wn.val h t' λ_=>rfl⟩
    . exact h.elim
   | str=>cases hb
   | all=>cases hb
   | repr=>cases hb
   | bool=>cases hb
   | sum=>cases hb
   | any=>cases hb
   | sorted=>cases hb
   | min=>exact h.elim
   | max=>exact h.elim
 . rename_i x y
   obtain⟨u,r,e,hx,u',r',e',hy,hr⟩:=hv
   rw[show r'=[] from hr] at e'
   subst e' e
   cases b <;> first|exact h.elim|cases hb
 . exact h.elim
def tP:Cl->Option Value
 | .tInt=>some (.type "int")|.tBool=>some (.type "bool")|.tStr=>some (.type "str")|.tList=>some (.type "list")|.tTuple=>some (.type "tuple")|.tDict=>some (.type "dict")
 | _=>none
def tyD:D->Option String
 | .non=>some "NoneType" | .bl _=>some "bool" | .int _=>some "int" | .str _=>some "str" | .tup _=>some "tuple" | .lst _=>some "list" | .dic _=>some "dict" | .err _ _=>none
theorem fV(K:Fg)(P:Pg){c:Cl}{cv:Value}{d:D}{k:Bool}{T:String}(hc:tP c=some cv)(hT:tyD d=some T)(h:isI [c] P d=some k):PySem.W.kitOne K (.type T) cv=some k:=by
 cases c with
 | own c=>cases hc
 | tValueError=>cases hc
 | tInt=>cases hc;cases d <;> cases hT <;> simp[isI] at h <;> subst h <;> kernel_rfl
 | tBool=>cases hc;cases d <;> cases hT <;> simp[isI] at h <;> subst h <;> kernel_rfl
 | tStr=>cases hc;cases d <;> cases hT <;> simp[isI] at h <;> subst h <;> kernel_rfl
 | tList=>cases hc;cases d <;> cases hT <;> simp[isI] at h <;> subst h <;> kernel_rfl
 | tTuple=>cases hc;cases d <;> cases hT <;> simp[isI] at h <;> subst h <;> kernel_rfl
 | tDict=>cases hc;cases d <;> cases hT <;> simp[isI] at h <;> subst h <;> kernel_rfl
theorem zK(P:Pg){c:Cl}{cv:Value}{k:Bool}(I:L2.Inv X pins σV H s)(rx:bQ ux vx)(hx:Rv X.K RT Y old σ σV H x ux)(hc:tP c=some cv)(h:isI [c] P x.d=some k)(q:Q (.bl k) H) :
 wpAny (model X.prog X.w) X.A (PySem.call (.builtin "isinstance") [vx,cv]) (EP X pins σV Q) X.xe s:=by
 have fin:∀tk,EP X pins σV Q (.bool k) { s with toks:=tk }:=λtk=>⟨.bl k,H,I.tok tk,rfl,q⟩
 cases d:x.d with
 | non=>
  have e:=fV X.K P hc (by rw[d];rfl) h
  rw[hx.non d] at rx;cases rx
  exact PySem.W.kia_one PySem.W.kitx_none I.kIn True.intro e (λz=>nomatch z) fin
 | bl b=>
  have e:=fV X.K P hc (by rw[d];rfl) h
  rw[hx.bl d] at rx;cases rx
  exact PySem.W.kia_one PySem.W.kitx_bool I.kIn True.intro e (λz=>nomatch z) fin
 | int i=>
  have e:=fV X.K P hc (by rw[d];rfl) h
  rw[hx.int d] at rx;obtain⟨t,rfl⟩:=rx
  exact PySem.W.kia_one PySem.W.kitx_int I.kIn True.intro e (λz=>nomatch z) fin
 | str z=>
  have e:=fV X.K P hc (by rw[d];rfl) h
  rw[hx.str d] at rx;obtain⟨t,rfl⟩:=rx
  exact PySem.W.kia_one PySem.W.kitx_str I.kIn True.intro e (λz=>nomatch z) fin
 | tup ds=>
  have e:=fV X.K P hc (by rw[d];rfl) h
  obtain⟨a,xs,e1,p,_⟩:=hx.tup d
  subst e1
  cases rx
  obtain⟨its,_,t,_⟩:=I.tuple p
  obtain⟨o,h1,h2,_⟩:=t
  exact PySem.W.kia_one PySem.W.kitx_tuple I.kIn ⟨o,h1,h2⟩ e (λz=>nomatch z) fin
 | lst ds=>
  have e:=fV X.K P hc (by rw[d];rfl) h
  obtain⟨a,xs,e1,p,_⟩:=hx.lst d
  subst e1
  cases rx
  obtain⟨its,_,t,_⟩:=I.list p
  obtain⟨o,n,h1,h2,_⟩:=t
  exact PySem.W.kia_one PySem.W.kitx_list I.kIn ⟨o,h1,h2⟩ e (λz=>nomatch z) fin
 | dic kvs=>
  have e:=fV X.K P hc (by rw[d];rfl) h
  unfold Rv at hx
  rw[d] at hx
  obtain⟨a,ks,e1,p,_⟩:=hx
  subst e1
  cases rx
  obtain⟨_,_,vs,_,o,es,ep,h1,h2,_⟩:=(show dG X.prog X.w H s.heap a (.dK ks) from I.hok a _ p)
  exact PySem.W.kia_one PySem.W.kitx_dict I.kIn ⟨o,h1,h2.1⟩ e (λz=>nomatch z) fin
 | err _ _=>rw[d] at h;cases h
end
def pQ(prog:Program)(w:World)(K:Fg)(a:Addr)(t:List (Str×D)):Prop:=(a==sysModules)=false/\∃vs:List (Key×Value),(∀h:Heap,K.In h->h.DictOf (eC prog w) a vs) /\
 ∀k:Str,(t.lookup k=none/\valueAt vs (Sum.inr k:Key)=none)\/∃d u v,t.lookup k=some d/\valueAt vs (Sum.inr k:Key)=some u/\bQ v u/\∀(H:Hp) (ex:Addr->Prop),Rep K H ex d v
section
variable {X:Cx}
theorem aDL{a:Addr}{t:List (Str×D)}{x:Str}{p ap cp:Pos}{e:Expr}{te:TE}(T:pQ X.prog X.w X.K a t)(hg:Gl X x)(hm:X.mg x=some (.ref a))(hd:(x==("__debug__" : Str))=false)(he:PE X e te)(hline:(ap.endLine==cp.line)=true)
 (hs:starEach [e] X.env=[(false,eval e X.env)]) :
 PE X (.Call (.Attribute (.Name x p) "get" ap) [e] [] cp) (λσ H Q=>te σ H λu H1=>∃k,u=.str k/\∀v,(∀(H:Hp) (ex:Addr->Prop),Rep X.K H ex ((t.lookup k).getD .non) v)->Q v H1):=by
 intro pins s σ H Q I h
 obtain⟨hsys,vs,dict,look⟩:=T
 refine wpAny_Call_method_late rfl (by rw[hs];rfl) hline rfl (thn (mR (v:=.ref a) hg hm rfl hd pins s σ H (λv H1=>v=.ref a/\H1=H) I ⟨rfl,rfl⟩) λv s1 ⟨y,H1,I1,r1,e1,e2⟩=>?_)
 subst e1 e2
 obtain rfl:v=Value.ref a:=r1
 have dd:=dict s1.heap I1.kIn
 refine⟨"dict", "dict.get",PySem.F.plainAttrs_dict,PySem.F.slot_dict_get,PySem.F.type_dict_get,dd.typeIs,λb q=>?_,?_⟩
 . cases q
   obtain⟨ob,_,_,h1,h2,_⟩:=dd
   exact⟨ob,h1,h2.2.1⟩
 . have hA:=(eS he gL hs) cp pins s1 σ H1 (λus H2=>match us with|[u]=>(∃k,u=.str k/\∀v,(∀(H:Hp) (ex:Addr->Prop),Rep X.K H ex ((t.lookup k).getD .non) v)->Q v H2)|_=>False) I1 h
   rw[hs] at hA ⊢
   refine Calls.callWith_builtin rfl (Calls.evalArgs_plain ?_)
   refine thn hA λus s2 ⟨xs,H2,I2,r2,q2⟩=>?_
   match xs,r2,q2 with
   | [y],.cons ry .nil,q2=>
    obtain⟨k,ey,q2⟩:=q2
    subst ey
    obtain⟨tk,rfl⟩:=ry
    have dd2:=dict s2.heap I2.kIn
    refine call_meetsIn PySem.F.slot_dict_get dd2.typeIs PySem.F.entry_dict_get (PySem.F.args_dict_get_2 _ _) (meets_dict_get (eC X.prog X.w) a (k:=(Sum.inr k:Key)) (pE k tk) hsys) ⟨_,dd2.mapOf,?_⟩
    rcases look k with⟨l1,l2⟩|⟨d,u,v,l1,l2,rv,rep⟩
    . rw[l2]
      refine⟨.non,H2,I2.tok _,rfl,q2 .non λH ex=>?_⟩
      rw[l1]
      rfl
    . rw[l2]
      refine⟨v,H2,I2.tok _,rv,q2 v λH ex=>?_⟩
      rw[l1]
      exact rep H ex
end
end Hp
end
noncomputable section
namespace L2
open PySem PySem.Spec PyProof.Rows
abbrev bmV:List Value:=[.type "ValueError",.type "Exception",.type "BaseException",.type "object"]
section
variable {X:Cx}
theorem dG.old{P:Program}{w:World}{H:Hp}{h:Heap}{a:Addr}{o:HO}(x:dG P w H h a o):Old h a:=by
 cases o with
 | lst xs=>obtain⟨_,_,_,_,e⟩:=x;exact⟨_,e⟩
 | tup xs=>obtain⟨_,_,_,ob,e,_⟩:=x;exact⟨_,e⟩
 | dK kvs=>obtain⟨_,_,_,_,o,_,_,e,_⟩:=x;exact⟨_,e⟩
 | dT kvs=>obtain⟨_,_,_,_,o,_,_,e,_⟩:=x;exact⟨_,e⟩
 | set S n=>obtain⟨o,_,_,_,e,_⟩:=x;exact⟨_,e⟩
 | ins C dx fs=>obtain⟨_,_,_,e,_⟩:=x;exact⟨_,e⟩
 | own y=>obtain⟨_,e⟩:=x;exact⟨_,e⟩
 | xd fs=>obtain⟨_,⟨_,_,_,e,_⟩,_⟩:=x;exact⟨_,e⟩
 | rng lo hi=>obtain⟨_,_,_,e⟩:=x;exact⟨_,e⟩
 | frz ob u=>obtain⟨e,_⟩:=x;exact⟨_,e⟩
 | tbl ps=>exact⟨_,(show h.get? a=some _ from x)⟩
 | met f y=>exact⟨_,(show h.get? a=some _ from x)⟩
 | ext φ=>obtain⟨_,e,_⟩:=x;exact e
theorem vS{C:Addr}{newId:String}{h:Heap}(KX:X.K.In h)(q:PySem.W.excIn X.K C bmV newId=true) :
 ∃bm N nm q bs hdct sn sub ab col dd k0 k1 k2 k3 k5 mN,h.get? C=some (excClassObj nm q C N bs bm hdct sn sub ab col dd k0 k1 k2 k3 k5 newId)/\h.Ns N mN/\mN "__init__" = none/\OwnTail h bmV bm:=by
 unfold PySem.W.excIn at q
 split at q
 . rename_i dd cd sl ho
   split at q
   . rename_i C' bm k0 k1 k2 k3 n k5 hm hs
     simp only[bA,beq_iff_eq,Bool.not_eq_true'] at q
     obtain⟨⟨⟨⟨⟨rfl,rfl⟩,hdel⟩,ht⟩,hok⟩,hni⟩:=q
     obtain⟨nm,bs,mro,ns,qn,hd,sn,sub,ab,col,del⟩:=cd
     dsimp only at hm hdel hok hni
     subst hm hdel
     have hsl:sl=#[k0,k1,k2,k3,some (.builtin n),k5]:=by
      obtain⟨l⟩:=sl
      simp only at hs
      rw[hs]
     subst hsl
     exact⟨bm,ns,nm,qn,bs,hd,sn,sub,ab,col,dd,k0,k1,k2,k3,k5,_,KX _ _ ho,.of_isNs (PySem.W.isNs_of_in KX hok),PySem.W.nsMap_none_of_in KX hok hni,PySem.W.tail_of_in KX ht⟩
   . cases q
 . cases q
theorem aBk{h0 h h':Heap}{H:Hp}{e:Addr}{cls:Value}{vs:List Value}{L:List Addr}(m:Heap.MadeExcOf h h' e cls vs)(hn:H e=none){ex:List Addr}(l:∀b,Old h0 b->b∉ex->Old h b)(l':∀b∈L,Old h b):Fly h0 ex H L e cls h':=by
 have hne:¬ Old h e:=λ⟨o,q⟩=>by rw[m.new] at q;cases q
 refine⟨none,?_,λb z=>?_⟩
 . obtain⟨t,ht,_⟩:=m.there
   exact⟨_,_,ht,rfl,rfl,rfl,rfl⟩
 . rcases z with rfl|z
   . exact⟨λz=>hne (l _ z.1 z.2),hn,λz=>hne (l' _ z)⟩
   . cases z
theorem aBl{x:Str}{C:Addr}{newId:String}{np cpos pos:Pos}{a:Expr}{args:List Expr}{t:TA}{E:Value->St->Hp->Prop}{Bn inN:String}{bmN:List Value}(Fn:ExcBaseFacts Bn newId inN bmN)(hBn:bmV.contains (.type Bn)=true)
 (hg:Gl X x) (hm:X.mg x=some (.ref C)) (q:PySem.W.excIn X.K C bmV newId=true) (ha:PA X (a::args) t) (hc:X.calm=true) (hR:Rs X E)
 (hd:(x==("__debug__" : Str))=false) (he:starEach (a::args) X.env=(false,eval a X.env)::starEach args X.env) (hpl:(backTo cpos (starEach (a::args) X.env)).any (·.1)=false) :
 PS X (.Raise (some (.Call (.Name x np) (a::args) [] cpos)) none pos) (λD σ H=>t σ H λvs H1=>vs.length<=sizeLine/\E (.ref C) σ H1):=by
 intro pins s σ H D I h
 obtain⟨bm,N,nm,qn,bs,hdct,sn,sub,ab,col,dd,k0,k1,k2,k3,k5,mN,hC,hN,hni,TL⟩:=vS I.mod.kin q
 have ha':=ha cpos pins s σ H _ I h
 refine wpAny_Raise_call_subU (C:=C) (nm:=nm) (q:=qn) (N:=N) (bs:=bs) (bm:=bm) (hdct:=hdct) (sn:=sn) (sub:=sub) (ab:=ab) (col:=col) (dd:=dd) (k0:=k0) (k1:=k1) (k2:=k2) (k3:=k3) (k5:=k5) (newId:=newId) (mN:=mN)
  Fn hBn PySem.F.excBase_ValueError (TL.hasType rfl) (I.ok.hd hc) hpl hni (iR I hg hm ⟨rfl,?_⟩ hd)
 rw[he] at ha' ⊢
 refine Calls.evalArgs_plain (thn ha' λus s2 ⟨vs,H1,I1,rv,hl,hE⟩=>⟨rfl,by rw[<-rv.length];exact hl,I1.bk _ _ hC,hN.keeps I1.bk,TL.keeps I1.bk,λh' e m=>?_⟩)
 have hn:H1 e=none:=by
  cases z:H1 e with
  | none=>rfl
  | some o=>
   obtain⟨ob,hob⟩:=(I1.hok e o z).old
   rw[m.new] at hob
   cases hob
 exact hR pins σ H1 { s2 with heap:=h' } e (.ref C) (I1.un (t':=s2.toks) (Un.kept m.keeps) (I1.hok.kept m.keeps)) (aBk m hn (vO I1) (mS I1)) hE
end
section
variable {X:Cx} {pins:List (Addr×Obj)} {σ:St} {H:Hp} {s:Shared} {h':Heap}
theorem Rec.data{h:Heap}{e:Addr}{cls:Value}{T:Option Addr}(r:Rec h e cls T):∀b,(b=e\/T=some b)->∃o vs,h.get? b=some o/\o.data=.fields vs:=by
 obtain⟨oe,vs,he,_,_,hd,hT⟩:=r
 intro b hb
 rcases hb with rfl|hb
 . exact⟨oe,vs,he,hd⟩
 . subst hb
   obtain⟨_,_,oT,ts,g1,g2,_⟩:=hT
   exact⟨oT,ts,g1,g2⟩
theorem Inv.note{fr:List Addr}{e:Addr}{cls:Value}{T:Option Addr}(I:Inv X pins σ H s)(x:Lx fr e T s.heap h')(hfr:∀b∈fr,b∈frs X.stack)(hfs:∀b∈X.fs,b∈fr\/fr=[])(r:Rec s.heap e cls T)
 (n:∀b,(b=e\/T=some b)->¬ (Old X.s₀.heap b/\b∉X.ex)/\H b=none/\b∉pinA X pins):Inv X pins σ H { s with heap:=h' }:=by
 have any:∀b o,s.heap.get? b=some o->b≠e->T≠some b->∃sl,h'.get? b=some { o with slots:=sl }:=λb o q h1 h2=>by
  by_cases hb:b∈fr
  . exact x.slot b o q hb
  . exact⟨o.slots,x.keep b o q hb h1 h2⟩
 have sub:∀b∈fr,b=X.env.locals\/b∈X.fs:=λb hb=>List.mem_cons.mp (I.stkSub b (hfr b hb))
 have nof:∀b o,s.heap.get? b=some o->(∀vs,o.data≠.fields vs)->b≠e/\T≠some b:=λb o q d=>by
  constructor
  . intro z
    obtain⟨o',vs,g,d'⟩:=r.data b (.inl z)
    rw[q] at g;cases g;exact d vs d'
  . intro z
    obtain⟨o',vs,g,d'⟩:=r.data b (.inr z)
    rw[q] at g;cases g;exact d vs d'
 have cellK:∀c v,s.heap.IsCell c v->h'.IsCell c v:=λc v ⟨o,ho,hd⟩=>by
  obtain⟨h1,h2⟩:=nof c o ho λvs z=>by rw[hd] at z;cases z
  obtain⟨sl,q⟩:=any c o ho h1 h2
  exact⟨_,q,hd⟩
 have old0:∀b o,X.s₀.heap.get? b=some o->b∉X.ex->b≠e/\T≠some b:=λb o q hx=>⟨λz=>(n b (.inl z)).1 ⟨⟨o,q⟩,hx⟩,λz=>(n b (.inr z)).1 ⟨⟨o,q⟩,hx⟩⟩
 refine⟨I.ok,I.os,I.bare,⟨λb o e n hb hx=>?_,λb o e n hb hx=>?_,I.base.free,λb o e hx=>?_,I.base.tups,I.base.frzs,I.base.tbls⟩,?_,λy c e=>?_,I.free,I.freeC,λp hp=>?_,pP I.hok x (λb hb=>I.stkFree b (hfr b hb)) (n e (.inl rfl)).2.1 (λt z=>(n t (.inr z)).2.1),I.len⟩
 . refine x.keep b o (I.base.keep b o e n hb hx) (λz=>?_) (old0 b o e hx).1 (old0 b o e hx).2
   rcases sub b z with z|z
   . exact absurd (Heap.lt_size e) (Nat.not_lt.mpr (by rw[z];exact I.ok.above))
   . exact hb z
 . obtain⟨sl,e1⟩:=I.base.slot b o e n hb hx
   obtain⟨sl',e2⟩:=any b _ e1 (old0 b o e hx).1 (old0 b o e hx).2
   exact⟨sl',e2⟩
 . obtain⟨o',e1⟩:=I.base.there b o e hx
   obtain⟨sl',e2⟩:=any b _ e1 (old0 b o e hx).1 (old0 b o e hx).2
   exact⟨_,e2⟩
 . obtain⟨m,hn,hl⟩:=I.loc
   refine⟨m,?_,λi y v e1 e2 e3=>?_⟩
   . obtain⟨o,es,ep,ho,hd,rr⟩:=hn
     obtain⟨h1,h2⟩:=nof _ o ho λvs z=>by rw[hd] at z;cases z
     obtain⟨sl,q⟩:=any _ o ho h1 h2
     exact⟨_,es,ep,q,hd,rr⟩
   . obtain⟨u,rr,l⟩:=hl i y v e1 e2 e3
     refine⟨u,rr,?_⟩
     rcases l with l|⟨k,c,e,z⟩
     . exact .inl l
     . exact .inr ⟨k,c,e,cellK c _ z⟩
 . obtain⟨v,z⟩:=I.cell y c e
   exact⟨v,cellK c v z⟩
 . obtain⟨e1,n1,ne,nf,d⟩:=I.pin p hp
   refine⟨x.keep p.1 p.2 e1 (λz=>(sub _ z).elim ne nf) (λz=>(n _ (.inl z)).2.2 (List.mem_map.mpr ⟨p,hp,rfl⟩)) (λz=>(n _ (.inr z)).2.2 (List.mem_map.mpr ⟨p,hp,rfl⟩)),n1,ne,nf,d⟩
theorem aBm{M:Model}{A:Around}{E:Value->Shared->Prop}{e T:Addr}{cls:Value}{Q:Unit->Shared->Prop}(r:Rec s.heap e cls (some T))
 (h:∀h',Lx [] e (some T) s.heap h'->Rec h' e cls (some T)->Q () { s with heap:=h' }):wpAny M A (setFlight (.ref e) none) Q E s:=by
 obtain⟨oe,vs,he,hc,hdi,hd,h1,hTe,oT,ts,hT,hdT,fl,h3⟩:=r
 refine wpAny_setFlight_none he hd h1 hT hdT (Array.getElem?_eq_some_iff.mp h3).1 (h _ ⟨λb o q _ _ hb=>?_,λb o _ z=>by cases z⟩ ?_)
 . exact(Heap.get?_update_other _ _ λz=>hb (by rw[z])).trans q
 . refine⟨oe,vs,(Heap.get?_update_other _ _ hTe).trans he,hc,hdi,hd,h1,hTe,_,_,Heap.get?_update_self _ hT (Obj.isFreed_of_fields (Obj.data_mapFields hdT _)),Obj.data_mapFields hdT _,none,?_⟩
   have:=(Array.getElem?_eq_some_iff.mp h3).1
   simp[this]
theorem aFV{M:Model}{A:Around}{E:Value->Shared->Prop}{e T:Addr}{cls:Value}{f:Option Addr}{Q:Unit->Shared->Prop}(r:Rec s.heap e cls (some T))
 (h:∀h',Lx [] e (some T) s.heap h'->Rec h' e cls (some T)->Q () { s with heap:=h' }):wpAny M A (setFlight (.ref e) f) Q E s:=by
 obtain⟨oe,vs,he,hc,hdi,hd,h1,hTe,oT,ts,hT,hdT,fl,h3⟩:=r
 unfold setFlight
 refine wpAny_bind (wpAny_field he hd h1 ?_)
 rw[if_pos (show(Value.ref T != Value.none)=true from by simp)]
 refine wpAny_setField hT hdT (Array.getElem?_eq_some_iff.mp h3).1 (h _ ⟨λb o q _ _ hb=>?_,λb o _ z=>by cases z⟩ ?_)
 . exact(Heap.get?_update_other _ _ λz=>hb (by rw[z])).trans q
 . refine⟨oe,vs,(Heap.get?_update_other _ _ hTe).trans he,hc,hdi,hd,h1,hTe,_,_,Heap.get?_update_self _ hT (Obj.isFreed_of_fields (Obj.data_mapFields hdT _)),Obj.data_mapFields hdT _,f,?_⟩
   have:=(Array.getElem?_eq_some_iff.mp h3).1
   simp[this]
theorem Inv.track{a:Addr}{o:HO}(I:Inv X pins σ H s)(n:¬ (Old X.s₀.heap a/\a∉X.ex))(hn:H a=none)(hp:a∉pinA X pins)(hl:a≠X.env.locals)(hc:∀x c,X.env.cells.lookup x=some c->c≠a)(new:dG X.prog X.w (upd H a o) s.heap a o):Inv X pins σ (upd H a o) s:=by
 have ne:∀b o,X.s₀.heap.get? b=some o->b∉X.ex->b≠a:=λb o q hx z=>n (by rw[<-z];exact⟨⟨o,q⟩,hx⟩)
 have nt:∀b u,H b=some u->b≠a:=λb u q z=>by rw[z,hn] at q;cases q
 refine⟨I.ok,I.os,I.bare,⟨I.base.keep,I.base.slot,λb o q h0 hx=>by rw[aJ (ne b o q hx)];exact I.base.free b o q h0 hx,I.base.there,λb xs q=>?_,λb o u q=>?_,λb ps q=>?_⟩,I.loc,I.cell,by rw[aJ (Ne.symm hl)];exact I.free,λx c e=>by rw[aJ (hc x c e)];exact I.freeC x c e,λp hp'=>?_,λb u q=>?_,I.len⟩
 . have z:=I.base.tups b xs q
   rw[aJ (nt b _ z)];exact z
 . have z:=I.base.frzs b o u q
   rw[aJ (nt b _ z)];exact z
 . obtain⟨more,z⟩:=I.base.tbls b ps q
   exact⟨more,by rw[aJ (nt b _ z)];exact z⟩
 . obtain⟨e1,n1,ne1,nf,d⟩:=I.pin p hp'
   exact⟨e1,by rw[aJ λz=>hp (List.mem_map.mpr ⟨p,hp',z⟩)];exact n1,ne1,nf,d⟩
 . by_cases hb:b=a
   . subst hb
     rw[cE] at q
     cases q
     exact new
   . rw[aJ hb] at q
     exact(I.hok b u q).stay (λ_ _ _ g=>g) (λc g=>by rw[aJ (nt c _ g)];exact g) λc xs g=>by rw[aJ (nt c _ g)];exact g
end
section
variable {X:Cx} {pins:List (Addr×Obj)} {σ:St} {H:Hp} {s:Shared}
theorem zL{M:Model}{A:Around}{E:Value->Shared->Prop}{i:Nat}{x:Str}{v:V}{Q:Unit->Shared->Prop}(I:Inv X pins σ H s)(hN:X.N.Nodup)(hi:X.N[i]? = some x)(hk:X.env.scope.names.lookup x=some .local)(hv:σ[i]? = some (some v))
 (h:∀s',Inv X pins (σ.set i none) H s'->Q () s'):wpAny M A (unbindName X.env x) Q E s:=by
 obtain⟨m,hn,hl⟩:=id I.loc
 have hcls:(X.env.scope.kind==.class||(X.env.scope.kind==.module&&X.env.locals != X.env.globals))=false:=by rw[I.ok.kind];rfl
 have hiσ:i<σ.length:=by rw[I.len];exact(List.getElem?_eq_some_iff.mp hi).1
 obtain⟨u,r,lk⟩:=hl i x v hi hv (.inl hk)
 have hm:m x=some u:=by
  rcases lk with⟨_,e⟩|⟨k,_⟩
  . exact e
  . have k':X.env.scope.names.lookup x=some .cell\/X.env.scope.names.lookup x=some .free:=k
    rw[hk] at k'
    rcases k' with z|z <;> cases z
 refine wpAny_unbindName_local hk hn hm hcls λh' u' hn' hs=>?_
 obtain⟨oL,_,_,hoL,_⟩:=id hn
 have tracked:HOk X.prog X.w H h':=λb ob e=>by
  refine(I.hok b ob e).stay (λc w' hc q=>(hs.2 c ?_).trans q) (λ_ q=>q) λ_ _ q=>q
  rintro rfl
  have hf:=I.free
  rcases hc with rfl|hc
  . rw[hf] at e;cases e
  . rw[hf] at hc;cases hc
 refine h { s with heap:=h' } ⟨I.ok,I.os,I.bare,⟨λb o e n hb hx=>?_,λb o e n hb hx=>?_,I.base.free,λb o e hx=>?_,I.base.tups,I.base.frzs,I.base.tbls⟩,⟨_,hn',λj y v' e1 e2 e3=>?_⟩,λy c e=>?_,I.free,I.freeC,λp hp=>?_,tracked,by simpa using I.len⟩
 . exact(hs.2 b (Nat.ne_of_lt (Nat.lt_of_lt_of_le (Heap.lt_size e) I.ok.above))).trans (I.base.keep b o e n hb hx)
 . obtain⟨sl,e1⟩:=I.base.slot b o e n hb hx
   exact⟨sl,(hs.2 b (Nat.ne_of_lt (Nat.lt_of_lt_of_le (Heap.lt_size e) I.ok.above))).trans e1⟩
 . obtain⟨o',e1⟩:=I.base.there b o e hx
   exact⟨o',(hs.2 b (Nat.ne_of_lt (Nat.lt_of_lt_of_le (Heap.lt_size e) I.ok.above))).trans e1⟩
 . by_cases hj:j=i
   . subst hj
     rw[List.getElem?_set_self hiσ] at e2
     cases e2
   . rw[List.getElem?_set_ne (Ne.symm hj)] at e2
     obtain⟨w',r',q⟩:=hl j y v' e1 e2 e3
     refine⟨w',r',?_⟩
     rcases q with⟨k,e⟩|⟨k,c,e,z⟩
     . refine .inl ⟨k,?_⟩
       have:y≠x:=λe=>hj (nF hN e1 (e▸hi))
       simp[this,e]
     . exact .inr ⟨k,c,e,z.sameBut hs (I.cne y c e)⟩
 . obtain⟨w',z⟩:=I.cell y c e
   exact⟨w',z.sameBut hs (I.cne y c e)⟩
 . obtain⟨e,n,ne,nf,d⟩:=I.pin p hp
   exact⟨(hs.2 p.1 ne).trans e,n,ne,nf,d⟩
end
def pR(K:PySem.W.Frag)(C1 C:Addr):Bool:=match K.lookup C1 with
 | some ⟨_,_,.cls cd,_⟩=>cd.mro.contains (.ref C)
 | _=>false
section
variable {M:Model} {A:Around} {E:Value->Shared->Prop}
theorem tQ{h:Heap}{g:Array GenState}{d:Drawn}{t:Nat}{os:OsState}{e C C1:Addr}{oe:Obj}{Q:Bool->Shared->Prop}
 {nm q:Str} {N:Addr} {bs bm:List Value} {hdct:Bool} {sn:List Str} {sub:List Value} {ab:Bool} {col:Option Bool} {dd:Option Addr} {k0 k1 k2 k3 k5:Option Value} {newId:String}
 {nm' q':Str} {N':Addr} {bs' bm':List Value} {hdct':Bool} {sn':List Str} {sub':List Value} {ab':Bool} {col':Option Bool} {dd':Option Addr} {k0' k1' k2' k3' k5':Option Value} {newId':String}
 (hC1:h.get? C1=some (excClassObj nm q C1 N bs bm hdct sn sub ab col dd k0 k1 k2 k3 k5 newId)) (hC:h.get? C=some (excClassObj nm' q' C N' bs' bm' hdct' sn' sub' ab' col' dd' k0' k1' k2' k3' k5' newId'))
 (he:h.get? e=some oe) (hcls:oe.cls=.ref C1) (hbase:bm'.contains (.type "BaseException")=true) (hit:(Value.ref C1::bm).contains (.ref C)=true)
 (hq:Q true ⟨h,g,d,t,os⟩):wpAny M A (excMatches (.ref e) (.ref C)) Q E ⟨h,g,d,t,os⟩:=by
 have hcB:(Value.ref C::bm').contains (.type "BaseException")=true:=by rw[List.contains_cons,hbase,Bool.or_true]
 have f:=tc_notTuple
 unfold excMatches
 repeat (first|(with_reducible refine wpAny_loadPart_at he ?_;rw[hcls])|with_reducible refine wpAny_loadPart_at hC ?_|(with_reducible refine wpAny_isSubtype_exc hC ?_;rw[hcB])|(with_reducible refine wpAny_isSubtype_exc hC1 ?_;rw[hit])|wp_step)
 exact hq
end
theorem aDM{P:Program}{w:World}{H:Hp}{h:Heap}{a C:Addr}{T:Option Addr}(r:Rec h a (.ref C) T):dG P w H h a (excO a C):=by
 obtain⟨oe,vs,he,hc,hdi,hd,_⟩:=r
 refine⟨⟨oe,he,hc,?_,?_⟩,⟨oe,he⟩,λ_ _ ⟨o',I⟩ k=>⟨o',k o' I.at_,I.cls,I.no,?_⟩⟩
 . obtain⟨c,dd,dt,sl⟩:=oe
   have hd:dt=.fields vs:=hd
   subst hd
   rfl
 . rw[hdi];exact True.intro
 . have z:=I.dict
   cases q:o'.dict with
   | none=>exact True.intro
   | some d=>rw[q] at z;exact z.elim
abbrev Cx.inTry(X:Cx)(pins:List (Addr×Obj))(E:Value->Shared->Prop):Cx:={ X with pn:=X.pn++pins,xe:=E }
abbrev Cx.inExc(X:Cx)(e:Value):Cx:={ X with A:=X.A.mark (some e),calm:=false,xe:=λ_ _=>False }
section
variable {X:Cx} {pins pins':List (Addr×Obj)} {σ:St} {H:Hp} {s:Shared} {E:Value->Shared->Prop}
theorem Inv.inTry(I:Inv X pins σ H s):Inv (X.inTry pins E) [] σ H s:=
 ⟨⟨I.ok.mod,I.ok.kind,I.ok.glob,I.ok.blt,I.ok.above,I.ok.inj,I.ok.has,I.ok.cab,I.ok.hd,I.ok.frames,I.ok.stk,I.ok.exf,I.ok.bs,I.ok.bsz,I.ok.noex,I.ok.exfs,I.ok.funs,I.ok.frf⟩,
  I.os,I.bare,I.base,I.loc,I.cell,I.free,I.freeC,λp hp=>I.pin p (by simpa using hp),I.hok,I.len⟩
theorem Inv.outTry(I:Inv (X.inTry pins E) pins' σ H s):Inv X pins σ H s:=
 ⟨⟨I.ok.mod,I.ok.kind,I.ok.glob,I.ok.blt,I.ok.above,I.ok.inj,I.ok.has,I.ok.cab,I.ok.hd,I.ok.frames,I.ok.stk,I.ok.exf,I.ok.bs,I.ok.bsz,I.ok.noex,I.ok.exfs,I.ok.funs,I.ok.frf⟩,
  I.os,I.bare,I.base,I.loc,I.cell,I.free,I.freeC,λp hp=>I.pin p (List.mem_append_left _ hp),I.hok,I.len⟩
theorem Inv.inExc{e:Value}(I:Inv X pins σ H s):Inv (X.inExc e) pins σ H s:=
 ⟨⟨I.ok.mod,I.ok.kind,I.ok.glob,I.ok.blt,I.ok.above,I.ok.inj,I.ok.has,I.ok.cab,(λz=>nomatch z),I.ok.frames,I.ok.stk,I.ok.exf,I.ok.bs,I.ok.bsz,I.ok.noex,I.ok.exfs,I.ok.funs,I.ok.frf⟩,
  I.os,I.bare,I.base,I.loc,I.cell,I.free,I.freeC,I.pin,I.hok,I.len⟩
theorem Inv.outExc{e:Value}(c:X.calm=true->X.A.handled=none)(I:Inv (X.inExc e) pins σ H s):Inv X pins σ H s:=
 ⟨⟨I.ok.mod,I.ok.kind,I.ok.glob,I.ok.blt,I.ok.above,I.ok.inj,I.ok.has,I.ok.cab,c,I.ok.frames,I.ok.stk,I.ok.exf,I.ok.bs,I.ok.bsz,I.ok.noex,I.ok.exfs,I.ok.funs,I.ok.frf⟩,
  I.os,I.bare,I.base,I.loc,I.cell,I.free,I.freeC,I.pin,I.hok,I.len⟩
theorem SP.outTry{D:Ends}{f:Flow}{s':Shared}(h:SP (X.inTry pins E) [] D f s'):SP X pins D f s':=by
 cases f with
 | next=>obtain⟨σ',H',I,q⟩:=h;exact⟨σ',H',I.outTry,q⟩
 | brk=>obtain⟨σ',H',I,q⟩:=h;exact⟨σ',H',I.outTry,q⟩
 | cont=>obtain⟨σ',H',I,q⟩:=h;exact⟨σ',H',I.outTry,q⟩
 | ret u=>obtain⟨v,σ',H',I,r,q⟩:=h;exact⟨v,σ',H',I.outTry,r,q⟩
end
def aKF(K:PySem.W.Frag)(C:Addr)(newOk:Addr->Prop)(iy jn:Nat)(D:Ends):Value->St->Hp->Prop:=λcls σ H=>∃C1,cls=.ref C1/\newOk C1/\pR K C1 C=true/\∀a,H a=none->D.nx ((((σ.set jn (some (.ref a))).set iy (some (.ref a))).set jn (some .non)).set jn none) (upd H a (excO a C1))
section
variable {X:Cx}
theorem aFW{K:PySem.W.Frag}{h:Heap}{C1 C:Addr}{o:Obj}(KX:K.In h)(hit:pR K C1 C=true)(q:h.get? C1=some o):∃cd,o.data=.cls cd/\cd.mro.contains (.ref C)=true:=by
 unfold pR at hit
 split at hit
 . rename_i c d cd sl ho
   have:=KX _ _ ho
   rw[q] at this
   cases this
   exact⟨cd,rfl,hit⟩
 . cases hit
theorem aBn{body:List Stmt}{tb:(Value->St->Hp->Prop)->TS}{x n y:Str}{C:Addr}{newId:String}{iy jn:Nat}{np yp np2 ap hp pos:Pos}
 (hg:Gl X x) (hm:X.mg x=some (.ref C)) (hd:(x==("__debug__" : Str))=false) (qC:PySem.W.excIn X.K C bmV newId=true) (hst:X.stack=X.env::X.outer)
 (hN:X.N.Nodup) (hiy:X.N[iy]? = some y) (hjn:X.N[jn]? = some n) (hy:Loc X.env.scope y) (hn:X.env.scope.names.lookup n=some .local) (hfy:X.fn y=true\/X.env.scope.names.lookup y=some .local)
 (hdn:(n==("__debug__" : Str))=false) (hcn:(n==("__classdict__" : Str))=false) (hs:swapsWith (.Name n np2) (some (.Name y yp)) ap.line X.env=pure false) (hij:iy≠jn)
 (hb:∀(pins:List (Addr×Obj)) (E:Value->Shared->Prop) (W:Value->St->Hp->Prop),PassesOwn (model X.prog X.w) X.A X.env E->Rs (X.inTry pins E) W->PSs (X.inTry pins E) body (tb W)) :
 PS X (.Try body [.ExceptHandler (some (.Name x np)) (some n) [.Assign [.Name y yp] (.Name n np2) ap] hp] [] [] pos)
  (λD σ H=>tb (aKF X.K C (λC1=>∃id,PySem.W.excIn X.K C1 bmV id=true) iy jn D) D σ H):=by
 intro pins s σ H D I h
 refine wpAny_Try_except ?_
 refine wpAny_mono (hb pins (λe s₁=>wpAny (model X.prog X.w) X.A (noteFrame e X.env) (λ_ s₂=>wpAny (model X.prog X.w) X.A (setFlight e none) (λ_ s₃=>wpAny (model X.prog X.w) X.A (handleBy e X.env [.ExceptHandler (some (.Name x np)) (some n) [.Assign [.Name y yp] (.Name n np2) ap] hp]) (SP X pins D) X.xe s₃) X.xe s₂) X.xe s₁) _ PassesOwn.looking ?_ [] s σ H D I.inTry h) (λf s₁ q=>?_) λe s₁ q=>q
 . intro pins' σ' H' s' a cls I1 fl hW
   obtain⟨C1,rfl,⟨id1,q1⟩,hit,hD⟩:=hW
   have I0:Inv X pins σ' H' s':=I1.outTry
   obtain⟨T,rc,nw⟩:=fl
   have nw:∀b,(b=a\/T=some b)->¬ (Old X.s₀.heap b/\b∉X.ex)/\H' b=none/\b∉pinA X pins:=λb z=>⟨(nw b z).1,(nw b z).2.1,λy=>(nw b z).2.2 (by
    obtain⟨p,hp,e⟩:=List.mem_map.mp y
    exact List.mem_map.mpr ⟨p,List.mem_append_left _ hp,e⟩)⟩
   have hfr:X.env.frame=some X.env.locals:=by
    rcases I0.ok.stk with z|⟨_,z⟩
    . rw[hst] at z;exact absurd (congrArg List.length z) (by simp)
    . exact z
   show wpAny (model X.prog X.w) X.A (noteFrame (.ref a) X.env) _ X.xe s'
   refine aBb (base:=X.base) (outer:=X.outer) (by rw[I0.ok.frames,hst]) (by rw[<-hst];exact I0.stack) hfr rc λh1 T1 l1 x1 r1=>?_
   have I2:Inv X pins σ' H' { s' with heap:=h1 }:=I0.note x1 (λb hb=>by rw[hst];exact hb) (λb hb=>.inl (by unfold frs;rw[List.filterMap_cons,hfr];exact List.mem_cons_of_mem _ hb)) rc nw
   have nw1:∀b,(b=a\/some T1=some b)->¬ (Old X.s₀.heap b/\b∉X.ex)/\H' b=none/\b∉pinA X pins:=λb z=>by
    rcases z with z|z
    . exact nw b (.inl z)
    . cases z
      rcases l1 with l1|l1
      . exact⟨λz=>absurd z.1.lt (Nat.not_lt.mpr (Nat.le_trans I0.sz l1)),I0.hok.fresh l1,λz=>absurd (mS I0 _ z).lt (Nat.not_lt.mpr l1)⟩
      . exact nw _ (.inr l1)
   refine wpAny_handleBy_cons (codeAny_handlers_test (iR (X:=X.inExc (.ref a)) I2.inExc hg hm ?_ hd)) (by intro q;cases q)
   obtain⟨bm1,N1,nm1,qn1,bs1,hdct1,sn1,sub1,ab1,col1,dd1,k01,k11,k21,k31,k51,mN1,hC1,_,_,_⟩:=vS (X:=X) I2.kIn q1
   obtain⟨bm2,N2,nm2,qn2,bs2,hdct2,sn2,sub2,ab2,col2,dd2,k02,k12,k22,k32,k52,mN2,hC2,_,_,TL⟩:=vS (X:=X) I2.kIn qC
   obtain⟨cd,e1,e2⟩:=aFW I2.kIn hit hC1
   cases e1
   obtain⟨oe,vs,he,hc,_,hdd,hT⟩:=id r1
   refine tQ hC1 hC2 he hc (TL.hasType rfl) e2 ?_
   refine codeAny_handlers_suite_as (aBm r1 λh2 x2 r2=>?_)
   have I3:Inv X pins σ' H' { s' with heap:=h2 }:=Inv.note (s:={ s' with heap:=h1 }) (fr:=[]) I2 x2 (λb hb=>by cases hb) (λb hb=>.inr rfl) r1 nw1
   obtain⟨oe2,vs2,he2,hc2,_,hd2,_⟩:=id r2
   have nl:a≠X.env.locals:=λz=>by
    obtain⟨m,⟨o,es,ep,ho,hdo,_⟩,_⟩:=I3.loc
    rw[<-z] at ho
    have ho:h2.get? a=some o:=ho
    rw[he2] at ho
    cases ho
    rw[hd2] at hdo
    cases hdo
   have nc:∀x c,X.env.cells.lookup x=some c->c≠a:=λx c e z=>by
    obtain⟨v,o,ho,hdo⟩:=I3.cell x c e
    rw[z] at ho
    have ho:h2.get? a=some o:=ho
    rw[he2] at ho
    cases ho
    rw[hd2] at hdo
    cases hdo
   have na:=nw a (.inl rfl)
   have I4:Inv X pins σ' (upd H' a (excO a C1)) { s' with heap:=h2 }:=I3.track (a:=a) (o:=excO a C1) na.1 na.2.1 na.2.2 nl nc (aDM r2)
   have hlj:jn<σ'.length:=by rw[I3.len];exact(List.getElem?_eq_some_iff.mp hjn).1
   refine jT (X:=X) (v:=.ref a) I4 hN hjn (.inl hn) rfl (λs4 I5=>?_) (.inr hn)
   refine wpAny_mono (aDd (qP (X:=X.inExc (.ref a)) hN hiy hy (qO (i:=jn) hjn (.inl hn) hdn hcn) hs hfy) pins s4 _ _
    { nx:=λσ5 H5=>σ5=(σ'.set jn (some (.ref a))).set iy (some (.ref a))/\H5=upd H' a (excO a C1),rt:=λ_ _=>False,bk:=λ_ _=>False,ct:=λ_ _=>False } I5.inExc ⟨.ref a,List.getElem?_set_self hlj,rfl,rfl⟩) (λf s5 q=>?_) (λ_ _ z=>z.elim)
   cases f with
   | next=>
    obtain⟨σ5,H5,I6,e5,e6⟩:=q
    subst e5 e6
    have I6:=I6.outExc I0.ok.hd
    show wpAny (model X.prog X.w) X.A (do bindName X.env n .none;unbindBehindTheSuite X.env n hp) (λ_ s₃=>SP X pins D .next s₃) X.xe s5
    refine wpAny_bind (wpAny_bindName (jT (v:=.non) I6 hN hjn (.inl hn) rfl (λs6 I7=>?_) (.inr hn)))
    unfold unbindBehindTheSuite
    refine wpAny_onRaise (zL (v:=.non) I7 hN hjn hn (List.getElem?_set_self (by simpa using hlj)) λs7 I8=>?_)
    exact⟨_,_,I8,hD a na.2.1⟩
   | brk=>obtain⟨_,_,_,z⟩:=q;exact z.elim
   | cont=>obtain⟨_,_,_,z⟩:=q;exact z.elim
   | ret u=>obtain⟨_,_,_,_,_,z⟩:=q;exact z.elim
 . cases f with
   | next=>exact wpAny_execs_nil (SP.outTry (f:=.next) q)
   | brk=>exact SP.outTry (f:=.brk) q
   | cont=>exact SP.outTry (f:=.cont) q
   | ret u=>exact SP.outTry (f:=.ret u) q
end
def fW(cells:List (Str×Addr)):List (Str×NameKind)->List (Str×Addr)->List (Str×Addr)
 | [],acc=>acc
 | (n,k)::r,acc=>if k==.free then fW cells r ((n,(cells.lookup n).getD 0)::acc) else fW cells r acc
theorem clos_mem{cells:List (Str×Addr)}:∀{names:List (Str×NameKind)} {acc:List (Str×Addr)} {p:Str×Addr},p∈fW cells names acc->p∈acc\/((p.1,NameKind.free)∈names/\p.2=(cells.lookup p.1).getD 0)
 | [],_,_,h=>.inl h
 | (n,k)::r,acc,p,h=>by
  unfold fW at h
  by_cases hk:(k==NameKind.free)=true
  . rw[if_pos hk] at h
    rcases clos_mem h with q|q
    . rcases List.mem_cons.mp q with q|q
      . subst q
        have:k=.free:=eq_of_beq hk
        subst this
        exact .inr ⟨List.mem_cons_self,rfl⟩
      . exact .inl q
    . exact .inr ⟨List.mem_cons_of_mem _ q.1,q.2⟩
  . rw[if_neg hk] at h
    rcases clos_mem h with q|q
    . exact .inl q
    . exact .inr ⟨List.mem_cons_of_mem _ q.1,q.2⟩
theorem nR{cells:List (Str×Addr)}:∀{names:List (Str×NameKind)} {acc:List (Str×Addr)} {p:Str×Addr},p∈acc->p∈fW cells names acc
 | [],_,_,h=>h
 | (n,k)::r,acc,p,h=>by
  unfold fW
  by_cases hk:(k==NameKind.free)=true
  . rw[if_pos hk];exact nR (List.mem_cons_of_mem _ h)
  . rw[if_neg hk];exact nR h
theorem kA{cells:List (Str×Addr)}:∀{names:List (Str×NameKind)} {acc:List (Str×Addr)} {n:Str},(n,NameKind.free)∈names->(n,(cells.lookup n).getD 0)∈fW cells names acc
 | [],_,_,h=>by simp at h
 | (m,k)::r,acc,n,h=>by
  unfold fW
  rcases List.mem_cons.mp h with q|q
  . cases q
    rw[if_pos (by rfl:(NameKind.free==NameKind.free)=true)]
    exact nR List.mem_cons_self
  . by_cases hk:(k==NameKind.free)=true
    . rw[if_pos hk];exact kA q
    . rw[if_neg hk];exact kA q
theorem eL{α:Type}:∀{l:List (Str×α)} {x:Str} {a:α},(x,a)∈l->∃b,l.lookup x=some b
 | (y,b)::r,x,a,h=>by
  rw[List.lookup_cons]
  cases hx:x==y with
  | true=>exact⟨b,rfl⟩
  | false=>
   rcases List.mem_cons.mp h with q|q
   . cases q
     simp at hx
   . exact eL q
theorem cO{cells:List (Str×Addr)}{names:List (Str×NameKind)}(hh:∀n,(n,NameKind.free)∈names->∃c,cells.lookup n=some c){x:Str}{c:Addr}(h:(fW cells names []).lookup x=some c):cells.lookup x=some c:=by
 rcases clos_mem (PySem.mem_of_lookup h) with q|⟨q1,q2⟩
 . simp at q
 . obtain⟨c',e⟩:=hh x q1
   simp only at q2
   rw[e] at q2
   rw[e,q2];rfl
theorem gI{scope:Scope}{env:Env}(hh:∀n,(n,NameKind.free)∈scope.names->∃c,env.cells.lookup n=some c):closureFor scope env=pure (fW env.cells scope.names []):=by
 have go:∀(l:List (Str×NameKind)) (acc:List (Str×Addr)),(∀n,(n,NameKind.free)∈l->∃c,env.cells.lookup n=some c) ->
  (forIn l acc (λ(x:Str×NameKind) (r:List (Str×Addr))=>(match x with|(name,kind)=>if (kind==NameKind.free)=true then do let __do_lift<-cellOf env name;pure (ForInStep.yield ((name,__do_lift)::r)) else pure (ForInStep.yield r):Sem (ForInStep (List (Str×Addr))))))=(pure (fW env.cells l acc):Sem (List (Str×Addr))):=by
  intro l
  induction l with
  | nil=>intro acc _;rfl
  | cons p r ih=>
   intro acc hl
   obtain⟨n,k⟩:=p
   rw[List.forIn_cons]
   unfold fW
   by_cases hk:(k==NameKind.free)=true
   . have:k=.free:=eq_of_beq hk
     subst this
     obtain⟨c,e⟩:=hl n List.mem_cons_self
     have e':cellOf env n=pure c:=by unfold cellOf;rw[e]
     simp only[beq_self_eq_true,if_true,e']
     rw[e]
     exact ih _ λm hm=>hl m (List.mem_cons_of_mem _ hm)
   . simp only[hk,if_false]
     exact ih _ λm hm=>hl m (List.mem_cons_of_mem _ hm)
 unfold closureFor
 exact(bind_pure _).trans (go scope.names [] hh)
section
variable {prog:Program} {w:World} {A:Around} {R:Result->Shared->Prop} {s:Shared}
theorem gW{elt target iter:Expr}{ifs:List Expr}{scope:Scope}{pos:Pos}{it acc:Value}{env:Env}(I:Nat->Shared->Prop)
 (turn:∀n s,I n s->wpAny (model prog w) A (pyNext it) (λr s₁=>match r with
  | none=>R (.ok .next) s₁
  | some v=>wpAny (model prog w) A (letOwnedTupleGo target it v) (λ_ s₁'=>wpAny (model prog w) A (assign target env v) (λ_ s₂=>
   wpAny (model prog w) A (forIn ifs true λc r=>if r=true then do let ok<-isTrue c env (eval c env);pure (ForInStep.yield ok) else pure (ForInStep.yield r)) (λok s₃=>
    if ok=true then wpAny (model prog w) A (eval elt env) (λx s₄=>
     wpAny (model prog w) A (call (.builtin "list.append") [acc,x]) (λ_ s₅=>∃m,m<n/\I m s₅) (λ_ _=>False) s₄) (notedBy (model prog w) A env λe s'=>R (.error e) s') s₃
    else ∃m,m<n/\I m s₃) (λ_ _=>False) s₂) (λ_ _=>False) s₁') (λ_ _=>False) s₁) (λ_ _=>False) s)
 (n:Nat) (h:I n s) :
 codeAny (model prog w) A (.compLoop (.ListComp elt [⟨target,iter,ifs,0⟩] scope pos) 0 it acc env) R s:=by
 refine codeAny_loop rfl I (λn s hI=>?_) n h
 show wpAny _ A ((compTurn (.ListComp elt [⟨target,iter,ifs,0⟩] scope pos) 0 it acc env).onRaise (λx=>do noteFrame x env;theTreesLotGoes x)) _ _ s
 refine wpAny_noted ?_
 rw[compTurn_list]
 refine wpAny_bind (wpAny_standAt (wpAny_bind (wpAny_mono (turn n s hI) (λr s₁ h₁=>?_) λ_ _ h'=>h'.elim)))
 cases r with
 | none=>exact wpAny_pure h₁
 | some v=>
  refine wpAny_bind (wpAny_mono h₁ (λ_ s₁' h₁'=>?_) λ_ _ h'=>h'.elim)
  refine wpAny_bind (wpAny_mono h₁' (λ_ s₂ h₂=>wpAny_bind (wpAny_mono h₂ (λok s₃ h₃=>?_) λ_ _ h'=>h'.elim)) λ_ _ h'=>h'.elim)
  cases ok with
  | false=>exact wpAny_pure ⟨rfl,h₃⟩
  | true=>
   exact wpAny_bind (wpAny_bind (wpAny_mono h₃ (λx s₄ h₄=>wpAny_bind (wpAny_mono h₄ (λ_ s₅ h₅=>wpAny_pure (wpAny_pure ⟨rfl,h₅⟩)) λ_ _ h'=>h'.elim)) λ_ _ h'=>h'))
theorem mM{env env':Env}{e:Value}(h:env'.frame=env.frame):noteFrame e env'=noteFrame e env:=by
 unfold noteFrame PySem.frameOf
 rw[h]
end
def cM(X:Cx)(scope:Scope)(N':List Str)(C:Addr)(s₀:Shared)(H₀:Hp)(ex:List Addr):Cx:=
 { X with env:=compEnvC scope (fW X.env.cells scope.names []) C X.env,N:=N',s₀:=s₀,H₀:=H₀,outer:=X.stack,ex:=ex,fn:=λ_=>false,pn:=[],xe:=λ_ _=>False }
def PTs(X:Cx)(ifs:List Expr)(t:TT):Prop:=
 ∀(pins:List (Addr×Obj)) (s:Shared) (σ:St) (H:Hp) (Q:Bool->Hp->Prop),Inv X pins σ H s->t σ H Q ->
  wpAny (model X.prog X.w) X.A (forIn ifs true λc r=>if r=true then do let ok<-isTrue c X.env (eval c X.env);pure (ForInStep.yield ok) else pure (ForInStep.yield r)) (TP X pins σ Q) X.xe s
theorem aDN{X:Cx}:PTs X [] (λ_ H Q=>Q true H):=λpins s σ H Q I h=>wpAny_pure ⟨H,I,h⟩
theorem aDO{X:Cx}{c:Expr}{t:TT}(h:PT X c t):PTs X [c] t:=λpins s σ H Q I hw=>wpAny_tests_one (h pins s σ H Q I hw)
structure dE (X:Cx) (scope:Scope) (k:Nat) (caps:List Nat) (N':List Str):Prop where
 kind:scope.kind=.function
 nocell:∀y∈scope.names,y.2≠.cell
 loc:∀y∈scope.names,y.2=.local->scope.names.lookup y.1=some .local
 free:∀n,(n,NameKind.free)∈scope.names->X.env.kindOf n=some .cell\/X.env.kindOf n=some .free
 len:N'.length=k+caps.length
 cap:∀j i,caps[j]? = some i->∃x,N'[k+j]? = some x/\X.N[i]? = some x/\scope.names.lookup x=some .free/\X.env.kindOf x=some .cell
 ndp:X.N.Nodup
def jL(k:Nat)(caps:List Nat)(σ:St):St:=List.replicate k none++caps.map λi=>(σ[i]?).getD none
def aBo(WX:Value->St->Hp->Prop)(k:Nat)(caps:List Nat)(wi:TI)(g:TG)(tt:TT)(te:(Value->St->Hp->Prop)->TE):TE:=λσ H Q=>wi σ H λJ H1=>
 ∃W:Nat->Nat->List V->St->Hp->Prop,(∃m,W 0 m [] (jL k caps σ) H1)/\∀i m ys σ1 H,W i m ys σ1 H ->
  (J.stop i H/\ys.length<=sizeLine/\∀p,H p=none->Q (.ref p) (upd H p (.lst ys))) \/
  (J.go i H/\ys.length<sizeLine/\∀x H',J.yld i H x H'->g x σ1 H' λσ2 H2=>tt σ2 H2 λb H3=>
   if b=true then te (λc _ H=>WX c σ H) σ2 H3 λy H4=>∃m',m'<m/\W (i+1) m' (ys++[y]) σ2 H4 else ∃m',m'<m/\W (i+1) m' ys σ2 H3)
theorem HOk.track{P:Program}{w:World}{H:Hp}{h:Heap}{a:Addr}{o:HO}(ok:HOk P w H h)(n:H a=none)(new:dG P w (upd H a o) h a o):HOk P w (upd H a o) h:=λb u e=>by
 by_cases hb:b=a
 . subst hb;rw[cE] at e;cases e;exact new
 . rw[aJ hb] at e
   exact(ok b u e).stay (λ_ _ _ q=>q) (λc q=>by rw[aJ (bG q n)];exact q) λc xs q=>by rw[aJ (bG q n)];exact q
abbrev dA(its:List Value)(n:Nat):Obj:={ cls:=.type "list",data:=.seq its.toArray n }
section
variable {X:Cx} {scope:Scope} {k:Nat} {caps:List Nat} {N':List Str} {pins:List (Addr×Obj)} {σ:St} {H:Hp} {s:Shared} {fp:List Addr}
theorem Inv.cellLt(I:Inv X pins σ H s){x:Str}{c:Addr}(e:X.env.cells.lookup x=some c):c<s.heap.objs.size:=by
 obtain⟨v,q⟩:=I.cell x c e
 exact q.lt
theorem fE:∀{l:List (Str×NameKind)} {x:Str} {k:NameKind},l.lookup x=some k->(x,k)∈l:=λh=>PySem.mem_of_lookup h
theorem relabel_lookup{env:Env}:∀{names:List (Str×NameKind)} {x:Str} {k:NameKind},
 (names.map λ(n,k)=>if (k==NameKind.free&&env.scope.kind==.function&&env.kindOf n==some .cell) then (n,NameKind.cell) else (n,k)).lookup x=some k ->
 (k=.cell/\names.lookup x=some .free/\env.kindOf x=some .cell)\/names.lookup x=some k
 | [],_,_,h=>by simp at h
 | (n,k')::r,x,k,h=>by
  have ih:=@relabel_lookup env r x k
  rw[mC] at h
  by_cases hc:(k'==NameKind.free&&env.scope.kind==.function&&env.kindOf n==some .cell)=true
  . simp only[hc,if_true,List.lookup_cons] at h ⊢
    cases hx:x==n with
    | true=>
     rw[hx] at h
     simp only at h ⊢
     simp only[bA] at hc
     have e1:k'=.free:=eq_of_beq hc.1.1
     have e2:env.kindOf n=some .cell:=eq_of_beq hc.2
     have e3:x=n:=eq_of_beq hx
     subst e3
     cases h
     exact .inl ⟨rfl,by rw[e1],e2⟩
    | false=>rw[hx] at h;exact ih h
  . simp only[Bool.not_eq_true] at hc
    simp only[hc,if_false,List.lookup_cons,bF] at h ⊢
    cases hx:x==n with
    | true=>rw[hx] at h;exact .inr h
    | false=>rw[hx] at h;exact ih h
theorem aKG(CS:dE X scope k caps N')(I:Inv X pins σ H s)(f:∀b∈fp,jV X pins H b)(hf:∀b∈fp,b<s.heap.objs.size) :
 (cM X scope N' (s.heap.objs.size+1) { s with heap:=s.heap.push (dA [] 0) } H (s.heap.objs.size::fp)).Ok:=by
 have hh:∀n,(n,NameKind.free)∈scope.names->∃c,X.env.cells.lookup n=some c:=λn hn=>I.ok.has n (CS.free n hn)
 have ge:∀b o,s.heap.get? b=some o->(s.heap.push (dA [] 0)).get? b=some o:=λb o e=>Heap.get?_push_of_some _ e
 have fsub:∀b∈frs X.stack,∃o,s.heap.get? b=some o:=λb hb=>by
  obtain⟨_,o,ho,_⟩:=I.stack.mem hb
  exact⟨o,ho⟩
 refine⟨I.ok.mod,?_,I.ok.glob,I.ok.blt,?_,λx y c h1 h2=>?_,λx hx=>?_,λx c h _=>?_,I.ok.hd,I.ok.frames,.inl rfl,λb hb=>?_,λb o e=>?_,?_,λb o e hb=>?_,λb hb=>?_,?_,I.stkFree⟩
 . exact CS.kind
 . show(s.heap.push (dA [] 0)).objs.size<=s.heap.objs.size+1
   rw[Heap.size_push]
   exact Nat.le_refl _
 . exact I.ok.inj x y c (cO hh h1) (cO hh h2)
 . have fr:(x,NameKind.free)∈scope.names:=by
    rcases hx with q|q
    . rcases relabel_lookup q with⟨_,z,_⟩|z
      . exact fE z
      . exact absurd rfl (CS.nocell _ (fE z))
    . rcases relabel_lookup q with⟨z,_⟩|z
      . cases z
      . exact fE z
   obtain⟨c,e⟩:=eL (kA (cells:=X.env.cells) (acc:=[]) fr)
   exact⟨c,e⟩
 . cases(show false=true from h)
 . refine⟨?_,λx c e=>?_⟩
   . show b≠s.heap.objs.size+1
     rcases List.mem_cons.mp hb with z|z
     . rw[z];exact Nat.ne_of_lt (Nat.lt_succ_self _)
     . exact Nat.ne_of_lt (Nat.lt_succ_of_lt (hf b z))
   . have e':=cO hh e
     rcases List.mem_cons.mp hb with z|z
     . rw[z];exact Nat.ne_of_lt (I.cellLt e')
     . exact(f b z).2.2.2.2.1 x c e'
 . exact⟨ge b o (I.bs b o e).1,(I.bs b o e).2⟩
 . show X.base.objs.size<=(s.heap.push (dA [] 0)).objs.size
   rw[Heap.size_push]
   exact Nat.le_succ_of_le (Nat.le_trans I.ok.bsz I.sz)
 . have lt:=Heap.lt_size e
   rcases List.mem_cons.mp hb with z|z
   . subst z
     exact absurd (Nat.lt_of_lt_of_le lt (Nat.le_trans I.ok.bsz I.sz)) (Nat.lt_irrefl _)
   . rcases(f b z).2.2.2.1 with q|q
     . exact I.ok.noex b o e q
     . exact absurd (Nat.lt_of_lt_of_le lt (Nat.le_trans I.ok.bsz q)) (Nat.lt_irrefl _)
 . show b∉frs X.stack
   intro hs
   rcases List.mem_cons.mp hb with z|z
   . subst z
     obtain⟨o,e⟩:=fsub _ hs
     exact absurd (Heap.lt_size e) (Nat.lt_irrefl _)
   . rcases List.mem_cons.mp (I.stkSub b hs) with q|q
     . exact(f b z).2.1 q
     . exact(f b z).2.2.1 q
 . exact I.stack.of_keeps λb o e _=>⟨o,ge b o e,rfl⟩
theorem aBp(CS:dE X scope k caps N'){j:Nat}{v:V}(h:(jL k caps σ)[j]? = some (some v)):∃j' i,j=k+j'/\caps[j']? = some i/\σ[i]? = some (some v):=by
 unfold jL at h
 by_cases hj:j<k
 . rw[List.getElem?_append_left (by simpa using hj),List.getElem?_replicate] at h
   split at h <;> cases h
 . rw[List.getElem?_append_right (by simpa using hj),List.length_replicate,List.getElem?_map] at h
   cases e:caps[j-k]? with
   | none=>rw[e] at h;cases h
   | some i=>
    rw[e] at h
    have h':(σ[i]?).getD none=some v:=Option.some.inj h
    refine⟨j-k,i,by omega,e,?_⟩
    cases q:σ[i]? with
    | none=>rw[q] at h';cases h'
    | some z=>rw[q] at h';exact congrArg some h'
theorem aIj(CS:dE X scope k caps N')(I:Inv X pins σ H s)(f:∀b∈fp,jV X pins H b)(hf:∀b∈fp,b<s.heap.objs.size){h₁:Heap}{tk:Nat}
 (hns:h₁.Ns (s.heap.objs.size+1) λ_=>none) (hk:∀b o,(s.heap.push (dA [] 0)).get? b=some o->h₁.get? b=some o) :
 Inv (cM X scope N' (s.heap.objs.size+1) { s with heap:=s.heap.push (dA [] 0) } H (s.heap.objs.size::fp)) [] (jL k caps σ) H { s with heap:=h₁,toks:=tk }:=by
 have hh:∀n,(n,NameKind.free)∈scope.names->∃c,X.env.cells.lookup n=some c:=λn hn=>I.ok.has n (CS.free n hn)
 have ge:∀b o,s.heap.get? b=some o->h₁.get? b=some o:=λb o e=>hk b o (Heap.get?_push_of_some _ e)
 have cellK:∀{c:Addr} {v:Option Value},s.heap.IsCell c v->h₁.IsCell c v:=λ{c v} ⟨o,e,d⟩=>⟨o,ge _ _ e,d⟩
 refine⟨aKG CS I f hf,rfl,I.bare,Un.kept hk,⟨_,hns,λj x v e1 e2 e3=>?_⟩,λx c e=>?_,?_,λx c e=>?_,λp hp=>absurd (show p∈([]:List (Addr×Obj)) from hp) (by simp),I.hok.kept ge,?_⟩
 . obtain⟨j',i,ej,ec,es⟩:=aBp CS e2
   obtain⟨y,h1,h2,h3,h4⟩:=CS.cap j' i ec
   have e1':N'[j]? = some x:=e1
   rw[ej,h1] at e1'
   have ey:y=x:=Option.some.inj e1'
   subst ey
   obtain⟨m,hn,hl⟩:=I.loc
   obtain⟨u,ru,lk⟩:=hl i y v h2 es (.inr (.inl h4))
   rcases lk with⟨k1,_⟩|⟨_,c,ec',hc⟩
   . rw[h4] at k1;cases k1
   . refine⟨u,ru,.inr ⟨?_,c,?_,cellK hc⟩⟩
     . have e3':Vis (relabel scope X.env) y:=e3
       rcases e3' with z|z|z
       . rcases relabel_lookup z with⟨z,_⟩|z
         . cases z
         . rw[h3] at z;cases z
       . exact .inl z
       . exact .inr z
     . obtain⟨c',e⟩:=eL (kA (cells:=X.env.cells) (acc:=[]) (fE h3))
       have e':=cO hh e
       rw[ec'] at e'
       cases e'
       exact e
 . obtain⟨v,q⟩:=I.cell x c (cO hh e)
   exact⟨v,cellK q⟩
 . exact I.hok.fresh (Nat.le_succ _)
 . exact I.freeC x c (cO hh e)
 . show(jL k caps σ).length=N'.length
   unfold jL
   rw[lA,List.length_replicate,lM,CS.len]
theorem tR{tg iter elt:Expr}{ifs:List Expr}{pos:Pos}{g:TG}{tt:TT}{te:(Value->St->Hp->Prop)->TE}{WX:Value->St->Hp->Prop}{it:Addr}{tn:Nat->Heap->Prop}{J:It}{RR:Value->Addr->Result->Shared->Prop}{E:Value->Shared->Prop}{Q:VK}
 (CS:dE X scope k caps N') (hc:X.calm=true) (I:Inv X pins σ H s) (T:vC X.prog X.w X.K tg J fp it tn) (st:tn 0 s.heap) (f:∀b∈fp,jV X pins H b)
 (hch:∀C s₀ H₀ ex,PG (cM X scope N' C s₀ H₀ ex) tg g/\PTs (cM X scope N' C s₀ H₀ ex) ifs tt/\∀pl E W,PassesOwn (model X.prog X.w) X.A (cM X scope N' C s₀ H₀ ex).env E->Rs ((cM X scope N' C s₀ H₀ ex).inTry pl E) W->PE ((cM X scope N' C s₀ H₀ ex).inTry pl E) elt (te W))
 (hWX:∀c σ H,WX c σ H->X.stack=X.env::X.outer/\RX X c σ H)
 (hw:∃W:Nat->Nat->List V->St->Hp->Prop,(∃m,W 0 m [] (jL k caps σ) H)/\∀i m ys σ1 H,W i m ys σ1 H ->
  (J.stop i H/\ys.length<=sizeLine/\∀p,H p=none->Q (.ref p) (upd H p (.lst ys))) \/
  (J.go i H/\ys.length<sizeLine/\∀x H',J.yld i H x H'->g x σ1 H' λσ2 H2=>tt σ2 H2 λb H3=>
   if b=true then te (λc _ H=>WX c σ H) σ2 H3 λy H4=>∃m',m'<m/\W (i+1) m' (ys++[y]) σ2 H4 else ∃m',m'<m/\W (i+1) m' ys σ2 H3))
 (hE:∀D C s' H' m a cls T,Inv X pins σ H' s'->s'.heap.Ns C m->s.heap.objs.size<C->(∀(σ':St) (s'':Shared) (h':Heap),Inv X pins σ' H' s''->Heap.SameBut C s''.heap h'->Inv X pins σ' H' { s'' with heap:=h' })->Rec s'.heap a cls (some T) ->
  (∀b,(b=a\/some T=some b)->¬ (Old X.s₀.heap b/\b∉X.ex)/\H' b=none/\b∉pinA X pins)->RX X cls σ H'->RR (.ref D) C (.error (.ref a)) s')
 (hR:∀D C s' H' m,Inv X pins σ H' s'->s'.heap.Ns C m->s.heap.objs.size<C->(∀(σ':St) (s'':Shared) (h':Heap),Inv X pins σ' H' s''->Heap.SameBut C s''.heap h'->Inv X pins σ' H' { s'' with heap:=h' })->Q (.ref D) H'->RR (.ref D) C (.ok .next) s') :
 wpAny (model X.prog X.w) X.A (newList []) (λacc s₃=>wpAny (model X.prog X.w) X.A (newFunctionEnv scope X.env.globals (fW X.env.cells scope.names []) [] X.env.qual none .none (some X.env)) (λcenv s₄=>
  codeAny (model X.prog X.w) X.A (.compStart (.ListComp elt [⟨tg,iter,ifs,0⟩] scope pos) 0 (.ref it) acc { cenv with scope:=relabel scope X.env }) (RR acc cenv.locals) s₄) E s₃) E s:=by
 obtain⟨W,⟨m0,w0⟩,turn⟩:=hw
 have hf:∀b∈fp,b<s.heap.objs.size:=λb hb=>by
  obtain⟨o,e,_⟩:=T.obj 0 _ st b hb
  exact Heap.lt_size e
 refine wpAny_newObj_type (wpAny_newFunctionEnv CS.nocell (by intro y hy;simp at hy) (λh₁ hns₁ hsb₁=>?_) CS.kind)
 have hsz:(s.heap.push (dA [] 0)).objs.size=s.heap.objs.size+1:=Heap.size_push _ _
 have hns:h₁.Ns (s.heap.objs.size+1) λ_=>none:=by
  have:=hns₁
  rw[show({ s with heap:=s.heap.push (dA [] 0) }:Shared).heap.objs.size=s.heap.objs.size+1 from hsz] at this
  exact this
 have hk:∀b o,(s.heap.push (dA [] 0)).get? b=some o->h₁.get? b=some o:=λb o e=>
  hsb₁.extBut b o (Nat.ne_of_lt (by have:=Heap.lt_size e;rw[hsz] at this;show b<(s.heap.push (dA [] 0)).objs.size;rw[hsz];exact this)) (Heap.get?_push_of_some _ e)
 have I0:=aIj (N':=N') CS I f hf (tk:=s.toks+([]:List (Str×Value)).length) hns hk
 have noC:∀{b:Addr},b<s.heap.objs.size->b≠s.heap.objs.size+1:=λ{b} hb=>Nat.ne_of_lt (Nat.lt_succ_of_lt hb)
 have hDn:H s.heap.objs.size=none:=I.fresh
 have hh:∀n,(n,NameKind.free)∈scope.names->∃c,X.env.cells.lookup n=some c:=λn hn=>I.ok.has n (CS.free n hn)
 have hD1:h₁.get? s.heap.objs.size=some (dA [] 0):=hk _ _ (Heap.get?_push_size _ rfl)
 have stFs:∀b∈frs X.stack,b<s.heap.objs.size:=λb hb=>by
  obtain⟨_,o,ho,_⟩:=I.stack.mem hb
  exact Heap.lt_size ho
 have fpc:∀(pl:List (Addr×Obj)),(∀p∈pl,p.1=s.heap.objs.size)->∀{H':Hp},(∀b∈fp,H' b=none)->∀b∈fp,jV (cM X scope N' (s.heap.objs.size+1) { s with heap:=s.heap.push (dA [] 0) } H (s.heap.objs.size::fp)) pl H' b:=by
  intro pl hpl H' hn b hb
  refine⟨hn b hb,noC (hf b hb),λz=>?_,.inl (List.mem_cons_of_mem _ hb),λx c e=>(f b hb).2.2.2.2.1 x c (cO hh e),λp hp z=>?_⟩
  . rcases List.mem_cons.mp (I.stkSub b z) with q|q
    . exact(f b hb).2.1 q
    . exact(f b hb).2.2.1 q
  . have hp':p∈pl:=by simpa[cM] using hp
    rw[hpl p hp'] at z
    exact absurd (hf b hb) (by rw[<-z];exact Nat.lt_irrefl _)
 have pinD:∀{σ':St} {H':Hp} {s':Shared} {its:List Value} {n:Nat} {pl:List (Addr×Obj)},Inv (cM X scope N' (s.heap.objs.size+1) { s with heap:=s.heap.push (dA [] 0) } H (s.heap.objs.size::fp)) pl σ' H' s' ->
  s'.heap.get? s.heap.objs.size=some (dA its n)->H' s.heap.objs.size=none->Inv (cM X scope N' (s.heap.objs.size+1) { s with heap:=s.heap.push (dA [] 0) } H (s.heap.objs.size::fp)) [(s.heap.objs.size,dA its n)] σ' H' s':=by
  intro σ' H' s' its n pl J e nn
  refine J.pins_of λp hp=>?_
  have:p=(s.heap.objs.size,dA its n):=by simpa using hp
  subst this
  refine⟨e,nn,Nat.ne_of_lt (Nat.lt_succ_self _),λz=>absurd (stFs _ z) (Nat.lt_irrefl _),λv z=>by cases z⟩
 have nb:∀{b:Addr} {o:Obj},s.heap.get? b=some o->b∉fp->b∉s.heap.objs.size::fp:=λ{b o} e hb z=>by
  rcases List.mem_cons.mp z with z|z
  . exact absurd (Heap.lt_size e) (by rw[z];exact Nat.lt_irrefl _)
  . exact hb z
 have allC:∀{H':Hp},H' (s.heap.objs.size+1)=none->∀(σ':St) (s'':Shared) (h':Heap),Inv X pins σ' H' s''->Heap.SameBut (s.heap.objs.size+1) s''.heap h'->Inv X pins σ' H' { s'' with heap:=h' }:=λ{H'} hn σ' s'' h' I6 hs'=>by
  have:=I6.turned (t':=s''.toks) (h':=h') (it:=s.heap.objs.size+1) (λb o hb e=>hs'.extBut b o hb e) hn
   (Nat.ne_of_gt (Nat.lt_succ_of_lt I.lt)) (.inr (Nat.le_succ_of_le I.sz)) (λx c e=>Nat.ne_of_lt (Nat.lt_succ_of_lt (I.cellLt e))) λp hp z=>?_
  . exact this
  . have:=Heap.lt_size (I.pin p hp).1
    rw[z] at this
    exact absurd this (Nat.not_lt.mpr (Nat.le_succ _))
 have outE:∀{pl:List (Addr×Obj)} {E:Value->Shared->Prop},(∀b∈s.heap.objs.size::fp,b∈pl.map (·.1)) ->
  Rs ((cM X scope N' (s.heap.objs.size+1) { s with heap:=s.heap.push (dA [] 0) } H (s.heap.objs.size::fp)).inTry pl λx s'=>wpAny (model X.prog X.w) X.A (noteFrame x (compEnvC scope (fW X.env.cells scope.names []) (s.heap.objs.size+1) X.env)) (λ_ s''=>RR (.ref s.heap.objs.size) (s.heap.objs.size+1) (.error x) s'') E s') λc _ H=>WX c σ H:=by
  intro pl E hpl pins' σ' H' s' a cls I' fl hW
  obtain⟨hst,hW⟩:=hWX _ _ _ hW
  have I0':=I'.outTry
  obtain⟨T,rc,nw⟩:=fl
  have nw0:∀b,(b=a\/T=some b)->¬ (Old (s.heap.push (dA [] 0)) b/\b∉s.heap.objs.size::fp)/\H' b=none/\b∉pl.map (·.1):=λb z=>⟨(nw b z).1,(nw b z).2.1,λy=>(nw b z).2.2 (by
   obtain⟨p,hp,e⟩:=List.mem_map.mp y
   exact List.mem_map.mpr ⟨p,List.mem_append_left _ (List.mem_append_right _ hp),e⟩)⟩
  have hfr:X.env.frame=some X.env.locals:=by
   rcases I.ok.stk with z|⟨_,z⟩
   . rw[hst] at z;exact absurd (congrArg List.length z) (by simp)
   . exact z
  show wpAny (model X.prog X.w) X.A (noteFrame (.ref a) (compEnvC scope (fW X.env.cells scope.names []) (s.heap.objs.size+1) X.env)) _ _ s'
  rw[mM (env:=X.env) (env':=compEnvC scope (fW X.env.cells scope.names []) (s.heap.objs.size+1) X.env) rfl]
  refine aDD (base:=X.base) (outer:=X.outer) (by rw[<-hst];exact I0'.ok.frames) (by rw[<-hst];exact I0'.stack) hfr rc λh1 T1 l1 x1 r1=>?_
  have I1:=I0'.note x1 (λb hb=>by rw[<-hst] at hb;exact hb) (λb hb=>.inl (by rw[<-hst];exact hb)) rc (λb z=>⟨(nw0 b z).1,(nw0 b z).2.1,by
   show b∉(([]:List (Addr×Obj))++pl).map (·.1)
   rw[List.nil_append]
   exact(nw0 b z).2.2⟩)
  have u4:=I1.base
  have u:Un (frs X.stack) fp H H' s.heap h1:={
   keep:=λb o e nn hb hx=>u4.keep b o (Heap.get?_push_of_some _ e) nn hb (nb e hx)
   slot:=λb o e nn hb hx=>u4.slot b o (Heap.get?_push_of_some _ e) nn hb (nb e hx)
   free:=λb o e nn hx=>u4.free b o (Heap.get?_push_of_some _ e) nn (nb e hx)
   there:=λb o e hx=>u4.there b o (Heap.get?_push_of_some _ e) (nb e hx)
   tups:=u4.tups
   frzs:=u4.frzs
   tbls:=u4.tbls }
  have I5:Inv X pins σ H' { s' with heap:=h1 }:=I.call' I1.os u I1.hok I1.bare λb hb=>⟨(f b hb).2.2.2.1,(f b hb).2.1,(f b hb).2.2.2.2.1,(f b hb).2.2.2.2.2⟩
  obtain⟨m4,hn4,_⟩:=I1.loc
  have new:∀b,(b=a\/T=some b)->¬ Old s.heap b:=λb z ⟨o,q⟩=>(nw0 b z).1 ⟨⟨o,Heap.get?_push_of_some _ q⟩,λy=>(nw0 b z).2.2 (hpl b y)⟩
  refine hE s.heap.objs.size (s.heap.objs.size+1) { s' with heap:=h1 } H' m4 a cls T1 I5 hn4 (Nat.lt_succ_self _) (allC I1.free) r1 (λb z=>?_) hW
  have nold:¬ Old s.heap b/\H' b=none:=by
   rcases z with z|z
   . exact⟨new b (.inl z),(nw0 b (.inl z)).2.1⟩
   . cases z
     rcases l1 with l1|l1
     . exact⟨λq=>absurd (Nat.lt_of_lt_of_le q.lt (Nat.le_trans (Nat.le_of_lt (Nat.lt_of_lt_of_le (show s.heap.objs.size<(s.heap.push (dA [] 0)).objs.size by rw[hsz];exact Nat.lt_succ_self _) I0'.sz)) l1)) (Nat.lt_irrefl _),I0'.hok.fresh l1⟩
     . exact⟨new _ (.inr l1),(nw0 _ (.inr l1)).2.1⟩
  exact⟨λy=>nold.1 (vO I b y.1 y.2),nold.2,λy=>nold.1 (mS I b y)⟩
 have start:codeAny (model X.prog X.w) X.A (.compLoop (.ListComp elt [⟨tg,iter,ifs,0⟩] scope pos) 0 (.ref it) (.ref s.heap.objs.size) (compEnvC scope (fW X.env.cells scope.names []) (s.heap.objs.size+1) X.env))
  (RR (.ref s.heap.objs.size) (s.heap.objs.size+1)) { s with heap:=h₁,toks:=s.toks+([]:List (Str×Value)).length }:=by
  refine gW (λn s'=>∃i ys its cnt σ1 H',Inv (cM X scope N' (s.heap.objs.size+1) { s with heap:=s.heap.push (dA [] 0) } H (s.heap.objs.size::fp)) [(s.heap.objs.size,dA its cnt)] σ1 H' s' /\
   tn i s'.heap/\(∀b∈fp,H' b=none)/\aW ys its/\W i n ys σ1 H') ?_ m0 ⟨0,[],[],0,_,H,pinD I0 hD1 hDn,T.keep _ _ _ st λb _ o e=>hk b o (Heap.get?_push_of_some _ e),λb hb=>(f b hb).1,.nil,w0⟩
  rintro n s3 ⟨i,ys,its,cnt,σ1,H3,I3,st3,fr3,rv3,w3⟩
  obtain⟨hD3,nD3,_⟩:=I3.pin (s.heap.objs.size,dA its cnt) (by simp[cM])
  have pl1:∀p∈[(s.heap.objs.size,dA its cnt)],p.1=s.heap.objs.size:=λp hp=>by
   have:p=(s.heap.objs.size,dA its cnt):=by simpa using hp
   rw[this]
  rcases turn i n ys σ1 H3 w3 with⟨stop,hz,qn⟩|⟨go,hz,step⟩
  . refine thn (T.done (cM X scope N' (s.heap.objs.size+1) { s with heap:=s.heap.push (dA [] 0) } H (s.heap.objs.size::fp)) rfl rfl rfl hc i _ s3 _ H3 _ I3 (fpc _ pl1 fr3) st3 stop) λr s4 ⟨hr,I4⟩=>?_
    subst hr
    obtain⟨hD4,nD4,_⟩:=I4.pin (s.heap.objs.size,dA its cnt) (by simp[cM])
    have u4:=I4.base
    have neD:∀{b:Addr} {o:Obj},s.heap.get? b=some o->b≠s.heap.objs.size:=λ{b o} e=>Nat.ne_of_lt (Heap.lt_size e)
    have trD:∀{b:Addr} {o:HO},H b=some o->b≠s.heap.objs.size:=λ{b o} e=>bG e hDn
    have u:Un (frs X.stack) fp H (upd H3 s.heap.objs.size (.lst ys)) s.heap s4.heap:={
     keep:=λb o e nn hb hx=>u4.keep b o (Heap.get?_push_of_some _ e) nn hb (nb e hx)
     slot:=λb o e nn hb hx=>u4.slot b o (Heap.get?_push_of_some _ e) nn hb (nb e hx)
     free:=λb o e nn hx=>by rw[aJ (neD e)];exact u4.free b o (Heap.get?_push_of_some _ e) nn (nb e hx)
     there:=λb o e hx=>u4.there b o (Heap.get?_push_of_some _ e) (nb e hx)
     tups:=λb xs e=>by rw[aJ (trD e)];exact u4.tups b xs e
     frzs:=λb o u e=>by rw[aJ (trD e)];exact u4.frzs b o u e
     tbls:=λb ps e=>by rw[aJ (trD e)];exact u4.tbls b ps e }
    have hl:=rv3.length
    have hok:HOk X.prog X.w (upd H3 s.heap.objs.size (.lst ys)) s4.heap:=HOk.track I4.hok nD4 ⟨hz,its,cnt,rv3,hD4⟩
    have I5:Inv X pins σ (upd H3 s.heap.objs.size (.lst ys)) s4:=I.call' I4.os u hok I4.bare λb hb=>⟨(f b hb).2.2.2.1,(f b hb).2.1,(f b hb).2.2.2.2.1,(f b hb).2.2.2.2.2⟩
    obtain⟨m4,hn4,_⟩:=I4.loc
    exact hR s.heap.objs.size (s.heap.objs.size+1) s4 _ m4 I5 hn4 (Nat.lt_succ_self _) (allC (by rw[aJ (Nat.ne_of_gt (Nat.lt_succ_self _))];exact I4.free)) (qn _ nD4)
  . refine thn (T.item (cM X scope N' (s.heap.objs.size+1) { s with heap:=s.heap.push (dA [] 0) } H (s.heap.objs.size::fp)) rfl rfl rfl hc i _ s3 _ H3 _ I3 (fpc _ pl1 fr3) st3 go) λr s4 ⟨u,hr,h4⟩=>?_
    subst hr
    refine thn h4 λ_ s5 ⟨x,H5,I5,r5,y5,st5,fr5⟩=>?_
    obtain⟨hg,ht,he⟩:=hch (s.heap.objs.size+1) { s with heap:=s.heap.push (dA [] 0) } H (s.heap.objs.size::fp)
    have I5':=I5.pinned (fpc _ pl1 fr5) (T.obj _ _ st5)
    have keep:∀{σ7:St} {H7:Hp} {s7:Shared},Inv (cM X scope N' (s.heap.objs.size+1) { s with heap:=s.heap.push (dA [] 0) } H (s.heap.objs.size::fp)) ([(s.heap.objs.size,dA its cnt)]++kY fp s5.heap) σ7 H7 s7 ->
     tn (i+1) s7.heap/\(∀b∈fp,H7 b=none)/\s7.heap.get? s.heap.objs.size=some (dA its cnt)/\H7 s.heap.objs.size=none:=by
     intro σ7 H7 s7 I7
     obtain⟨hD7,nD7,_⟩:=I7.pin (s.heap.objs.size,dA its cnt) (by simp[cM])
     refine⟨T.keep _ _ _ st5 λb hb o e=>(I7.pin (b,o) (List.mem_append_right _ (List.mem_append_right _ (eW hb e)))).1,λb hb=>?_,hD7,nD7⟩
     obtain⟨o,e,d⟩:=T.obj _ _ st5 b hb
     exact(I7.pin (b,o) (List.mem_append_right _ (List.mem_append_right _ (eW hb e)))).2.1
    refine thn (hg _ s5 _ H5 x u _ I5' r5 (step x H5 y5)) λ_ s6 ⟨σ6,H6,I6,q6⟩=>?_
    refine thn (ht _ s6 σ6 H6 _ I6 q6) λb s7 ⟨H7,I7,q7⟩=>?_
    cases b with
    | false=>
     rw[if_neg bN] at q7 ⊢
     obtain⟨m',hm,w7⟩:=q7
     obtain⟨t7,f7,d7,n7⟩:=keep I7
     exact⟨m',hm,i+1,ys,its,cnt,σ6,H7,pinD I7 d7 n7,t7,f7,rv3,w7⟩
    | true=>
     rw[if_pos rfl] at q7 ⊢
     refine wpAny_mono (he ([(s.heap.objs.size,dA its cnt)]++kY fp s5.heap) _ _ PassesOwn.looking (outE λb hb=>?_) [] s7 σ6 H7 _ I7.inTry q7) (λyv s8 ⟨y,H8,I8,r8,q8⟩=>?_) λ_ _ z=>z
     . rcases List.mem_cons.mp hb with z|z
       . rw[z];simp
       . obtain⟨o,e,d⟩:=T.obj _ _ st5 b z
         exact List.mem_map.mpr ⟨(b,o),List.mem_append_right _ (eW z e),rfl⟩
     have I8:=I8.outTry
     obtain⟨m',hm,w8⟩:=q8
     obtain⟨t8,f8,d8,n8⟩:=keep I8
     have hl:=rv3.length
     have hzv:its.toArray.size<=sizeLine:=by rw[List.size_toArray];omega
     refine call_meets F.slot_list_append ⟨_,d8,rfl⟩ F.entry_list_append (F.args_list_append_2 _ _) (PySem.list_append s.heap.objs.size its.toArray cnt yv hzv) ⟨d8,?_⟩
     have q:=PySem.IsL.update d8 (λa=>a.push yv)
     have e':its.toArray.push yv=(its++[yv]).toArray:=by simp
     rw[e'] at q
     have I9:=(I8.unpinned (pins:=[(s.heap.objs.size,dA its cnt)])).pins_of (pins':=[]) (λp hp=>absurd hp (by simp))
     have I10:=I9.turned (t':=s8.toks) (it:=s.heap.objs.size) (h':=s8.heap.update s.heap.objs.size (Obj.mapSeq λa=>a.push yv)) (λb o hb e=>(Heap.get?_update_other s8.heap _ (Ne.symm hb)).trans e) n8
      (Nat.ne_of_lt (Nat.lt_succ_self _)) (.inl List.mem_cons_self) (λx c e=>Nat.ne_of_lt (I.cellLt (cO hh e))) (λp hp=>absurd (show p∈([]:List (Addr×Obj)) from by simpa[cM] using hp) (by simp))
     refine⟨m',hm,i+1,ys++[y],its++[yv],_,σ6,H8,pinD I10 q n8,?_,f8,rv3.append (.cons r8 .nil),w8⟩
     refine T.keep _ _ _ t8 λb hb o e=>(Heap.get?_update_other s8.heap _ ?_).trans e
     intro z
     exact absurd (hf b hb) (by rw[<-z];exact Nat.lt_irrefl _)
 have startC:∀C,C=s.heap.objs.size+1->codeAny (model X.prog X.w) X.A (.compLoop (.ListComp elt [⟨tg,iter,ifs,0⟩] scope pos) 0 (.ref it) (.ref s.heap.objs.size) (compEnvC scope (fW X.env.cells scope.names []) C X.env))
  (RR (.ref s.heap.objs.size) C) { s with heap:=h₁,toks:=s.toks+([]:List (Str×Value)).length }:=by
  rintro C rfl
  exact start
 exact codeAny_compStart_list (startC _ hsz) (T.self X.A 0 _ _ _ (T.keep _ _ _ st λb _ o e=>hk b o (Heap.get?_push_of_some _ e)) (startC _ hsz))
end
section
variable {X:Cx} {scope:Scope} {k:Nat} {caps:List Nat} {N':List Str} {tg iter elt:Expr} {ifs:List Expr} {pos:Pos} {wi:TI} {g:TG} {tt:TT} {te:(Value->St->Hp->Prop)->TE} {WX:Value->St->Hp->Prop}
theorem tS{pins:List (Addr×Obj)}{σ:St}{H':Hp}{s':Shared}{C a T:Addr}{cls:Value}{m:Str->Option Value}{Q:Value->Shared->Prop}{acc:Value}{use:Option (Value->Sem Unit)}(I:Inv X pins σ H' s')(hn:s'.heap.Ns C m)
 (hall:∀(σ':St) (s'':Shared) (h':Heap),Inv X pins σ' H' s''->Heap.SameBut C s''.heap h'->Inv X pins σ' H' { s'' with heap:=h' }) (r:Rec s'.heap a cls (some T)) (nw:∀b,(b=a\/some T=some b)->¬ (Old X.s₀.heap b/\b∉X.ex)/\H' b=none/\b∉pinA X pins) (hx:RX X cls σ H') :
 compPost (model X.prog X.w) X.A X.xe use Q acc C (.error (.ref a)) s':=by
 have key:∃m,s'.heap.Ns C m/\∀h',Heap.SameBut C s'.heap h'->∀cenv:Env,cenv.locals=C->wpAny (model X.prog X.w) X.A (PySem.passOn "comprehension.variables-let-go" (.ref a) cenv:Sem Value) (λ_ _=>False) X.xe { s' with heap:=h' }:=by
  refine⟨m,hn,λh' hs cenv _=>?_⟩
  have I1:=hall σ s' h' I hs
  have ne:∀b o,s'.heap.get? b=some o->(∃vs,o.data=.fields vs)->b≠C:=λb o q ⟨vs,d⟩ z=>by
   obtain⟨oC,es,ep,ho,hd,_⟩:=hn
   rw[z,ho] at q
   cases q
   rw[hd] at d
   cases d
  have r1:Rec h' a cls (some T):=by
   obtain⟨oe,vs,he,hc,hdi,hd,h1,hTe,oT,ts,hT,hdT,fl,h3⟩:=r
   exact⟨oe,vs,(hs.2 a (ne a oe he ⟨vs,hd⟩)).trans he,hc,hdi,hd,h1,hTe,oT,ts,(hs.2 T (ne T oT hT ⟨ts,hdT⟩)).trans hT,hdT,fl,h3⟩
  unfold PySem.passOn
  obtain⟨oe,vs,he,_,_,hd,h1,_⟩:=id r1
  refine wpAny_bind (wpAny_field (s:={ s' with heap:=h' }) he hd h1 ?_)
  rw[if_neg (show ¬ ((Value.ref T==Value.none)=true) from by simp)]
  refine wpAny_bind (aFV (s:={ s' with heap:=h' }) r1 λh2 x2 r2=>?_)
  refine wpAny_throw ?_
  exact hx pins _ a (Inv.note (s:={ s' with heap:=h' }) (fr:=[]) I1 x2 (λb hb=>by cases hb) (λb hb=>.inr rfl) r1 nw) ⟨some T,r2,nw⟩
 cases use with
 | none=>exact key
 | some u=>exact key
theorem xD(CS:dE X scope k caps N')(hc:X.calm=true)(hi:PI X tg iter wi)
 (hch:∀C s₀ H₀ ex,PG (cM X scope N' C s₀ H₀ ex) tg g/\PTs (cM X scope N' C s₀ H₀ ex) ifs tt/\∀pl E W,PassesOwn (model X.prog X.w) X.A (cM X scope N' C s₀ H₀ ex).env E->Rs ((cM X scope N' C s₀ H₀ ex).inTry pl E) W->PE ((cM X scope N' C s₀ H₀ ex).inTry pl E) elt (te W)) (hWX:∀c σ H,WX c σ H->X.stack=X.env::X.outer/\RX X c σ H) (hs:∀x,foldedSetIterable iter X.env x=pure x) :
 PE X (.ListComp elt [⟨tg,iter,ifs,0⟩] scope pos) (aBo WX k caps wi g tt te):=by
 intro pins s σ H Q I h
 rw[eval_ListComp]
 refine wpAny_comprehension_free (use:=none) rfl hs (gI λn hn=>I.ok.has n (CS.free n hn)) CS.kind CS.loc (thn (hi pins s σ H _ I h) λxv s1 h1=>thn h1 λitv s2 h2=>?_)
 obtain⟨it,fp,tn,J,H2,e,I2,T,st2,f2,hw⟩:=h2
 subst e
 exact tR (RR:=λacc C=>compPost (model X.prog X.w) X.A X.xe none (EP X pins σ Q) acc C) (Q:=Q) CS hc I2 T st2 f2 hch hWX hw (λD C s' H' m a cls T I hn _ hall r nw hx=>tS I hn hall r nw hx) λD C s' H' m J hn _ hall q=>⟨m,hn,λh' hs'=>⟨.ref D,H',hall σ s' h' J hs',rfl,q⟩⟩
theorem vT{i:Nat}{x:Str}{pos' spos:Pos}(CS:dE X scope k caps N')(hc:X.calm=true)(hi:PI X tg iter wi)
 (hch:∀C s₀ H₀ ex,PG (cM X scope N' C s₀ H₀ ex) tg g/\PTs (cM X scope N' C s₀ H₀ ex) ifs tt/\∀pl E W,PassesOwn (model X.prog X.w) X.A (cM X scope N' C s₀ H₀ ex).env E->Rs ((cM X scope N' C s₀ H₀ ex).inTry pl E) W->PE ((cM X scope N' C s₀ H₀ ex).inTry pl E) elt (te W)) (hWX:∀c σ H,WX c σ H->X.stack=X.env::X.outer/\RX X c σ H) (hs:∀x,foldedSetIterable iter X.env x=pure x)
 (hN:X.N.Nodup) (hx':X.N[i]? = some x) (hx:Loc X.env.scope x) (hf:X.fn x=true\/X.env.scope.names.lookup x=some .local) :
 PS X (.Assign [.Name x pos'] (.ListComp elt [⟨tg,iter,ifs,0⟩] scope pos) spos) (aDh (aBo WX k caps wi g tt te) (pG i)):=by
 have hb:∃b,swapsWith (.ListComp elt [⟨tg,iter,ifs,0⟩] scope pos) (some (.Name x pos')) spos.line X.env=pure b:=⟨_,rfl⟩
 obtain⟨b,hb⟩:=hb
 cases b with
 | false=>exact qP hN hx' hx (xD CS hc hi hch hWX hs) hb hf
 | true=>
  intro pins s σ H D I h
  rw[exec_Assign_Name_used x pos' _ spos hb]
  refine wpAny_bind (wpAny_standAt (wpAny_bind ?_))
  show wpAny _ _ (comprehension (.ListComp elt [⟨tg,iter,ifs,0⟩] scope pos) scope X.env (firstIterPos [⟨tg,iter,ifs,0⟩] pos) (newList []) (firstAsync [⟨tg,iter,ifs,0⟩]) (firstIter [⟨tg,iter,ifs,0⟩] X.env) (some (assign (.Name x pos') X.env)) >>= λ_=>pure ()) _ _ s
  refine wpAny_bind (wpAny_comprehension_free (use:=some (assign (.Name x pos') X.env)) rfl hs (gI λn hn=>I.ok.has n (CS.free n hn)) CS.kind CS.loc (thn (hi pins s σ H _ I h) λxv s1 h1=>thn h1 λitv s2 h2=>?_))
  obtain⟨it,fp,tn,J,H2,e,I2,T,st2,f2,hw⟩:=h2
  subst e
  refine tR (Q:=λv H'=>D.nx (σ.set i (some v)) H') (RR:=λacc C=>compPost (model X.prog X.w) X.A X.xe (some (assign (.Name x pos') X.env)) (λ_ s'=>wpAny (model X.prog X.w) X.A (pure ()) (λ_ s'=>wpAny (model X.prog X.w) X.A (pure Flow.next) (SP X pins D) X.xe s') X.xe s') acc C) CS hc I2 T st2 f2 hch hWX hw (λD C s' H' m a cls T I hn _ hall r nw hx=>tS I hn hall r nw hx) λD' C s' H' m J hn lt hall q=>?_
  show wpAny _ _ (assign (.Name x pos') X.env (.ref D')) _ _ s'
  refine wpAny_assign_Name (pF (v:=V.ref D') J hN hx' hx rfl (λs'' J' hsb=>?_) hf)
  obtain⟨a,sb,ha⟩:=hsb
  refine⟨m,hn.sameBut sb ?_,λh' hs'=>?_⟩
  . rcases ha with z|z
    . rw[z];exact Nat.ne_of_gt (Nat.lt_trans I2.lt lt)
    . exact Nat.ne_of_gt (Nat.lt_trans (I2.cellLt z) lt)
  . exact wpAny_pure (wpAny_pure ⟨_,H',hall _ s'' h' J' hs',q⟩)
end
end L2
end
noncomputable section
set_option maxRecDepth 100000
namespace L2
open PySem PySem.Spec PyProof.Rows PySem.W
section
variable {prog:Program} {w:World} {A:Around} {E:Value->Shared->Prop} {K:PySem.W.Frag} {h:Heap} {g:Array GenState} {d:Drawn} {t:Nat} {os:OsState} {a C:Addr} {o:Obj}
theorem aBq{tk:Tok}{Q:PySem.Fin->Shared->Prop}(X:K.In h)(I:InstAt h a o C none)(g3:findIn K (.ref C) "__class__" = some (some (.builtin "object.__class__")))(hm:mroIn K C (.type "object")=some true)(hq:Q (.done (.ret (.ref C))) ⟨h,g,d,t,os⟩) :
 wpAny (model prog w) A (Builtin.«object.__getattribute__» ⟨[.ref a,.str "__class__" tk],[]⟩) Q E ⟨h,g,d,t,os⟩:=by
 have hx:=I.at_
 have hc:=I.cls
 have hT5:(⟨h,g,d,t,os⟩:Shared).TypeIs (.builtin "object.__class__") "getset_descriptor" := F.typeOf_object_class
 have f5:=F.typeOf_object_class
 have f6:=F.slot_gs_get.lookup
 have f7:=F.slot_gs_set.lookup
 repeat (any_goals (first|assumption|(with_reducible refine wpAny_loadPart_at hx ?_;rw[hc])|with_reducible refine(looks_findIn X g3).at ?_|wp_step))
 refine class_get (s:=⟨h,g,d,t,os⟩) X I hm ?_
 repeat (any_goals (first|assumption|wp_step))
theorem aBr{M:Model}{nameV:Value}{Q:Unit->Shared->Prop}(X:K.In h)(I:InstAt h a o C none)(hb:subIn K (.ref C) (.type "BaseException")=some true)(hq:Q () ⟨h,g,d,t,os⟩) :
 wpAny M A (checkBuiltinCall "BaseException.__getattribute__" ⟨[.ref a,nameV],[]⟩) Q E ⟨h,g,d,t,os⟩:=by
 have hk:builtinKind "BaseException.__getattribute__" = some .slot:=by decide +kernel
 have hsplit:splitId "BaseException.__getattribute__" = some ("BaseException", "__getattribute__"):=by decide +kernel
 have ha:=F.args_bexc_ga (.ref a) nameV
 have LI:Looks M h (isInstance (.ref a) (.type "BaseException")) true:=(I.type (M:=M)).andThen (looks_subIn X hb)
 simp only[checkBuiltinCall,hk,hsplit]
 refine wpAny_bind (LI.at ?_)
 repeat (first|wp_step)
 exact hq
theorem aDP{tk:Tok}{R:Result->Shared->Prop}(X:K.In h)(I:InstAt h a o C none)(hb:subIn K (.ref C) (.type "BaseException")=some true)(g3:findIn K (.ref C) "__class__" = some (some (.builtin "object.__class__")))(hm:mroIn K C (.type "object")=some true)(hq:R (.ok (.ret (.ref C))) ⟨h,g,d,t,os⟩) :
 codeAny (model prog w) A (.call (.builtin "BaseException.__getattribute__") ⟨[.ref a,.str "__class__" tk],[]⟩) R ⟨h,g,d,t,os⟩:=
 codeAny_call_builtin F.attrBase_ValueError.ga.plain F.entry_bexc_ga (aBr X I hb (aBq X I g3 hm hq))
theorem aIk{tk:Tok}{fill expr:Bool}{Q:Value->Shared->Prop}(X:K.In h)(I:InstAt h a o C none)(hb:subIn K (.ref C) (.type "BaseException")=some true)(g1:findIn K (.ref C) "__getattribute__" = some (some (.builtin "BaseException.__getattribute__")))(g2:findIn K (.ref C) "__getattr__" = some none)
 (g3:findIn K (.ref C) "__class__" = some (some (.builtin "object.__class__"))) (hm:mroIn K C (.type "object")=some true) (hq:Q (.ref C) ⟨h,g,d,t,os⟩) :
 wpAny (model prog w) A (getAttrBy (.ref a) (.str "__class__" tk) fill expr) Q E ⟨h,g,d,t,os⟩:=by
 have hx:=I.at_
 have hc:=I.cls
 have f3:=F.attrBase_ValueError.ga.bind (.ref a)
 have hx0:(expr&&onTheHeap (Value.builtin "BaseException.__getattribute__"))=false:=by cases expr <;> rfl
 have hx2:(Value.builtin "BaseException.__getattribute__" == Value.builtin "object.__getattribute__")=false:=by decide +kernel
 have hx1:(onTheHeap (Value.ref C)&&Value.builtin "BaseException.__getattribute__" == Value.builtin "object.__getattribute__")=false:=by rw[hx2];rfl
 repeat (any_goals (first|assumption|(with_reducible refine wpAny_loadPart_at hx ?_;rw[hc])|with_reducible refine(looks_findIn X g1).at ?_|with_reducible refine(looks_findIn X g2).at ?_|wp_step))
 refine aDP X I hb g3 hm ?_
 repeat (any_goals (first|assumption|wp_step))
theorem aDQ{Q:Option Value->Shared->Prop}(X:K.In h)(I:InstAt h a o C none)(hb:subIn K (.ref C) (.type "BaseException")=some true)(g1:findIn K (.ref C) "__getattribute__" = some (some (.builtin "BaseException.__getattribute__")))(g2:findIn K (.ref C) "__getattr__" = some none)
 (g3:findIn K (.ref C) "__class__" = some (some (.builtin "object.__class__"))) (hm:mroIn K C (.type "object")=some true) (hq:Q (some (.ref C)) ⟨h,g,d,t+1,os⟩):wpAny (model prog w) A (getAttr? (.ref a) "__class__") Q E ⟨h,g,d,t,os⟩:=by
 unfold getAttr? getAttrBy?
 repeat (any_goals (first|assumption|with_reducible apply aIk X I hb g1 g2 g3 hm|wp_step))
end
structure XC (K:PySem.W.Frag) (C:Addr):Prop where
 isc:(clsIn K C).isSome=true
 hb:subIn K (.ref C) (.type "BaseException")=some true
 g1:findIn K (.ref C) "__getattribute__" = some (some (.builtin "BaseException.__getattribute__"))
 g2:findIn K (.ref C) "__getattr__" = some none
 g3:findIn K (.ref C) "__class__" = some (some (.builtin "object.__class__"))
 hm:mroIn K C (.type "object")=some true
theorem tU{K:PySem.W.Frag}{a C:Addr}(c:XC K C):KitX K (.ref a) (.ref C) (λh=>∃o,InstAt h a o C none) where
 ty:=λ_ _ _ ⟨_,I⟩=>I.type
 it:=λ_ _ X _=>by
  obtain⟨cdD,hcD⟩:=Option.isSome_iff_exists.mp c.isc
  unfold clsIn at hcD
  split at hcD
  . rename_i c' d' cd' sl' ho
    intro A' Q' E' s' k q
    unfold isType loadHead
    exact wpAny_bind (wpAny_loadPart (k _ _ (X _ _ ho)) (wpAny_pure q))
  . cases hcD
 ne:=λh tp dd its n sl X htp=>by
  obtain⟨cdD,hcD⟩:=Option.isSome_iff_exists.mp c.isc
  refine Bool.eq_false_iff.mpr λq=>?_
  have e:C=tp:=Value.ref.inj (beq_iff_eq.mp q)
  subst e
  unfold clsIn at hcD
  split at hcD
  . rename_i c' d' cd' sl' ho
    have z:=(X _ _ ho).symm.trans htp
    cases z
  . cases hcD
 ca:=λ{prog w A E Q s} X ⟨o,I⟩ k=>by
  obtain⟨h,g,d,t,os⟩:=s
  exact aDQ X I c.hb c.g1 c.g2 c.g3 c.hm k
end L2
end
noncomputable section
namespace Hp
open PySem PySem.Spec PyProof.Rows L2
def Rr(K:Fg)(H H':Hp)(Y:Addr->Prop)(r:Rt)(u:V):Prop:=
 if r.2.1=true then ∃a xs ds,u=.ref a/\r.1=.lst ds/\H a=none/\H' a=some (.lst xs)/\Reps K H' (λb=>b=a\/Y b\/(r.2.2=false/\H b≠none)) ds xs
 else Rep K H' (λb=>Y b\/(r.2.2=false/\H b≠none)) r.1 u
def xE(K:Fg)(H:Hp)(E:XK):D->Prop
 | .err c _=>∀(cls:Value) (H':Hp),PySem.W.nsIn K mainGlobals c=some (some cls)->Tk K H'->aM H H'->E cls none H'
 | _=>False
def spF(K:Fg)(P:Pg)(n:Nat)(f:Nat):Sp:=λvs H Q E=>∃(ds:List D) (Y:Addr->Prop),(∀a,Y a->H a≠none)/\Reps K H Y ds vs/\RE (xE K H E) (call P n f ds) λr=>∀u H',Tk K H'->aM H H'->Rr K H H' Y r u->Q u H'
def bltNames:List Str:=["len", "list", "tuple", "min", "max", "abs", "int", "str", "sum", "all", "any", "sorted", "bool", "range", "zip", "enumerate", "reversed", "set", "isinstance", "dict", "repr", "ValueError"]
structure pS (K:Fg) (mg:Str->Option Value) (cls:List Str) (c:Str) (ab:List Cl) (C:Addr):Prop where
 bd:mg c=some (.ref C)
 ns:PySem.W.nsIn K mainGlobals c=some (some (.ref C))
 ex:PySem.W.excIn K C bmV "ValueError.__new__" = true
 xc:XC K C
 ve:PySem.W.kitOne K (.ref C) (.type "ValueError")=some (ab.contains .tValueError)
 ow:∀x∈cls,∃C2,mg x=some (.ref C2)/\PySem.W.kitOne K (.ref C) (.ref C2)=some (ab.contains (.own x))/\(ab.contains (.own x)=true->pR K C C2=true/\PySem.W.excIn K C2 bmV "ValueError.__new__" = true)
structure Md (X:Cx) (P:Pg) (Γ:Ct) (n:Nat):Prop where
 fn:∀(f:Nat) (x:Str),Γ.fns[f]? = some x->∃fa fd ps,X.mg x=some (.ref fa)/\PySem.W.keepIn X.K (.ref fa)=true/\lY X.K fd ps []/\qQ X.prog X.w X.K X.mg X.base (CX1 X.prog X.w) n fa fd ps (spF X.K P n f)
 blt:∀x∈bltNames,X.mg x=none
 cns:∀(x:Str) (d:D),Γ.cns.lookup x=some d->∃u v,X.mg x=some u/\bQ v u/\∀H ex,Rep X.K H ex d v
 tab:∀(i:Nat) (x:Str),Γ.tbs[i]? = some x->∃a t,X.mg x=some (.ref a)/\P.tabs[i]? = some t/\pQ X.prog X.w X.K a t
 exc:∀(c:Str) (ab:List Cl),P.above.lookup c=some ab->∃C,pS X.K X.mg Γ.cls c ab C
 rsd:∀c∈Γ.rsd,∃ab,P.above.lookup c=some ab
 cls:∀x∈Γ.cls,∃C2,X.mg x=some (.ref C2)
structure Mc (X:Cx) (P:Pg) (Γ:Ct) (n:Nat):Prop where
 md:Md X P Γ n
 N:X.N=Γ.N
 nd:X.N.Nodup
 sc:X.env.scope.names=Γ.sc
 calm:X.calm=true
 room:mJ n X.A
 own:PassesOwn (model X.prog X.w) X.A X.env X.xe
 st:∀x:Str,tJ Γ x=true->X.fn x=true\/X.env.scope.names.lookup x=some .local
 fk:X.env.scope.kind=.function
 stk:Γ.fn=true->X.stack=X.env::X.outer
section
variable {X:Cx} {P:Pg} {Γ:Ct} {n:Nat}
theorem Mc.inTry(M:Mc X P Γ n){pins:List (Addr×Obj)}{E:Value->Shared->Prop}(h:PassesOwn (model X.prog X.w) X.A X.env E):Mc (X.inTry pins E) P Γ n:=
 ⟨⟨M.md.fn,M.md.blt,M.md.cns,M.md.tab,M.md.exc,M.md.rsd,M.md.cls⟩,M.N,M.nd,M.sc,M.calm,M.room,h,M.st,M.fk,M.stk⟩
theorem Mc.units(M:Mc X P Γ n):X.A.units+200<cLine:=by have:=M.room.un;omega
theorem Mc.vis(M:Mc X P Γ n){x:Str}(h:aAZ Γ x=true):Vis X.env.scope x:=by
 unfold aAZ at h
 unfold Vis
 rw[M.sc]
 cases q:Γ.sc.lookup x with
 | none=>rw[q] at h;cases h
 | some k=>rw[q] at h;cases k <;> first|exact .inl rfl|exact .inr (.inl rfl)|exact .inr (.inr rfl)|cases h
theorem Mc.loc(M:Mc X P Γ n){x:Str}(h:tJ Γ x=true):L2.Loc X.env.scope x:=by
 unfold tJ at h
 unfold L2.Loc
 rw[M.sc]
 cases q:Γ.sc.lookup x with
 | none=>rw[q] at h;cases h
 | some k=>rw[q] at h;cases k <;> first|exact .inl rfl|exact .inr rfl|cases h
theorem Mc.gl(M:Mc X P Γ n){x:Str}(h:cS Γ x=true):Gl X x:=by
 unfold cS at h
 unfold Gl
 show X.env.scope.names.lookup x=_
 rw[M.sc]
 cases q:Γ.sc.lookup x with
 | none=>rw[q] at h;cases h
 | some k=>rw[q] at h;cases k <;> first|rfl|cases h
theorem aU{x:Str}(h:bM x=true):(x==("__debug__" : Str))=false:=by
 unfold bM at h
 simp only[bA,Bool.not_eq_true'] at h
 exact h.1
theorem iT{x:Str}(h:bM x=true):(x==("__classdict__" : Str))=false:=by
 unfold bM at h
 simp only[bA,Bool.not_eq_true'] at h
 exact h.2
theorem aFX:∀{d d':D},eqK d d'=true->d=d':=by
 intro d d' h
 cases d <;> cases d' <;> simp[eqK] at h <;> first|rfl|(subst h;rfl)
def aV:Expr->Bool
 | .Starred _ _=>false
 | .Slice _ _ _ _=>false
 | .Set _ _ _=>false
 | _=>true
theorem aBs{α:Type}{o:Option α}{f:α->Bool}(h:oB o f=true):∃a,o=some a/\f a=true:=by
 cases o with
 | none=>cases h
 | some a=>exact⟨a,rfl,h⟩
theorem aH{α:Type}{q:α->Prop}{o:Option { a:α // q a }}{f:α->Bool}(h:oS o f=true):∃a,q a/\f a=true:=by
 cases o with
 | none=>cases h
 | some a=>exact⟨a.1,a.2,h⟩
theorem aP{c:E}{e:Expr}(h:aY Γ c e=true):aV e=true:=by
 cases c with
 | c d=>
  rcases(Bool.or_eq_true _ _).mp (show(oS (asC e) (eqC d)||oS (asN e) λx=>cS Γ x&&bM x&&oB (Γ.cns.lookup x) (eqK d))=true from h) with h|h
  . obtain⟨_,⟨_,_,rfl⟩,_⟩:=aH h;rfl
  . obtain⟨_,⟨_,rfl⟩,_⟩:=aH h;rfl
 | v i=>obtain⟨_,⟨_,rfl⟩,_⟩:=aH h;rfl
 | op o a b=>obtain⟨_,⟨_,rfl⟩,_⟩:=aH h;rfl
 | neg _=>cases h
 | nt a=>obtain⟨_,⟨_,rfl⟩,_⟩:=aH h;rfl
 | an a b=>obtain⟨_,rfl,_⟩:=aH h;rfl
 | orr a b=>obtain⟨_,rfl,_⟩:=aH h;rfl
 | ife t a b=>obtain⟨_,⟨_,rfl⟩,_⟩:=aH h;rfl
 | cmp o a b=>obtain⟨_,⟨_,rfl⟩,_⟩:=aH h;rfl
 | dnin _ _=>cases h
 | dget _ _=>cases h
 | dlen _=>cases h
 | cmp2 o1 o2 a b c=>obtain⟨_,⟨_,rfl⟩,_⟩:=aH h;rfl
 | idx a b=>obtain⟨_,⟨_,rfl⟩,_⟩:=aH h;rfl
 | sli a lo hi=>obtain⟨_,⟨_,rfl⟩,_⟩:=aH h;rfl
 | tup es=>obtain⟨_,⟨_,_,rfl⟩,_⟩:=aH h;rfl
 | lst es=>obtain⟨_,⟨_,rfl⟩,_⟩:=aH h;rfl
 | call f es=>obtain⟨_,⟨_,_,rfl⟩,_⟩:=aH h;rfl
 | callP _ _ _=>cases h
 | bi b es=>obtain⟨_,⟨_,_,rfl⟩,_⟩:=aH h;rfl
 | mth _ _ _=>cases h
 | isi a cs=>obtain⟨_,⟨_,_,rfl⟩,_⟩:=aH h;rfl
 | comp k caps t it cond elt=>obtain⟨_,⟨_,rfl⟩,_⟩:=aH h;rfl
 | numset _=>cases h
 | tget i a=>obtain⟨_,⟨_,_,rfl,_⟩,_⟩:=aH h;rfl
 | lzip a b=>obtain⟨_,⟨_,_,rfl⟩,_⟩:=aH h;rfl
 | dic ks vs=>cases h
 | isx _ _=>obtain⟨_,⟨_,_,rfl⟩,_⟩:=aH h;rfl
theorem aA{e:Expr}{es:List Expr}{env:Env}(h:aV e=true):starEach (e::es) env=(false,eval e env)::starEach es env:=by
 cases e <;> first|rfl|cases h
theorem gX:∀{cs:Es} {es:List Expr},chkEs Γ cs es=true->es.all aV=true
 | .nil,[],_=>rfl
 | .nil,_::_,h=>by cases h
 | .cons _ _,[],h=>by cases h
 | .cons c cs,e::es,h=>by
  simp only[chkEs,bA] at h
  rw[List.all_cons,aP h.1,gX h.2]
  rfl
theorem dY{pos:Pos}{env:Env}:∀{es:List Expr},es.all aV=true->(backTo pos (starEach es env)).any (·.1)=false
 | [],_=>rfl
 | e::es,h=>by
  rw[List.all_cons,bA] at h
  rw[aA h.1]
  show(false||(backTo pos (starEach es env)).any (·.1))=false
  rw[dY h.2]
  rfl
theorem vU{e:Expr}(h:aV e=true):wU e:=by
 intro o i
 cases e <;> first|rfl|cases h
theorem lE{e:Expr}{env:Env}(h:aV e=true):∀x,foldedSetIterable e env x=pure x:=by
 intro x
 cases e <;> first|rfl|cases h
theorem nS{op:CmpOp}{e:Expr}(h:aV e=true):behindInMarks op e=false:=by
 cases e <;> first|rfl|cases h
variable {RT Y old:Addr->Prop} {σ:Sg} {pos:Pos}
abbrev WE(X:Cx)(P:Pg)(n:Nat)(RT Y old:Addr->Prop)(σ:Sg)(c:E):TE:=wE X P (call P n) RT Y old σ c
abbrev WT(X:Cx)(P:Pg)(n:Nat)(RT Y old:Addr->Prop)(σ:Sg)(c:E):TT:=wT X P (call P n) RT Y old σ c
abbrev WA(X:Cx)(P:Pg)(n:Nat)(RT Y old:Addr->Prop)(σ:Sg)(c:Es):TA:=wA X P (call P n) RT Y old σ c
theorem RE.bind'{α β:Type}{x:R α}{f:α->R β}{p:β->Prop}{w:D->Prop}(h:RE w (x >>= f) p):RE w x λa=>RE w (f a) p:=by rwa [RE.bind] at h
theorem RE.calmEq{α:Type}{x:R α}{p:α->Prop}{w:D->Prop}(h:RE w x.calm p):∃a,x=.ok a/\p a:=by
 cases x with
 | ok a=>exact⟨a,rfl,h⟩
 | exc e=>exact h.elim
 | bad=>exact h.elim
theorem wE.one{a:E}{σV:L2.St}{H:Hp}{p:Vl->Prop}{Q:V->Hp->Prop}(S:Sx X.K RT Y old σ σV H)(h:RE (wx X σV H) (ev P (call P n) σ a) p)
 (f:∀x u H',p x->Tk X.K H'->Sx X.K RT Y old σ σV H'->Ro X.K RT Y old σ σV H H' x u->Q u H'):WE X P n RT Y old σ a σV H Q:=
 ⟨S,h.mono λx hx u H' t r=>f x u H' hx t (S.grow r.1 t) r⟩
theorem aKH{o:Operator}{a b:E}{ea eb:Expr}(ha:PE X ea (WE X P n RT Y old σ a))(hb:PE X eb (WE X P n RT Y old σ b)):PE X (.BinOp ea o eb pos) (WE X P n RT Y old σ (.op o a b)):=by
 intro pins s σV H Q I hw
 obtain⟨S,h⟩:=hw
 have h:=RE.bind' (show RE _ (ev P (call P n) σ a >>= λx=>ev P (call P n) σ b >>= λy=>opD o x y) _ from h)
 refine wpAny_BinOp (thn (ha pins s σV H (λux H1=>WE X P n RT Y old σ b σV H1 λuy H2=>∃x y,Sx X.K RT Y old σ σV H2/\aM H H2/\Rv X.K RT Y old σ σV H2 x ux/\Rv X.K RT Y old σ σV H2 y uy/\(x.fr=true->∃a xs,ux=.ref a/\H2 a=some (.lst xs))/\RE (λ_=>True) (opD o x y) (Wn X RT Y old σ σV H Q)) I
  (wE.one S h λx u H1 hx t1 S1 r1=>wE.one S1 ((RE.bind' hx).at r1.1) λy u' H2 hy t2 S2 r2=>⟨x,y,S2,r1.1.trans r2.1,(r1.rv S).grow r2.1,r2.rv S1,λhf=>?_,hy.weak λ_ _=>trivial⟩)) λv s1 ⟨x',H1,I1,rx,q1⟩=>thn (hb pins s1 σV H1 _ I1 q1) λu s2 ⟨y',H2,I2,ry,q2⟩=>?_)
 . have:=r1.2
   rw[if_pos hf] at this
   obtain⟨a',xs,ds,e1,_,_,e4,_⟩:=this
   exact⟨a',xs,e1,r2.1 _ _ e4⟩
 . obtain⟨x,y,S2,sm,hx,hy,hf,h⟩:=q2
   exact aBe I2 S2 rx ry hx hy hf (h.mono λv hv u H' t r=>hv u H' t (r.from sm))
theorem aBt{H:Hp}{σV:L2.St}{x:Vl}{u:V}{k:Bool}(hx:Rv X.K RT Y old σ σV H x u)(h:zC x.d=some k):aDn X.K u H k:=by
 unfold zC at h
 split at h
 . rename_i d;rw[hx.non d];exact(Option.some.inj h).symm
 . rename_i b d;rw[hx.bl d];exact(Option.some.inj h).symm
 . rename_i i d;rw[hx.int d];exact(Option.some.inj h).symm
 . rename_i z d
   by_cases hl:z.length<=lim
   . rw[if_pos hl] at h
     rw[hx.str d]
     refine⟨eK hl,?_⟩
     rw[<-Option.some.inj h]
     cases hz:z.length with
     | zero=>rfl
     | succ m=>simp;omega
   . rw[if_neg hl] at h;cases h
 . rename_i ds d
   obtain⟨a,xs,e,q,r⟩:=hx.tup d
   rw[e]
   refine .inr (.inl ⟨xs,q,?_⟩)
   rw[<-Option.some.inj h]
   have:=r.length
   cases ds <;> cases xs <;> first|rfl|(simp at this)
 . rename_i ds d
   obtain⟨a,xs,e,q,_,r⟩:=hx.lst d
   rw[e]
   refine .inl ⟨xs,q,?_⟩
   rw[<-Option.some.inj h]
   have:=r.length
   cases ds <;> cases xs <;> first|rfl|(simp at this)
 . cases h
theorem RE.tru{x:Vl}{p:Bool->Prop}{w:D->Prop}(h:RE w (fA x) p):∃k,zC x.d=some k/\p k:=by
 unfold fA at h
 cases q:zC x.d with
 | none=>rw[q] at h;exact h.elim
 | some k=>rw[q] at h;exact⟨k,rfl,h⟩
theorem aIl{a:E}{ea:Expr}(ha:PE X ea (WE X P n RT Y old σ a)):PE X (.UnaryOp .Not ea pos) (WE X P n RT Y old σ (.nt a)):=by
 intro pins s σV H Q I hw
 obtain⟨S,h⟩:=hw
 have h:=RE.bind' (show RE _ (ev P (call P n) σ a >>= λx=>fA x >>= λk=>R.ok (Vl.cl (.bl (!k)))) _ from h)
 refine UnaryOp_ (thn (ha pins s σV H (λu H1=>∃k,aDn X.K u H1 k/\Q (.bl (!k)) H1) I (wE.one S h λx u H1 hx t1 S1 r1=>?_)) λv s1 ⟨u,H1,I1,ru,k,hk,q⟩=>?_)
 . obtain⟨k,hk,hp⟩:=RE.tru (RE.bind' hx)
   exact⟨k,aBt (r1.rv S) hk,(show Wn X RT Y old σ σV H Q (Vl.cl (.bl (!k))) from hp) _ _ t1 (Ro.cl r1.1 rfl)⟩
 . refine not_of (thn (aAE pins s1 σV H1 u v (λk' H'=>k'=k/\H'=H1) I1 ru ⟨k,hk,rfl,rfl⟩) λb s2 ⟨H2,I2,e1,e2⟩=>?_)
   subst e1 e2
   exact⟨.bl (!b),H2,I2,rfl,q⟩
theorem nT{c:E}{e:Expr}(ha:PE X e (WE X P n RT Y old σ c))(he:∀whole,isTrue e X.env whole=(do let v<-whole;standAt e.pos;holding [v] (truthy v)))
 (hc:∀w p,RE w (tst P (call P n) σ c) p->RE w (ev P (call P n) σ c) λx=>RE w (fA x) p):PT X e (WT X P n RT Y old σ c):=by
 refine(aAF ha he).imp λσV H Q t ⟨S,h⟩=>?_
 refine wE.one S (hc _ _ h) λx u H1 hx t1 S1 r1=>?_
 obtain⟨k,hk,hp⟩:=RE.tru hx
 exact⟨k,aBt (r1.rv S) hk,λt'=>hp _ t' r1.1⟩
theorem aIm{a b:E}{ea eb:Expr}{r:List Expr}(ha:PE X ea (WE X P n RT Y old σ a))(hb:PE X (.BoolOp .And (eb::r) pos) (WE X P n RT Y old σ b)):PE X (.BoolOp .And (ea::eb::r) pos) (WE X P n RT Y old σ (.an a b)):=by
 refine(aFr ha hb).imp λσV H Q t ⟨S,h⟩=>?_
 have h:=RE.bind' (show RE _ (ev P (call P n) σ a >>= λx=>(match x.d with|.bl true=>ev P (call P n) σ b|.bl false=>R.ok (Vl.cl (.bl false))|_=>.bad)) _ from h)
 refine wE.one S h λx u H1 hx t1 S1 r1=>?_
 split at hx
 . rename_i d1
   refine⟨true,(r1.rv S).bl d1,?_⟩
   rw[if_pos rfl]
   exact⟨S1,(hx.at r1.1).mono λv hv u H' t r=>λ_=>hv u H' t (r.from r1.1)⟩
 . rename_i d1
   refine⟨false,(r1.rv S).bl d1,?_⟩
   rw[if_neg bN]
   exact λt'=>hx _ _ t' (Ro.cl r1.1 rfl)
 . exact hx.elim
theorem aEU{a b:E}{ea eb:Expr}{r:List Expr}(ha:PE X ea (WE X P n RT Y old σ a))(hb:PE X (.BoolOp .Or (eb::r) pos) (WE X P n RT Y old σ b)):PE X (.BoolOp .Or (ea::eb::r) pos) (WE X P n RT Y old σ (.orr a b)):=by
 refine(aHr ha hb).imp λσV H Q t ⟨S,h⟩=>?_
 have h:=RE.bind' (show RE _ (ev P (call P n) σ a >>= λx=>(match x.d with|.bl true=>R.ok (Vl.cl (.bl true))|.bl false=>ev P (call P n) σ b|_=>.bad)) _ from h)
 refine wE.one S h λx u H1 hx t1 S1 r1=>?_
 split at hx
 . rename_i d1
   refine⟨true,(r1.rv S).bl d1,?_⟩
   rw[if_pos rfl]
   exact λt'=>hx _ _ t' (Ro.cl r1.1 rfl)
 . rename_i d1
   refine⟨false,(r1.rv S).bl d1,?_⟩
   rw[if_neg bN]
   exact⟨S1,(hx.at r1.1).mono λv hv u H' t r=>λ_=>hv u H' t (r.from r1.1)⟩
 . exact hx.elim
theorem aIn{t a b:E}{et ea eb:Expr}(ht:PT X et (WT X P n RT Y old σ t))(ha:PE X ea (WE X P n RT Y old σ a))(hb:PE X eb (WE X P n RT Y old σ b)):PE X (.IfExp et ea eb pos) (WE X P n RT Y old σ (.ife t a b)):=by
 refine(aAt ht ha hb).imp λσV H Q t0 ⟨S,h⟩=>?_
 have h:=RE.bind' (show RE _ (tst P (call P n) σ t >>= λx=>if x=true then ev P (call P n) σ a else ev P (call P n) σ b) _ from h)
 refine⟨S,h.mono λk hk H1 t1 s1=>?_⟩
 cases k with
 | true=>rw[if_pos rfl] at hk ⊢;exact⟨S.grow s1 t1,(hk.at s1).mono λv hv u H' t r=>λ_=>hv u H' t (r.from s1)⟩
 | false=>rw[if_neg bN] at hk ⊢;exact⟨S.grow s1 t1,(hk.at s1).mono λv hv u H' t r=>λ_=>hv u H' t (r.from s1)⟩
def w2(X:Cx)(P:Pg)(n:Nat)(RT Y old:Addr->Prop)(σ:Sg)(σV:L2.St)(H:Hp)(p:Vl->Vl->Prop)(ux uy:V)(H2:Hp):Prop:=
 ∃x y,Sx X.K RT Y old σ σV H2/\aM H H2/\Rv X.K RT Y old σ σV H2 x ux/\Rv X.K RT Y old σ σV H2 y uy/\p x y
theorem iU(M:Mc X P Γ n)(o:CmpOp):OpR X (compareOp o) (λux uy H Q=>∃(σ:Sg) (σV:L2.St) (x y:Vl) (k:Bool),Rv X.K RT Y old σ σV H x ux/\Rv X.K RT Y old σ σV H y uy/\cT o x.d y.d=some k/\Q (.bl k) H):=by
 intro pins s σV H ux uy v u Q I rx ry h
 obtain⟨σ',σV',x,y,k,hx,hy,hk,q⟩:=h
 exact zG I M.units rx ry hx hy hk q
theorem aIo(M:Mc X P Γ n){o:CmpOp}{a b:E}{ea eb:Expr}(ha:PE X ea (WE X P n RT Y old σ a))(hb:PE X eb (WE X P n RT Y old σ b))(hp:aV eb=true):PE X (.Compare ea [o] [eb] pos) (WE X P n RT Y old σ (.cmp o a b)):=by
 refine(aDl (iU (RT:=RT) (Y:=Y) (old:=old) M o) ha hb (nS hp)).imp λσV H Q t ⟨S,h⟩=>?_
 have h:=RE.bind' (show RE _ (ev P (call P n) σ a >>= λx=>ev P (call P n) σ b >>= λy=>(match cT o x.d y.d with|some k=>R.ok (Vl.cl (.bl k))|none=>.bad)) _ from h)
 refine wE.two S (h.mono λx hx=>RE.bind' hx) λx y ux uy H2 hp t2 s2 S2 hx hy=>?_
 split at hp
 . rename_i k hk
   exact⟨σ,σV,x,y,k,hx,hy,hk,λt'=>hp _ _ t' (Ro.cl s2 rfl)⟩
 . exact hp.elim
theorem aIp(M:Mc X P Γ n){o:CmpOp}{a b:E}{ea eb:Expr}(ha:PE X ea (WE X P n RT Y old σ a))(hb:PE X eb (WE X P n RT Y old σ b))(hp:aV eb=true):PT X (.Compare ea [o] [eb] pos) (WT X P n RT Y old σ (.cmp o a b)):=by
 refine(aDm (iU (RT:=RT) (Y:=Y) (old:=old) M o) ha hb (nS hp)).imp λσV H Q t ⟨S,h⟩=>?_
 have h:=RE.bind' (show RE _ (ev P (call P n) σ a >>= λx=>ev P (call P n) σ b >>= λy=>(match cT o x.d y.d with|some k=>R.ok k|none=>.bad)) _ from h)
 refine wE.two S (h.mono λx hx=>RE.bind' hx) λx y ux uy H2 hp t2 s2 S2 hx hy=>?_
 split at hp
 . rename_i k hk
   exact⟨σ,σV,x,y,k,hx,hy,hk,k,rfl,λt'=>hp _ t' s2⟩
 . exact hp.elim
theorem aIq{a b:E}{ea eb:Expr}(ha:PE X ea (WE X P n RT Y old σ a))(hb:PE X eb (WE X P n RT Y old σ b))(hp:aV eb=true):PE X (.Subscript ea eb pos) (WE X P n RT Y old σ (.idx a b)):=by
 refine(aHK aFJ ha hb (vU hp)).imp λσV H Q t ⟨S,h⟩=>?_
 have h:=RE.bind' (show RE _ (ev P (call P n) σ a >>= λx=>ev P (call P n) σ b >>= λy=>bW x y) _ from h)
 refine wE.two S (h.mono λx hx=>RE.bind' hx) λx y ux uy H2 hp t2 s2 S2 hx hy=>?_
 exact zH t2 hx hy (hp.mono λv hv u H' t r=>hv u H' t (r.from s2))
theorem tV:PA X [] (WA X P n RT Y old σ .nil):=gL.imp λσV H Q t ⟨S,h⟩ t'=>h [] H t' (aM.refl H) rfl
theorem gY{c:E}{cs:Es}{e:Expr}{es:List Expr}(ha:PE X e (WE X P n RT Y old σ c))(hr:PA X es (WA X P n RT Y old σ cs))(hp:aV e=true):PA X (e::es) (WA X P n RT Y old σ (.cons c cs)):=by
 refine(eS ha hr (aA hp)).imp λσV H Q t ⟨S,h⟩=>?_
 have h:=RE.bind' (show RE _ (ev P (call P n) σ c >>= λx=>evs P (call P n) σ cs >>= λxs=>R.ok (x::xs)) _ from h)
 refine wE.one S h λx u H1 hx t1 S1 r1=>⟨S1,((RE.bind' hx).at r1.1).mono λvs hv us H2 t2 s2 r2 t'=>?_⟩
 exact hv (u::us) H2 t' (r1.1.trans s2) ⟨u,us,rfl,(r1.rv S).grow s2,r2⟩
theorem rL:∀{cs:Es} {es:List Expr} {vs:List Vl},chkEs Γ cs es=true->evs P (call P n) σ cs=.ok vs->vs.length=es.length
 | .nil,[],vs,_,h=>by cases(show R.ok []=R.ok vs from h);rfl
 | .nil,_::_,_,h,_=>by cases h
 | .cons _ _,[],_,h,_=>by cases h
 | .cons c cs,e::es,vs,hc,h=>by
  simp only[chkEs,bA] at hc
  have h:(ev P (call P n) σ c >>= λx=>evs P (call P n) σ cs >>= λxs=>R.ok (x::xs))=R.ok vs:=h
  cases q1:ev P (call P n) σ c with
  | ok x=>
   cases q2:evs P (call P n) σ cs with
   | ok xs=>
    rw[q1] at h
    have h:(evs P (call P n) σ cs >>= λxs=>R.ok (x::xs))=R.ok vs:=h
    rw[q2] at h
    cases(show R.ok (x::xs)=R.ok vs from h)
    rw[lC,lC,rL hc.2 q2]
   | exc z=>rw[q1] at h;have h:(evs P (call P n) σ cs >>= λxs=>R.ok (x::xs))=R.ok vs:=h;rw[q2] at h;cases h
   | bad=>rw[q1] at h;have h:(evs P (call P n) σ cs >>= λxs=>R.ok (x::xs))=R.ok vs:=h;rw[q2] at h;cases h
  | exc z=>rw[q1] at h;cases h
  | bad=>rw[q1] at h;cases h
theorem RE.with{α:Type}{x:R α}{p:α->Prop}{w:D->Prop}(h:RE w x p):RE w x λa=>x=.ok a/\p a:=by
 cases x with
 | ok a=>exact⟨rfl,h⟩
 | exc e=>exact h
 | bad=>exact h
theorem aIr{cs:Es}{es:List Expr}{k:Nat}(ha:PA X es (WA X P n RT Y old σ cs))(hc:chkEs Γ cs es=true)(hl:es.length<=1000):PE X (.Tuple es k pos) (WE X P n RT Y old σ (.tup cs)):=by
 refine(aAG ha).imp λσV H Q t ⟨S,h⟩=>?_
 have h:=RE.bind' (show RE _ (evs P (call P n) σ cs >>= λvs=>R.ok (cW vs)) _ from h)
 refine⟨S,h.with.mono λvs ⟨e,hv⟩ us H1 t1 s1 r1=>?_⟩
 have hn:us.length<=sizeLine:=by rw[<-r1.length,rL hc e,sizeLine_eq];omega
 exact⟨hn,λp hp t'=>(show Wn X RT Y old σ σV H Q (cW vs) from hv) _ _ t' ((Ro.tup hp rfl rfl r1.all).from s1)⟩
theorem aIs{cs:Es}{es:List Expr}(ha:PA X es (WA X P n RT Y old σ cs))(hc:chkEs Γ cs es=true)(hl:es.length<=1000):PE X (.List es pos) (WE X P n RT Y old σ (.lst cs)):=by
 refine(aFE ha).imp λσV H Q t ⟨S,h⟩=>?_
 have h:=RE.bind' (show RE _ (evs P (call P n) σ cs >>= λvs=>R.ok (gM vs)) _ from h)
 refine⟨S,h.with.mono λvs ⟨e,hv⟩ us H1 t1 s1 r1=>?_⟩
 have hn:us.length<=sizeLine:=by rw[<-r1.length,rL hc e,sizeLine_eq];omega
 exact⟨hn,λp hp t'=>(show Wn X RT Y old σ σV H Q (gM vs) from hv) _ _ t' ((Ro.fresh hp t' rfl rfl (S.grow s1 t1) r1.all).from s1)⟩
theorem aDR:∀b:Bi,aBa b=true->bootBuiltins (jK b)=some (aET b):=by
 intro b hb
 cases b <;> first|kernel_rfl|cases hb
theorem jM:∀b:Bi,jK b∈bltNames:=by
 intro b
 cases b <;> decide +kernel
theorem lF:∀b:Bi,jK b ≠ "__name__" := by
 intro b
 cases b <;> decide +kernel
theorem aKI(M:Mc X P Γ n){b:Bi}{cs:Es}{x:Str}{p:Pos}{e:Expr}{es:List Expr}(hb:aBa b=true)(hx:jK b=x)(hg:cS Γ x=true)(ho:bM x=true)(ha:PA X (e::es) (WA X P n RT Y old σ cs))(hp:(e::es).all aV=true) :
 PE X (.Call (.Name x p) (e::es) [] pos) (WE X P n RT Y old σ (.bi b cs)):=by
 subst hx
 have hp':aV e=true/\es.all aV=true:=by simpa using hp
 have body:∀(f:PE X (.Call (.Name (jK b) p) (e::es) [] pos) (tCB (rBi X b) (WA X P n RT Y old σ cs))),PE X (.Call (.Name (jK b) p) (e::es) [] pos) (WE X P n RT Y old σ (.bi b cs)):=λf=>f.imp λσV H Q t ⟨S,h⟩=>by
  have h:=RE.bind' (show RE _ (evs P (call P n) σ cs >>= λvs=>biD b vs) _ from h)
  refine⟨S,h.mono λvs hv us H1 t1 s1 r1=>?_⟩
  exact aBj hb (S.grow s1 t1) r1 (hv.mono λv hv u H' t r=>hv u H' t (r.from s1))
 refine body ?_
 have r:=aDK M.calm M.room.gd M.units b hb
 have bo:=aDR b hb
 cases b with
 | len=>exact aAH r (M.gl hg) (M.md.blt _ (jM _)) bo ha (lF _) (aU ho) (aA hp'.1) (dY hp'.2)
 | list=>exact pL r (M.gl hg) (M.md.blt _ (jM _)) bo ha (lF _) (aU ho) (aA hp'.1) (dY hp'.2)
 | int=>exact pL r (M.gl hg) (M.md.blt _ (jM _)) bo ha (lF _) (aU ho) (aA hp'.1) (dY hp'.2)
 | _=>cases hb
theorem xF{σV:L2.St}{H H1 H':Hp}{vs:List Vl}{r:Rt}{u:V}(S1:Sx X.K RT Y old σ σV H1)(s1:aM H H1)(s':aM H1 H')(h:Rr X.K H1 H' (λb=>H1 b≠none/\exV RT Y old σ σV (eX vs) (bH vs) b) r u) :
 Ro X.K RT Y old σ σV H H' (fB vs r) u:=by
 obtain⟨d,fr,pa⟩:=r
 have key:∀b,exV RT Y old σ σV (fB vs (d,fr,pa)).pa (fB vs (d,fr,pa)).al b->(H1 b≠none/\exV RT Y old σ σV (eX vs) (bH vs) b)\/(pa=false/\H1 b≠none):=by
  intro b z
  have tk:=exV.trk S1 z
  cases pa with
  | true=>exact .inl ⟨tk,z⟩
  | false=>exact .inr ⟨rfl,tk⟩
 have efr:(fB vs (d,fr,pa)).fr=fr:=by unfold fB;split <;> rfl
 have ed:(fB vs (d,fr,pa)).d=d:=by unfold fB;split <;> rfl
 refine⟨s1.trans s',?_⟩
 rw[efr]
 unfold Rr at h
 cases fr with
 | true=>
  rw[if_pos rfl] at h ⊢
  obtain⟨a,xs,ds,e1,e2,e3,e4,rr⟩:=h
  exact⟨a,xs,ds,e1,by rw[ed];exact e2,s1.free e3,e4,rr.weak λb z=>z.elim (λz=>.inl z) λz=>.inr (key b z)⟩
 | false=>
  rw[if_neg bN] at h ⊢
  unfold Rv
  rw[ed]
  exact Rep.weak h key
theorem aBu{f:Nat}{cs:Es}{σV:L2.St}{H:Hp}{Q:VK}(S:Sx X.K RT Y old σ σV H)(h:RE (wx X σV H) (ev P (call P n) σ (.call f cs)) (Wn X RT Y old σ σV H Q)) :
 WA X P n RT Y old σ cs σV H λus H1=>spF X.K P n f (us++[]) H1 (λv H'=>Tk X.K H'->Q v H') (λc _ H'=>RX X c σV H'):=by
 have h:=RE.bind' (show RE _ (evs P (call P n) σ cs >>= λvs=>call P n f (vs.map (·.d)) >>= λr=>R.ok (fB vs r)) _ from h)
 refine⟨S,h.mono λvs hv us H1 t1 s1 r1=>?_⟩
 have S1:=S.grow s1 t1
 refine⟨vs.map (·.d),λb=>H1 b≠none/\exV RT Y old σ σV (eX vs) (bH vs) b,λa z=>z.1,by rw[List.append_nil];exact r1.all.weak λa z=>z.2,((RE.bind' hv).weak λx hx=>?_).mono λr hr u H' t' s' rr _=>?_⟩
 . cases x with
   | err c fs=>exact λcls H' q t' s'=>hx H' t' (s1.trans s') cls q
   | _=>exact(hx H1 t1 s1).elim
 exact(show Wn X RT Y old σ σV H Q (fB vs r) from hr) u H' t' (xF S1 s1 s' rr)
theorem aFY(M:Mc X P Γ n){f:Nat}{cs:Es}{x:Str}{p:Pos}{es:List Expr}(hf:Γ.fns[f]? = some x)(hg:cS Γ x=true)(ho:bM x=true)(ha:PA X es (WA X P n RT Y old σ cs))(hp:es.all aV=true)(hc:chkEs Γ cs es=true) :
 PE X (.Call (.Name x p) es [] pos) (WE X P n RT Y old σ (.call f cs)):=by
 obtain⟨fa,fd,ps,h1,h2,h3,h4⟩:=M.md.fn f x hf
 cases es with
 | cons e es=>
  have hp':aV e=true/\es.all aV=true:=by simpa using hp
  intro pins s σV H Q I h
  have hw:=aBu h.1 h.2
  refine wpAny_Call_Name_kw (iR I (M.gl hg) h1 ?_ (aU ho))
  refine PySem.W.callWith_K (h₀:=X.base) I.ok.mod.kin h2 (thn (ha pos pins s σV H _ I hw) λus s1 ⟨vs,H1,I1,r,q⟩=>⟨I1.kIn,?_⟩) (aA hp'.1) (dY hp'.2)
  exact thn (rH h4 M.room h3 .nil (xA X) I1 r q) λu s2 z=>EP.tk z
 | nil=>
  cases cs with
  | cons _ _=>cases hc
  | nil=>
   intro pins s σV H Q I h
   have hw:=(aBu h.1 h.2).2 [] H I.tk (aM.refl H) rfl
   refine wpAny_Call_Name_kw (iR I (M.gl hg) h1 ?_ (aU ho))
   exact PySem.W.callWith_K0 I.kIn h2 (thn (rH (us:=[]) h4 M.room h3 .nil (xA X) I .nil hw) λu s2 z=>EP.tk z)
theorem aFZ(M:Mc X P Γ n){i:Nat}{a:E}{m x:Str}{p ap:Pos}{ea:Expr}(hm:m=("get" : Str))(hx:Γ.tbs[i]? = some x)(hg:cS Γ x=true)(ho:bM x=true)(hl:(ap.endLine==pos.line)=true)
 (ha:PE X ea (WE X P n RT Y old σ a)) (hp:aV ea=true):PE X (.Call (.Attribute (.Name x p) m ap) [ea] [] pos) (WE X P n RT Y old σ (.tget i a)):=by
 subst hm
 obtain⟨b,t,h1,h2,h3⟩:=M.md.tab i x hx
 refine(aDL h3 (M.gl hg) h1 (aU ho) ha hl (aA hp)).imp λσV H Q tk ⟨S,h⟩=>?_
 have h:=RE.bind' (show RE _ (ev P (call P n) σ a >>= λx=>(match x.d,P.tabs[i]? with|.str k,some t=>R.ok (Vl.cl ((t.lookup k).getD .non))|_,_=>.bad)) _ from h)
 refine wE.one S h λy u H1 hy t1 S1 r1=>?_
 rw[h2] at hy
 cases hd:y.d with
 | str k=>
  rw[hd] at hy
  have hu:u=.str k:=by
   have z:=r1.rv S
   unfold Rv at z
   rw[hd] at z
   exact z
  exact⟨k,hu,λv hv t'=>(show Wn X RT Y old σ σV H Q (Vl.cl ((t.lookup k).getD .non)) from hy) v H1 t' (Ro.val r1.1 (hv H1))⟩
 | _=>rw[hd] at hy;exact hy.elim
theorem zM{c:Cl}{cv:Value}{x:Str}(hc:tP c=some cv)(hx:vM Γ c=some x):bootBuiltins x=some cv/\x∈bltNames/\x ≠ "__name__" := by
 cases c <;> cases hc <;> cases hx <;> exact⟨by kernel_rfl,by decide +kernel,by decide +kernel⟩
theorem aIt(M:Mc X P Γ n){a:E}{c:Cl}{cv:Value}{f x:Str}{pf py:Pos}{ea:Expr}(hf:f=("isinstance" : Str))(hg:cS Γ f=true)(hc:tP c=some cv)(hx:vM Γ c=some x)(hgx:cS Γ x=true)(hox:bM x=true)
 (ha:PE X ea (WE X P n RT Y old σ a)) (hp:aV ea=true):PE X (.Call (.Name f pf) [ea,.Name x py] [] pos) (WE X P n RT Y old σ (.isi a [c])):=by
 subst hf
 intro pins s σV H Q I hw
 obtain⟨S,h⟩:=hw
 have h:=RE.bind' (show RE _ (ev P (call P n) σ a >>= λx=>(match isI [c] P x.d with|some k=>R.ok (Vl.cl (.bl k))|none=>.bad)) _ from h)
 obtain⟨b1,b2,b3⟩:=zM hc hx
 refine wpAny_Call_Name_kw (eV I (M.gl hg) (M.md.blt _ (by decide +kernel)) (show bootBuiltins "isinstance" = some (.builtin "isinstance") by kernel_rfl) ?_ (by decide +kernel) (by decide +kernel))
 refine PyProof.Rows.callWith_builtin1 ?_ (aA hp) rfl
 rw[aA hp]
 show wpAny _ _ (spliced ((false,eval ea X.env)::backTo pos (starEach [.Name x py] X.env))) _ _ s
 refine Calls.spliced_cons (thn (ha pins s σV H (λu H1=>∃y k,Rv X.K RT Y old σ σV H1 y u/\isI [c] P y.d=some k/\Q (.bl k) H1) I (wE.one S h λy u H1 hy t1 S1 r1=>?_)) λv s1 ⟨u,H1,I1,ru,y,k,hy,hk,q⟩=>?_)
 . split at hy
   . rename_i k hk
     exact⟨y,k,r1.rv S,hk,(show Wn X RT Y old σ σV H Q (Vl.cl (.bl k)) from hy) _ _ t1 (Ro.cl r1.1 rfl)⟩
   . exact hy.elim
 . show wpAny _ _ (spliced ((false,eval (.Name x py) X.env)::backTo pos (starEach [] X.env))) _ _ s1
   refine Calls.spliced_cons (eV I1 (M.gl hgx) (M.md.blt _ b2) b1 (Calls.spliced_nil ?_) b3 (aU hox))
   exact zK P I1 ru hy hc hk q
def aBv(X:Cx)(cls:List Str):Cl->V->Prop
 | .own x,v=>x∈cls/\∃C2,X.mg x=some (.ref C2)/\v=.ref C2
 | .tValueError,v=>v=.ty "ValueError"
 | _,_=>False
def xG(X:Cx)(cls:List Str):List Cl->List V->Prop
 | [],vs=>vs=[]
 | c::cs,vs=>∃v r,vs=v::r/\aBv X cls c v/\xG X cls cs r
def ClV(X:Cx)(cls:List Str)(cs:List Cl)(v:V)(H:Hp):Prop:=(∃c,cs=[c]/\aBv X cls c v)\/∃p vs,v=.ref p/\SqT X.K H p vs/\xG X cls cs vs
theorem aBw{c:Str}{ab:List Cl}{C:Addr}(E:pS X.K X.mg Γ.cls c ab C){z:Cl}{v:V}{u:Value}(h:aBv X Γ.cls z v)(r:bQ v u):PySem.W.kitOne X.K (.ref C) u=some (ab.contains z):=by
 cases z with
 | own x=>
  obtain⟨hm,C2,h1,rfl⟩:=h
  obtain⟨C2',q1,q2,_⟩:=E.ow x hm
  rw[h1] at q1
  cases q1
  cases r
  exact q2
 | tValueError=>
  have h:v=.ty "ValueError" := h
  subst h
  cases r
  exact E.ve
 | _=>exact h.elim
theorem aBx{c:Str}{ab:List Cl}{C:Addr}(E:pS X.K X.mg Γ.cls c ab C):∀{cs:List Cl} {vs:List V} {us:List Value},xG X Γ.cls cs vs->aW vs us->PySem.W.kitAny X.K (.ref C) us=some (cs.any λz=>ab.contains z)
 | [],vs,us,h,r=>by
  have h:vs=[]:=h
  subst h
  cases r
  rfl
 | z::cs,vs,us,h,r=>by
  obtain⟨v,rr,e,h1,h2⟩:=h
  subst e
  cases r with
  | cons q t=>
   have k:=aBw E h1 q
   have ih:=aBx E h2 t
   rw[List.any_cons]
   unfold PySem.W.kitAny
   rw[k]
   cases hb:ab.contains z with
   | true=>rfl
   | false=>exact ih
theorem aBy(M:Mc X P Γ n){a:E}{cs:List Cl}{f:Str}{pf:Pos}{ea y:Expr}{tc:TE}(hf:f=("isinstance" : Str))(hg:cS Γ f=true)(ha:PE X ea (WE X P n RT Y old σ a))(hp:aV ea=true)(hy:PE X y tc)(hpy:aV y=true)
 (htc:∀σV H Q,(∀v H',aM H H'->ClV X Γ.cls cs v H'->Q v H')->tc σV H Q):PE X (.Call (.Name f pf) [ea,y] [] pos) (WE X P n RT Y old σ (.isx a cs)):=by
 subst hf
 intro pins s σV H Q I hw
 obtain⟨S,h⟩:=hw
 have h:=RE.bind' (show RE _ (ev P (call P n) σ a >>= λx=>(match isX cs P x.d with|some k=>R.ok (Vl.cl (.bl k))|none=>.bad)) _ from h)
 refine wpAny_Call_Name_kw (eV I (M.gl hg) (M.md.blt _ (by decide +kernel)) (show bootBuiltins "isinstance" = some (.builtin "isinstance") by kernel_rfl) ?_ (by decide +kernel) (by decide +kernel))
 refine PyProof.Rows.callWith_builtin1 ?_ (aA hp) (by rw[aA hpy];rfl)
 rw[aA hp]
 show wpAny _ _ (spliced ((false,eval ea X.env)::backTo pos (starEach [y] X.env))) _ _ s
 refine Calls.spliced_cons (thn (ha pins s σV H (λu H1=>∃z k,Rv X.K RT Y old σ σV H1 z u/\isX cs P z.d=some k/\∀H2,Tk X.K H2->aM H1 H2->Q (.bl k) H2) I (wE.one S h λz u H1 hz t1 S1 r1=>?_)) λv s1 ⟨u,H1,I1,ru,z,k,hz,hk,q⟩=>?_)
 . split at hz
   . rename_i k hk
     exact⟨z,k,r1.rv S,hk,λH2 t2 s2=>(show Wn X RT Y old σ σV H Q (Vl.cl (.bl k)) from hz) _ _ t2 (Ro.cl (r1.1.trans s2) rfl)⟩
   . exact hz.elim
 . rw[aA hpy]
   show wpAny _ _ (spliced ((false,eval y X.env)::backTo pos (starEach [] X.env))) _ _ s1
   refine Calls.spliced_cons (thn (hy pins s1 σV H1 (λv H2=>aM H1 H2/\ClV X Γ.cls cs v H2) I1 (htc σV H1 _ λv H2 s2 c=>⟨s2,c⟩)) λcv s2 ⟨v2,H2,I2,r2,sm,hc⟩=>Calls.spliced_nil ?_)
   have fin:∀tk,EP X pins σV Q (.bool k) { s2 with toks:=tk }:=λtk=>⟨.bl k,H2,I2.tok tk,rfl,q H2 I2.tk sm⟩
   have hz:=hz.grow sm
   unfold isX at hk
   split at hk
   . rename_i hd
     unfold Rv at hz
     rw[hd] at hz
     have hz:u=.non:=hz
     subst hz
     have hv:v=.none:=ru
     subst hv
     split at hk
     . have hk:=Option.some.inj hk
       subst hk
       rcases hc with⟨c1,e1,hc⟩|⟨p,vs,rfl,hq,w0,r0,rfl,hc,hc2⟩
       . cases e1
         have hc:v2=.ty "ValueError" := hc
         subst hc
         cases r2
         exact PySem.W.kia_one PySem.W.kitx_none I2.kIn trivial rfl (λz=>nomatch z) fin
       . have hc:w0=.ty "ValueError" := hc
         have hc2:r0=[]:=hc2
         subst hc hc2
         obtain⟨its,v3,t3,_⟩:=I2.tuple hq
         obtain⟨o,h1,h2,nn,h3⟩:=t3
         obtain⟨oc,od,oda,osl⟩:=o
         dsimp only at h2 h3
         subst h2 h3
         cases r2
         cases v3 with
         | cons r3 r4=>
          cases r3
          cases r4
          exact PySem.W.kia_tup PySem.W.kitx_none I2.kIn trivial h1 rfl (λz=>nomatch z) fin
     . cases hk
   . rename_i c fs hd
     unfold Rv at hz
     rw[hd] at hz
     obtain⟨b,C1,e1,hH,hns⟩:=hz
     subst e1
     cases ru
     split at hk
     . rename_i ab hab
       obtain⟨C,E⟩:=M.md.exc c ab hab
       have e:C=C1:=by
        have:=E.ns.symm.trans hns
        simpa using this
       subst e
       have hk:=Option.some.inj hk
       obtain⟨hI,_⟩:=(show dG X.prog X.w H2 s2.heap b (excO b C) from I2.hok b _ hH)
       rcases hc with⟨c1,rfl,hc⟩|⟨p,vs,rfl,hq,hc⟩
       . refine PySem.W.kia_one (tU E.xc) I2.kIn hI ?_ (λz=>nomatch z) fin
         rw[aBw E hc r2,<-hk]
         simp
       . obtain⟨its,v3,t3,_⟩:=I2.tuple hq
         obtain⟨o,h1,h2,nn,h3⟩:=t3
         obtain⟨oc,od,oda,osl⟩:=o
         dsimp only at h2 h3
         subst h2 h3
         cases r2
         refine PySem.W.kia_tup (tU E.xc) I2.kIn hI h1 ?_ (λz=>nomatch z) fin
         rw[aBx E hc v3,<-hk]
     . cases hk
   . cases hk
def tCs(vs:List V):TA:=λ_ H Q=>Q vs H
theorem tW{c:Cl}{y:Expr}(h:wW Γ c y=true):∃x p,c=.own x/\y=.Name x p/\cS Γ x=true/\bM x=true/\x∈Γ.cls:=by
 unfold wW at h
 split at h
 . rename_i x z p
   simp only[bA] at h
   obtain⟨⟨⟨h1,h2⟩,h3⟩,h4⟩:=h
   have e:z=x:=eq_of_beq h1
   subst e
   exact⟨z,p,rfl,rfl,h2,h3,by simpa using h4⟩
 . cases h
theorem aBz(M:Mc X P Γ n):∀{cs:List Cl} {es:List Expr},wX Γ cs es=true->∃vs,PA X es (tCs vs)/\xG X Γ.cls cs vs/\vs.length=es.length
 | [],[],_=>⟨[],gL,rfl,rfl⟩
 | [],_::_,h=>by cases h
 | _::_,[],h=>by cases h
 | z::cs,y::ys,h=>by
  unfold wX at h
  obtain⟨h1,h2⟩:=(bA _ _).mp h
  obtain⟨vs,i1,i2,i3⟩:=aBz M h2
  obtain⟨x,p,rfl,rfl,g1,g2,g3⟩:=tW h1
  obtain⟨C2,q⟩:=M.md.cls x g3
  exact⟨.ref C2::vs,eS (mR (v:=.ref C2) (M.gl g1) q rfl (aU g2)) i1 (aA rfl),⟨_,_,rfl,⟨g3,C2,q,rfl⟩,i2⟩,by rw[lC,lC,i3]⟩
end
section
variable {X:Cx} {P:Pg} {Γ:Ct} {n:Nat} {RT Y old:Addr->Prop} {σ:Sg} {pos:Pos}
theorem nU{o o':CmpOp}{eb ec:Expr}(hq:aV ec=true):lastMarks [o,o'] [eb,ec]=false:=nS hq
theorem aGa(M:Mc X P Γ n){o o':CmpOp}{a b c:E}{ea eb ec:Expr}(ha:PE X ea (WE X P n RT Y old σ a))(hb:PE X eb (WE X P n RT Y old σ b))(hc:PE X ec (WE X P n RT Y old σ c))(hq:aV ec=true) :
 PE X (.Compare ea [o,o'] [eb,ec] pos) (WE X P n RT Y old σ (.cmp2 o o' a b c)):=by
 refine(aAC (iU (RT:=RT) (Y:=Y) (old:=old) M o) (iU (RT:=RT) (Y:=Y) (old:=old) M o') ha hb hc (nU hq)).imp λσV H Q t ⟨S,h⟩=>?_
 have h:=RE.bind' (show RE _ (ev P (call P n) σ a >>= λx=>ev P (call P n) σ b >>= λy=>(match cT o x.d y.d with
  | some true=>ev P (call P n) σ c >>= λz=>(match cT o' y.d z.d with|some k=>R.ok (Vl.cl (.bl k))|none=>.bad)
  | some false=>R.ok (Vl.cl (.bl false))
  | none=>.bad)) _ from h)
 refine wE.two S (h.mono λx hx=>RE.bind' hx) λx y ux uy H2 hp t2 s2 S2 hx hy=>?_
 split at hp
 . rename_i hk
   refine⟨σ,σV,x,y,true,hx,hy,hk,true,rfl,?_⟩
   rw[if_pos rfl]
   refine wE.one S2 ((RE.bind' hp).at s2) λz u H3 hz t3 S3 r3=>?_
   split at hz
   . rename_i k' hk'
     exact⟨σ,σV,y,z,k',hy.grow r3.1,r3.rv S2,hk',λt'=>hz _ _ t' (Ro.cl (s2.trans r3.1) rfl)⟩
   . exact hz.elim
 . rename_i hk
   refine⟨σ,σV,x,y,false,hx,hy,hk,false,rfl,?_⟩
   rw[if_neg bN]
   exact λt'=>hp _ _ t' (Ro.cl s2 rfl)
 . exact hp.elim
theorem aGb(M:Mc X P Γ n){o o':CmpOp}{a b c:E}{ea eb ec:Expr}(ha:PE X ea (WE X P n RT Y old σ a))(hb:PE X eb (WE X P n RT Y old σ b))(hc:PE X ec (WE X P n RT Y old σ c))(hq:aV ec=true) :
 PT X (.Compare ea [o,o'] [eb,ec] pos) (WT X P n RT Y old σ (.cmp2 o o' a b c)):=by
 refine(aAD (iU (RT:=RT) (Y:=Y) (old:=old) M o) (iU (RT:=RT) (Y:=Y) (old:=old) M o') ha hb hc (nU hq)).imp λσV H Q t ⟨S,h⟩=>?_
 have h:=RE.bind' (show RE _ (ev P (call P n) σ a >>= λx=>ev P (call P n) σ b >>= λy=>(match cT o x.d y.d with
  | some true=>ev P (call P n) σ c >>= λz=>(match cT o' y.d z.d with|some k=>R.ok k|none=>.bad)
  | some false=>R.ok false
  | none=>.bad)) _ from h)
 refine wE.two S (h.mono λx hx=>RE.bind' hx) λx y ux uy H2 hp t2 s2 S2 hx hy=>?_
 split at hp
 . rename_i hk
   refine⟨σ,σV,x,y,true,hx,hy,hk,true,rfl,?_⟩
   rw[if_pos rfl]
   refine wE.one S2 ((RE.bind' hp).at s2) λz u H3 hz t3 S3 r3=>?_
   split at hz
   . rename_i k' hk'
     exact⟨σ,σV,y,z,k',hy.grow r3.1,r3.rv S2,hk',k',rfl,λt'=>hz _ t' (s2.trans r3.1)⟩
   . exact hz.elim
 . rename_i hk
   refine⟨σ,σV,x,y,false,hx,hy,hk,false,rfl,?_⟩
   rw[if_neg bN]
   exact⟨false,rfl,λt'=>hp _ t' s2⟩
 . exact hp.elim
theorem aKJ{a:E}{ea:Expr}(ha:PT X ea (WT X P n RT Y old σ a)):PT X (.UnaryOp .Not ea pos) (WT X P n RT Y old σ (.nt a)):=by
 refine(aFq ha).imp λσV H Q t ⟨S,h⟩=>?_
 have h:=RE.bind' (show RE _ (tst P (call P n) σ a >>= λx=>R.ok (!x)) _ from h)
 exact⟨S,h.mono λk hk H1 t1 s1 t'=>(show ∀H',Tk X.K H'->aM H H'->Q (!k) H' from hk) _ t' s1⟩
theorem aBA{e:Expr}{t t':TT}(h:PW X e t)(f:∀σV H Q,Tk X.K H->t' σV H Q->t σV H λv H'=>Tk X.K H'->Q v H'):PW X e t':=λwh pins s σV H Q I hw=>
 thn (h wh pins s σV H _ I (f σV H Q I.tk hw)) λk s' ⟨H',I',q⟩=>⟨H',I',q I'.tk⟩
theorem aIu{a b:E}{ea eb:Expr}{r:List Expr}(ha:PT X ea (WT X P n RT Y old σ a))(hb:PW X (.BoolOp .And (eb::r) pos) (WT X P n RT Y old σ b)):PW X (.BoolOp .And (ea::eb::r) pos) (WT X P n RT Y old σ (.an a b)):=by
 refine aBA (aFp ha hb) λσV H Q t ⟨S,h⟩=>?_
 have h:=RE.bind' (show RE _ (tst P (call P n) σ a >>= λx=>if x=true then tst P (call P n) σ b else R.ok false) _ from h)
 refine⟨S,h.mono λk hk H1 t1 s1=>?_⟩
 cases k with
 | true=>rw[if_pos rfl] at hk ⊢;exact⟨S.grow s1 t1,(hk.at s1).mono λv hv H' t s' _=>hv H' t (s1.trans s')⟩
 | false=>rw[if_neg bN] at hk ⊢;exact λt'=>(show ∀H',Tk X.K H'->aM H H'->Q false H' from hk) _ t' s1
theorem aEV{a b:E}{ea eb:Expr}{r:List Expr}(ha:PT X ea (WT X P n RT Y old σ a))(hb:PW X (.BoolOp .Or (eb::r) pos) (WT X P n RT Y old σ b)):PW X (.BoolOp .Or (ea::eb::r) pos) (WT X P n RT Y old σ (.orr a b)):=by
 refine aBA (aHp ha hb) λσV H Q t ⟨S,h⟩=>?_
 have h:=RE.bind' (show RE _ (tst P (call P n) σ a >>= λx=>if x=true then R.ok true else tst P (call P n) σ b) _ from h)
 refine⟨S,h.mono λk hk H1 t1 s1=>?_⟩
 cases k with
 | true=>rw[if_pos rfl] at hk ⊢;exact λt'=>(show ∀H',Tk X.K H'->aM H H'->Q true H' from hk) _ t' s1
 | false=>rw[if_neg bN] at hk ⊢;exact⟨S.grow s1 t1,(hk.at s1).mono λv hv H' t s' _=>hv H' t (s1.trans s')⟩
def wO(X:Cx)(P:Pg)(n:Nat)(RT Y old:Addr->Prop)(σ:Sg)(cs:Es):TO:=λσV H Q=>Sx X.K RT Y old σ σV H/\RE (wx X σV H) (evs P (call P n) σ cs) λvs=>
 (vs=[]/\∀H',Tk X.K H'->aM H H'->Q none H')\/∃v i,vs=[v]/\v.d=.int i/\∀H',Tk X.K H'->aM H H'->Q (some i) H'
theorem aBB{e:Option Expr}{t t':TO}(h:PO X e t)(f:∀σV H Q,Tk X.K H->t' σV H Q->t σV H λv H'=>Tk X.K H'->Q v H'):PO X e t':=λpins s σV H Q I hw=>
 thn (h pins s σV H _ I (f σV H Q I.tk hw)) λu s' ⟨o,H',I',r,q⟩=>⟨o,H',I',r,q I'.tk⟩
theorem aIv:PO X none (wO X P n RT Y old σ .nil):=aBB aDq λσV H Q t ⟨S,h⟩ t'=>by
 rcases(show([]:List Vl)=[]/\_\/_ from h) with⟨_,q⟩|⟨v,i,e,_⟩
 . exact q H t' (aM.refl H)
 . cases e
theorem aIw{c:E}{e:Expr}(ha:PE X e (WE X P n RT Y old σ c)):PO X (some e) (wO X P n RT Y old σ (.cons c .nil)):=by
 refine aBB (aDr ha) λσV H Q t ⟨S,h⟩=>?_
 have h:=RE.bind' (show RE _ (ev P (call P n) σ c >>= λx=>evs P (call P n) σ .nil >>= λxs=>R.ok (x::xs)) _ from h)
 refine wE.one S h λx u H1 hx t1 S1 r1=>?_
 rcases(show([x]:List Vl)=[]/\_\/∃v i,([x]:List Vl)=[v]/\_/\_ from hx) with⟨e,_⟩|⟨v,i,e,hd,q⟩
 . cases e
 . cases e
   exact⟨i,(r1.rv S).int hd,λt'=>q _ t' r1.1⟩
theorem RE.eqc{α:Type}{x:R α}{p:α->Prop}{w:D->Prop}(h:RE w x p)(n:∀z,x≠.exc z):∃a,x=.ok a/\p a:=by
 cases x with
 | ok a=>exact⟨a,rfl,h⟩
 | exc e=>exact absurd rfl (n e)
 | bad=>exact h.elim
theorem fX{α:Type}{c:Bool}{x:R α}(h:∀z,x≠.exc z):∀z,R.iff c x≠.exc z:=λz q=>by
 unfold R.iff at q
 split at q
 . exact h z q
 . cases q
theorem fY{α:Type}{a:α}:∀z,R.ok a≠.exc z:=λz q=>by cases q
theorem aDS{α:Type}:∀z,(R.bad:R α)≠.exc z:=λz q=>by cases q
theorem eG{α β:Type}{x:R α}{f:α->R β}(h:∀z,x≠.exc z)(g:∀a z,f a≠.exc z):∀z,(x >>= f)≠.exc z:=λz q=>by
 cases x with
 | ok a=>exact g a z q
 | exc e=>exact h e rfl
 | bad=>cases q
theorem aGc(o:Operator)(x y:Vl):∀z,opD o x y≠.exc z:=λz q=>by
 unfold opD at q
 split at q
 . unfold aDA at q;split at q <;> first|(cases q;done)|exact fX fY z q
 . unfold aDB at q;split at q <;> first|(cases q;done)|exact fX fY z q
 all_goals first|(cases q;done)|(unfold rE at q;split at q <;> first|(cases q;done)|exact fX fY z q)
theorem aDT(x y:Vl):∀z,bW x y≠.exc z:=λz q=>by
 unfold bW at q
 repeat' split at q
 all_goals first|(cases q;done)|exact fX fY z q|exact fX aDS z q
theorem aDU(xs:List Vl):∀z,biD .len xs≠.exc z:=λz q=>by
 unfold biD at q
 split at q
 . dsimp only[aAU] at q
   split at q <;> first|(cases q;done)|exact fX fY z q
 . cases q
 . cases q
theorem aBC(σ:Sg)(i:Nat):∀z,aO σ i≠.exc z:=λz q=>by
 unfold aO at q
 split at q
 . unfold Sl.val at q;split at q <;> cases q
 . cases q
mutual
theorem iV{cl:Caller}:∀{c:E},gH c=true->∀z,ev P cl σ c≠.exc z
 | .c _,_=>fY
 | .v i,_=>aBC σ i
 | .op o a b,h=>by
  obtain⟨h1,h2⟩:=(bA _ _).mp h
  exact eG (iV h1) λx=>eG (iV h2) λy=>aGc o x y
 | .idx a b,h=>by
  obtain⟨h1,h2⟩:=(bA _ _).mp h
  exact eG (iV h1) λx=>eG (iV h2) λy=>aDT x y
 | .bi b es,h=>by
  obtain⟨h1,h2⟩:=(bA _ _).mp h
  have h1:b=.len:=by simpa using h1
  subst h1
  exact eG (calm_evs h2) aDU
theorem calm_evs{cl:Caller}:∀{cs:Es},calmEs cs=true->∀z,evs P cl σ cs≠.exc z
 | .nil,_=>fY
 | .cons a r,h=>by
  obtain⟨h1,h2⟩:=(bA _ _).mp h
  exact eG (iV h1) λx=>eG (calm_evs h2) λy=>fY
end
theorem aIx{a:E}{lo hi:Es}{ea:Expr}{el eh:Option Expr}{p2:Pos}(ha:PE X ea (WE X P n RT Y old σ a))(hl:PO X el (wO X P n RT Y old σ lo))(hh:PO X eh (wO X P n RT Y old σ hi))(hcm:calmEs hi=true) :
 PE X (.Subscript ea (.Slice el eh none p2) pos) (WE X P n RT Y old σ (.sli a lo hi)):=by
 refine(aAJ (aFU (X:=X)) ha hl hh).imp λσV H Q t ⟨S,h⟩=>?_
 have h:=RE.bind' (show RE _ (ev P (call P n) σ a >>= λx=>evs P (call P n) σ lo >>= λl=>evs P (call P n) σ hi >>= λh=>(match l,h with
  | [],[]=>dH x none none
  | [l],[]=>(match l.d with|.int l=>R.iff (aI l) (dH x (some l) none)|_=>.bad)
  | [],[h]=>(match h.d with|.int h=>R.iff (aI h) (dH x none (some h))|_=>.bad)
  | [l],[h]=>(match l.d,h.d with|.int l,.int h=>R.iff (aI l&&aI h) (dH x (some l) (some h))|_,_=>.bad)
  | _,_=>.bad)) _ from h)
 refine wE.one S h λx u H1 hx t1 S1 r1=>?_
 have hx:=RE.bind' hx
 refine⟨S1,(hx.at r1.1).mono λl hl=>?_⟩
 have hl:=RE.bind' hl
 have up:∀(L:Option Int) (H2:Hp),Tk X.K H2->aM H1 H2->(RE (wx X σV H) (evs P (call P n) σ hi) λh=>(h=[]/\RE (wx X σV H) (dH x L none) (Wn X RT Y old σ σV H Q))\/∃v i,h=[v]/\v.d=.int i/\RE (wx X σV H) (dH x L (some i)) (Wn X RT Y old σ σV H Q)) ->
  wO X P n RT Y old σ hi σV H2 λhv H3=>aAL X.K u L hv H3 (λv H'=>Tk X.K H'->Q v H')\/aAK X.K u L hv H3 (λv H'=>Tk X.K H'->Q v H')\/tN X.K u L hv H3 (λv H'=>Tk X.K H'->Q v H')\/aBg u L hv H3 (λv H'=>Tk X.K H'->Q v H'):=by
  intro L H2 t2 s2 hh
  refine⟨S1.grow s2 t2,(hh.at (r1.1.trans s2)).mono λhv hq=>?_⟩
  have fin:∀(U:Option Int) (H3:Hp),Tk X.K H3->aM H2 H3->RE (wx X σV H) (dH x L U) (Wn X RT Y old σ σV H Q) ->
   aAL X.K u L U H3 (λv H'=>Tk X.K H'->Q v H')\/aAK X.K u L U H3 (λv H'=>Tk X.K H'->Q v H')\/tN X.K u L U H3 (λv H'=>Tk X.K H'->Q v H')\/aBg u L U H3 (λv H'=>Tk X.K H'->Q v H'):=λU H3 t3 s3 hs=>
   zJ (S1.grow (s2.trans s3) t3) t3 ((r1.rv S).grow (s2.trans s3)) (hs.mono λv hv u H' t r=>hv u H' t (r.from (r1.1.trans (s2.trans s3))))
  rcases hq with⟨e,hs⟩|⟨v,i,e,hd,hs⟩
  . exact .inl ⟨e,λH3 t3 s3=>fin none H3 t3 s3 hs⟩
  . exact .inr ⟨v,i,e,hd,λH3 t3 s3=>fin (some i) H3 t3 s3 hs⟩
 match l,hl with
 | [],hl=>
  refine .inl ⟨rfl,λH2 t2 s2=>up none H2 t2 s2 (hl.mono λh hh=>?_)⟩
  match h,hh with
  | [],hh=>exact .inl ⟨rfl,hh⟩
  | [h],hh=>
   have hh:RE _ (match h.d with|.int h=>R.iff (aI h) (dH x none (some h))|_=>.bad) _:=hh
   split at hh
   . rename_i i hd
     exact .inr ⟨h,i,rfl,hd,hh.iff.2⟩
   . exact hh.elim
  | _::_::_,hh=>exact hh.elim
 | [l],hl=>
  have hd:∃i,l.d=.int i:=by
   obtain⟨h,_,hh⟩:=hl.eqc (calm_evs hcm)
   match h,hh with
   | [],hh=>
    have hh:RE _ (match l.d with|.int l=>R.iff (aI l) (dH x (some l) none)|_=>.bad) _:=hh
    split at hh
    . rename_i i hd;exact⟨i,hd⟩
    . exact hh.elim
   | [h],hh=>
    have hh:RE _ (match l.d,h.d with|.int l,.int h=>R.iff (aI l&&aI h) (dH x (some l) (some h))|_,_=>.bad) _:=hh
    split at hh
    . rename_i i j hd _;exact⟨i,hd⟩
    . exact hh.elim
   | _::_::_,hh=>exact hh.elim
  obtain⟨i,hd⟩:=hd
  refine .inr ⟨l,i,rfl,hd,λH2 t2 s2=>up (some i) H2 t2 s2 (hl.mono λh hh=>?_)⟩
  match h,hh with
  | [],hh=>
   have hh:RE _ (match l.d with|.int l=>R.iff (aI l) (dH x (some l) none)|_=>.bad) _:=hh
   rw[hd] at hh
   exact .inl ⟨rfl,hh.iff.2⟩
  | [h],hh=>
   have hh:RE _ (match l.d,h.d with|.int l,.int h=>R.iff (aI l&&aI h) (dH x (some l) (some h))|_,_=>.bad) _:=hh
   rw[hd] at hh
   split at hh
   . rename_i i' j e1 e2
     cases e1
     exact .inr ⟨h,j,rfl,e2,hh.iff.2⟩
   . exact hh.elim
  | _::_::_,hh=>exact hh.elim
 | _::_::_,hl=>exact(by
     obtain⟨h,_,hh⟩:=hl.eqc (calm_evs hcm)
     match h,hh with
     | [],hh=>exact hh.elim
     | [_],hh=>exact hh.elim
     | _::_::_,hh=>exact hh.elim)
end
end Hp
end
noncomputable section
namespace L2
open PySem PySem.Spec PyProof.Rows
set_option maxRecDepth 100000
instance:LawfulBEq Key where
 eq_of_beq:=λ{a b} h=>by
  cases a with
  | inl x=>cases b with
   | inl y=>exact congrArg Sum.inl (eq_of_beq (show(x==y)=true from h))
   | inr y=>cases h
  | inr x=>cases b with
   | inl y=>cases h
   | inr y=>exact congrArg Sum.inr (eq_of_beq (show(x==y)=true from h))
 rfl:=λ{a}=>by
  cases a with
  | inl x=>exact(beq_self_eq_true x:(x==x)=true)
  | inr x=>exact(beq_self_eq_true x:(x==x)=true)
def aGd(prog:Program)(w:World)(vs:List Value)(ks:List Key):Prop:=Paired (λv k=>(eC prog w).is k v=true) vs ks
theorem aGd.get{prog:Program}{w:World}:∀{vs:List Value} {ks:List Key},aGd prog w vs ks->∀{i:Nat} {v:Value},vs[i]? = some v->∃k,ks[i]? = some k/\(eC prog w).is k v=true
 | _,_,.nil,_,_,h=>by simp at h
 | _,_,.cons r _,0,_,h=>by simp at h;subst h;exact⟨_,rfl,r⟩
 | _,_,.cons _ t,i+1,v,h=>by
  obtain⟨k,h1,h2⟩:=aGd.get t (i:=i) (v:=v) (by simpa using h)
  exact⟨k,by simpa using h1,h2⟩
section
variable {prog:Program} {w:World} {A:Around} {R:Result->Shared->Prop} {I:Addr} {fp wr:List Addr} {G:Array GenState->Array GenState->Prop} {n:Nat} {P:Nat->Value->Prop} {St:Nat->Shared->Prop}
end
section
variable {prog:Program} {w:World} {A:Around} {E:Value->Shared->Prop} {s:Shared}
end
end L2
end
noncomputable section
namespace Hp
open PySem PySem.Spec PyProof.Rows L2
section
variable {X:Cx} {P:Pg} {Γ:Ct} {n:Nat} {RT Y old:Addr->Prop} {σ:Sg} {pos:Pos} {K:Fg} {H:Hp}
end
end Hp
end
noncomputable section
namespace L2
open PySem PySem.Spec PyProof.Rows
section
variable {X:Cx} {pins:List (Addr×Obj)} {σ:St} {H:Hp} {s:Shared} {h':Heap}
theorem Inv.turnsNew{its:List Addr}{T:Addr}{o:HO}{t':Nat}(I:Inv X pins σ H s)(f:∀b∈its,jV X pins H b)(k:∀b o,b∉its->s.heap.get? b=some o->h'.get? b=some o)(there:∀b∈its,∃o,h'.get? b=some o)
 (hT:s.heap.objs.size<=T) (new:dG X.prog X.w (upd H T o) h' T o):Inv X pins σ (upd H T o) { s with heap:=h',toks:=t' }:=by
 have nit:∀b u,H b=some u->b∉its:=λb u e z=>by rw[(f b z).1] at e;cases e
 have hn:H T=none:=I.hok.fresh hT
 have neT:∀b o,s.heap.get? b=some o->b≠T:=λb o e=>Nat.ne_of_lt (Nat.lt_of_lt_of_le (Heap.lt_size e) hT)
 refine I.step (g':=s.gens) (d':=s.drawn) (ch:=its) (λb hb=>?_) (λb o _ _ hc e _=>k b o hc e) (λb o _ _ hc e _=>⟨o.slots,k b o hc e⟩) (λb o _ e n=>by rw[aJ (neT b o e)];exact n)
  (λb o hc e=>⟨o,k b o hc e⟩) (λb xs e=>by rw[aJ (bG e hn)];exact e) (λb o u e=>by rw[aJ (bG e hn)];exact e) (λb ps e=>⟨#[],by rw[aJ (bG e hn),e];simp⟩) (λm hm=>?_) (λb u e=>?_) I.bare
 . obtain⟨_,f1,f2,f3,f4,f5⟩:=f b hb
   exact⟨f3,f1,f4,f5⟩
 . obtain⟨o,es,ep,ho,r⟩:=hm
   exact⟨o,es,ep,k _ o (λz=>(f _ z).2.1 rfl) ho,r⟩
 . by_cases hb:b=T
   . subst hb
     rw[cE] at e
     cases e
     exact new
   . rw[aJ hb] at e
     refine(I.hok b u e).stay (λc v hc q=>k c v ?_ q) (λc q=>by rw[aJ (bG q hn)];exact q) λc xs q=>by rw[aJ (bG q hn)];exact q
     rcases hc with z|z
     . rw[z];exact nit b u e
     . exact nit c _ z
theorem Inv.turns{its:List Addr}{t':Nat}(I:Inv X pins σ H s)(f:∀b∈its,jV X pins H b)(k:∀b o,b∉its->s.heap.get? b=some o->h'.get? b=some o):Inv X pins σ H { s with heap:=h',toks:=t' }:=by
 have nit:∀b u,H b=some u->b∉its:=λb u e z=>by rw[(f b z).1] at e;cases e
 refine I.step (g':=s.gens) (d':=s.drawn) (ch:=its) (λb hb=>?_) (λb o _ _ hc e _=>k b o hc e) (λb o _ _ hc e _=>⟨o.slots,k b o hc e⟩) (λb o _ e n=>n)
  (λb o hc e=>⟨o,k b o hc e⟩) (λb xs e=>e) (λb o u e=>e) (λb ps e=>⟨#[],by rw[e];simp⟩) (λm hm=>?_) (λb u e=>?_) I.bare
 . obtain⟨_,f1,f2,f3,f4,f5⟩:=f b hb
   exact⟨f3,f1,f4,f5⟩
 . obtain⟨o,es,ep,ho,r⟩:=hm
   exact⟨o,es,ep,k _ o (λz=>(f _ z).2.1 rfl) ho,r⟩
 . refine(I.hok b u e).stay (λc v hc q=>k c v ?_ q) (λc q=>q) λc xs q=>q
   rcases hc with z|z
   . rw[z];exact nit b u e
   . exact nit c _ z
theorem Inv.newK(I:Inv X pins σ H s):X.K.lookup s.heap.objs.size=none:=by
 cases q:X.K.lookup s.heap.objs.size with
 | none=>rfl
 | some o=>exact absurd (Heap.lt_size (I.bk _ o (I.ok.mod.kin _ o q))) (Nat.lt_irrefl _)
def Sq(k:Bool)(K:PySem.W.Frag)(H:Hp)(a:Addr)(xs:List V):Prop:=match k with
 | true=>SqL K H a xs
 | false=>SqT K H a xs
def dI(k:Bool)(h:Heap)(a:Addr)(its:Array Value):Prop:=match k with
 | true=>h.IsList a its
 | false=>h.IsTuple a its
def bZ(k:Bool)(h:Heap)(it a:Addr)(i:Nat):Prop:=match k with
 | true=>h.IsListIter it a i
 | false=>h.IsTupleIter it a i
theorem dI.at{k:Bool}{h:Heap}{a:Addr}{its:Array Value}(q:dI k h a its)(e:∀o,h.get? a=some o->h'.get? a=some o):dI k h' a its:=by
 cases k with
 | true=>exact Heap.IsList.at q e
 | false=>exact Heap.IsTuple.at q e
theorem bZ.at{k:Bool}{h:Heap}{a it:Addr}{i:Nat}(q:bZ k h it a i)(e:∀o,h.get? it=some o->h'.get? it=some o):bZ k h' it a i:=by
 cases k with
 | true=>exact Heap.IsListIter.at q e
 | false=>exact Heap.IsTupleIter.at q e
theorem bZ.obj{k:Bool}{h:Heap}{a it:Addr}{i:Nat}(q:bZ k h it a i):∃o,h.get? it=some o/\∀v,o.data≠.cell v:=by
 cases k with
 | true=>obtain⟨o,e,c,d⟩:=q;exact⟨o,e,λv z=>by rw[d] at z;cases z⟩
 | false=>obtain⟨o,e,c,d⟩:=q;exact⟨o,e,λv z=>by rw[d] at z;cases z⟩
theorem Inv.sq{k:Bool}{a:Addr}{xs:List V}(I:Inv X pins σ H s)(h:Sq k X.K H a xs):∃its:List Value,aW xs its/\dI k s.heap a its.toArray/\xs.length<=sizeLine:=by
 cases k with
 | true=>obtain⟨its,r,p,z⟩:=I.list h;exact⟨its,r,p.isList,z⟩
 | false=>obtain⟨its,r,p,z⟩:=I.tuple h;exact⟨its,r,p,z⟩
theorem Inv.sq_inj{k:Bool}{a:Addr}{xs ys:List V}(I:Inv X pins σ H s)(h:Sq k X.K H a xs)(h':Sq k X.K H a ys):xs=ys:=by
 cases k with
 | true=>exact I.list_inj h h'
 | false=>exact I.tuple_inj h h'
theorem Sq.there{k:Bool}{K:PySem.W.Frag}{a:Addr}{xs:List V}(h:Sq k K H a xs):H a≠none\/∃o,K.lookup a=some o:=by
 cases k with
 | true=>
  rcases h with(h|⟨o,h⟩)|⟨o,its,n,q,_⟩
  . exact .inl (by rw[h];simp)
  . exact .inl (by rw[h];simp)
  . exact .inr ⟨_,q⟩
 | false=>
  rcases h with(h|⟨o,h⟩)|⟨o,its,n,q,_⟩
  . exact .inl (by rw[h];simp)
  . exact .inl (by rw[h];simp)
  . exact .inr ⟨_,q⟩
theorem Inv.sqNe{k:Bool}{a b:Addr}{xs:List V}(I:Inv X pins σ H s)(h:Sq k X.K H a xs)(f:jV X pins H b):a≠b:=by
 intro e
 subst e
 rcases h.there with z|⟨o,z⟩
 . exact z f.1
 . have hb:=I.ok.mod.kin a o z
   rcases f.2.2.2.1 with q|q
   . exact I.ok.noex a o hb q
   . exact absurd (Nat.lt_of_lt_of_le (Heap.lt_size hb) (Nat.le_trans I.ok.bsz q)) (Nat.lt_irrefl _)
end
section
variable {prog:Program} {w:World} {A:Around} {E:Value->Shared->Prop} {s:Shared}
theorem kC{it l:Addr}{i:Nat}{items}{x:Value}{Q:Value->Shared->Prop}(hit:s.heap.IsTupleIter it l i)
 (hl:s.heap.IsTuple l items) (hx:items[i]? = some x)
 (hQ:∀h',h'.IsTupleIter it l (i+1)->Heap.SameBut it s.heap h'->Q x { s with heap:=h' }) :
 wpAny (model prog w) A (Builtin.SmallTypes.nextOf (.ref it)) Q E s:=by
 obtain⟨o,ho,hc,hd⟩:=id hit
 obtain⟨ol,hol,_,nl,hdl⟩:=hl
 unfold Builtin.SmallTypes.nextOf
 refine wpAny_bind (wpAny_callSpecial?_slot (name:=Str.ofString "__next__") hit.typeIs F.slot_tuple_iterator_next
  (wpAny_call_entry F.slot_tuple_iterator_next hit.typeIs F.entry_tuple_iterator_next ?_ (F.args_tuple_iterator_next_1 _)))
 show wpAny _ _ (field (.ref it) 0 >>= _) _ _ s
 refine wpAny_bind (wpAny_field ho hd (x:=.ref l) rfl ?_)
 show wpAny _ _ (if (Value.ref l==Value.none)=true then _ else _) _ _ s
 rw[if_neg (show ¬ ((Value.ref l==Value.none)=true) from bN)]
 show wpAny _ _ (field (.ref it) 1 >>= _) _ _ s
 refine wpAny_bind (wpAny_field ho hd (x:=.int i 0) rfl ?_)
 show wpAny _ _ (seqItems? (.ref l) >>= _) _ _ s
 refine wpAny_bind (wpAny_seqItems hol hdl ?_)
 simp only[Int.toNat_natCast,hx]
 refine wpAny_bind (wpAny_setField ho hd (by simp) (wpAny_pure ⟨x,rfl,wpAny_pure (hQ _ ?_ (Heap.SameBut.update ..))⟩))
 exact⟨_,Heap.get?_update_self _ ho (Obj.isFreed_of_fields (Obj.data_mapFields hd _)),(Obj.cls_mapFields ..).trans hc,by
  rw[Obj.data_mapFields hd];simp[rawInt]⟩
theorem lG{it l:Addr}{i:Nat}{items}{Q:Value->Shared->Prop}(hh:A.handled=none)
 (hit:s.heap.IsTupleIter it l i) (hl:s.heap.IsTuple l items) (hx:items[i]? = none)
 (hE:∀h' e,Heap.ExtBut it s.heap h'->(∃o,h'.get? e=some o/\o.cls=.type "StopIteration")->E (.ref e) { s with heap:=h' }) :
 wpAny (model prog w) A (Builtin.SmallTypes.nextOf (.ref it)) Q E s:=by
 obtain⟨o,ho,hc,hd⟩:=id hit
 obtain⟨ol,hol,_,nl,hdl⟩:=hl
 unfold Builtin.SmallTypes.nextOf
 refine wpAny_bind (wpAny_callSpecial?_slot (name:=Str.ofString "__next__") hit.typeIs F.slot_tuple_iterator_next
  (wpAny_call_entry F.slot_tuple_iterator_next hit.typeIs F.entry_tuple_iterator_next ?_ (F.args_tuple_iterator_next_1 _)))
 show wpAny _ _ (field (.ref it) 0 >>= _) _ _ s
 refine wpAny_bind (wpAny_field ho hd (x:=.ref l) rfl ?_)
 show wpAny _ _ (if (Value.ref l==Value.none)=true then _ else _) _ _ s
 rw[if_neg (show ¬ ((Value.ref l==Value.none)=true) from bN)]
 show wpAny _ _ (field (.ref it) 1 >>= _) _ _ s
 refine wpAny_bind (wpAny_field ho hd (x:=.int i 0) rfl ?_)
 show wpAny _ _ (seqItems? (.ref l) >>= _) _ _ s
 refine wpAny_bind (wpAny_seqItems hol hdl ?_)
 simp only[Int.toNat_natCast,hx]
 refine wpAny_bind (wpAny_rule (wpAny_bind (wpAny_setField ho hd (by simp) ?_)))
 show wpAny _ _ (newExc (.type "StopIteration") [] >>= _) _ _ _
 refine wpAny_bind ?_
 simp only[newExc,newTuple]
 refine wpAny_bind (wpAny_newObj_type ?_ (by size_fits))
 refine wpAny_bind (m:=firstArgMember _ _) (wpAny_of_eq (a:=Value.none) (by first|rfl|(simp only[firstArgMember];rfl)) ?_)
 refine wpAny_newObj_type ?_ (by size_fits)
 simp only[raiseNew]
 refine wpAny_bind (wpAny_handled ?_)
 first|rw[show A.in1.handled=none from hh]|rw[hh]
 refine wpAny_bind (wpAny_pure (wpAny_throw ?_))
 exact hE _ _ (((Heap.SameBut.update ..).extBut.push _).push _) ⟨_,Heap.get?_push_size _ rfl,rfl⟩
theorem dQ{k:Bool}{it l:Addr}{i:Nat}{items:Array Value}{x:Value}{Q:Value->Shared->Prop}(hit:bZ k s.heap it l i)(hl:dI k s.heap l items)(hx:items[i]? = some x)
 (hQ:∀h',bZ k h' it l (i+1)->Heap.SameBut it s.heap h'->Q x { s with heap:=h' }):wpAny (model prog w) A (Builtin.SmallTypes.nextOf (.ref it)) Q E s:=by
 cases k with
 | true=>exact wpAny_nextOf_list_item hit hl hx hQ
 | false=>exact kC hit hl hx hQ
theorem fZ{k:Bool}{it l:Addr}{i:Nat}{items:Array Value}{Q:Value->Shared->Prop}(hh:A.handled=none)(hit:bZ k s.heap it l i)(hl:dI k s.heap l items)(hx:items[i]? = none)
 (hE:∀h' e,Heap.ExtBut it s.heap h'->(∃o,h'.get? e=some o/\o.cls=.type "StopIteration")->E (.ref e) { s with heap:=h' }):wpAny (model prog w) A (Builtin.SmallTypes.nextOf (.ref it)) Q E s:=by
 cases k with
 | true=>exact wpAny_nextOf_list_end hh hit hl hx hE
 | false=>exact lG hh hit hl hx hE
theorem zN{ka kb:Bool}{z TI TO i1 i2 l1 l2:Addr}{k1 k2:Nat}{xs ys:Array Value}{x y a b:Value}{Q:Value->Shared->Prop}(D:ZipApart z TI TO i1 i2 l1 l2)
 (hz:IsZip s.heap z TI TO .none) (hTI:IsPair s.heap TI (.ref i1) (.ref i2)) (hTO:IsPair s.heap TO a b)
 (h1:bZ ka s.heap i1 l1 k1) (h2:bZ kb s.heap i2 l2 k2) (hl1:dI ka s.heap l1 xs) (hl2:dI kb s.heap l2 ys) (hx:xs[k1]? = some x) (hy:ys[k2]? = some y)
 (hQ:∀h',IsZip h' z TI TO (rawInt s.heap.objs.size)->IsPair h' TO x y->bZ ka h' i1 l1 (k1+1)->bZ kb h' i2 l2 (k2+1)->IsPair h' s.heap.objs.size x y->h'.objs.size=s.heap.objs.size+1 ->
  (∀c o,c≠z->c≠TO->c≠i1->c≠i2->s.heap.get? c=some o->h'.get? c=some o)->Q (.ref s.heap.objs.size) { s with heap:=h' }) :
 wpAny (model prog w) A (Builtin.«zip.__next__» ⟨[.ref z],[]⟩) (λfin s'=>∃v,fin=.done (.ret v)/\Q v s') E s:=by
 show wpAny _ _ (field (.ref z) 2 >>= _) _ _ _
 refine wpAny_bind (wpAny_field hz rfl (x:=.bool false) rfl ?_)
 show wpAny _ _ (field (.ref z) 3 >>= _) _ _ _
 refine wpAny_bind (wpAny_field hz rfl (x:=.ref TI) rfl ?_)
 refine wpAny_bind (wpAny_seqItems hTI rfl ?_)
 show wpAny _ _ (Builtin.SmallTypes.ownedTupleIsFree (.ref z) >>= _) _ _ _
 refine wpAny_bind ?_
 unfold Builtin.SmallTypes.ownedTupleIsFree
 refine wpAny_bind (wpAny_field hz rfl (x:=.none) rfl (wpAny_pure ?_))
 simp only[if_true]
 refine wpAny_bind (wpAny_rule ?_)
 refine wpAny_bind (wpAny_field hz rfl (x:=.ref TO) rfl ?_)
 refine wpAny_bind (wpAny_setField_rec hz (by simp) λh₁ hz₁ hs₁=>?_)
 replace hz₁:IsZip h₁ z TI TO .ellipsis:=hz₁
 refine wpAny_bind ?_
 simp only[List.zipIdx_cons,List.zipIdx_nil,List.forIn_cons,List.forIn_nil]
 refine wpAny_bind (wpAny_bind (wpAny_onRaise ?_))
 show wpAny _ _ (Builtin.SmallTypes.nextOf (.ref i1) >>= _) _ _ _
 refine wpAny_bind (dQ (h1.at λo e=>hs₁.extBut _ _ D.i1z e) (hl1.at λo e=>hs₁.extBut _ _ D.l1z e) hx λh₂ h1₂ hs₂=>wpAny_pure ?_)
 have hTO₂:IsPair h₂ TO a b:=hs₂.extBut _ _ D.TOi1 (hs₁.extBut _ _ D.TOz hTO)
 refine wpAny_bind (wpAny_seqItems hTO₂ rfl ?_)
 refine wpAny_bind (wpAny_updateSeq_pair hTO₂ λh₃ hTO₃ hs₃=>?_)
 replace hTO₃:IsPair h₃ TO x b:=hTO₃
 refine wpAny_bind (wpAny_letGo (wpAny_pure ?_))
 refine wpAny_bind (wpAny_bind (wpAny_onRaise ?_))
 show wpAny _ _ (Builtin.SmallTypes.nextOf (.ref i2) >>= _) _ _ _
 refine wpAny_bind (dQ (h2.at λo e=>hs₃.extBut _ _ D.TOi2.symm (hs₂.extBut _ _ D.i12.symm (hs₁.extBut _ _ D.i2z e)))
  (hl2.at λo e=>hs₃.extBut _ _ D.l2TO (hs₂.extBut _ _ D.l2i1 (hs₁.extBut _ _ D.l2z e))) hy λh₄ h2₄ hs₄=>wpAny_pure ?_)
 have hTO₄:IsPair h₄ TO x b:=hs₄.extBut _ _ D.TOi2 hTO₃
 refine wpAny_bind (wpAny_seqItems hTO₄ rfl ?_)
 refine wpAny_bind (wpAny_updateSeq_pair hTO₄ λh₅ hTO₅ hs₅=>?_)
 replace hTO₅:IsPair h₅ TO x y:=hTO₅
 refine wpAny_bind (wpAny_letGo (wpAny_pure (wpAny_pure ?_)))
 refine wpAny_bind (wpAny_seqItems hTO₅ rfl ?_)
 refine wpAny_bind (wpAny_newTuple ?_)
 have hsz:h₅.objs.size=s.heap.objs.size:=by rw[hs₅.1,hs₄.1,hs₃.1,hs₂.1,hs₁.1]
 have hz₅:IsZip h₅ z TI TO .ellipsis:=hs₅.extBut _ _ D.TOz.symm (hs₄.extBut _ _ D.i2z.symm (hs₃.extBut _ _ D.TOz.symm (hs₂.extBut _ _ D.i1z.symm hz₁)))
 have hk₅:∀c o,c≠z->c≠TO->c≠i1->c≠i2->s.heap.get? c=some o->h₅.get? c=some o:=λc o c1 c2 c3 c4 e=>
  hs₅.extBut _ _ c2 (hs₄.extBut _ _ c4 (hs₃.extBut _ _ c2 (hs₂.extBut _ _ c3 (hs₁.extBut _ _ c1 e))))
 have h1₅:bZ ka h₅ i1 l1 (k1+1):=h1₂.at λo e=>hs₅.extBut _ _ D.TOi1.symm (hs₄.extBut _ _ D.i12 (hs₃.extBut _ _ D.TOi1.symm e))
 have h2₅:bZ kb h₅ i2 l2 (k2+1):=h2₄.at λo e=>hs₅.extBut _ _ D.TOi2.symm e
 have hzlt:z<h₅.objs.size:=Heap.lt_size hz₅
 have hTOlt:TO<h₅.objs.size:=Heap.lt_size hTO₅
 show wpAny _ _ (Builtin.SmallTypes.ownedTupleHandOut (.ref z) (.ref h₅.objs.size) >>= _) _ _ _
 refine wpAny_bind ?_
 unfold Builtin.SmallTypes.ownedTupleHandOut
 have hz₆:IsZip (h₅.push { cls:=.type "tuple",data:=.seq #[x,y] }) z TI TO .ellipsis:=Heap.get?_push_of_some _ hz₅
 refine wpAny_bind (wpAny_setField_rec hz₆ (by simp) λh₇ hz₇ hs₇=>?_)
 replace hz₇:IsZip h₇ z TI TO (rawInt h₅.objs.size):=hz₇
 refine wpAny_setField_rec hz₇ (by simp) λh₈ hz₈ hs₈=>?_
 replace hz₈:IsZip h₈ z TI TO (rawInt h₅.objs.size):=hz₈
 have up:∀c o,c≠z->h₅.get? c=some o->h₈.get? c=some o:=λc o c1 e=>hs₈.extBut _ _ c1 (hs₇.extBut _ _ c1 (Heap.get?_push_of_some _ e))
 have hT₈:IsPair h₈ h₅.objs.size x y:=hs₈.extBut _ _ (Nat.ne_of_gt hzlt) (hs₇.extBut _ _ (Nat.ne_of_gt hzlt) (Heap.get?_push_size _ rfl))
 have hz8:h₈.objs.size=h₅.objs.size+1:=by rw[hs₈.1,hs₇.1,Heap.size_push]
 rw[hsz] at hz₈ hT₈ hz8
 refine wpAny_pure ⟨_,rfl,?_⟩
 show Q (.ref h₅.objs.size) _
 rw[hsz]
 exact hQ h₈ hz₈ (up _ _ D.TOz hTO₅) (h1₅.at λo e=>up _ o D.i1z e) (h2₅.at λo e=>up _ o D.i2z e) hT₈ hz8 λc o c1 c2 c3 c4 e=>up c o c1 (hk₅ c o c1 c2 c3 c4 e)
theorem aBD{ka kb:Bool}{z TI TO i1 i2 l1 l2:Addr}{k1 k2:Nat}{xs ys:Array Value}{a b:Value}{Q:Fin->Shared->Prop}(hh:A.handled=none)(D:ZipApart z TI TO i1 i2 l1 l2)
 (hz:IsZip s.heap z TI TO .none) (hTI:IsPair s.heap TI (.ref i1) (.ref i2)) (hTO:IsPair s.heap TO a b)
 (h1:bZ ka s.heap i1 l1 k1) (h2:bZ kb s.heap i2 l2 k2) (hl1:dI ka s.heap l1 xs) (hl2:dI kb s.heap l2 ys) (hend:xs[k1]? = none\/ys[k2]? = none)
 (hE:∀h' e,(∀c o,c≠z->c≠TO->c≠i1->c≠i2->s.heap.get? c=some o->h'.get? c=some o)->(∃o,h'.get? e=some o/\o.cls=.type "StopIteration")->E (.ref e) { s with heap:=h' }) :
 wpAny (model prog w) A (Builtin.«zip.__next__» ⟨[.ref z],[]⟩) Q E s:=by
 show wpAny _ _ (field (.ref z) 2 >>= _) _ _ _
 refine wpAny_bind (wpAny_field hz rfl (x:=.bool false) rfl ?_)
 show wpAny _ _ (field (.ref z) 3 >>= _) _ _ _
 refine wpAny_bind (wpAny_field hz rfl (x:=.ref TI) rfl ?_)
 refine wpAny_bind (wpAny_seqItems hTI rfl ?_)
 show wpAny _ _ (Builtin.SmallTypes.ownedTupleIsFree (.ref z) >>= _) _ _ _
 refine wpAny_bind ?_
 unfold Builtin.SmallTypes.ownedTupleIsFree
 refine wpAny_bind (wpAny_field hz rfl (x:=.none) rfl (wpAny_pure ?_))
 simp only[if_true]
 refine wpAny_bind (wpAny_rule ?_)
 refine wpAny_bind (wpAny_field hz rfl (x:=.ref TO) rfl ?_)
 refine wpAny_bind (wpAny_setField_rec hz (by simp) λh₁ hz₁ hs₁=>?_)
 replace hz₁:IsZip h₁ z TI TO .ellipsis:=hz₁
 refine wpAny_bind ?_
 simp only[List.zipIdx_cons,List.zipIdx_nil,List.forIn_cons,List.forIn_nil]
 refine wpAny_bind (wpAny_bind (wpAny_onRaise ?_))
 show wpAny _ _ (Builtin.SmallTypes.nextOf (.ref i1) >>= _) _ _ _
 cases hx:xs[k1]? with
 | none=>
  refine wpAny_bind (fZ hh (h1.at λo e=>hs₁.extBut _ _ D.i1z e) (hl1.at λo e=>hs₁.extBut _ _ D.l1z e) hx λh₂ e hs₂ he=>?_)
  obtain⟨oe,hoe,hce⟩:=he
  have hz₂:IsZip h₂ z TI TO .ellipsis:=hs₂ _ _ D.i1z.symm hz₁
  have hez:e≠z:=λx=>by subst x;rw[hz₂] at hoe;cases hoe;simp at hce
  refine wpAny_setField_rec hz₂ (by simp) λh₃ _ hs₃=>hE h₃ e (λc o c1 _ c3 _ x=>hs₃.extBut _ _ c1 (hs₂ _ _ c3 (hs₁.extBut _ _ c1 x))) ⟨oe,hs₃.extBut _ _ hez hoe,hce⟩
 | some x=>
  have hy:ys[k2]? = none:=by rcases hend with h|h;rw[hx] at h;cases h;exact h
  refine wpAny_bind (dQ (h1.at λo e=>hs₁.extBut _ _ D.i1z e) (hl1.at λo e=>hs₁.extBut _ _ D.l1z e) hx λh₂ h1₂ hs₂=>wpAny_pure ?_)
  have hTO₂:IsPair h₂ TO a b:=hs₂.extBut _ _ D.TOi1 (hs₁.extBut _ _ D.TOz hTO)
  refine wpAny_bind (wpAny_seqItems hTO₂ rfl ?_)
  refine wpAny_bind (wpAny_updateSeq_pair hTO₂ λh₃ hTO₃ hs₃=>?_)
  refine wpAny_bind (wpAny_letGo (wpAny_pure ?_))
  refine wpAny_bind (wpAny_bind (wpAny_onRaise ?_))
  show wpAny _ _ (Builtin.SmallTypes.nextOf (.ref i2) >>= _) _ _ _
  refine wpAny_bind (fZ hh (h2.at λo e=>hs₃.extBut _ _ D.TOi2.symm (hs₂.extBut _ _ D.i12.symm (hs₁.extBut _ _ D.i2z e)))
   (hl2.at λo e=>hs₃.extBut _ _ D.l2TO (hs₂.extBut _ _ D.l2i1 (hs₁.extBut _ _ D.l2z e))) hy λh₄ e hs₄ he=>?_)
  obtain⟨oe,hoe,hce⟩:=he
  have hz₄:IsZip h₄ z TI TO .ellipsis:=hs₄ _ _ D.i2z.symm (hs₃.extBut _ _ D.TOz.symm (hs₂.extBut _ _ D.i1z.symm hz₁))
  have hez:e≠z:=λx=>by subst x;rw[hz₄] at hoe;cases hoe;simp at hce
  refine wpAny_setField_rec hz₄ (by simp) λh₅ _ hs₅=>hE h₅ e (λc o c1 c2 c3 c4 x=>hs₅.extBut _ _ c1 (hs₄ _ _ c4 (hs₃.extBut _ _ c2 (hs₂.extBut _ _ c3 (hs₁.extBut _ _ c1 x))))) ⟨oe,hs₅.extBut _ _ hez hoe,hce⟩
theorem gJ{ka kb:Bool}{z TI TO i1 i2 l1 l2:Addr}{k1 k2:Nat}{xs ys:Array Value}{x y a b:Value}{Q:Option Value->Shared->Prop}(D:ZipApart z TI TO i1 i2 l1 l2)
 (hz:IsZip s.heap z TI TO .none) (hTI:IsPair s.heap TI (.ref i1) (.ref i2)) (hTO:IsPair s.heap TO a b)
 (h1:bZ ka s.heap i1 l1 k1) (h2:bZ kb s.heap i2 l2 k2) (hl1:dI ka s.heap l1 xs) (hl2:dI kb s.heap l2 ys) (hx:xs[k1]? = some x) (hy:ys[k2]? = some y)
 (hQ:∀h',IsZip h' z TI TO (rawInt s.heap.objs.size)->IsPair h' TO x y->bZ ka h' i1 l1 (k1+1)->bZ kb h' i2 l2 (k2+1)->IsPair h' s.heap.objs.size x y->h'.objs.size=s.heap.objs.size+1 ->
  (∀c o,c≠z->c≠TO->c≠i1->c≠i2->s.heap.get? c=some o->h'.get? c=some o)->Q (some (.ref s.heap.objs.size)) { s with heap:=h' }) :
 wpAny (model prog w) A (pyNext (.ref z)) Q E s:=by
 have hT:s.TypeIs (.ref z) "zip" := ⟨_,hz,rfl⟩
 unfold pyNext
 exact wpAny_bind (wpAny_attempt (wpAny_callSpecial?_slot (name:=Str.ofString "__next__") hT F.slot_zip_next
  (wpAny_call_entry F.slot_zip_next hT F.entry_zip_next
   (zN D hz hTI hTO h1 h2 hl1 hl2 hx hy λh' a1 a2 a3 a4 a5 a6 a7=>wpAny_pure (hQ h' a1 a2 a3 a4 a5 a6 a7)) (F.args_zip_next_1 _))))
theorem hG{ka kb:Bool}{z TI TO i1 i2 l1 l2:Addr}{k1 k2:Nat}{xs ys:Array Value}{a b:Value}{Q:Option Value->Shared->Prop}(hh:A.handled=none)(D:ZipApart z TI TO i1 i2 l1 l2)
 (hz:IsZip s.heap z TI TO .none) (hTI:IsPair s.heap TI (.ref i1) (.ref i2)) (hTO:IsPair s.heap TO a b)
 (h1:bZ ka s.heap i1 l1 k1) (h2:bZ kb s.heap i2 l2 k2) (hl1:dI ka s.heap l1 xs) (hl2:dI kb s.heap l2 ys) (hend:xs[k1]? = none\/ys[k2]? = none)
 (hQ:∀h',(∀c o,c≠z->c≠TO->c≠i1->c≠i2->s.heap.get? c=some o->h'.get? c=some o)->Q none { s with heap:=h' }):wpAny (model prog w) A (pyNext (.ref z)) Q E s:=by
 have hT:s.TypeIs (.ref z) "zip" := ⟨_,hz,rfl⟩
 unfold pyNext
 refine wpAny_bind (wpAny_attempt (wpAny_callSpecial?_slot (name:=Str.ofString "__next__") hT F.slot_zip_next
  (wpAny_call_entry F.slot_zip_next hT F.entry_zip_next (aBD hh D hz hTI hTO h1 h2 hl1 hl2 hend λh' e hk he=>?_) (F.args_zip_next_1 _))))
 obtain⟨o,ho,hc⟩:=he
 refine wpAny_bind (wpAny_isInstance (T:= "StopIteration") (b:=true) ⟨o,ho,hc⟩ isSubtype_stop ?_)
 exact wpAny_pure (hQ _ hk)
end
def pT(k:Bool)(l:Addr):Obj:=match k with
 | true=>{ cls:=.type "list_iterator",data:=.fields #[.ref l,.int 0 0] }
 | false=>{ cls:=.type "tuple_iterator",data:=.fields #[.ref l,.int 0 0] }
abbrev zH1(k:Bool)(h:Heap)(l1:Addr):Heap:=h.push (pT k l1)
abbrev zH2(ka kb:Bool)(h:Heap)(l1 l2:Addr):Heap:=(zH1 ka h l1).push (pT kb l2)
abbrev zH3(ka kb:Bool)(h:Heap)(l1 l2:Addr):Heap:=(zH2 ka kb h l1 l2).push { cls:=.type "tuple",data:=.seq #[.ref h.objs.size,.ref (zH1 ka h l1).objs.size] }
abbrev zH4(ka kb:Bool)(h:Heap)(l1 l2:Addr):Heap:=(zH3 ka kb h l1 l2).push { cls:=.type "tuple",data:=.seq #[.none,.none] }
abbrev zH5(ka kb:Bool)(h:Heap)(l1 l2:Addr):Heap:=(zH4 ka kb h l1 l2).push { cls:=.type "zip",data:=.fields #[.none,.bool false,.bool false,.ref (zH2 ka kb h l1 l2).objs.size,.ref (zH3 ka kb h l1 l2).objs.size] }
theorem pU{prog:Program}{w:World}{A:Around}{E:Value->Shared->Prop}{s:Shared}{k:Bool}{l:Addr}{items:Array Value}{Q:Value->Shared->Prop}(hl:dI k s.heap l items)
 (hQ:Q (.ref s.heap.objs.size) { s with heap:=s.heap.push (pT k l) }):wpAny (model prog w) A (pyIter (.ref l)) Q E s:=by
 cases k with
 | true=>exact wpAny_pyIter_list hl hQ
 | false=>exact wpAny_pyIter_tuple hl hQ
theorem vV(ka kb:Bool)(l1 l2:Addr)(xs ys:Array Value) :
 Meets (Builtin.«zip.__new__» ⟨[.type "zip",.ref l1,.ref l2],[]⟩) (λ_ R s=>dI ka s.heap l1 xs/\dI kb s.heap l2 ys /\
  R (.ok (.ret (.ref (zH4 ka kb s.heap l1 l2).objs.size))) { s with heap:=zH5 ka kb s.heap l1 l2 }):=
 .of_wp λprog w A R s h=>by
  obtain⟨hp,g,d,tk,os⟩:=s;obtain⟨hl1,hl2,h⟩:=h
  have hsub:=sub_zip
  have hL1:dI ka (Shared.heap ⟨hp,g,d,tk,os⟩) l1 xs:=hl1
  have hL2:dI kb (Shared.heap ⟨hp.push (pT ka l1),g,d,tk,os⟩) l2 ys:=hl2.at λo e=>Heap.get?_push_of_some _ e
  wp_walk using pU hL1,pU hL2
  exact⟨_,rfl,h⟩
theorem tX{k:Bool}{h:Heap}{it a:Addr}(e:h.get? it=some (pT k a)):bZ k h it a 0:=by
 cases k with
 | true=>exact⟨_,e,rfl,rfl⟩
 | false=>exact⟨_,e,rfl,rfl⟩
theorem pV{prog:Program}{w:World}{A:Around}{E:Value->Shared->Prop}{s:Shared}{ka kb:Bool}{l1 l2:Addr}{xs ys:Array Value}{Q:Value->Shared->Prop}(hl1:dI ka s.heap l1 xs)(hl2:dI kb s.heap l2 ys)
 (h:∀h',IsZip h' (s.heap.objs.size+4) (s.heap.objs.size+2) (s.heap.objs.size+3) .none->IsPair h' (s.heap.objs.size+2) (.ref s.heap.objs.size) (.ref (s.heap.objs.size+1)) ->
  IsPair h' (s.heap.objs.size+3) .none .none->bZ ka h' s.heap.objs.size l1 0->bZ kb h' (s.heap.objs.size+1) l2 0->h'.objs.size=s.heap.objs.size+5 ->
  (∀c o,s.heap.get? c=some o->h'.get? c=some o)->Q (.ref (s.heap.objs.size+4)) { s with heap:=h' }) :
 wpAny (model prog w) A (call (.type "zip") [.ref l1,.ref l2]) Q E s:=by
 refine callType_new F.called_zip (by decide) (F.typeCall_zip_2 _ _) (F.newCall_zip_2 _ _) (λobj=>F.args_object_init_3 obj _ _) F.entry_zip_new
  (vV ka kb l1 l2 xs ys) ⟨hl1,hl2,?_⟩
 have z1:(zH1 ka s.heap l1).objs.size=s.heap.objs.size+1:=Heap.size_push ..
 have z2:(zH2 ka kb s.heap l1 l2).objs.size=s.heap.objs.size+2:=by rw[Heap.size_push,z1]
 have z3:(zH3 ka kb s.heap l1 l2).objs.size=s.heap.objs.size+3:=by rw[Heap.size_push,z2]
 have z4:(zH4 ka kb s.heap l1 l2).objs.size=s.heap.objs.size+4:=by rw[Heap.size_push,z3]
 have z5:(zH5 ka kb s.heap l1 l2).objs.size=s.heap.objs.size+5:=by rw[Heap.size_push,z4]
 have nf:∀k l,(pT k l).isFreed=false:=by intro k l;cases k <;> rfl
 have g5:(zH5 ka kb s.heap l1 l2).get? (zH4 ka kb s.heap l1 l2).objs.size=some _:=Heap.get?_push_size _ rfl
 have g4:(zH5 ka kb s.heap l1 l2).get? (zH3 ka kb s.heap l1 l2).objs.size=some _:=Heap.get?_push_of_some _ (Heap.get?_push_size _ rfl)
 have g3:(zH5 ka kb s.heap l1 l2).get? (zH2 ka kb s.heap l1 l2).objs.size=some _:=Heap.get?_push_of_some _ (Heap.get?_push_of_some _ (Heap.get?_push_size _ rfl))
 have g2:(zH5 ka kb s.heap l1 l2).get? (zH1 ka s.heap l1).objs.size=some _:=Heap.get?_push_of_some _ (Heap.get?_push_of_some _ (Heap.get?_push_of_some _ (Heap.get?_push_size _ (nf _ _))))
 have g1:(zH5 ka kb s.heap l1 l2).get? s.heap.objs.size=some _:=Heap.get?_push_of_some _ (Heap.get?_push_of_some _ (Heap.get?_push_of_some _ (Heap.get?_push_of_some _ (Heap.get?_push_size _ (nf _ _)))))
 show _/\_
 rw[z2,z3,z4] at g5
 rw[z1,z2] at g3
 rw[z3] at g4
 rw[z1] at g2
 rw[z4]
 exact⟨⟨_,g5,rfl⟩,h _ g5 g3 g4 (tX g1) (tX g2) z5 λc o x=>
  Heap.get?_push_of_some _ (Heap.get?_push_of_some _ (Heap.get?_push_of_some _ (Heap.get?_push_of_some _ (Heap.get?_push_of_some _ x))))⟩
def Itz(K:PySem.W.Frag)(ka kb:Bool)(a b:Addr):It:=
 ⟨λi H=>∃xs ys x y,Sq ka K H a xs/\Sq kb K H b ys/\xs[i]? = some x/\ys[i]? = some y,
  λi H v H'=>∃p x y,v=.ref p/\H p=none/\K.lookup p=none/\H'=upd H p (.tup [x,y])/\∀xs ys,Sq ka K H a xs->Sq kb K H b ys->xs[i]? = some x/\ys[i]? = some y,
  λi H=>∃xs ys,Sq ka K H a xs/\Sq kb K H b ys/\(xs.length<=i\/ys.length<=i)⟩
structure aDV (z TI TO i1 i2:Addr):Prop where
 TIz:TI≠z
 TOz:TO≠z
 i1z:i1≠z
 i2z:i2≠z
 TITO:TI≠TO
 TIi1:TI≠i1
 TIi2:TI≠i2
 TOi1:TO≠i1
 TOi2:TO≠i2
 i12:i1≠i2
theorem aDV.apart{X:Cx}{pins:List (Addr×Obj)}{σ:St}{H:Hp}{s:Shared}{ka kb:Bool}{a b z TI TO i1 i2:Addr}{xs ys:List V}(F:aDV z TI TO i1 i2)(I:Inv X pins σ H s)(f:∀c∈[z,TI,TO,i1,i2],jV X pins H c)
 (ha:Sq ka X.K H a xs) (hb:Sq kb X.K H b ys):ZipApart z TI TO i1 i2 a b:=
 ⟨F.TIz,F.TOz,F.i1z,F.i2z,F.TITO,F.TIi1,F.TIi2,F.TOi1,F.TOi2,F.i12,I.sqNe ha (f z (by simp)),I.sqNe ha (f TO (by simp)),I.sqNe ha (f i1 (by simp)),I.sqNe ha (f i2 (by simp)),
  I.sqNe hb (f z (by simp)),I.sqNe hb (f TO (by simp)),I.sqNe hb (f i1 (by simp)),I.sqNe hb (f i2 (by simp))⟩
theorem aBE{P:Program}{w:World}{K:PySem.W.Frag}{ka kb:Bool}{elts:List Expr}{tk:Nat}{tp:Pos}{z TI TO i1 i2 a b:Addr}(F:aDV z TI TO i1 i2) :
 vC P w K (.Tuple elts tk tp) (Itz K ka kb a b) [z,TI,TO,i1,i2] z (λi h=>IsZip h z TI TO .none/\IsPair h TI (.ref i1) (.ref i2)/\(∃u v,IsPair h TO u v)/\bZ ka h i1 a i/\bZ kb h i2 b i) where
 mem:=by simp
 obj:=λi h st c hc=>by
  obtain⟨hz,hTI,⟨u,v,hTO⟩,h1,h2⟩:=st
  have hc':c=z\/c=TI\/c=TO\/c=i1\/c=i2:=by simpa using hc
  rcases hc' with rfl|rfl|rfl|rfl|rfl
  . exact⟨_,hz,λv z=>by cases(show Data.fields _=Data.cell v from z)⟩
  . exact⟨_,hTI,λv z=>by cases(show Data.seq _ _=Data.cell v from z)⟩
  . exact⟨_,hTO,λv z=>by cases(show Data.seq _ _=Data.cell v from z)⟩
  . exact h1.obj
  . exact h2.obj
 keep:=λi h h' st k=>by
  obtain⟨hz,hTI,⟨u,v,hTO⟩,h1,h2⟩:=st
  exact⟨k z (by simp) _ hz,k TI (by simp) _ hTI,⟨u,v,k TO (by simp) _ hTO⟩,h1.at λo e=>k i1 (by simp) o e,h2.at λo e=>k i2 (by simp) o e⟩
 item:=by
  intro X hP hw hK hc i pins s σ H E I hf st hg
  subst hP hw hK
  obtain⟨hz,hTI,⟨u,v,hTO⟩,h1,h2⟩:=st
  obtain⟨xs,ys,x,y,ha,hb,hx,hy⟩:=hg
  obtain⟨as,ra,pa,_⟩:=I.sq ha
  obtain⟨bs,rb,pb,_⟩:=I.sq hb
  obtain⟨ux,hux,rx⟩:=ra.get hx
  obtain⟨uy,huy,ry⟩:=rb.get hy
  have D:=F.apart I hf ha hb
  refine gJ D hz hTI hTO h1 h2 pa pb (x:=ux) (y:=uy) (by simpa using hux) (by simpa using huy) λh' a1 a2 a3 a4 a5 a6 hk=>?_
  refine⟨_,rfl,wpAny_letOwnedTupleGo_zip (s:={ s with heap:=h' }) a1 λh'' hz' hs'=>?_⟩
  have hTne:s.heap.objs.size≠z:=Nat.ne_of_gt (Heap.lt_size hz)
  have hk2:∀c o,c∉[z,TI,TO,i1,i2]->s.heap.get? c=some o->h''.get? c=some o:=λc o hc e=>by
   have hc':c≠z/\c≠TI/\c≠TO/\c≠i1/\c≠i2:=by simpa using hc
   exact hs'.extBut _ _ hc'.1 (hk c o hc'.1 hc'.2.2.1 hc'.2.2.2.1 hc'.2.2.2.2 e)
  have tI:IsPair h'' TI (.ref i1) (.ref i2):=hs'.extBut _ _ F.TIz (hk _ _ F.TIz F.TITO F.TIi1 F.TIi2 hTI)
  have tO:IsPair h'' TO ux uy:=hs'.extBut _ _ F.TOz a2
  have t1:bZ ka h'' i1 a (i+1):=a3.at λo e=>hs'.extBut _ _ F.i1z e
  have t2:bZ kb h'' i2 b (i+1):=a4.at λo e=>hs'.extBut _ _ F.i2z e
  have tT:IsPair h'' s.heap.objs.size ux uy:=hs'.extBut _ _ hTne a5
  have hn:H s.heap.objs.size=none:=I.fresh
  have I1:Inv X pins σ (upd H s.heap.objs.size (.tup [x,y])) { s with heap:=h'' }:=by
   refine I.turnsNew (t':=s.toks) hf hk2 (λc hc=>?_) (Nat.le_refl _) ⟨by show 2<=sizeLine;rw[sizeLine_eq];decide,[ux,uy],.cons rx (.cons ry .nil),_,tT,rfl,_,rfl⟩
   have hc':c=z\/c=TI\/c=TO\/c=i1\/c=i2:=by simpa using hc
   rcases hc' with rfl|rfl|rfl|rfl|rfl
   . exact⟨_,hz'⟩
   . exact⟨_,tI⟩
   . exact⟨_,tO⟩
   . obtain⟨o,e,_⟩:=t1.obj;exact⟨o,e⟩
   . obtain⟨o,e,_⟩:=t2.obj;exact⟨o,e⟩
  refine⟨.ref s.heap.objs.size,_,I1,rfl,⟨_,x,y,rfl,hn,I.newK,rfl,λxs' ys' ha' hb'=>?_⟩,⟨hz',tI,⟨_,_,tO⟩,t1,t2⟩,λc hc=>?_⟩
  . rw[I.sq_inj ha' ha,I.sq_inj hb' hb]
    exact⟨hx,hy⟩
  . rw[aJ (Nat.ne_of_lt ?_)]
    . exact(hf c hc).1
    . obtain⟨o,e,_⟩:∃o,s.heap.get? c=some o/\True:=by
       have hc':c=z\/c=TI\/c=TO\/c=i1\/c=i2:=by simpa using hc
       rcases hc' with rfl|rfl|rfl|rfl|rfl
       . exact⟨_,hz,trivial⟩
       . exact⟨_,hTI,trivial⟩
       . exact⟨_,hTO,trivial⟩
       . obtain⟨o,e,_⟩:=h1.obj;exact⟨o,e,trivial⟩
       . obtain⟨o,e,_⟩:=h2.obj;exact⟨o,e,trivial⟩
      exact Heap.lt_size e
 done:=by
  intro X hP hw hK hc i pins s σ H E I hf st hg
  subst hP hw hK
  obtain⟨hz,hTI,⟨u,v,hTO⟩,h1,h2⟩:=st
  obtain⟨xs,ys,ha,hb,hend⟩:=hg
  obtain⟨as,ra,pa,_⟩:=I.sq ha
  obtain⟨bs,rb,pb,_⟩:=I.sq hb
  have la:=ra.length
  have lb:=rb.length
  refine hG (I.ok.hd hc) (F.apart I hf ha hb) hz hTI hTO h1 h2 pa pb ?_ λh' hk=>⟨rfl,I.turns (t':=s.toks) hf λc o hc e=>?_⟩
  . rcases hend with q|q
    . exact .inl (by simp;omega)
    . exact .inr (by simp;omega)
  . have hc':c≠z/\c≠TI/\c≠TO/\c≠i1/\c≠i2:=by simpa using hc
    exact hk c o hc'.1 hc'.2.2.1 hc'.2.2.2.1 hc'.2.2.2.2 e
 self:=λ_ _ _ _ _ st h=>wpAny_pyIter_zip st.1 h
def aKK(K:PySem.W.Frag)(ta:TA):TI:=λσ H R=>ta σ H λvs H1=>∃(ka kb:Bool) (a b:Addr) (xs ys:List V),vs=[.ref a,.ref b]/\Sq ka K H1 a xs/\Sq kb K H1 b ys/\R (Itz K ka kb a b) H1
theorem tY:bootBuiltins "zip" = some (.type "zip"):=by kernel_rfl
theorem aBF(n:Nat):aDV (n+4) (n+2) (n+3) n (n+1) where
 TIz:=by simp
 TOz:=by simp
 i1z:=by simp
 i2z:=by simp
 TITO:=by simp
 TIi1:=by simp
 TIi2:=by simp
 TOi1:=by simp
 TOi2:=by simp
 i12:=by simp
theorem aGe{X:Cx}{a b:Expr}{ta:TA}{p pos:Pos}{elts:List Expr}{tk:Nat}{tp:Pos}(hg:Gl X "zip")(hm:X.mg "zip" = none)(ha:PA X [a,b] ta)(hs:starEach [a,b] X.env=[(false,eval a X.env),(false,eval b X.env)])(hs2:starEach [b] X.env=[(false,eval b X.env)]) :
 PI X (.Tuple elts tk tp) (.Call (.Name "zip" p) [a,b] [] pos) (aKK X.K ta):=by
 intro pins s σ H R I h
 refine Call_ (eV I hg hm tY (PyProof.Rows.callWith_type1 (thn (ha pos pins s σ H _ I h) λus s1 ⟨vs,H1,I1,r1,q1⟩=>?_) (by rw[hs,hs2]) (by rw[hs2];rfl)))
 obtain⟨ka,kb,a1,b1,xs,ys,e,q1,q2,q⟩:=q1
 subst e
 cases r1 with
 | cons r rr=>
  cases rr with
  | cons r' rr=>
   cases rr
   cases r
   cases r'
   obtain⟨as,ra,pa,_⟩:=I1.sq q1
   obtain⟨bs,rb,pb,_⟩:=I1.sq q2
   refine pV pa pb λh' hz hTI hTO h1 h2 hsz hk=>wpAny_pyIter_zip (s:={ s1 with heap:=h' }) hz ?_
   refine⟨s1.heap.objs.size+4,_,_,_,H1,rfl,I1.kept (t':=s1.toks) hk,aBE (aBF _),⟨hz,hTI,⟨_,_,hTO⟩,h1,h2⟩,λc hc=>?_,q⟩
   have hc':c=s1.heap.objs.size+4\/c=s1.heap.objs.size+2\/c=s1.heap.objs.size+3\/c=s1.heap.objs.size\/c=s1.heap.objs.size+1:=by simpa using hc
   have hle:s1.heap.objs.size<=c:=by rcases hc' with rfl|rfl|rfl|rfl|rfl <;> omega
   exact I1.fpOk hle (I1.hok.fresh hle)
def Its(x:Str):It:=⟨λi _=>i<x.cps.size,λi H v H'=>H'=H/\∃c,x.cps[i]? = some c/\v=.str ⟨#[c]⟩,λi _=>x.cps.size<=i⟩
theorem tZ{P:Program}{w:World}{K:PySem.W.Frag}{tg:Expr}{it:Addr}{x:Str}{t:Tok}{ty:String}(hn:["enumerate", "zip", "dict_itemiterator", "dict_reverseitemiterator", "odict_iterator", "itertools.zip_longest", "itertools.pairwise"].contains ty=false)
 (W:∀A':Around,A'.handled=none->Walks P w A' it [it] [it] x.cps.size (SignAt x) (λi h=>h.IsStrIter it ty x t i))
 (S:∀(A:Around) (i:Nat) (s:Shared) (Q:Value->Shared->Prop) (E:Value->Shared->Prop),s.heap.IsStrIter it ty x t i->Q (.ref it) s->wpAny (model P w) A (pyIter (.ref it)) Q E s):vC P w K tg (Its x) [it] it (λi h=>i<=x.cps.size/\h.IsStrIter it ty x t i) where
 mem:=by simp
 obj:=λi h st b hb=>by
  have e:b=it:=by simpa using hb
  subst e
  obtain⟨_,o,e,c,d⟩:=st
  exact⟨o,e,λv z=>by rw[d] at z;cases z⟩
 keep:=λi h h' st k=>by
  obtain⟨hi,o,e,c,d⟩:=st
  exact⟨hi,o,k it (by simp) o e,c,d⟩
 item:=by
  intro X hP hw hK hc i pins s σ H E I hf st hg
  subst hP hw hK
  obtain⟨f0,f1,f2,f3,f4,f5⟩:=hf it (by simp)
  refine(W X.A (I.ok.hd hc)).item i s _ _ hg st.2 λv h' tk hv st' kk=>?_
  obtain⟨c,u,hcc,rfl⟩:=hv
  have I1:Inv X pins σ H { s with heap:=h',toks:=tk }:=I.turned (λb o hb e=>kk b o (by simpa using hb) e) f0 f1 f3 f4 f5
  obtain⟨o,e,oc,od⟩:=id st'
  exact⟨_,rfl,nG (s:={ s with heap:=h',toks:=tk }) e oc od hn ⟨.str ⟨#[c]⟩,H,I1,⟨u,rfl⟩,⟨rfl,c,hcc,rfl⟩,⟨hg,st'⟩,λb hb=>(hf b hb).1⟩⟩
 done:=by
  intro X hP hw hK hc i pins s σ H E I hf st hg
  subst hP hw hK
  obtain⟨f0,f1,f2,f3,f4,f5⟩:=hf it (by simp)
  have e:i=x.cps.size:=Nat.le_antisymm st.1 hg
  subst e
  exact(W X.A (I.ok.hd hc)).done s _ _ st.2 λh' tk eb=>⟨rfl,I.turned (λb o hb e=>eb b o (by simpa using hb) e) f0 f1 f3 f4 f5⟩
 self:=λA i s Q E st h=>S A i s Q E st.2 h
theorem aGf{X:Cx}{tg l:Expr}{tl:TE}(hl:PE X l tl):PI X tg l (λσ H R=>tl σ H λx H1=>(∃a,x=.ref a/\(((∃xs,SqL X.K H1 a xs)/\R (Itl X.K a) H1)\/((∃xs,SqT X.K H1 a xs)/\R (Itt X.K a) H1)))\/∃z,x=.str z/\R (Its z) H1):=by
 intro pins s σ H R I h
 refine thn (hl pins s σ H _ I h) λv s1 ⟨x,H1,I1,r1,q1⟩=>?_
 rcases q1 with⟨a,e,q⟩|⟨z,e,q⟩
 . subst e
   cases r1
   rcases q with⟨⟨xs,hq⟩,q⟩|⟨⟨xs,hq⟩,q⟩
   . obtain⟨its,rv,p,hz⟩:=I1.list hq
     refine wpAny_pyIter_list p.isList ?_
     refine⟨s1.heap.objs.size,[s1.heap.objs.size],_,_,H1,rfl,I1.kept (t':=s1.toks) λb o e=>Heap.get?_push_of_some _ e,yS a _,⟨_,Heap.get?_push_size _ rfl,rfl,rfl⟩,λb hb=>?_,q⟩
     have e:b=s1.heap.objs.size:=by simpa using hb
     subst e
     exact I1.fpOk (Nat.le_refl _) (I1.hok.fresh (Nat.le_refl _))
   . obtain⟨its,rv,p,hz⟩:=I1.tuple hq
     refine wpAny_pyIter_tuple (show s1.heap.IsTuple a its.toArray from p) ?_
     refine⟨s1.heap.objs.size,[s1.heap.objs.size],_,_,H1,rfl,I1.kept (t':=s1.toks) λb o e=>Heap.get?_push_of_some _ e,vD a _,⟨_,Heap.get?_push_size _ rfl,rfl,rfl⟩,λb hb=>?_,q⟩
     have e:b=s1.heap.objs.size:=by simpa using hb
     subst e
     exact I1.fpOk (Nat.le_refl _) (I1.hok.fresh (Nat.le_refl _))
 . subst e
   obtain⟨t,rfl⟩:=r1
   cases ha:z.cps.all (·<128) with
   | false=>
    refine wpAny_pyIter_wide ha ⟨s1.heap.objs.size,[s1.heap.objs.size],_,_,H1,rfl,I1.kept (t':=s1.toks) λb o e=>Heap.get?_push_of_some _ e,tZ (ty:= "str_iterator") (x:=z) (t:=t) (by decide) (λA' hA=>Walks.strWide hA _ z t) (λA i s Q E st h=>wpAny_pyIter_striter_wide st h),⟨Nat.zero_le _,_,Heap.get?_push_size _ rfl,rfl,rfl⟩,λb hb=>?_,q⟩
    have e:b=s1.heap.objs.size:=by simpa using hb
    subst e
    exact I1.fpOk (Nat.le_refl _) (I1.hok.fresh (Nat.le_refl _))
   | true=>
    refine wpAny_pyIter_ascii ha ⟨s1.heap.objs.size,[s1.heap.objs.size],_,_,H1,rfl,I1.kept (t':=s1.toks) λb o e=>Heap.get?_push_of_some _ e,tZ (ty:= "str_ascii_iterator") (x:=z) (t:=t) (by decide) (λA' hA=>Walks.strAscii hA _ z t) (λA i s Q E st h=>wpAny_pyIter_striter_ascii st h),⟨Nat.zero_le _,_,Heap.get?_push_size _ rfl,rfl,rfl⟩,λb hb=>?_,q⟩
    have e:b=s1.heap.objs.size:=by simpa using hb
    subst e
    exact I1.fpOk (Nat.le_refl _) (I1.hok.fresh (Nat.le_refl _))
section
variable {prog:Program} {w:World} {A:Around} {E:Value->Shared->Prop} {s:Shared}
end
end L2
end
noncomputable section
namespace Hp
open PySem PySem.Spec PyProof.Rows L2
theorem Kp.refl(R:Addr->Prop)(H:Hp):Kp R H H:=λ_ _ h _=>h
theorem Kp.same{R:Addr->Prop}{H H':Hp}(s:aM H H'):Kp R H H':=λa o h _=>s a o h
section
variable {K:Fg} {RT Y old R:Addr->Prop} {σ:Sg} {σV:L2.St} {H H':Hp}
theorem Kp.seqL(k:Kp R H H'){a:Addr}{xs:List V}(n:¬ R a)(h:SqL K H a xs):SqL K H' a xs:=by
 rcases h with(h|⟨o,h⟩)|h
 . exact .inl (.inl (k _ _ h n))
 . exact .inl (.inr ⟨o,k _ _ h n⟩)
 . exact .inr h
theorem Kp.seqT(k:Kp R H H')(hR:∀a,R a->RtO H a){a:Addr}{xs:List V}(h:SqT K H a xs):SqT K H' a xs:=by
 have no:∀{o:HO},H a=some o->(∀ys,o≠.lst ys)->(∀φ,o≠.ext φ)->¬ R a:=λ{o} e n1 n2 z=>by
  rcases hR a z with⟨ys,e'⟩|⟨ys,e'⟩
  . rw[e] at e';cases e';exact n1 _ rfl
  . rw[e] at e';cases e';exact n2 _ rfl
 rcases h with(h|⟨o,h⟩)|h
 . exact .inl (.inl (k _ _ h (no h (λ_ z=>by cases z) λ_ z=>by cases z)))
 . exact .inl (.inr ⟨o,k _ _ h (no h (λ_ z=>by cases z) λ_ z=>by cases z)⟩)
 . exact .inr h
theorem Reps.kp{ex:Addr->Prop}{ds:List D}{xs:List V}(r:Reps K H ex ds xs)(k:Kp R H H')(hR:∀a,R a->RtO H a)(hx:∀a,R a->ex a):Reps K H' ex ds xs:=
 r.keep λa o e hl hn=>k a o e λz=>by
  rcases hR a z with⟨ys,e'⟩|⟨ys,e'⟩
  . rw[e] at e'
    cases e'
    exact hl ys rfl (hx a z)
  . rw[e] at e'
    cases e'
    exact hn _ rfl
theorem Rep.kp{ex:Addr->Prop}{d:D}{x:V}(r:Rep K H ex d x)(k:Kp R H H')(hR:∀a,R a->RtO H a)(hx:∀a,R a->ex a):Rep K H' ex d x:=
 r.keep λa o e hl hn=>k a o e λz=>by
  rcases hR a z with⟨ys,e'⟩|⟨ys,e'⟩
  . rw[e] at e'
    cases e'
    exact hl ys rfl (hx a z)
  . rw[e] at e'
    cases e'
    exact hn _ rfl
def rtF(RT:Addr->Prop)(σ:Sg)(σV:L2.St)(al:List Nat)(a:Addr):Prop:=RT a/\¬ alR σ σV al a
theorem dZ:∀(al:List Nat) (σ:Sg) (i:Nat),(freeze σ al)[i]? = (σ[i]?).map λs=>if i∈al then s.freeze else s
 | [],σ,i=>by cases q:σ[i]? <;> simp[freeze,q]
 | j::al,σ,i=>by
  rw[freeze,dZ al]
  cases qj:σ[j]? with
  | none=>
   simp only
   cases q:σ[i]? with
   | none=>rfl
   | some s=>
    have hne:i≠j:=λe=>by subst e;rw[q] at qj;cases qj
    simp[hne]
  | some sj=>
   simp only
   by_cases hij:i=j
   . subst hij
     have hl:i<σ.length:=(List.getElem?_eq_some_iff.mp qj).1
     rw[List.getElem?_set_self hl,qj]
     simp only[Option.map_some,List.mem_cons,true_or,if_true]
     split
     . cases sj <;> rfl
     . rfl
   . rw[List.getElem?_set_ne (Ne.symm hij)]
     simp[hij]
theorem nV:∀(al:List Nat) (σ:Sg),(freeze σ al).length=σ.length
 | [],σ=>rfl
 | j::al,σ=>by
  rw[freeze,nV al]
  split
  . rw[List.length_set]
  . rfl
theorem freeze_sh{al:List Nat}{i:Nat}{pa:Bool}{d:D}(h:(freeze σ al)[i]? = some (.sh pa d)):σ[i]? = some (.sh pa d)\/∃ds,i∈al/\σ[i]? = some (.own pa ds)/\d=.lst ds:=by
 rw[dZ] at h
 cases q:σ[i]? with
 | none=>rw[q] at h;cases h
 | some s=>
  rw[q] at h
  have h:(if i∈al then s.freeze else s)=.sh pa d:=Option.some.inj h
  split at h
  . rename_i hi
    cases s with
    | dead=>cases h
    | sh pa' d'=>cases h;exact .inl rfl
    | own pa' ds'=>cases h;exact .inr ⟨ds',hi,rfl,rfl⟩
    | dct _=>cases h
    | par _ _=>cases h
  . exact .inl (by rw[h])
theorem eA{al:List Nat}{i:Nat}{pa:Bool}{ds:List D}(h:(freeze σ al)[i]? = some (.own pa ds)):σ[i]? = some (.own pa ds)/\i∉al:=by
 rw[dZ] at h
 cases q:σ[i]? with
 | none=>rw[q] at h;cases h
 | some s=>
  rw[q] at h
  have h:(if i∈al then s.freeze else s)=.own pa ds:=Option.some.inj h
  split at h
  . cases s <;> cases h
  . rename_i hi
    exact⟨by rw[h],hi⟩
theorem vW{al:List Nat}{i:Nat}{ds:List (NK×D)}(h:(freeze σ al)[i]? = some (.dct ds)):σ[i]? = some (.dct ds):=by
 rw[dZ] at h
 cases q:σ[i]? with
 | none=>rw[q] at h;cases h
 | some s=>
  rw[q] at h
  have h:(if i∈al then s.freeze else s)=.dct ds:=Option.some.inj h
  split at h
  . cases s with
    | dct d=>exact congrArg some h
    | _=>cases h
  . rw[h]
theorem vX{al:List Nat}{i:Nat}{ds es:List D}(h:(freeze σ al)[i]? = some (.par ds es)):σ[i]? = some (.par ds es):=by
 rw[dZ] at h
 cases q:σ[i]? with
 | none=>rw[q] at h;cases h
 | some s=>
  rw[q] at h
  have h:(if i∈al then s.freeze else s)=.par ds es:=Option.some.inj h
  split at h
  . cases s with
    | par d e=>exact congrArg some h
    | _=>cases h
  . rw[h]
theorem Sx.frz(S:Sx K RT Y old σ σV H)(al:List Nat):Sx K (rtF RT σ σV al) Y old (freeze σ al) σV H where
 sh:=λi pa d h=>by
  rcases freeze_sh h with h|⟨ds,hi,ho,e⟩
  . obtain⟨v,h1,h2⟩:=S.sh i pa d h
    exact⟨v,h1,h2.weak λa z=>z.elim (λz=>.inl z.1) .inr⟩
  . subst e
    obtain⟨a,xs,h1,h2,h3,h4,h5⟩:=S.own i pa ds ho
    refine⟨.ref a,h1,a,xs,rfl,SqL.of h2,?_,h5.weak λa z=>z.elim (λz=>.inl z.1) .inr⟩
    rintro (z|z|⟨_,z⟩)
    . exact z.2 ⟨i,hi,⟨pa,ds,ho⟩,h1⟩
    . exact h4 (S.yo a z)
    . exact h4 z
 own:=λi pa ds h=>by
  obtain⟨h,hi⟩:=eA h
  obtain⟨a,xs,h1,h2,h3,h4,h5⟩:=S.own i pa ds h
  refine⟨a,xs,h1,h2,⟨h3,?_⟩,h4,h5.weak λa z=>z.elim (λz=>.inl z.1) .inr⟩
  rintro ⟨j,hj,⟨pa',ds',q⟩,q'⟩
  have:=S.inj i j pa pa' ds ds' a h q h1 q'
  subst this
  exact hi hj
 trk:=λa z=>S.trk a (z.elim (λz=>.inl z.1) .inr)
 yo:=S.yo
 tk:=S.tk
 rt:=λa z=>S.rt a z.1
 inj:=λi j pa pa' ds ds' a h1 h2 h3 h4=>S.inj i j pa pa' ds ds' a (eA h1).1 (eA h2).1 h3 h4
 len:=by rw[nV];exact S.len
 dx:=S.dx.imp id (λ_ _ e=>⟨vW e,rfl⟩) (λ_ _ _ _ _ _ e=>e) (λa xs e z o=>⟨e,z,λ⟨j,_,⟨pa,ds,q⟩,q'⟩=>by
  obtain⟨b,ys,h1,h2,h3,h4,h5⟩:=S.own j pa ds q
  rw[q'] at h1
  cases h1
  rw[e] at h2
  cases h2⟩) (λ_ _ r=>r) (λ_ _ _ e=>⟨vX e,rfl⟩) (λ_ _ _ _ _ _ _ _ e=>e) λp xs e z=>⟨e,⟨z.1,λ⟨j,_,⟨pa,ds,q⟩,q'⟩=>z.2.2 j pa ds q q'⟩,z.2.1,λk pa ds q=>z.2.2 k pa ds (eA q).1⟩
theorem Tk.new{p:Addr}{o:HO}(t:Tk K H)(h:K.lookup p=none):Tk K (upd H p o):=λb hb=>by
 by_cases e:b=p
 . rw[e];exact h
 . rw[aJ e] at hb;exact t b hb
def Nw(K:Fg)(H:Hp)(a:Addr):Prop:=H a=none/\K.lookup a=none
theorem aDW{a:Addr}{xs:List V}(q:SqL K H a xs):¬ Nw K H a:=by
 rintro ⟨n,k⟩
 rcases q with(q|⟨o,q⟩)|⟨o,its,m,q,_⟩
 . rw[n] at q;cases q
 . rw[n] at q;cases q
 . rw[k] at q;cases q
theorem Reps.outN{ex:Addr->Prop}{d:List D}{v:List V}(h:Reps K H ex d v):Reps K H (λb=>ex b\/Nw K H b) d v:=
 Reps.imp (λ_ _ q=>q) (λb xs nb q=>⟨λz=>z.elim nb (aDW q),q⟩) (λ_ _ _ _ q=>q) d v h
theorem RvN.sub{ex:Addr->Prop}{v:Vl}{d:D}{x:V}(h:Rep K H' (λa=>exV RT Y old σ σV v.pa v.al a\/ex a) d x):Rep K H' (λa=>exV RT Y old σ σV (v.sub d).pa (v.sub d).al a\/ex a) (v.sub d).d x:=by
 unfold Vl.sub
 by_cases hn:noL d=true
 . rw[if_pos hn]
   exact Rep.free d x hn h
 . rw[if_neg hn]
   exact h
structure zO (K:Fg) (RT Y old:Addr->Prop) (σ:Sg) (σV:L2.St) (H1:Hp) (J:L2.It) (xs:List Vl) (al:List Nat):Prop where
 sub:∀v∈xs,∀j∈v.al,j∈al
 nofr:∀v∈xs,v.fr=false
 ok:∀(R:Addr->Prop),(∀b,R b->rtF RT σ σV al b)->∀(i:Nat) (H:Hp),Kp R H1 H->(i<xs.length->J.go i H)/\(xs.length<=i->J.stop i H)/\∀x H',J.yld i H x H'->∀v,xs[i]? = some v->aM H H'/\(Tk K H->Tk K H')/\Rep K H' (λa=>exV RT Y old σ σV v.pa v.al a\/Nw K H1 a) v.d x
theorem vY{v:Vl}{d:D}:∀j∈(v.sub d).al,j∈v.al:=by
 unfold Vl.sub Vl.cl
 split
 . intro j hj;cases hj
 . intro j hj;exact hj
theorem nW{v:Vl}{d:D}:(v.sub d).fr=false:=by
 unfold Vl.sub Vl.cl
 split <;> rfl
theorem lH{x:Vl}{ds:List D}{i:Nat}{v:Vl}(h:(items x ds)[i]? = some v):∃d,ds[i]? = some d/\v=x.sub d:=by
 unfold items at h
 rw[List.getElem?_map] at h
 cases q:ds[i]? with
 | none=>rw[q] at h;cases h
 | some d=>rw[q] at h;exact⟨d,rfl,(Option.some.inj h).symm⟩
theorem lI{al:List Nat}{pa:Bool}{b:Addr}(h:rtF RT σ σV al b):exV RT Y old σ σV pa al b:=.inl h
theorem mD:∀(as bs:List D),(dR as bs).length=min as.length bs.length
 | [],_=>by simp[dR]
 | _::_,[]=>by simp[dR]
 | _::as,_::bs=>by
  rw[dR,lC,mD as bs,lC,lC]
  omega
theorem uA:∀{as bs:List D} {i:Nat} {a b:D},as[i]? = some a->bs[i]? = some b->(dR as bs)[i]? = some (.tup [a,b])
 | [],_,_,_,_,h,_=>by simp at h
 | _::_,[],_,_,_,_,h=>by simp at h
 | _::_,_::_,0,_,_,h,h'=>by
  simp at h h'
  subst h h'
  rfl
 | _::as,_::bs,i+1,a,b,h,h'=>by
  have:=uA (as:=as) (bs:=bs) (i:=i) (a:=a) (b:=b) (by simpa using h) (by simpa using h')
  simpa[dR] using this
theorem aDX(S:Sx K RT Y old σ σV H){x:Vl}{ds:List D}{a:Addr}{xs:List V}(q:SqL K H a xs)(n:¬ exV RT Y old σ σV x.pa x.al a)(r:Reps K H (exV RT Y old σ σV x.pa x.al) ds xs) :
 zO K RT Y old σ σV H (Itl K a) (items x ds) x.al where
 sub:=λv hv j hj=>by
  obtain⟨d,_,e⟩:=List.mem_map.mp hv
  subst e
  exact vY j hj
 nofr:=λv hv=>by
  obtain⟨d,_,e⟩:=List.mem_map.mp hv
  subst e
  exact nW
 ok:=λR hR i H1 k=>by
  have q1:SqL K H1 a xs:=k.seqL (λz=>n (lI (hR a z))) q
  have r1:Reps K H1 (λa=>exV RT Y old σ σV x.pa x.al a\/Nw K H a) ds xs:=r.outN.kp k (λb z=>S.rt b (hR b z).1) λb z=>.inl (lI (hR b z))
  have hl:(items x ds).length=xs.length:=by unfold items;rw[lM,r.length]
  refine⟨λhi=>⟨xs,xs[i]'(by omega),q1,List.getElem?_eq_getElem (by omega)⟩,λhi=>⟨xs,q1,by omega⟩,λy H' hy v hv=>?_⟩
  obtain⟨e,hy⟩:=hy
  subst e
  obtain⟨d,hd,e⟩:=lH hv
  subst e
  obtain⟨y',hy',ry⟩:=r1.get hd
  rw[hy xs q1] at hy'
  cases hy'
  exact⟨aM.refl _,id,RvN.sub ry⟩
theorem aGg(S:Sx K RT Y old σ σV H){x:Vl}{ds:List D}{a:Addr}{xs:List V}(q:SqT K H a xs)(r:Reps K H (exV RT Y old σ σV x.pa x.al) ds xs) :
 zO K RT Y old σ σV H (Itt K a) (items x ds) x.al where
 sub:=λv hv j hj=>by
  obtain⟨d,_,e⟩:=List.mem_map.mp hv
  subst e
  exact vY j hj
 nofr:=λv hv=>by
  obtain⟨d,_,e⟩:=List.mem_map.mp hv
  subst e
  exact nW
 ok:=λR hR i H1 k=>by
  have q1:SqT K H1 a xs:=k.seqT (λb z=>S.rt b (hR b z).1) q
  have r1:Reps K H1 (λa=>exV RT Y old σ σV x.pa x.al a\/Nw K H a) ds xs:=r.outN.kp k (λb z=>S.rt b (hR b z).1) λb z=>.inl (lI (hR b z))
  have hl:(items x ds).length=xs.length:=by unfold items;rw[lM,r.length]
  refine⟨λhi=>⟨xs,xs[i]'(by omega),q1,List.getElem?_eq_getElem (by omega)⟩,λhi=>⟨xs,q1,by omega⟩,λy H' hy v hv=>?_⟩
  obtain⟨e,hy⟩:=hy
  subst e
  obtain⟨d,hd,e⟩:=lH hv
  subst e
  obtain⟨y',hy',ry⟩:=r1.get hd
  rw[hy xs q1] at hy'
  cases hy'
  exact⟨aM.refl _,id,RvN.sub ry⟩
theorem aBG{lo:Int}{m:Nat}{xs:List Vl}(hx:xs=((List.range m).map λ(k:Nat)=>Vl.cl (.int (lo+(k:Int))))):zO K RT Y old σ σV H (Itr lo m) xs [] where
 sub:=λv hv j hj=>by
  subst hx
  obtain⟨d,_,e⟩:=List.mem_map.mp hv
  subst e
  exact hj
 nofr:=λv hv=>by
  subst hx
  obtain⟨d,_,e⟩:=List.mem_map.mp hv
  subst e
  rfl
 ok:=λR hR i H1 k=>by
  have hl:xs.length=m:=by rw[hx,lM,List.length_range]
  refine⟨λhi=>(show i<m by omega),λhi=>(show m<=i by omega),λy H' hy v hv=>?_⟩
  obtain⟨e,hy⟩:=hy
  subst e hy
  subst hx
  rw[List.getElem?_map] at hv
  have hi:i<m:=by
   have:=(List.getElem?_eq_some_iff.mp (show((List.range m).map λ(k:Nat)=>Vl.cl (.int (lo+(k:Int))))[i]? = some v by rw[List.getElem?_map];exact hv)).1
   simpa using this
  rw[List.getElem?_range hi] at hv
  cases hv
  exact⟨aM.refl _,id,rfl⟩
theorem aGh{z:Str}{xs:List Vl}(hx:xs=(z.cps.toList.map λn=>Vl.cl (.str ⟨#[n]⟩))):zO K RT Y old σ σV H (Its z) xs [] where
 sub:=λv hv j hj=>by
  subst hx
  obtain⟨d,_,e⟩:=List.mem_map.mp hv
  subst e
  exact hj
 nofr:=λv hv=>by
  subst hx
  obtain⟨d,_,e⟩:=List.mem_map.mp hv
  subst e
  rfl
 ok:=λR hR i H1 k=>by
  have hl:xs.length=z.cps.size:=by rw[hx,lM,Array.length_toList]
  refine⟨λhi=>(show i<z.cps.size by omega),λhi=>(show z.cps.size<=i by omega),λy H' hy v hv=>?_⟩
  obtain⟨e,c,hc,hy⟩:=hy
  subst e hy
  subst hx
  rw[List.getElem?_map,Array.getElem?_toList,hc] at hv
  cases hv
  exact⟨aM.refl _,id,rfl⟩
theorem aGi(S:Sx K RT Y old σ σV H){ka kb:Bool}{as bs:List D}{a b:Addr}{xs ys:List V}{pa:Bool}{al:List Nat}(qa:Sq ka K H a xs)(qb:Sq kb K H b ys)(na:ka=true->¬ exV RT Y old σ σV pa al a)(nb:kb=true->¬ exV RT Y old σ σV pa al b)
 (ra:Reps K H (exV RT Y old σ σV pa al) as xs) (rb:Reps K H (exV RT Y old σ σV pa al) bs ys):zO K RT Y old σ σV H (Itz K ka kb a b) (items ⟨.non,false,pa,al⟩ (dR as bs)) al where
 sub:=λv hv j hj=>by
  obtain⟨d,_,e⟩:=List.mem_map.mp hv
  subst e
  exact vY j hj
 nofr:=λv hv=>by
  obtain⟨d,_,e⟩:=List.mem_map.mp hv
  subst e
  exact nW
 ok:=λR hR i H1 k=>by
  have keep:∀{kk:Bool} {c:Addr} {zs:List V},(kk=true->¬ exV RT Y old σ σV pa al c)->Sq kk K H c zs->Sq kk K H1 c zs:=by
   intro kk c zs nn q
   cases kk with
   | true=>exact k.seqL (λz=>nn rfl (lI (hR c z))) q
   | false=>exact k.seqT (λb z=>S.rt b (hR b z).1) q
  have qa1:=keep na qa
  have qb1:=keep nb qb
  have ra1:Reps K H1 (λa=>exV RT Y old σ σV pa al a\/Nw K H a) as xs:=ra.outN.kp k (λb z=>S.rt b (hR b z).1) λb z=>.inl (lI (hR b z))
  have rb1:Reps K H1 (λa=>exV RT Y old σ σV pa al a\/Nw K H a) bs ys:=rb.outN.kp k (λb z=>S.rt b (hR b z).1) λb z=>.inl (lI (hR b z))
  have hl:(items ⟨.non,false,pa,al⟩ (dR as bs)).length=min xs.length ys.length:=by unfold items;rw[lM,mD,ra.length,rb.length]
  have ge:∀(h1:i<xs.length) (h2:i<ys.length),True:=λ_ _=>trivial
  refine⟨λhi=>?_,λhi=>⟨xs,ys,qa1,qb1,by omega⟩,λy H' hy v hv=>?_⟩
  . have h1:i<xs.length:=by omega
    have h2:i<ys.length:=by omega
    exact⟨xs,ys,xs[i],ys[i],qa1,qb1,List.getElem?_eq_getElem h1,List.getElem?_eq_getElem h2⟩
  . obtain⟨p,x,y',rfl,hp,hk,rfl,hh⟩:=hy
    obtain⟨hx,hy⟩:=hh xs ys qa1 qb1
    obtain⟨d,hd,e⟩:=lH hv
    subst e
    obtain⟨d1,hd1,rd1⟩:=ra1.get' hx
    obtain⟨d2,hd2,rd2⟩:=rb1.get' hy
    rw[uA hd1 hd2] at hd
    cases hd
    have sm:aM H1 (upd H1 p (.tup [x,y'])):=aM.new hp
    refine⟨sm,λtk=>tk.new hk,RvN.sub (v:=⟨.non,false,pa,al⟩) ?_⟩
    exact⟨p,[x,y'],rfl,SqT.of cE,.cons (rd1.grow sm) (.cons (rd2.grow sm) .nil)⟩
end
section
variable {X:Cx} {P:Pg} {Γ:Ct} {n:Nat} {RT Y old:Addr->Prop} {σ:Sg} {tg:Expr}
def wI(X:Cx)(P:Pg)(n:Nat)(RT Y old:Addr->Prop)(σ:Sg)(it:Hp.It):TI:=λσV H R=>Sx X.K RT Y old σ σV H/\RE (wx X σV H) (walk P (call P n) σ it) λxs=>∀J H1,Tk X.K H1->aM H H1->zO X.K RT Y old σ σV H1 J xs.1 xs.2->R J H1
theorem rM{iter:Expr}{t t':TI}(h:PI X tg iter t)(f:∀σV H R,Tk X.K H->t' σV H R->t σV H λJ H'=>Tk X.K H'->R J H'):PI X tg iter t':=λpins s σV H R I hw=>
 thn (h pins s σV H _ I (f σV H R I.tk hw)) λv s1 h1=>thn h1 λitv s2 ⟨it,fp,tn,J,H',e,I',T,st,fo,q⟩=>⟨it,fp,tn,J,H',e,I',T,st,fo,q I'.tk⟩
theorem aIy{c:E}{e:Expr}(ha:PE X e (WE X P n RT Y old σ c)):PI X tg e (wI X P n RT Y old σ (.seq c)):=by
 refine rM (aGf ha) λσV H RR t ⟨S,h⟩=>?_
 have h:=RE.bind' (show RE _ (ev P (call P n) σ c >>= λx=>(match x.d with
  | .lst ds=>R.ok (items x ds,x.al)
  | .tup ds=>R.ok (items x ds,x.al)
  | .str a=>R.iff (decide (a.length<=lim)) (R.ok (a.cps.toList.map λn=>Vl.cl (.str ⟨#[n]⟩),[]))
  | _=>.bad)) _ from h)
 refine wE.one S h λx u H1 hx t1 S1 r1=>?_
 have rv:=r1.rv S
 split at hx
 . rename_i ds d1
   obtain⟨a,xs,e,q,nn,r⟩:=rv.lst d1
   exact .inl ⟨a,e,.inl ⟨⟨xs,q⟩,λt'=>hx _ _ t' r1.1 (aDX S1 q nn r)⟩⟩
 . rename_i ds d1
   obtain⟨a,xs,e,q,r⟩:=rv.tup d1
   exact .inl ⟨a,e,.inr ⟨⟨xs,q⟩,λt'=>hx _ _ t' r1.1 (aGg S1 q r)⟩⟩
 . rename_i z d1
   obtain⟨c,hx⟩:=hx.iff
   exact .inr ⟨z,rv.str d1,λt'=>hx _ _ t' r1.1 (aGh rfl)⟩
 . exact hx.elim
theorem nX(i j:Int):(fT i j).map Vl.cl=(List.range (j-i).toNat).map λ(k:Nat)=>Vl.cl (.int (i+(k:Int))):=by
 unfold fT
 rw[List.map_map]
 rfl
theorem lJ{k:Int}(h:aI k=true):-(2 ^ 62)<=k/\k<2 ^ 62:=by
 unfold aI at h
 simp only[bA,decide_eq_true_eq] at h
 exact h
theorem aGj(M:Mc X P Γ n){b:E}{e:Expr}{f:Str}{p pos:Pos}(hf:f=("range" : Str))(hg:cS Γ f=true)(ha:PE X e (WE X P n RT Y old σ b))(hp:aV e=true):PI X tg (.Call (.Name f p) [e] [] pos) (wI X P n RT Y old σ (.rng (.c (.int 0)) b)):=by
 subst hf
 refine rM (yT (M.gl hg) (M.md.blt _ (by decide +kernel)) (gY ha tV hp) (aA hp)) λσV H RR t ⟨S,h⟩=>?_
 have h:RE _ (ev P (call P n) σ b) λy=>RE _ (match (D.int 0),y.d with|.int i,.int j=>R.iff (aI i&&aI j) (R.ok ((fT i j).map Vl.cl,[]))|_,_=>.bad) _:=
  RE.bind' (show RE _ (ev P (call P n) σ b >>= λy=>(match (D.int 0),y.d with|.int i,.int j=>R.iff (aI i&&aI j) (R.ok ((fT i j).map Vl.cl,[]))|_,_=>.bad)) _ from h)
 refine⟨S,?_⟩
 show RE _ (ev P (call P n) σ b >>= λx=>evs P (call P n) σ .nil >>= λxs=>R.ok (x::xs)) _
 rw[RE.bind]
 refine h.mono λy hy=>?_
 split at hy
 . rename_i i j e1 e2
   cases e1
   obtain⟨c,hy⟩:=hy.iff
   rw[bA] at c
   have c2:=lJ c.2
   intro us H1 t1 s1 r1
   obtain⟨u,r',eu,ru,hr⟩:=r1
   rw[show r'=[] from hr] at eu
   subst eu
   refine⟨j,by rw[ru.int e2],c2.1,c2.2,λt'=>hy _ _ t' s1 (aBG ?_)⟩
   rw[nX]
   simp
 . exact hy.elim
theorem aGk(M:Mc X P Γ n){a b:E}{ea eb:Expr}{f:Str}{p pos:Pos}(hf:f=("range" : Str))(hg:cS Γ f=true)(ha:PE X ea (WE X P n RT Y old σ a))(hb:PE X eb (WE X P n RT Y old σ b))(hpa:aV ea=true)(hpb:aV eb=true) :
 PI X tg (.Call (.Name f p) [ea,eb] [] pos) (wI X P n RT Y old σ (.rng a b)):=by
 subst hf
 refine rM (yU (M.gl hg) (M.md.blt _ (by decide +kernel)) (gY ha (gY hb tV hpb) hpa) (by rw[aA hpa,aA hpb];rfl) (aA hpb)) λσV H RR t ⟨S,h⟩=>?_
 have h:=RE.bind' (show RE _ (ev P (call P n) σ a >>= λx=>ev P (call P n) σ b >>= λy=>(match x.d,y.d with|.int i,.int j=>R.iff (aI i&&aI j) (R.ok ((fT i j).map Vl.cl,[]))|_,_=>.bad)) _ from h)
 refine⟨S,?_⟩
 show RE _ (ev P (call P n) σ a >>= λx=>evs P (call P n) σ (.cons b .nil) >>= λxs=>R.ok (x::xs)) _
 rw[RE.bind]
 refine h.mono λx hx=>?_
 rw[RE.bind]
 show RE _ (ev P (call P n) σ b >>= λx=>evs P (call P n) σ .nil >>= λxs=>R.ok (x::xs)) _
 rw[RE.bind]
 refine(RE.bind' hx).mono λy hy=>?_
 split at hy
 . rename_i i j e1 e2
   obtain⟨c,hy⟩:=hy.iff
   rw[bA] at c
   have c1:=lJ c.1
   have c2:=lJ c.2
   intro us H1 t1 s1 r1
   obtain⟨u,r',eu,ru,u2,r2,eu2,ru2,hr⟩:=r1
   rw[show r2=[] from hr] at eu2
   subst eu2
   subst eu
   refine⟨i,j,by rw[ru.int e1,ru2.int e2],⟨c1.1,c1.2,c2.1,c2.2⟩,λt'=>hy _ _ t' s1 (aBG ?_)⟩
   rw[nX]
 . exact hy.elim
theorem rN{σV:L2.St}{H:Hp}{x:Vl}{u:V}{ds:List D}(hx:Rv X.K RT Y old σ σV H x u)(h:eY x.d=some ds):∃(k:Bool) (a:Addr) (xs:List V),u=.ref a/\Sq k X.K H a xs/\(k=true->¬ exV RT Y old σ σV x.pa x.al a)/\Reps X.K H (exV RT Y old σ σV x.pa x.al) ds xs:=by
 unfold eY at h
 split at h
 . rename_i ds' d1
   cases h
   obtain⟨a,xs,e,q,nn,r⟩:=hx.lst d1
   exact⟨true,a,xs,e,q,λ_=>nn,r⟩
 . rename_i ds' d1
   cases h
   obtain⟨a,xs,e,q,r⟩:=hx.tup d1
   exact⟨false,a,xs,e,q,(λz=>absurd z bN),r⟩
 . cases h
theorem aIz(M:Mc X P Γ n){a b:E}{ea eb:Expr}{f:Str}{p pos:Pos}{elts:List Expr}{tk:Nat}{tp:Pos}(hf:f=("zip" : Str))(hg:cS Γ f=true)(ha:PE X ea (WE X P n RT Y old σ a))(hb:PE X eb (WE X P n RT Y old σ b))(hpa:aV ea=true)(hpb:aV eb=true) :
 PI X (.Tuple elts tk tp) (.Call (.Name f p) [ea,eb] [] pos) (wI X P n RT Y old σ (.zip a b)):=by
 subst hf
 refine rM (aGe (M.gl hg) (M.md.blt _ (by decide +kernel)) (gY ha (gY hb tV hpb) hpa) (by rw[aA hpa,aA hpb];rfl) (aA hpb)) λσV H RR t ⟨S,h⟩=>?_
 have h:=RE.bind' (show RE _ (ev P (call P n) σ a >>= λx=>ev P (call P n) σ b >>= λy=>(match eY x.d,eY y.d with
  | some as,some bs=>R.ok (items ⟨.non,false,x.pa||y.pa,x.al++y.al⟩ (dR as bs),x.al++y.al)
  | _,_=>.bad)) _ from h)
 refine⟨S,?_⟩
 show RE _ (ev P (call P n) σ a >>= λx=>evs P (call P n) σ (.cons b .nil) >>= λxs=>R.ok (x::xs)) _
 rw[RE.bind]
 refine h.mono λx hx=>?_
 rw[RE.bind]
 show RE _ (ev P (call P n) σ b >>= λx=>evs P (call P n) σ .nil >>= λxs=>R.ok (x::xs)) _
 rw[RE.bind]
 refine(RE.bind' hx).mono λy hy=>?_
 split at hy
 . rename_i as bs e1 e2
   intro us H1 t1 s1 r1
   obtain⟨u,r',eu,ru,u2,r2,eu2,ru2,hr⟩:=r1
   rw[show r2=[] from hr] at eu2
   subst eu2
   subst eu
   obtain⟨ka,a1,xs,rfl,qa,na,ra⟩:=rN ru e1
   obtain⟨kb,b1,ys,rfl,qb,nb,rb⟩:=rN ru2 e2
   have S1:=S.grow s1 t1
   have w1:∀c,exV RT Y old σ σV (x.pa||y.pa) (x.al++y.al) c->exV RT Y old σ σV x.pa x.al c:=λc z=>z.mono (λhp=>by rw[hp];rfl) λj hj=>List.mem_append_left _ hj
   have w2:∀c,exV RT Y old σ σV (x.pa||y.pa) (x.al++y.al) c->exV RT Y old σ σV y.pa y.al c:=λc z=>z.mono (λhp=>by rw[hp,Bool.or_true]) λj hj=>List.mem_append_right _ hj
   exact⟨ka,kb,a1,b1,xs,ys,rfl,qa,qb,λt'=>hy _ _ t' s1 (aGi S1 qa qb (λhk z=>na hk (w1 _ z)) (λhk z=>nb hk (w2 _ z)) (ra.weak w1) (rb.weak w2))⟩
 . exact hy.elim
end
def gs:List Nat->TGs
 | []=>aHw
 | i::is=>aEI (pG i) (gs is)
def gT(K:Fg):T->TG
 | .n i=>pG i
 | .t is=>aHx K is.length (gs is)
section
variable {K:Fg} {RT Y old:Addr->Prop} {σ:Sg} {σV:L2.St} {H H':Hp}
theorem set_some{α:Type}{l:List α}{i j:Nat}{x y:α}(e:(l.set i x)[j]? = some y):(i=j/\x=y/\i<l.length)\/(i≠j/\l[j]? = some y):=by
 by_cases hij:i=j
 . subst hij
   have hl:i<(l.set i x).length:=(List.getElem?_eq_some_iff.mp e).1
   rw[List.length_set] at hl
   rw[List.getElem?_set_self hl] at e
   cases e
   exact .inl ⟨rfl,rfl,hl⟩
 . rw[List.getElem?_set_ne hij] at e
   exact .inr ⟨hij,e⟩
theorem Sx.setSh(S:Sx K RT Y old σ σV H){i:Nat}{pa:Bool}{d:D}{u:V}(h:Rep K H (λa=>RT a\/exB Y old pa a) d u):Sx K RT Y old (σ.set i (.sh pa d)) (σV.set i (some u)) H where
 sh:=λj pa' d' e=>by
  rcases set_some e with⟨rfl,e,hl⟩|⟨hij,e⟩
  . cases e
    exact⟨u,List.getElem?_set_self (by rw[<-S.len];exact hl),h⟩
  . obtain⟨v,h1,h2⟩:=S.sh j pa' d' e
    exact⟨v,by rw[List.getElem?_set_ne hij];exact h1,h2⟩
 own:=λj pa' ds e=>by
  rcases set_some e with⟨rfl,e,hl⟩|⟨hij,e⟩
  . cases e
  . obtain⟨a,xs,h1,h2⟩:=S.own j pa' ds e
    exact⟨a,xs,by rw[List.getElem?_set_ne hij];exact h1,h2⟩
 trk:=S.trk
 yo:=S.yo
 tk:=S.tk
 rt:=S.rt
 inj:=λj j' pa' pa'' ds ds' a e1 e2 e3 e4=>by
  rcases set_some e1 with⟨_,e,_⟩|⟨n1,e1⟩
  . cases e
  rcases set_some e2 with⟨_,e,_⟩|⟨n2,e2⟩
  . cases e
  rw[List.getElem?_set_ne n1] at e3
  rw[List.getElem?_set_ne n2] at e4
  exact S.inj j j' pa' pa'' ds ds' a e1 e2 e3 e4
 len:=by rw[List.length_set,List.length_set];exact S.len
 dx:=S.dx.imp id (λj ds e=>by
  rcases set_some e with⟨_,z,_⟩|⟨hij,e⟩
  . cases z
  . exact⟨e,List.getElem?_set_ne hij⟩) (λ_ _ _ _ _ _ e=>e) (λ_ _ e z _=>⟨e,z⟩) (λ_ _ r=>r) (λj ds es e=>by
  rcases set_some e with⟨_,z,_⟩|⟨hij,e⟩
  . cases z
  . exact⟨e,List.getElem?_set_ne hij⟩) (λ_ _ _ _ _ _ _ _ e=>e) λp xs e z=>⟨e,z.1,z.2.1,λk pa' ds q=>by
  rcases set_some q with⟨_,w,_⟩|⟨hij,q⟩
  . cases w
  . rw[List.getElem?_set_ne hij];exact z.2.2 k pa' ds q⟩
theorem Rep.out{ex:Addr->Prop}{d:D}{v:V}{a:Addr}(h:Rep K H ex d v)(n:H a=none)(k:K.lookup a=none):Rep K H (λb=>b=a\/ex b) d v:=
 Rep.imp (λ_ _ q=>q) (λb xs nb q=>⟨λz=>z.elim (λz=>by
  subst z
  rcases q with(q|⟨o,q⟩)|⟨o,its,m,q,_⟩
  . rw[n] at q;cases q
  . rw[n] at q;cases q
  . rw[k] at q;cases q) nb,q⟩) (λ_ _ _ _ q=>q) d v h
theorem Reps.out{ex:Addr->Prop}{d:List D}{v:List V}{a:Addr}(h:Reps K H ex d v)(n:H a=none)(k:K.lookup a=none):Reps K H (λb=>b=a\/ex b) d v:=
 Reps.imp (λ_ _ q=>q) (λb xs nb q=>⟨λz=>z.elim (λz=>by
  subst z
  rcases q with(q|⟨o,q⟩)|⟨o,its,m,q,_⟩
  . rw[n] at q;cases q
  . rw[n] at q;cases q
  . rw[k] at q;cases q) nb,q⟩) (λ_ _ _ _ q=>q) d v h
theorem Sx.storeOwn(S:Sx K RT Y old σ σV H){i:Nat}{a:Addr}{xs:List V}{ds:List D}{pa:Bool}(s:aM H H')(t:Tk K H')(hn:H a=none)(ha:H' a=some (.lst xs))(r:Reps K H' (λb=>(RT b\/b=a)\/exB Y old pa b) ds xs) :
 Sx K (λb=>RT b\/b=a) Y old (σ.set i (.own pa ds)) (σV.set i (some (.ref a))) H' where
 sh:=λj pa' d' e=>by
  rcases set_some e with⟨rfl,e,hl⟩|⟨hij,e⟩
  . cases e
  . obtain⟨v,h1,h2⟩:=S.sh j pa' d' e
    refine⟨v,by rw[List.getElem?_set_ne hij];exact h1,((h2.out hn (t a (by rw[ha];simp))).grow s).weak λb z=>?_⟩
    rcases z with(z|z)|z
    . exact .inr (.inl z)
    . exact .inl z
    . exact .inr (.inr z)
 own:=λj pa' ds' e=>by
  rcases set_some e with⟨rfl,e,hl⟩|⟨hij,e⟩
  . cases e
    exact⟨a,xs,List.getElem?_set_self (by rw[<-S.len];exact hl),ha,.inr rfl,λz=>S.trk a (.inr (.inr z)) hn,r⟩
  . obtain⟨a',xs',h1,h2,h3,h4,h5⟩:=S.own j pa' ds' e
    refine⟨a',xs',by rw[List.getElem?_set_ne hij];exact h1,s _ _ h2,.inl h3,h4,((h5.out hn (t a (by rw[ha];simp))).grow s).weak λb z=>?_⟩
    rcases z with(z|z)|z
    . exact .inr (.inl z)
    . exact .inl z
    . exact .inr (.inr z)
 trk:=λb z q=>by
  rcases z with(z|z)|z
  . exact S.trk b (.inl z) (s.free q)
  . rw[z,ha] at q;cases q
  . exact S.trk b (.inr z) (s.free q)
 yo:=S.yo
 tk:=t
 rt:=λb z=>by
  rcases z with z|z
  . exact(S.rt b z).grow s
  . rw[z];exact .inl ⟨xs,ha⟩
 inj:=λj j' pa' pa'' ds1 ds2 c e1 e2 e3 e4=>by
  have fr:∀{j:Nat} {pa:Bool} {ds:List D},σ[j]? = some (.own pa ds)->σV[j]? = some (some (.ref a))->False:=λ{j pa ds} e q=>by
   obtain⟨a',xs',h1,h2,_⟩:=S.own j pa ds e
   rw[q] at h1
   cases h1
   rw[hn] at h2;cases h2
  rcases set_some e1 with⟨rfl,e,hl⟩|⟨n1,e1⟩
  . rcases set_some e2 with⟨rfl,_,_⟩|⟨n2,e2⟩
    . rfl
    . rw[List.getElem?_set_self (by rw[<-S.len];exact hl)] at e3
      cases e3
      rw[List.getElem?_set_ne n2] at e4
      exact(fr e2 e4).elim
  . rw[List.getElem?_set_ne n1] at e3
    rcases set_some e2 with⟨rfl,e,hl⟩|⟨n2,e2⟩
    . rw[List.getElem?_set_self (by rw[<-S.len];exact hl)] at e4
      cases e4
      exact(fr e1 e3).elim
    . rw[List.getElem?_set_ne n2] at e4
      exact S.inj j j' pa' pa'' ds1 ds2 c e1 e2 e3 e4
 len:=by rw[List.length_set,List.length_set];exact S.len
 dx:=S.dx.imp id (λj ds e=>by
  rcases set_some e with⟨_,z,_⟩|⟨hij,e⟩
  . cases z
  . exact⟨e,List.getElem?_set_ne hij⟩) (λ_ _ _ _ _ _ e=>e) (λb ys e z _=>⟨s _ _ e,.inl z⟩) (λ_ _ r=>aM.seqT s r) (λj ds es e=>by
  rcases set_some e with⟨_,z,_⟩|⟨hij,e⟩
  . cases z
  . exact⟨e,List.getElem?_set_ne hij⟩) (λ_ _ _ _ _ _ _ _ e=>e) λp ys e z=>⟨s _ _ e,.inl z.1,z.2.1,λk pa' ds q w=>by
  rcases set_some q with⟨rfl,_,hl⟩|⟨hij,q⟩
  . rw[List.getElem?_set_self (by rw[<-S.len];exact hl)] at w
    cases w
    rw[hn] at e;cases e
  . rw[List.getElem?_set_ne hij] at w;exact z.2.2 k pa' ds q w⟩
theorem iW{v:Vl}(h:v.fr=false):v.slot=.sh v.pa v.d:=by
 unfold Vl.slot
 rw[h]
theorem aDY{v:Vl}{ds:List D}(h:v.fr=true)(hd:v.d=.lst ds):v.slot=.own v.pa ds:=by
 unfold Vl.slot
 rw[h,hd]
theorem Sx.store(S:Sx K RT Y old σ σV H){v:Vl}{u:V}(ro:Ro K RT Y old σ σV H H' v u)(t:Tk K H')(i:Nat) :
 ∃RT',Sx K RT' Y old ((freeze σ v.al).set i v.slot) (σV.set i (some u)) H'/\∀b,RT' b->RT b\/H b=none:=by
 by_cases hf:v.fr=true
 . obtain⟨s,h⟩:=ro
   rw[if_pos hf] at h
   obtain⟨a,xs,ds,e1,e2,e3,e4,r⟩:=h
   subst e1
   rw[aDY hf e2]
   refine⟨_,(S.frz v.al).storeOwn s t e3 e4 (r.weak λb z=>?_),λb z=>z.elim (λz=>.inl z.1) λz=>.inr (by rw[z];exact e3)⟩
   rcases z with(z|z)|z
   . exact .inr (.inl z)
   . exact .inl z
   . exact .inr (.inr z)
 . rw[iW (by simpa using hf)]
   exact⟨_,((S.grow ro.1 t).frz v.al).setSh (ro.rv S),λb z=>.inl z.1⟩
theorem aEW:∀{is:List Nat} {us:List V} {σV:L2.St} {H:Hp} {Q:L2.St->Hp->Prop},is.length=us.length->Q ((is.zip us).foldl (λs p=>s.set p.1 (some p.2)) σV) H->gs is us σV H Q
 | [],[],_,_,_,_,h=>⟨rfl,h⟩
 | [],_::_,_,_,_,e,_=>by simp at e
 | _::_,[],_,_,_,e,_=>by simp at e
 | i::is,u::us,σV,H,Q,e,h=>⟨u,us,rfl,aEW (is:=is) (us:=us) (by simpa using e) h⟩
theorem uB{v:Vl}{d:D}:(v.sub d).slot=.sh (!noL d&&v.pa) d:=by
 rw[iW nW]
 unfold Vl.sub Vl.cl
 split
 . rename_i h;rw[h];rfl
 . rename_i h
   have:noL d=false:=by simpa using h
   rw[this];rfl
theorem Sx.setAll{v:Vl}:∀{is:List Nat} {ds:List D} {us:List V} {σ:Sg} {σV:L2.St},Sx K RT Y old σ σV H->Reps K H (λa=>RT a\/exB Y old v.pa a) ds us ->
 Sx K RT Y old ((is.zip ds).foldl (λσ p=>σ.set p.1 (v.sub p.2).slot) σ) ((is.zip us).foldl (λs p=>s.set p.1 (some p.2)) σV) H
 | [],_,_,_,_,S,_=>S
 | _::_,[],us,_,_,S,r=>by rw[show us=[] from r];exact S
 | i::is,d::ds,us,σ,σV,S,r=>by
  obtain⟨x,r',e,h1,h2⟩:=r
  subst e
  refine Sx.setAll (v:=v) (is:=is) (ds:=ds) (us:=r') ?_ h2
  show Sx K RT Y old (σ.set i (v.sub d).slot) (σV.set i (some x)) H
  rw[uB]
  refine S.setSh ?_
  cases hn:noL d with
  | true=>exact Rep.free d x hn h1
  | false=>exact h1
theorem lK{α:Type}{β:Type}(f:β->α):∀{is:List Nat} {bs:List β} {l:List α} {j:Nat},j∉is->((is.zip bs).foldl (λs p=>s.set p.1 (f p.2)) l)[j]? = l[j]?
 | [],_,_,_,_=>rfl
 | _::_,[],_,_,_=>rfl
 | i::is,b::bs,l,j,h=>by
  have h':i≠j/\j∉is:=by
   refine⟨λe=>h (by simp[e]),λz=>h (List.mem_cons_of_mem _ z)⟩
  rw[List.zip_cons_cons,List.foldl_cons,lK f (is:=is) (bs:=bs) h'.2,List.getElem?_set_ne h'.1]
theorem uC{α:Type}{β:Type}(f:β->α):∀{is:List Nat} {bs:List β} {l:List α},((is.zip bs).foldl (λs p=>s.set p.1 (f p.2)) l).length=l.length
 | [],_,_=>rfl
 | _::_,[],_=>rfl
 | i::is,b::bs,l=>by rw[List.zip_cons_cons,List.foldl_cons,uC f (is:=is) (bs:=bs),List.length_set]
theorem fold_mem{α:Type}{β:Type}(f:β->α):∀{is:List Nat} {bs:List β} {l:List α} {j:Nat} {x:α},((is.zip bs).foldl (λs p=>s.set p.1 (f p.2)) l)[j]? = some x->l[j]? = some x\/∃b,x=f b
 | [],_,_,_,_,h=>.inl h
 | _::_,[],_,_,_,h=>.inl h
 | i::is,b::bs,l,j,x,h=>by
  rw[List.zip_cons_cons,List.foldl_cons] at h
  rcases fold_mem f (is:=is) (bs:=bs) h with q|q
  . rcases set_some q with⟨_,e,_⟩|⟨_,e⟩
    . exact .inr ⟨b,e.symm⟩
    . exact .inl e
  . exact .inr q
theorem nY{v:Vl}{is:List Nat}{σ2:Sg}(e:bR σ v (.t is)=.ok σ2):∃ds,v.d=.tup ds/\ds.length=is.length/\σ2=(is.zip ds).foldl (λσ p=>σ.set p.1 (v.sub p.2).slot) σ:=by
 unfold bR at e
 simp only at e
 split at e
 . rename_i ds hd
   split at e
   . rename_i hl
     cases e
     exact⟨ds,hd,hl,rfl⟩
   . cases e
 . cases e
theorem nZ{v:Vl}{i:Nat}{σ2:Sg}(e:bR σ v (.n i)=.ok σ2):σ2=σ.set i v.slot:=by
 cases(show R.ok (σ.set i v.slot)=R.ok σ2 from e)
 rfl
theorem aBH{v:Vl}{t:T}{σ2:Sg}{j:Nat}(e:bR σ v t=.ok σ2)(h:j∉tIx t):σ2[j]? = σ[j]? := by
 cases t with
 | n i=>
  rw[nZ e]
  exact List.getElem?_set_ne λz=>h (by simp[tIx,z])
 | t is=>
  obtain⟨ds,_,_,e⟩:=nY e
  rw[e]
  exact lK (λd=>(v.sub d).slot) h
theorem aBI{v:Vl}{t:T}{σ2:Sg}(e:bR σ v t=.ok σ2):σ2.length=σ.length:=by
 cases t with
 | n i=>rw[nZ e,List.length_set]
 | t is=>
  obtain⟨ds,_,_,e⟩:=nY e
  rw[e]
  exact uC (λd=>(v.sub d).slot)
theorem aBJ{v:Vl}{t:T}{σ2:Sg}{j:Nat}{pa:Bool}{ds:List D}(hf:v.fr=false)(e:bR σ v t=.ok σ2)(h:σ2[j]? = some (.own pa ds)):σ[j]? = some (.own pa ds):=by
 cases t with
 | n i=>
  rw[nZ e,iW hf] at h
  rcases set_some h with⟨_,e,_⟩|⟨_,e⟩
  . cases e
  . exact e
 | t is=>
  obtain⟨ds',_,_,e⟩:=nY e
  rw[e] at h
  rcases fold_mem (λd=>(v.sub d).slot) h with q|⟨b,q⟩
  . exact q
  . rw[uB] at q;cases q
theorem xH(S:Sx K RT Y old σ σV H){t:T}{v:Vl}{u:V}{Q:L2.St->Hp->Prop}{σ2:Sg}(hfr:v.fr=false)(h:Rep K H (λa=>RT a\/exB Y old v.pa a) v.d u)(e:bR σ v t=.ok σ2)
 (q:∀σ2V,Sx K RT Y old σ2 σ2V H->(∀j,j∉tIx t->σ2V[j]? = σV[j]?)->Q σ2V H):gT K t u σV H Q:=by
 cases t with
 | n i=>
  rw[nZ e,iW hfr] at q
  exact q _ (S.setSh h) λj hj=>List.getElem?_set_ne λz=>hj (by simp[tIx,z])
 | t is=>
  obtain⟨ds,hd,hl,e⟩:=nY e
  rw[hd] at h
  obtain⟨a,xs,rfl,hq,r⟩:=h
  have l2:=r.length
  refine⟨a,xs,rfl,hq,by omega,aEW (by omega) (q _ ?_ λj hj=>?_)⟩
  . rw[e];exact S.setAll r
  . exact lK (λd=>some d) hj
end
section
variable {X:Cx} {P:Pg} {Γ:Ct} {n:Nat} {RT Y old:Addr->Prop} {σ:Sg} {tg:Expr} {pos:Pos}
theorem uD(M:Mc X P Γ n):∀{is:List Nat} {es:List Expr},is.length=es.length->((is.zip es).all λp=>match p.2 with|.Name x _=>bS Γ p.1 x|_=>false)=true ->
 PGs X es (gs is)/\(assignEach es X.env).length=is.length/\(assignEach es X.env).findIdx? (·.1)=none
 | [],[],_,_=>⟨aDg,rfl,rfl⟩
 | [],_::_,e,_=>by simp at e
 | _::_,[],e,_=>by simp at e
 | i::is,e::es,hl,h=>by
  rw[List.zip_cons_cons,List.all_cons,bA] at h
  obtain⟨h1,h2,h3⟩:=uD M (is:=is) (es:=es) (by simpa using hl) h.2
  cases e with
  | Name x p=>
   have hs:bS Γ i x=true:=h.1
   unfold bS at hs
   simp only[bA,beq_iff_eq] at hs
   have e1:assignEach (.Name x p::es) X.env=(false,assign (.Name x p) X.env)::assignEach es X.env:=rfl
   refine⟨aAy (wQ M.nd (by rw[M.N];exact hs.1.1) (M.loc hs.1.2) (M.st x hs.1.2)) h1 (by rw[e1];rfl),?_,?_⟩
   . rw[e1,lC,lC,h2]
   . rw[e1,List.findIdx?_cons]
     simp[h3]
  | _=>cases h.1
theorem aBK(M:Mc X P Γ n){t:T}(h:mL Γ t tg=true):PG X tg (gT X.K t):=by
 cases t with
 | n i=>
  cases tg with
  | Name x p=>
   have hs:bS Γ i x=true:=h
   unfold bS at hs
   simp only[bA,beq_iff_eq] at hs
   exact wQ M.nd (by rw[M.N];exact hs.1.1) (M.loc hs.1.2) (M.st x hs.1.2)
  | _=>cases h
 | t is=>
  cases tg with
  | Tuple es k p=>
   have h:(is.length==es.length&&(is.zip es).all λp=>match p.2 with|.Name x _=>bS Γ p.1 x|_=>false)=true:=h
   rw[bA,beq_iff_eq] at h
   obtain⟨h1,h2,h3⟩:=uD M h.1 h.2
   exact aFu M.calm h1 h2 h3
  | _=>cases h
def ch0(k:Nat)(caps:List Nat)(σ:Sg):Sg:=List.replicate k .dead++caps.map λi=>(σ[i]?).getD .dead
theorem ch0_get{k:Nat}{caps:List Nat}{σ:Sg}{j:Nat}{s:Sl}(h:(ch0 k caps σ)[j]? = some s):s=.dead\/∃j' i,j=k+j'/\caps[j']? = some i/\σ[i]? = some s:=by
 unfold ch0 at h
 by_cases hj:j<k
 . rw[List.getElem?_append_left (by simpa using hj),List.getElem?_replicate,if_pos hj] at h
   cases h
   exact .inl rfl
 . rw[List.getElem?_append_right (by simpa using hj),List.length_replicate,List.getElem?_map] at h
   cases e:caps[j-k]? with
   | none=>rw[e] at h;cases h
   | some i=>
    rw[e] at h
    have h':(σ[i]?).getD .dead=s:=Option.some.inj h
    cases q:σ[i]? with
    | none=>rw[q] at h';exact .inl h'.symm
    | some z=>rw[q] at h';exact .inr ⟨j-k,i,by omega,e,by rw[q];exact congrArg some h'⟩
theorem aBL{k:Nat}{caps:List Nat}{σ:Sg}{j:Nat}{s:Sl}(hj:j<k)(h:(ch0 k caps σ)[j]? = some s):s=.dead:=by
 unfold ch0 at h
 rw[List.getElem?_append_left (by simpa using hj),List.getElem?_replicate,if_pos hj] at h
 cases h
 rfl
theorem mT{k:Nat}{caps:List Nat}{σV:L2.St}{j i:Nat}{v:V}(e:caps[j]? = some i)(h:σV[i]? = some (some v)):(jL k caps σV)[k+j]? = some (some v):=by
 unfold jL
 rw[List.getElem?_append_right (by simp),List.length_replicate,List.getElem?_map,Nat.add_sub_cancel_left,e]
 show some ((σV[i]?).getD none)=_
 rw[h];rfl
theorem mU{k:Nat}{caps:List Nat}{σV:L2.St}{j i:Nat}{v:V}(e:caps[j]? = some i)(h:(jL k caps σV)[k+j]? = some (some v)):σV[i]? = some (some v):=by
 unfold jL at h
 rw[List.getElem?_append_right (by simp),List.length_replicate,List.getElem?_map,Nat.add_sub_cancel_left,e] at h
 have h':(σV[i]?).getD none=some v:=Option.some.inj h
 cases q:σV[i]? with
 | none=>rw[q] at h';cases h'
 | some z=>rw[q] at h';exact congrArg some h'
theorem iX{α:Type}:∀{l:List α},l.Nodup->∀{i j:Nat} {x:α},l[i]? = some x->l[j]? = some x->i=j
 | [],_,_,_,_,h,_=>by simp at h
 | a::l,hn,0,0,_,_,_=>rfl
 | a::l,hn,0,j+1,x,h1,h2=>by
  have e:a=x:=by simpa using h1
  have:x∈l:=mG (by simpa using h2)
  subst e
  exact absurd this (List.nodup_cons.mp hn).1
 | a::l,hn,i+1,0,x,h1,h2=>by
  have e:a=x:=by simpa using h2
  have:x∈l:=mG (by simpa using h1)
  subst e
  exact absurd this (List.nodup_cons.mp hn).1
 | a::l,hn,i+1,j+1,x,h1,h2=>congrArg (·+1) (iX (List.nodup_cons.mp hn).2 (i:=i) (j:=j) (x:=x) (by simpa using h1) (by simpa using h2))
theorem Sx.child{K:Fg}{σV:L2.St}{H:Hp}(S:Sx K RT Y old σ σV H){k:Nat}{caps:List Nat}(nd:caps.Nodup):Sx K RT Y old (ch0 k caps σ) (jL k caps σV) H where
 sh:=λj pa d e=>by
  rcases ch0_get e with z|⟨j',i,rfl,hc,hs⟩
  . cases z
  . obtain⟨v,h1,h2⟩:=S.sh i pa d hs
    exact⟨v,mT hc h1,h2⟩
 own:=λj pa ds e=>by
  rcases ch0_get e with z|⟨j',i,rfl,hc,hs⟩
  . cases z
  . obtain⟨a,xs,h1,h2⟩:=S.own i pa ds hs
    exact⟨a,xs,mT hc h1,h2⟩
 trk:=S.trk
 yo:=S.yo
 tk:=S.tk
 rt:=S.rt
 inj:=λj1 j2 pa pa' ds ds' a e1 e2 e3 e4=>by
  rcases ch0_get e1 with z|⟨j1',i1,rfl,hc1,hs1⟩
  . cases z
  rcases ch0_get e2 with z|⟨j2',i2,rfl,hc2,hs2⟩
  . cases z
  have:=S.inj i1 i2 pa pa' ds ds' a hs1 hs2 (mU hc1 e3) (mU hc2 e4)
  subst this
  rw[iX nd hc1 hc2]
 len:=by
  unfold ch0 jL
  rw[lA,lA,lM,lM,List.length_replicate,List.length_replicate]
 dx:=S.dx.imp (λj=>(caps[j-k]?).getD 0) (λj ds e=>by
  rcases ch0_get e with z|⟨j',i,rfl,hc,hs⟩
  . cases z
  . rw[Nat.add_sub_cancel_left,hc]
    refine⟨hs,?_⟩
    obtain⟨a,xs,h1,_⟩:=S.dx.at' i ds hs
    rw[mT hc h1]
    exact h1.symm) (λj1 j2 ds ds' e1 e2 q=>by
  rcases ch0_get e1 with z|⟨j1',i1,rfl,hc1,_⟩
  . cases z
  rcases ch0_get e2 with z|⟨j2',i2,rfl,hc2,_⟩
  . cases z
  rw[Nat.add_sub_cancel_left,Nat.add_sub_cancel_left,hc1,hc2] at q
  have q:i1=i2:=q
  subst q
  rw[iX nd hc1 hc2]) (λ_ _ e z _=>⟨e,z⟩) (λ_ _ r=>r) (λj ds es e=>by
  rcases ch0_get e with z|⟨j',i,rfl,hc,hs⟩
  . cases z
  . rw[Nat.add_sub_cancel_left,hc]
    refine⟨hs,?_⟩
    obtain⟨a,_,_,_,_,h1,_⟩:=S.dx.at2 i ds es hs
    rw[mT hc h1]
    exact h1.symm) (λj1 j2 ds es ds' es' e1 e2 q=>by
  rcases ch0_get e1 with z|⟨j1',i1,rfl,hc1,_⟩
  . cases z
  rcases ch0_get e2 with z|⟨j2',i2,rfl,hc2,_⟩
  . cases z
  rw[Nat.add_sub_cancel_left,Nat.add_sub_cancel_left,hc1,hc2] at q
  have q:i1=i2:=q
  subst q
  rw[iX nd hc1 hc2]) λp xs e z=>⟨e,z.1,z.2.1,λj pa ds q w=>by
  rcases ch0_get q with v|⟨j',i,rfl,hc,hs⟩
  . cases v
  . exact z.2.2 i pa ds hs (mU hc w)⟩
theorem Sx.forget{K:Fg}{σ':Sg}{σV:L2.St}{H:Hp}(S:Sx K RT Y old σ σV H)(hl:σ'.length=σ.length)(h:∀(j:Nat) (s:Sl),σ'[j]? = some s->s=.dead\/σ[j]? = some s):Sx K RT Y old σ' σV H where
 sh:=λj pa d e=>by
  rcases h j _ e with z|z
  . cases z
  . exact S.sh j pa d z
 own:=λj pa d e=>by
  rcases h j _ e with z|z
  . cases z
  . exact S.own j pa d z
 trk:=S.trk
 yo:=S.yo
 tk:=S.tk
 rt:=S.rt
 inj:=λj1 j2 pa pa' ds ds' a e1 e2 e3 e4=>by
  rcases h j1 _ e1 with z|z1
  . cases z
  rcases h j2 _ e2 with z|z2
  . cases z
  exact S.inj j1 j2 pa pa' ds ds' a z1 z2 e3 e4
 len:=by rw[hl];exact S.len
 dx:=S.dx.imp id (λj ds e=>(h j _ e).elim (λz=>by cases z) λz=>⟨z,rfl⟩) (λ_ _ _ _ _ _ e=>e) (λ_ _ e z _=>⟨e,z⟩) (λ_ _ r=>r) (λj ds es e=>(h j _ e).elim (λz=>by cases z) λz=>⟨z,rfl⟩) (λ_ _ _ _ _ _ _ _ e=>e) λp xs e z=>⟨e,z.1,z.2.1,λk pa ds q=>(h k _ q).elim (λw=>by cases w) λw=>z.2.2 k pa ds w⟩
def wTs(X:Cx)(P:Pg)(n:Nat)(RT Y old:Addr->Prop)(σ:Sg)(cs:Es):TT:=λσV H Q=>Sx X.K RT Y old σ σV H/\RE (wx X σV H) (tsts P (call P n) σ cs) λk=>∀H',Tk X.K H'->aM H H'->Q k H'
def zP(K:Fg)(P:Pg)(n:Nat)(RT Y old:Addr->Prop)(σ:Sg)(cs:Es):TT:=λσV H Q=>Sx K RT Y old σ σV H/\RE (λ_=>False) (tsts P (call P n) σ cs) λk=>∀H',Tk K H'->aM H H'->Q k H'
def clW(K:Fg)(W:Value->L2.St->Hp->Prop)(σV:L2.St)(H:Hp):D->Prop
 | .err c _=>∀cls:Value,PySem.W.nsIn K mainGlobals c=some (some cls)->W cls σV H
 | _=>False
theorem clW.xw{X:Cx}{W:Value->L2.St->Hp->Prop}(h:Rs X W){σV:L2.St}{H:Hp}{x:D}(z:clW X.K W σV H x):XW X σV H x:=by
 cases x with
 | err c fs=>exact λcls q pins s a I fl=>h pins σV H s a cls I fl (z cls q)
 | _=>exact z
def wE0(K:Fg)(P:Pg)(n:Nat)(W:Value->L2.St->Hp->Prop)(RT Y old:Addr->Prop)(σ:Sg)(c:E):TE:=λσV H Q=>Sx K RT Y old σ σV H/\RE (λx=>∀H',Tk K H'->aM H H'->clW K W σV H' x) (ev P (call P n) σ c) λv=>∀u H',Tk K H'->Ro K RT Y old σ σV H H' v u->Q u H'
theorem xI{es:List Expr}{cs:Es}(h:PTs X es (wTs X P n RT Y old σ cs)):PTs X es (zP X.K P n RT Y old σ cs):=λpins s σV H Q I ⟨S,q⟩=>h pins s σV H Q I ⟨S,q.weak λ_ z=>z.elim⟩
theorem aBM{e:Expr}{c:E}{W:Value->L2.St->Hp->Prop}(rs:Rs X W)(h:PE X e (WE X P n RT Y old σ c)):PE X e (wE0 X.K P n W RT Y old σ c):=λpins s σV H Q I ⟨S,q⟩=>h pins s σV H Q I ⟨S,q.weak λ_ z H' t s'=>clW.xw rs (z H' t s')⟩
theorem aGl:PTs X [] (wTs X P n RT Y old σ .nil):=λpins s σV H Q I ⟨S,h⟩=>aDN pins s σV H Q I ((show ∀H',Tk X.K H'->aM H H'->Q true H' from h) H I.tk (aM.refl H))
theorem aGm{c:E}{e:Expr}(h:PT X e (WT X P n RT Y old σ c)):PTs X [e] (wTs X P n RT Y old σ (.cons c .nil)):=λpins s σV H Q I ⟨S,hh⟩=>aDO h pins s σV H Q I ⟨S,by
 have hh:=RE.bind' (show RE _ (tst P (call P n) σ c >>= λx=>if x=true then tsts P (call P n) σ .nil else R.ok false) _ from hh)
 refine hh.mono λk hk=>?_
 cases k with
 | true=>exact hk
 | false=>exact hk⟩
theorem Rvs.append{K:Fg}{σV:L2.St}{H:Hp}:∀{vs ws:List Vl} {us zs:List V},Rvs K RT Y old σ σV H vs us->Rvs K RT Y old σ σV H ws zs->Rvs K RT Y old σ σV H (vs++ws) (us++zs)
 | [],_,_,_,h,q=>by rw[show _=[] from h];exact q
 | v::vs,_,_,_,h,q=>by
  obtain⟨u,r,e,h1,h2⟩:=h
  subst e
  exact⟨u,_,rfl,h1,Rvs.append h2 q⟩
def lv(k:Nat)(caps al:List Nat)(v:Vl):Vl:=⟨v.d,false,v.pa,al++v.al.filterMap λj=>caps[j-k]?⟩
theorem iY(σ:Sg)(v:Vl)(t:T):∀z,bR σ v t≠.exc z:=λz q=>by
 unfold bR at q
 repeat' split at q
 all_goals cases q
theorem RE.both{α:Type}{x:R α}{p q:α->Prop}{w w':D->Prop}(h:RE w x p)(f:∀e,w e->x=.exc e->w' e)(g:∀a,p a->q a):RE w' x q:=by
 cases x with
 | ok a=>exact g a h
 | exc e=>exact f e h rfl
 | bad=>exact h
theorem aBN{fn:Bool}{k:Nat}{caps:List Nat}{t:T}{it:Hp.It}{cond:Es}{elt:E}(hnd:caps.Nodup)(hk:∀i∈tIx t,i<k)(hcm:(fn||gH elt)=true){σV:L2.St}{H:Hp}{Q:VK}(hw:WE X P n RT Y old σ (.comp k caps t it cond elt) σV H Q) :
 aBo (λc σ H=>fn=true/\RX X c σ H) k caps (wI X P n RT Y old σ it) (gT X.K t) (λσV H Q=>∃RT Y old σ1,zP X.K P n RT Y old σ1 cond σV H Q) (λW σV H Q=>∃RT Y old σ1,wE0 X.K P n W RT Y old σ1 elt σV H Q) σV H λv H'=>Tk X.K H'->Q v H':=by
 obtain⟨S,h⟩:=hw
 let f:List Nat->Vl->R (Option Vl):=λal x=>bR (ch0 k caps (freeze σ al)) x t >>= λσ1=>(tsts P (call P n) σ1 cond).calm >>= λb=>if b=true then (ev P (call P n) σ1 elt >>= λy=>R.ok (some y)) else R.ok none
 have h:=RE.bind' (show RE _ (walk P (call P n) σ it >>= λxs=>R.iff (decide (xs.1.length<=lim)) (dX (f xs.2) xs.1 >>= λvs=>R.ok (eP k caps xs.2 vs))) (Wn X RT Y old σ σV H Q) from h)
 refine⟨S,h.mono λxs hx J H1 t1 s1 ok=>?_⟩
 obtain⟨hl,hx⟩:=hx.iff
 have hl:=of_decide_eq_true hl
 have hx:RE (wx X σV H) (dX (f xs.2) xs.1) λvs=>Wn X RT Y old σ σV H Q (eP k caps xs.2 vs):=RE.bind' hx
 have S1:=S.grow s1 t1
 have Sf:=S1.frz xs.2
 refine⟨λi m ys σ1V Hc=>m=xs.1.length-i/\i<=xs.1.length/\aM H1 Hc/\Tk X.K Hc/\Sx X.K (rtF RT σ σV xs.2) Y old (ch0 k caps (freeze σ xs.2)) σ1V Hc/\(∀j,k<=j->σ1V[j]? = (jL k caps σV)[j]?) /\
  ∃ws:List Vl,ws.length<=i/\RE (wx X σV H) (dX (f xs.2) (xs.1.drop i)) (λrs=>Wn X RT Y old σ σV H Q (eP k caps xs.2 (ws++rs)))/\Rvs X.K RT Y old σ σV Hc (ws.map (lv k caps xs.2)) ys,⟨_,rfl,Nat.zero_le _,aM.refl _,t1,Sf.child hnd,λ_ _=>rfl,[],Nat.le_refl _,hx,rfl⟩,?_⟩
 rintro i m ys σ1V Hc ⟨hm,hi,sc,tc,Sc,hcap,ws,hws,ego,rvs⟩
 have okc:=ok.ok (λ_=>False) (λ_ z=>z.elim) i Hc (Kp.same sc)
 have hly:=rvs.length
 rw[lM] at hly
 by_cases hlt:i<xs.1.length
 . refine .inr ⟨okc.1 hlt,by rw[<-hly,sizeLine_eq];have:lim=1000000:=rfl;omega,λx H' hy=>?_⟩
   have hxi:xs.1[i]? = some xs.1[i]:=List.getElem?_eq_getElem hlt
   obtain⟨sm,tkf,rv⟩:=okc.2.2 x H' hy xs.1[i] hxi
   have rv:Rep X.K H' (exV RT Y old σ σV xs.1[i].pa xs.1[i].al) xs.1[i].d x:=Rep.weak rv λa z=>.inl z
   rw[List.drop_eq_getElem_cons hlt] at ego
   have ego:=RE.bind' (show RE (wx X σV H) (f xs.2 xs.1[i] >>= λy=>dX (f xs.2) (xs.1.drop (i+1)) >>= λys=>(match y with|some y=>R.ok (y::ys)|none=>R.ok ys)) _ from ego)
   obtain⟨σ1,eσ,ef⟩:=(RE.bind' (show RE (wx X σV H) (bR (ch0 k caps (freeze σ xs.2)) xs.1[i] t >>= λσ1=>(tsts P (call P n) σ1 cond).calm >>= λb=>if b=true then (ev P (call P n) σ1 elt >>= λy=>R.ok (some y)) else R.ok none) _ from ego)).eqc (iY _ _ _)
   obtain⟨b,eb,ef⟩:=RE.calmEq (RE.bind' ef)
   have hmem:xs.1[i]∈xs.1:=List.getElem_mem hlt
   have hnf:=ok.nofr _ hmem
   have rep:Rep X.K H' (λa=>rtF RT σ σV xs.2 a\/exB Y old xs.1[i].pa a) xs.1[i].d x:=Rep.weak rv λa z=>by
    rcases z with z|z
    . exact .inl ⟨z.1,λq=>z.2 (q.mono (ok.sub _ hmem))⟩
    . exact .inr z
   refine xH (Sc.grow sm (tkf tc)) hnf rep eσ λσ2V S2 hkeep=>⟨_,_,_,σ1,S2,?_⟩
   rw[eb]
   intro H3 t3 s3
   have capk:∀j,k<=j->σ2V[j]? = (jL k caps σV)[j]? := λj hj=>by
    rw[hkeep j λz=>absurd (hk j z) (Nat.not_lt.mpr hj),hcap j hj]
   have back:∀{H5:Hp},Sx X.K (rtF RT σ σV xs.2) Y old σ1 σ2V H5->Sx X.K (rtF RT σ σV xs.2) Y old (ch0 k caps (freeze σ xs.2)) σ2V H5:=λ{H5} S5=>S5.forget (aBI eσ).symm λj s hs=>by
    by_cases hj:j∈tIx t
    . exact .inl (aBL (hk j hj) hs)
    . exact .inr (by rw[aBH eσ hj];exact hs)
   cases b with
   | false=>
    rw[if_neg bN] at ef ⊢
    have ef:RE (wx X σV H) (dX (f xs.2) (xs.1.drop (i+1)) >>= λys=>R.ok ys) λrs=>Wn X RT Y old σ σV H Q (eP k caps xs.2 (ws++rs)):=ef
    exact⟨_,by omega,rfl,hlt,sc.trans (sm.trans s3),t3,back (S2.grow s3 t3),capk,ws,by omega,RE.bind' ef,rvs.grow (sm.trans s3)⟩
   | true=>
    rw[if_pos rfl] at ef ⊢
    have ef:=RE.bind' ef
    have hwx:∀x,wx X σV H x->ev P (call P n) σ1 elt=.exc x->∀H',Tk X.K H'->aM H3 H'->clW X.K (λc _ H=>fn=true/\RX X c σV H) σ2V H' x:=λx z ex H' t' s'=>by
     have z:=z H' t' (s1.trans (sc.trans (sm.trans (s3.trans s'))))
     have hf:fn=true:=by
      cases fn with
      | true=>rfl
      | false=>exact absurd ex (iV (by simpa using hcm) x)
     cases x with
     | err c fs=>exact λcls q=>⟨hf,z cls q⟩
     | _=>exact z
    refine⟨_,_,_,σ1,S2.grow s3 t3,RE.both ef hwx λy ey u H4 t4 ro4=>?_⟩
    have ey:RE (wx X σV H) (dX (f xs.2) (xs.1.drop (i+1)) >>= λys=>R.ok (y::ys)) λrs=>Wn X RT Y old σ σV H Q (eP k caps xs.2 (ws++rs)):=ey
    have s4:=ro4.1
    have rv4:Rep X.K H4 (exV (rtF RT σ σV xs.2) Y old σ1 σ2V y.pa y.al) y.d u:=ro4.rv (S2.grow s3 t3)
    refine⟨_,by omega,rfl,hlt,sc.trans (sm.trans (s3.trans s4)),t4,back ((S2.grow s3 t3).grow s4 t4),capk,ws++[y],by rw[lA,List.length_singleton];omega,(RE.bind' ey).mono λrs hr=>by rw[List.append_assoc];exact hr,?_⟩
    rw[List.map_append]
    refine(rvs.grow (sm.trans (s3.trans s4))).append ⟨u,[],rfl,?_,rfl⟩
    show Rep X.K H4 (exV RT Y old σ σV y.pa (xs.2++y.al.filterMap λj=>caps[j-k]?)) y.d u
    refine rv4.weak λc z=>?_
    rcases z with⟨z1,z2⟩|z
    . refine .inl ⟨⟨z1,λq=>z2 (q.mono λj hj=>List.mem_append_left _ hj)⟩,λq=>z2 ?_⟩
      obtain⟨j,hj,⟨pa,ds,ho⟩,hV⟩:=q
      have ho:=aBJ hnf eσ ho
      rcases ch0_get ho with z|⟨j',i',rfl,hc,hs⟩
      . cases z
      . rw[capk _ (Nat.le_add_right _ _)] at hV
        refine⟨i',List.mem_append_right _ (List.mem_filterMap.mpr ⟨k+j',hj,by rw[Nat.add_sub_cancel_left];exact hc⟩),⟨pa,ds,(eA hs).1⟩,mU hc hV⟩
    . exact .inr z
 . have hie:i=xs.1.length:=by omega
   subst hie
   rw[List.drop_length] at ego
   have hq:Wn X RT Y old σ σV H Q (eP k caps xs.2 (ws++[])):=ego
   rw[List.append_nil] at hq
   refine .inl ⟨okc.2.1 (Nat.le_refl _),by rw[<-hly];exact eK (by omega),λp hp t'=>hq _ _ t' ?_⟩
   have Sc':=S.grow (s1.trans sc) tc
   have emap:(ws.map (lv k caps xs.2)).map (·.d)=ws.map (·.d):=by rw[List.map_map];rfl
   have rr:Reps X.K Hc (exV RT Y old σ σV (eX ws) (xs.2++(bH ws).filterMap λj=>caps[j-k]?)) (ws.map (·.d)) ys:=by
    rw[<-emap]
    refine rvs.reps λv hv=>?_
    obtain⟨w,hw,e⟩:=List.mem_map.mp hv
    subst e
    refine⟨λz=>tK hw z,λj hj=>?_⟩
    rcases List.mem_append.mp hj with z|z
    . exact List.mem_append_left _ z
    . obtain⟨j',hj',e⟩:=List.mem_filterMap.mp z
      exact List.mem_append_right _ (List.mem_filterMap.mpr ⟨j',fD hw j' hj',e⟩)
   unfold eP
   split
   . rename_i hn
     exact(Ro.fresh hp t' rfl rfl Sc' (Reps.free _ _ hn rr)).from (s1.trans sc)
   . exact(Ro.fresh hp t' rfl rfl Sc' rr).from (s1.trans sc)
theorem aGn(M:Mc X P Γ n){k:Nat}{caps:List Nat}{t:T}{it:Hp.It}{cond:Es}{elt:E}{e iter:Expr}{ifs:List Expr}{scope:Scope}{N':List Str}(CS:dE X scope k caps N')(hnd:caps.Nodup)(hk:∀i∈tIx t,i<k)(hcm:(Γ.fn||gH elt)=true)
 (hi:PI X tg iter (wI X P n RT Y old σ it))
 (hch:∀C s₀ H₀ ex,PG (cM X scope N' C s₀ H₀ ex) tg (gT X.K t)/\(∀RT Y old σ1,PTs (cM X scope N' C s₀ H₀ ex) ifs (zP X.K P n RT Y old σ1 cond))/\∀pl E W,PassesOwn (model X.prog X.w) X.A (cM X scope N' C s₀ H₀ ex).env E->Rs ((cM X scope N' C s₀ H₀ ex).inTry pl E) W->∀RT Y old σ1,PE ((cM X scope N' C s₀ H₀ ex).inTry pl E) e (wE0 X.K P n W RT Y old σ1 elt))
 (hs:∀x,foldedSetIterable iter X.env x=pure x):PE X (.ListComp e [⟨tg,iter,ifs,0⟩] scope pos) (WE X P n RT Y old σ (.comp k caps t it cond elt)):=by
 refine(xD (g:=gT X.K t) (tt:=λσV H Q=>∃RT Y old σ1,zP X.K P n RT Y old σ1 cond σV H Q) (te:=λW σV H Q=>∃RT Y old σ1,wE0 X.K P n W RT Y old σ1 elt σV H Q) (WX:=λc σ H=>Γ.fn=true/\RX X c σ H) CS M.calm hi (λC s₀ H₀ ex=>?_) (λc σ H z=>⟨M.stk z.1,z.2⟩) hs).imp λσV H Q t0 hw=>aBN hnd hk hcm hw
 . obtain⟨h1,h2,h3⟩:=hch C s₀ H₀ ex
   exact⟨h1,λpins s σV H Q I ⟨RT,Y,old,σ1,hw⟩=>h2 RT Y old σ1 pins s σV H Q I hw,λpl E W own rs pins s σV H Q I ⟨RT,Y,old,σ1,hw⟩=>h3 pl E W own rs RT Y old σ1 pins s σV H Q I hw⟩
end
section
variable {X:Cx} {P:Pg} {n:Nat} {RT Y old:Addr->Prop} {σ:Sg} {pos:Pos}
end
end Hp
end
noncomputable section
namespace L2
open PySem PySem.Spec PyProof.Rows
abbrev eZ(h:Heap)(z TI TO:Addr)(f0:Value)(f1:Bool):Prop:=
 h.get? z=some { cls:=.type "zip",dict:=none,data:=.fields #[f0,.bool f1,.bool false,.ref TI,.ref TO],slots:=#[] }
section
variable {prog:Program} {w:World} {A:Around} {E:Value->Shared->Prop} {s:Shared}
theorem aBO{a:Addr}{o:Obj}{Q:Option Obj->Shared->Prop}(ho:s.heap.get? a=some o)(h:Q (some o) s):wpAny (model prog w) A (loadIfAlive a) Q E s:=by
 have h':Q (s.heap.get? a) s:=by rw[ho];exact h
 exact λ_ _ _=>h'
theorem pW{z TI TO t:Nat}{f:Bool}{ot:Obj}{Q:Bool->Shared->Prop}(hz:eZ s.heap z TI TO (rawInt t) f)(ht:s.heap.get? t=some ot)
 (hQ:∀h',eZ h' z TI TO (rawInt t) true->Heap.SameBut z s.heap h'->Q false { s with heap:=h' }):wpAny (model prog w) A (Builtin.SmallTypes.ownedTupleIsFree (.ref z)) Q E s:=by
 unfold Builtin.SmallTypes.ownedTupleIsFree
 refine wpAny_bind (wpAny_field hz rfl (x:=rawInt t) rfl ?_)
 show wpAny _ _ (loadIfAlive ((t:Int).toNat) >>= _) _ _ _
 rw[Int.toNat_natCast]
 refine wpAny_bind (aBO ht ?_)
 simp only[Option.isNone_some,bF,if_false]
 refine wpAny_bind (wpAny_field hz rfl (x:=.bool f) rfl ?_)
 cases f with
 | true=>
  rw[if_neg (show ¬ ((Value.bool true != Value.bool true)=true) from bN)]
  exact wpAny_pure (hQ _ hz (Heap.SameBut.refl _ _))
 | false=>
  rw[if_pos (show(Value.bool false != Value.bool true)=true from rfl)]
  exact wpAny_bind (wpAny_setField_rec hz (by simp) λh₃ he₃ hs₃=>wpAny_pure (hQ h₃ he₃ hs₃))
theorem zQ{ka kb:Bool}{z TI TO i1 i2 l1 l2 t:Nat}{f:Bool}{ot:Obj}{k1 k2:Nat}{xs ys:Array Value}{x y:Value}{Q:Value->Shared->Prop}(D:ZipApart z TI TO i1 i2 l1 l2)
 (hz:eZ s.heap z TI TO (rawInt t) f) (ht:s.heap.get? t=some ot) (hTI:IsPair s.heap TI (.ref i1) (.ref i2))
 (h1:bZ ka s.heap i1 l1 k1) (h2:bZ kb s.heap i2 l2 k2) (hl1:dI ka s.heap l1 xs) (hl2:dI kb s.heap l2 ys) (hx:xs[k1]? = some x) (hy:ys[k2]? = some y)
 (hQ:∀h',eZ h' z TI TO (rawInt t) true->bZ ka h' i1 l1 (k1+1)->bZ kb h' i2 l2 (k2+1)->IsPair h' s.heap.objs.size x y->h'.objs.size=s.heap.objs.size+1 ->
  (∀c o,c≠z->c≠i1->c≠i2->s.heap.get? c=some o->h'.get? c=some o)->Q (.ref s.heap.objs.size) { s with heap:=h' }) :
 wpAny (model prog w) A (Builtin.«zip.__next__» ⟨[.ref z],[]⟩) (λfin s'=>∃v,fin=.done (.ret v)/\Q v s') E s:=by
 show wpAny _ _ (field (.ref z) 2 >>= _) _ _ _
 refine wpAny_bind (wpAny_field hz rfl (x:=.bool false) rfl ?_)
 show wpAny _ _ (field (.ref z) 3 >>= _) _ _ _
 refine wpAny_bind (wpAny_field hz rfl (x:=.ref TI) rfl ?_)
 refine wpAny_bind (wpAny_seqItems hTI rfl ?_)
 show wpAny _ _ (Builtin.SmallTypes.ownedTupleIsFree (.ref z) >>= _) _ _ _
 refine wpAny_bind (pW hz ht λh₁ hz₁ hs₁=>?_)
 simp only[bF,if_false]
 rw[<-Array.forIn_toList]
 simp only[List.forIn_cons,List.forIn_nil]
 refine wpAny_bind (wpAny_bind (wpAny_bind (wpAny_holding ?_)))
 show wpAny _ _ (Builtin.SmallTypes.nextOf (.ref i1) >>= _) _ _ _
 refine wpAny_bind (dQ (h1.at λo e=>hs₁.extBut _ _ D.i1z e) (hl1.at λo e=>hs₁.extBut _ _ D.l1z e) hx λh₂ h1₂ hs₂=>wpAny_pure ?_)
 refine wpAny_pure ?_
 refine wpAny_bind (wpAny_bind (wpAny_holding ?_))
 show wpAny _ _ (Builtin.SmallTypes.nextOf (.ref i2) >>= _) _ _ _
 refine wpAny_bind (dQ (h2.at λo e=>hs₂.extBut _ _ D.i12.symm (hs₁.extBut _ _ D.i2z e))
  (hl2.at λo e=>hs₂.extBut _ _ D.l2i1 (hs₁.extBut _ _ D.l2z e)) hy λh₄ h2₄ hs₄=>wpAny_pure ?_)
 refine wpAny_pure (wpAny_pure ?_)
 refine wpAny_bind (wpAny_newTuple (hsz:=by show 2<=sizeLine;rw[sizeLine_eq];decide) ?_)
 have hsz:h₄.objs.size=s.heap.objs.size:=by rw[hs₄.1,hs₂.1,hs₁.1]
 have hz₄:eZ h₄ z TI TO (rawInt t) true:=hs₄.extBut _ _ D.i2z.symm (hs₂.extBut _ _ D.i1z.symm hz₁)
 have h1₄:bZ ka h₄ i1 l1 (k1+1):=h1₂.at λo e=>hs₄.extBut _ _ D.i12 e
 refine wpAny_pure ⟨_,rfl,?_⟩
 show Q (.ref h₄.objs.size) _
 rw[hsz]
 refine hQ _ (Heap.get?_push_of_some _ hz₄) (h1₄.at λo e=>Heap.get?_push_of_some _ e) (h2₄.at λo e=>Heap.get?_push_of_some _ e) ?_ ?_ λc o c1 c3 c4 e=>Heap.get?_push_of_some _ (hs₄.extBut _ _ c4 (hs₂.extBut _ _ c3 (hs₁.extBut _ _ c1 e)))
 . rw[<-hsz];exact Heap.get?_push_size _ rfl
 . rw[Heap.size_push,hsz]
theorem aBP{ka kb:Bool}{z TI TO i1 i2 l1 l2 t:Nat}{f:Bool}{ot:Obj}{k1 k2:Nat}{xs ys:Array Value}{Q:Fin->Shared->Prop}(hh:A.handled=none)(D:ZipApart z TI TO i1 i2 l1 l2)
 (hz:eZ s.heap z TI TO (rawInt t) f) (ht:s.heap.get? t=some ot) (hTI:IsPair s.heap TI (.ref i1) (.ref i2))
 (h1:bZ ka s.heap i1 l1 k1) (h2:bZ kb s.heap i2 l2 k2) (hl1:dI ka s.heap l1 xs) (hl2:dI kb s.heap l2 ys) (hend:xs[k1]? = none\/ys[k2]? = none)
 (hE:∀h' e,(∀c o,c≠z->c≠i1->c≠i2->s.heap.get? c=some o->h'.get? c=some o)->(∃o,h'.get? e=some o/\o.cls=.type "StopIteration")->E (.ref e) { s with heap:=h' }) :
 wpAny (model prog w) A (Builtin.«zip.__next__» ⟨[.ref z],[]⟩) Q E s:=by
 show wpAny _ _ (field (.ref z) 2 >>= _) _ _ _
 refine wpAny_bind (wpAny_field hz rfl (x:=.bool false) rfl ?_)
 show wpAny _ _ (field (.ref z) 3 >>= _) _ _ _
 refine wpAny_bind (wpAny_field hz rfl (x:=.ref TI) rfl ?_)
 refine wpAny_bind (wpAny_seqItems hTI rfl ?_)
 show wpAny _ _ (Builtin.SmallTypes.ownedTupleIsFree (.ref z) >>= _) _ _ _
 refine wpAny_bind (pW hz ht λh₁ hz₁ hs₁=>?_)
 simp only[bF,if_false]
 rw[<-Array.forIn_toList]
 simp only[List.forIn_cons,List.forIn_nil]
 refine wpAny_bind (wpAny_bind (wpAny_bind (wpAny_holding ?_)))
 show wpAny _ _ (Builtin.SmallTypes.nextOf (.ref i1) >>= _) _ _ _
 cases hx:xs[k1]? with
 | none=>
  exact wpAny_bind (fZ hh (h1.at λo e=>hs₁.extBut _ _ D.i1z e) (hl1.at λo e=>hs₁.extBut _ _ D.l1z e) hx λh₂ e hs₂ he=>hE h₂ e (λc o c1 c3 c4 q=>hs₂ _ _ c3 (hs₁.extBut _ _ c1 q)) he)
 | some x=>
  have hy:ys[k2]? = none:=by rcases hend with h|h;rw[hx] at h;cases h;exact h
  refine wpAny_bind (dQ (h1.at λo e=>hs₁.extBut _ _ D.i1z e) (hl1.at λo e=>hs₁.extBut _ _ D.l1z e) hx λh₂ h1₂ hs₂=>wpAny_pure ?_)
  refine wpAny_pure ?_
  refine wpAny_bind (wpAny_bind (wpAny_holding ?_))
  show wpAny _ _ (Builtin.SmallTypes.nextOf (.ref i2) >>= _) _ _ _
  exact wpAny_bind (fZ hh (h2.at λo e=>hs₂.extBut _ _ D.i12.symm (hs₁.extBut _ _ D.i2z e))
   (hl2.at λo e=>hs₂.extBut _ _ D.l2i1 (hs₁.extBut _ _ D.l2z e)) hy λh₄ e hs₄ he=>hE h₄ e (λc o c1 c3 c4 q=>hs₄ _ _ c4 (hs₂.extBut _ _ c3 (hs₁.extBut _ _ c1 q))) he)
theorem lL{ka kb:Bool}{z TI TO i1 i2 l1 l2 t:Nat}{f:Bool}{ot:Obj}{k1 k2:Nat}{xs ys:Array Value}{x y:Value}{Q:Option Value->Shared->Prop}(D:ZipApart z TI TO i1 i2 l1 l2)
 (hz:eZ s.heap z TI TO (rawInt t) f) (ht:s.heap.get? t=some ot) (hTI:IsPair s.heap TI (.ref i1) (.ref i2))
 (h1:bZ ka s.heap i1 l1 k1) (h2:bZ kb s.heap i2 l2 k2) (hl1:dI ka s.heap l1 xs) (hl2:dI kb s.heap l2 ys) (hx:xs[k1]? = some x) (hy:ys[k2]? = some y)
 (hQ:∀h',eZ h' z TI TO (rawInt t) true->bZ ka h' i1 l1 (k1+1)->bZ kb h' i2 l2 (k2+1)->IsPair h' s.heap.objs.size x y->h'.objs.size=s.heap.objs.size+1 ->
  (∀c o,c≠z->c≠i1->c≠i2->s.heap.get? c=some o->h'.get? c=some o)->Q (some (.ref s.heap.objs.size)) { s with heap:=h' }) :
 wpAny (model prog w) A (pyNext (.ref z)) Q E s:=by
 have hT:s.TypeIs (.ref z) "zip" := ⟨_,hz,rfl⟩
 unfold pyNext
 exact wpAny_bind (wpAny_attempt (wpAny_callSpecial?_slot (name:=Str.ofString "__next__") hT F.slot_zip_next
  (wpAny_call_entry F.slot_zip_next hT F.entry_zip_next
   (zQ D hz ht hTI h1 h2 hl1 hl2 hx hy λh' a1 a3 a4 a5 a6 a7=>wpAny_pure (hQ h' a1 a3 a4 a5 a6 a7)) (F.args_zip_next_1 _))))
theorem mO{ka kb:Bool}{z TI TO i1 i2 l1 l2 t:Nat}{f:Bool}{ot:Obj}{k1 k2:Nat}{xs ys:Array Value}{Q:Option Value->Shared->Prop}(hh:A.handled=none)(D:ZipApart z TI TO i1 i2 l1 l2)
 (hz:eZ s.heap z TI TO (rawInt t) f) (ht:s.heap.get? t=some ot) (hTI:IsPair s.heap TI (.ref i1) (.ref i2))
 (h1:bZ ka s.heap i1 l1 k1) (h2:bZ kb s.heap i2 l2 k2) (hl1:dI ka s.heap l1 xs) (hl2:dI kb s.heap l2 ys) (hend:xs[k1]? = none\/ys[k2]? = none)
 (hQ:∀h',(∀c o,c≠z->c≠i1->c≠i2->s.heap.get? c=some o->h'.get? c=some o)->Q none { s with heap:=h' }):wpAny (model prog w) A (pyNext (.ref z)) Q E s:=by
 have hT:s.TypeIs (.ref z) "zip" := ⟨_,hz,rfl⟩
 unfold pyNext
 refine wpAny_bind (wpAny_attempt (wpAny_callSpecial?_slot (name:=Str.ofString "__next__") hT F.slot_zip_next
  (wpAny_call_entry F.slot_zip_next hT F.entry_zip_next (aBP hh D hz ht hTI h1 h2 hl1 hl2 hend λh' e hk he=>?_) (F.args_zip_next_1 _))))
 obtain⟨o,ho,hc⟩:=he
 refine wpAny_bind (wpAny_isInstance (T:= "StopIteration") (b:=true) ⟨o,ho,hc⟩ isSubtype_stop ?_)
 exact wpAny_pure (hQ _ hk)
end
structure aKL (ka kb:Bool) (z TI TO i1 i2 l1 l2 S:Nat) (xs ys:Array Value) (i:Nat) (h:Heap) (acc:Array Value) (c:Nat):Prop where
 zip:(i=0/\IsZip h z TI TO .none/\∃u v,IsPair h TO u v)\/∃(t:Nat) (f:Bool) (ot:Obj),eZ h z TI TO (rawInt t) f/\h.get? t=some ot/\t≠z/\t≠i1/\t≠i2/\t≠S
 TI:IsPair h TI (.ref i1) (.ref i2)
 i1:bZ ka h i1 l1 i
 i2:bZ kb h i2 l2 i
 l1:dI ka h l1 xs
 l2:dI kb h l2 ys
 lst:h.get? S=some { cls:=.type "list",dict:=none,data:=.seq acc c,slots:=#[] }
 size:h.objs.size=S+1+i
 acc:acc=((List.range i).map λj=>Value.ref (S+1+j)).toArray
 pair:∀j,j<i->∃x y,xs[j]? = some x/\ys[j]? = some y/\IsPair h (S+1+j) x y
theorem vZ(i S:Nat):(((List.range i).map λj=>Value.ref (S+1+j)).toArray).push (.ref (S+1+i))=((List.range (i+1)).map λj=>Value.ref (S+1+j)).toArray:=by
 rw[List.range_succ,List.map_append]
 simp
section
variable {prog:Program} {w:World} {A:Around} {s:Shared} {R:Result->Shared->Prop}
variable {ka kb:Bool} {z TI TO i1 i2 l1 l2 S:Nat} {xs ys:Array Value}
theorem aDZ(hh:A.in1.handled=none)(D:ZipApart z TI TO i1 i2 l1 l2)(hS:z<S/\TI<S/\TO<S/\i1<S/\i2<S/\l1<S/\l2<S)(hn:min xs.size ys.size<=1000000)(res:Value) :
 ∀(k i:Nat) (s:Shared) (acc:Array Value) (c:Nat),min xs.size ys.size-i=k->i<=min xs.size ys.size->aKL ka kb z TI TO i1 i2 l1 l2 S xs ys i s.heap acc c ->
 (∀h' c',(∀b o,b≠z->b≠TO->b≠i1->b≠i2->b≠S->s.heap.get? b=some o->h'.get? b=some o) ->
  h'.get? S=some { cls:=.type "list",dict:=none,data:=.seq ((List.range (min xs.size ys.size)).map λj=>Value.ref (S+1+j)).toArray c',slots:=#[] } ->
  (∀j,j<min xs.size ys.size->∃x y,xs[j]? = some x/\ys[j]? = some y/\IsPair h' (S+1+j) x y)->R (.ok (.ret res)) { s with heap:=h' }) ->
 codeAny (model prog w) A (.builtin "list.extend.loop" ⟨[.ref S,.ref z,res],[]⟩) R s:=by
 obtain⟨zS,TIS,TOS,i1S,i2S,l1S,l2S⟩:=hS
 intro k
 induction k with
 | zero=>
  intro i s acc c hk hi L hR
  have hin:i=min xs.size ys.size:=by omega
  have hend:xs[i]? = none\/ys[i]? = none:=by
   rcases Nat.le_total xs.size ys.size with q|q
   . left;exact Array.getElem?_eq_none (by omega)
   . right;exact Array.getElem?_eq_none (by omega)
  refine codeAny_builtin F.entry_extend_loop ?_
  rw[Around.under_plainId F.plain_extend_loop _]
  show wpAny _ A.in1 (pyNext (.ref z) >>= _) _ _ s
  have fin:∀h',(∀c o,c≠z->c≠TO->c≠i1->c≠i2->s.heap.get? c=some o->h'.get? c=some o)->R (.ok (.ret res)) { s with heap:=h' }:=λh' hk'=>by
   refine hR h' c (λb o b1 b2 b3 b4 _ e=>hk' b o b1 b2 b3 b4 e) ?_ λj hj=>?_
   . rw[<-hin,<-L.acc]
     exact hk' S _ (Nat.ne_of_gt zS) (Nat.ne_of_gt TOS) (Nat.ne_of_gt i1S) (Nat.ne_of_gt i2S) L.lst
   . obtain⟨x,y,q1,q2,q3⟩:=L.pair j (by omega)
     exact⟨x,y,q1,q2,hk' _ _ (by omega) (by omega) (by omega) (by omega) q3⟩
  rcases L.zip with⟨_,hz,u,v,hTO⟩|⟨t,f,ot,hz,ht,_⟩
  . exact wpAny_bind (hG hh D hz L.TI hTO L.i1 L.i2 L.l1 L.l2 hend λh' hk'=>wpAny_pure (fin h' hk'))
  . exact wpAny_bind (mO hh D hz ht L.TI L.i1 L.i2 L.l1 L.l2 hend λh' hk'=>wpAny_pure (fin h' λc o c1 _ c3 c4 e=>hk' c o c1 c3 c4 e))
 | succ k ih=>
  intro i s acc c hk hi L hR
  have hx:xs[i]? = some xs[i]! := by rw[Array.getElem?_eq_getElem (by omega)];simp[show i<xs.size by omega]
  have hy:ys[i]? = some ys[i]! := by rw[Array.getElem?_eq_getElem (by omega)];simp[show i<ys.size by omega]
  generalize xs[i]! = x at hx
  generalize ys[i]! = y at hy
  refine codeAny_builtin F.entry_extend_loop ?_
  rw[Around.under_plainId F.plain_extend_loop _]
  show wpAny _ A.in1 (pyNext (.ref z) >>= _) _ _ s
  have T:s.heap.objs.size=S+1+i:=L.size
  have fin:∀h',((∃(t:Nat) (f:Bool) (ot:Obj),eZ h' z TI TO (rawInt t) f/\h'.get? t=some ot/\t≠z/\t≠i1/\t≠i2/\t≠S))->bZ ka h' i1 l1 (i+1)->bZ kb h' i2 l2 (i+1)->IsPair h' s.heap.objs.size x y->h'.objs.size=s.heap.objs.size+1 ->
   (∀c o,c≠z->c≠TO->c≠i1->c≠i2->s.heap.get? c=some o->h'.get? c=some o) ->
   wpAny (model prog w) A.in1 (Builtin.List.listUpdate (.ref S) (·.push (.ref s.heap.objs.size)) >>= λ_=>again (.builtin "list.extend.loop" ⟨[.ref S,.ref z,res],[]⟩))
    (λfin s'=>match fin with|.done f=>R (.ok f) s'|.again c'=>c'.quiet=true/\codeAny (model prog w) A c' R s') (λe s'=>R (.error e) s') { s with heap:=h' }:=by
   intro h' hz' a1 a2 a5 a6 hk'
   have hS':h'.get? S=some { cls:=.type "list",dict:=none,data:=.seq acc c,slots:=#[] }:=hk' S _ (Nat.ne_of_gt zS) (Nat.ne_of_gt TOS) (Nat.ne_of_gt i1S) (Nat.ne_of_gt i2S) L.lst
   have hasz:acc.size=i:=by rw[L.acc];simp
   show wpAny _ A.in1 (updateSeq S (·.push (.ref s.heap.objs.size)) >>= _) _ _ _
   refine wpAny_bind ?_
   have up:∀b o,b≠S->h'.get? b=some o->(h'.update S (Obj.mapSeq (·.push (.ref s.heap.objs.size)))).get? b=some o:=λb o hb e=>(Heap.get?_update_other _ _ (λq:S=b=>hb q.symm)).trans e
   refine wpAny_updateSeq hS' rfl (wpAny_pure ⟨plainId_quiet F.plain_extend_loop _,ih (i+1) _ (acc.push (.ref s.heap.objs.size)) _ (by omega) (by omega) ⟨?_,?_,?_,?_,?_,?_,Heap.get?_update_self _ hS' rfl,?_,?_,?_⟩ λh'' c' k'' e'' p''=>?_⟩)
    (by rw[hasz,sizeLine_eq];omega) (by show(acc.push _).size<=sizeLine+1;rw[Array.size_push,hasz,sizeLine_eq];omega)
   . obtain⟨t,f,ot,q1,q2,q3,q4,q5,q6⟩:=hz'
     exact .inr ⟨t,f,ot,up _ _ (Nat.ne_of_lt zS) q1,up _ _ q6 q2,q3,q4,q5,q6⟩
   . exact up _ _ (Nat.ne_of_lt TIS) (hk' _ _ D.TIz D.TITO D.TIi1 D.TIi2 L.TI)
   . exact a1.at λo e=>up _ _ (Nat.ne_of_lt i1S) e
   . exact a2.at λo e=>up _ _ (Nat.ne_of_lt i2S) e
   . exact(L.l1.at λo e=>hk' _ _ D.l1z D.l1TO D.l1i1 D.l1i2 e).at λo e=>up _ _ (Nat.ne_of_lt l1S) e
   . exact(L.l2.at λo e=>hk' _ _ D.l2z D.l2TO D.l2i1 D.l2i2 e).at λo e=>up _ _ (Nat.ne_of_lt l2S) e
   . show(h'.update S _).objs.size=_
     rw[Heap.size_update,a6,T];omega
   . rw[L.acc,T,vZ]
   . intro j hj
     by_cases q:j=i
     . subst q
       rw[<-T]
       exact⟨x,y,hx,hy,up _ _ (by omega) a5⟩
     . obtain⟨x',y',q1,q2,q3⟩:=L.pair j (by omega)
       exact⟨x',y',q1,q2,up _ _ (by omega) (hk' _ _ (by omega) (by omega) (by omega) (by omega) q3)⟩
   . exact hR h'' c' (λb o b1 b2 b3 b4 b5 e=>k'' b o b1 b2 b3 b4 b5 (up b o b5 (hk' b o b1 b2 b3 b4 e))) e'' p''
  rcases L.zip with⟨_,hz,u,v,hTO⟩|⟨t,f,ot,hz,ht,t1,t2,t3,t4⟩
  . refine wpAny_bind (gJ D hz L.TI hTO L.i1 L.i2 L.l1 L.l2 hx hy λh' a1 a2 a3 a4 a5 a6 a7=>?_)
    exact fin h' ⟨s.heap.objs.size,false,_,a1,a5,by omega,by omega,by omega,by omega⟩ a3 a4 a5 a6 a7
  . refine wpAny_bind (lL D hz ht L.TI L.i1 L.i2 L.l1 L.l2 hx hy λh' a1 a3 a4 a5 a6 a7=>?_)
    exact fin h' ⟨t,true,ot,a1,a7 t ot t1 t2 t3 ht,t1,t2,t3,t4⟩ a3 a4 a5 a6 λc o c1 _ c3 c4 e=>a7 c o c1 c3 c4 e
end
theorem wB:typeLookup (.type "zip") "__len__" = pure none:=by rw[typeLookup_type,builtinLookup_eq_fast];kernel_rfl
theorem uE:typeLookup (.type "zip") "__length_hint__" = pure none:=by rw[typeLookup_type,builtinLookup_eq_fast];kernel_rfl
section
variable {prog:Program} {w:World} {A:Around} {E:Value->Shared->Prop} {s:Shared} {R:Result->Shared->Prop}
variable {ka kb:Bool} {z TI TO i1 i2 l1 l2:Nat} {xs ys:Array Value}
structure lO (ka kb:Bool) (z TI TO i1 i2 l1 l2:Nat) (xs ys:Array Value) (h:Heap):Prop where
 zip:IsZip h z TI TO .none
 TI:IsPair h TI (.ref i1) (.ref i2)
 TO:∃u v,IsPair h TO u v
 i1:bZ ka h i1 l1 0
 i2:bZ kb h i2 l2 0
 l1:dI ka h l1 xs
 l2:dI kb h l2 ys
theorem lO.at{h h':Heap}(Z:lO ka kb z TI TO i1 i2 l1 l2 xs ys h)(k:∀b o,b=z\/b=TI\/b=TO\/b=i1\/b=i2\/b=l1\/b=l2->h.get? b=some o->h'.get? b=some o):lO ka kb z TI TO i1 i2 l1 l2 xs ys h' where
 zip:=k _ _ (by simp) Z.zip
 TI:=k _ _ (by simp) Z.TI
 TO:=let ⟨u,v,q⟩:=Z.TO;⟨u,v,k _ _ (by simp) q⟩
 i1:=Z.i1.at λo e=>k _ _ (by simp) e
 i2:=Z.i2.at λo e=>k _ _ (by simp) e
 l1:=Z.l1.at λo e=>k _ _ (by simp) e
 l2:=Z.l2.at λo e=>k _ _ (by simp) e
theorem zR{S:Nat}(hh:A.in1.handled=none)(D:ZipApart z TI TO i1 i2 l1 l2)(lt:z<S/\TI<S/\TO<S/\i1<S/\i2<S/\l1<S/\l2<S)(hn:min xs.size ys.size<=1000000)(res:Value)(c₀:Nat)
 (Z:lO ka kb z TI TO i1 i2 l1 l2 xs ys s.heap) (hS:s.heap.get? S=some { cls:=.type "list",data:=.seq #[] c₀ }) (hsz:s.heap.objs.size=S+1)
 (hR:∀h' c',(∀b o,b≠z->b≠TO->b≠i1->b≠i2->b≠S->s.heap.get? b=some o->h'.get? b=some o) ->
  h'.get? S=some { cls:=.type "list",dict:=none,data:=.seq ((List.range (min xs.size ys.size)).map λj=>Value.ref (S+1+j)).toArray c',slots:=#[] } ->
  (∀j,j<min xs.size ys.size->∃x y,xs[j]? = some x/\ys[j]? = some y/\IsPair h' (S+1+j) x y)->R (.ok (.ret res)) { s with heap:=h' }) :
 wpAny (model prog w) A.in1 (Builtin.List.listExtendWith (.ref S) (.ref z) res)
  (λfin s'=>match fin with|.done f=>R (.ok f) s'|.again c'=>c'.quiet=true/\codeAny (model prog w) A c' R s') (λe s'=>R (.error e) s') s:=by
 obtain⟨zS,TIS,TOS,i1S,i2S,l1S,l2S⟩:=id lt
 have hT:s.TypeIs (.ref z) "zip" := ⟨_,Z.zip,rfl⟩
 unfold Builtin.List.listExtendWith
 refine wpAny_bind (wpAny_typeOf hT ?_)
 have e1:Builtin.List.listSameRef (.ref S) (.ref z)=false:=by simp[Builtin.List.listSameRef,Nat.ne_of_gt zS]
 have e2:(Value.type "zip" == Value.type "list")=false:=by decide
 have e3:(Value.type "zip" == Value.type "tuple")=false:=by decide
 simp only[e1,e2,e3,Bool.or_false,bF,if_false]
 refine wpAny_bind (wpAny_pyIter_zip Z.zip ?_)
 refine wpAny_bind (wpAny_holding ?_)
 unfold Builtin.List.listLengthHint
 refine wpAny_bind (wpAny_specialOf hT wB ?_)
 show wpAny _ A.in1 (specialOf (Value.ref z) (Str.ofString "__length_hint__") >>= _) _ _ _
 refine wpAny_bind (wpAny_specialOf hT uE ?_)
 refine wpAny_pure ?_
 show wpAny _ A.in1 (rule "list.extend.makes-room" >>= λ_=>Builtin.List.listTouch (.ref S) >>= λ_=>again (.builtin "list.extend.loop" ⟨[.ref S,.ref z,res],[]⟩)) _ _ _
 refine wpAny_bind (wpAny_rule (wpAny_bind ?_))
 show wpAny _ A.in1 (updateSeq S (·.push .none) >>= λ_=>updateSeq S (·.pop)) _ _ _
 refine wpAny_bind (wpAny_updateSeq hS rfl ?_)
 have g2:=Heap.get?_update_self (Obj.mapSeq (·.push Value.none)) hS rfl
 refine wpAny_updateSeq (hz:=by seq_fits) g2 rfl ?_
 have g3:=Heap.get?_update_self (Obj.mapSeq (·.pop)) g2 rfl
 have oth:∀b o,b≠S->s.heap.get? b=some o->((s.heap.update S (Obj.mapSeq (·.push Value.none))).update S (Obj.mapSeq (·.pop))).get? b=some o:=λb o hb e=>
  (Heap.get?_update_other _ _ (Ne.symm hb)).trans ((Heap.get?_update_other _ _ (Ne.symm hb)).trans e)
 have Z':=Z.at (h':=(s.heap.update S (Obj.mapSeq (·.push Value.none))).update S (Obj.mapSeq (·.pop))) λb o hb e=>oth b o (by rcases hb with rfl|rfl|rfl|rfl|rfl|rfl|rfl <;> omega) e
 refine wpAny_pure ⟨plainId_quiet F.plain_extend_loop _,aDZ hh D lt hn res (min xs.size ys.size) 0 _ #[] _ (by omega) (by omega) ⟨.inl ⟨rfl,Z'.zip,Z'.TO⟩,Z'.TI,Z'.i1,Z'.i2,Z'.l1,Z'.l2,g3,?_,rfl,λj hj=>absurd hj (by omega)⟩ λh' c' k e p=>?_⟩
 . show((s.heap.update S _).update S _).objs.size=_
   rw[Heap.size_update,Heap.size_update,hsz]
 . exact hR h' c' (λb o b1 b2 b3 b4 b5 q=>k b o b1 b2 b3 b4 b5 (oth b o b5 q)) e p
theorem aEa{S:Nat}(hh:A.in1.handled=none)(D:ZipApart z TI TO i1 i2 l1 l2)(lt:z<S/\TI<S/\TO<S/\i1<S/\i2<S/\l1<S/\l2<S)(hn:min xs.size ys.size<=1000000)
 (Z:lO ka kb z TI TO i1 i2 l1 l2 xs ys s.heap) (hS:s.heap.get? S=some { cls:=.type "list",data:=.seq #[] }) (hsz:s.heap.objs.size=S+1)
 (hR:∀h' c',(∀b o,b≠z->b≠TO->b≠i1->b≠i2->b≠S->s.heap.get? b=some o->h'.get? b=some o) ->
  h'.get? S=some { cls:=.type "list",dict:=none,data:=.seq ((List.range (min xs.size ys.size)).map λj=>Value.ref (S+1+j)).toArray c',slots:=#[] } ->
  (∀j,j<min xs.size ys.size->∃x y,xs[j]? = some x/\ys[j]? = some y/\IsPair h' (S+1+j) x y)->R (.ok (.ret .none)) { s with heap:=h' }) :
 wpAny (model prog w) A.in1 (Builtin.«list.__init__» ⟨[.ref S,.ref z],[]⟩)
  (λfin s'=>match fin with|.done f=>R (.ok f) s'|.again c'=>c'.quiet=true/\codeAny (model prog w) A c' R s') (λe s'=>R (.error e) s') s:=by
 obtain⟨zS,TIS,TOS,i1S,i2S,l1S,l2S⟩:=id lt
 show wpAny _ A.in1 (Builtin.List.listItems (.ref S) >>= λold=>Builtin.List.listUpdate (.ref S) (λ_=>#[]) >>= λ_=>letGo old.toList.reverse >>= λ_=>Builtin.List.listExtendWith (.ref S) (.ref z) .none) _ _ s
 refine wpAny_bind ?_
 unfold Builtin.List.listItems
 refine wpAny_bind (wpAny_seqItems hS rfl (wpAny_pure ?_))
 show wpAny _ A.in1 (updateSeq S (λ_=>#[]) >>= λ_=>letGo (#[]:Array Value).toList.reverse >>= λ_=>Builtin.List.listExtendWith (.ref S) (.ref z) .none) _ _ s
 refine wpAny_bind (wpAny_updateSeq hS rfl ?_)
 have g2:=Heap.get?_update_self (Obj.mapSeq (λ_=>(#[]:Array Value))) hS rfl
 have oth:∀b o,b≠S->s.heap.get? b=some o->(s.heap.update S (Obj.mapSeq (λ_=>(#[]:Array Value)))).get? b=some o:=λb o hb e=>(Heap.get?_update_other _ _ (Ne.symm hb)).trans e
 refine wpAny_bind (wpAny_letGo ?_)
 refine zR hh D lt hn .none _ (Z.at λb o hb e=>oth b o (by rcases hb with rfl|rfl|rfl|rfl|rfl|rfl|rfl <;> omega) e) g2 (by show(s.heap.update S _).objs.size=_;rw[Heap.size_update,hsz]) λh' c' k e p=>?_
 exact hR h' c' (λb o b1 b2 b3 b4 b5 q=>k b o b1 b2 b3 b4 b5 (oth b o b5 q)) e p
theorem aEb{Q:Value->Shared->Prop}(hh:A.handled=none)(D:ZipApart z TI TO i1 i2 l1 l2)
 (lt:z<s.heap.objs.size/\TI<s.heap.objs.size/\TO<s.heap.objs.size/\i1<s.heap.objs.size/\i2<s.heap.objs.size/\l1<s.heap.objs.size/\l2<s.heap.objs.size) (hn:min xs.size ys.size<=1000000)
 (Z:lO ka kb z TI TO i1 i2 l1 l2 xs ys s.heap)
 (hQ:∀h' c',(∀b o,b≠z->b≠TO->b≠i1->b≠i2->s.heap.get? b=some o->h'.get? b=some o) ->
  h'.get? s.heap.objs.size=some { cls:=.type "list",dict:=none,data:=.seq ((List.range (min xs.size ys.size)).map λj=>Value.ref (s.heap.objs.size+1+j)).toArray c',slots:=#[] } ->
  (∀j,j<min xs.size ys.size->∃x y,xs[j]? = some x/\ys[j]? = some y/\IsPair h' (s.heap.objs.size+1+j) x y)->Q (.ref s.heap.objs.size) { s with heap:=h' }) :
 wpAny (model prog w) A (call (.type "list") [.ref z]) Q E s:=by
 refine callType_codes (Q₁:=λobj s₁=>obj=.ref s.heap.objs.size/\s₁={ s with heap:=s.heap.push { cls:=.type "list",data:=.seq #[] } }) F.called_list (F.typeCall_list_1 _) F.entry_list_init
  (code_list_new _ ⟨rfl,rfl⟩) λobj s₁ h₁=>?_
 obtain⟨rfl,rfl⟩:=h₁
 have hS:(s.heap.push { cls:=.type "list",data:=.seq #[] }).get? s.heap.objs.size=some { cls:=.type "list",data:=.seq #[] }:=Heap.get?_push_size _ rfl
 refine⟨⟨_,hS,rfl⟩,F.args_list_init_2 _ _,aEa (A:=A.in1) hh D lt hn (Z.at λb o _ e=>Heap.get?_push_of_some _ e) hS (Heap.size_push ..) λh' c' k e p=>?_⟩
 exact⟨rfl,hQ h' c' (λb o b1 b2 b3 b4 q=>k b o b1 b2 b3 b4 (Nat.ne_of_lt (Heap.lt_size q)) (Heap.get?_push_of_some _ q)) e p⟩
end
section
variable {X:Cx} {pins:List (Addr×Obj)} {σ:St} {H H':Hp} {s:Shared} {h':Heap}
theorem Inv.laidAll{t':Nat}(I:Inv X pins σ H s)(k:∀b u,s.heap.get? b=some u->h'.get? b=some u)(same:∀b u,H b=some u->H' b=some u)
 (new:∀b u,H' b=some u->H b=some u\/(s.heap.objs.size<=b/\dG X.prog X.w H' h' b u)):Inv X pins σ H' { s with heap:=h',toks:=t' }:=by
 refine I.step (g':=s.gens) (d':=s.drawn) (ch:=[]) (λb hb=>absurd hb (by simp)) (λb o _ _ _ e _=>k b o e) (λb o _ _ _ e _=>⟨o.slots,k b o e⟩) (λb o _ e n=>?_)
  (λb o _ e=>⟨o,k b o e⟩) (λb xs e=>same _ _ e) (λb o u e=>same _ _ e) (λb ps e=>⟨#[],by rw[same _ _ e];simp⟩) (λm hm=>?_) (λb u e=>?_) I.bare
 . cases q:H' b with
   | none=>rfl
   | some u=>
    rcases new b u q with z|⟨z,_⟩
    . rw[n] at z;cases z
    . exact absurd (Heap.lt_size e) (Nat.not_lt.mpr z)
 . obtain⟨o,es,ep,ho,r⟩:=hm
   exact⟨o,es,ep,k _ o ho,r⟩
 . rcases new b u e with z|⟨_,z⟩
   . exact(I.hok b u z).stay (λc v hc q=>k c v q) (λc q=>same _ _ q) λc xs q=>same _ _ q
   . exact z
structure Lz (H H':Hp) (l:Nat) (xs ys:List V):Prop where
 same:∀b u,H b=some u->H' b=some u
 free:H l=none
 lst:H' l=some (.lst ((List.range (min xs.length ys.length)).map λj=>.ref (l+1+j)))
 pair:∀(j:Nat) (x y:V),xs[j]? = some x->ys[j]? = some y->H' (l+1+j)=some (.tup [x,y])
def tLz(K:PySem.W.Frag)(ta:TA):TE:=λσ H Q=>ta σ H λvs H1=>∃(ka kb:Bool) (a b:Addr) (xs ys:List V),vs=[.ref a,.ref b]/\Sq ka K H1 a xs/\Sq kb K H1 b ys/\min xs.length ys.length<=1000000 /\
 ∀l H',Lz H1 H' l xs ys->Q (.ref l) H'
def lzH(H:Hp)(l:Nat)(xs ys:List V):Hp:=λ(b:Nat)=>if b=l then some (.lst ((List.range (min xs.length ys.length)).map λj=>.ref (l+1+j)))
 else if l<b then (match xs[b-l-1]?,ys[b-l-1]? with|some x,some y=>some (.tup [x,y])|_,_=>H b) else H b
theorem aGo{l:Nat}{xs ys:List V}(fr:∀b:Nat,l<=b->H b=none):Lz H (lzH H l xs ys) l xs ys where
 same:=λb u e=>by
  have hb:¬ l<=b:=λz=>by rw[fr b z] at e;cases e
  unfold lzH
  rw[if_neg (by omega),if_neg (by omega)]
  exact e
 free:=fr l (Nat.le_refl _)
 lst:=by unfold lzH;rw[if_pos rfl]
 pair:=λj x y e1 e2=>by
  unfold lzH
  rw[if_neg (by omega),if_pos (by omega)]
  have:l+1+j-l-1=j:=by omega
  rw[this,e1,e2]
theorem aEc{l b:Nat}{xs ys:List V}{u:HO}(h:¬ l<=b)(e:lzH H l xs ys b=some u):H b=some u:=by
 unfold lzH at e
 rw[if_neg (by omega),if_neg (by omega)] at e
 exact e
theorem zT(l n:Nat):aW ((List.range n).map λj=>V.ref (l+1+j)) ((List.range n).map λj=>Value.ref (l+1+j)):=by
 induction n with
 | zero=>exact .nil
 | succ n ih=>
  rw[List.range_succ,List.map_append,List.map_append]
  exact ih.append (.cons rfl .nil)
theorem zU(n a b:Nat)(ha:a<n)(hb:b<n):ZipApart (n+4) (n+2) (n+3) n (n+1) a b:=by
 constructor <;> (intro h;have h':@Eq Nat _ _:=h;omega)
theorem aEd(b n:Nat)(h:b<n):b≠n+4/\b≠n+3/\b≠n/\b≠n+1:=by omega
theorem aEe(a b n m:Nat)(ha:a<n)(hb:b<n)(hm:m=n+5):n+4<m/\n+2<m/\n+3<m/\n<m/\n+1<m/\a<m/\b<m:=by omega
theorem aGp(n b:Nat)(h:n<=b)(h2:¬ b=n):∃j,b=n+1+j:=⟨b-n-1,by omega⟩
theorem xJ(b n m:Nat)(h:m<=b)(hm:m=n+5):n<=b:=by omega
theorem wC:bootBuiltins "list" = some (.type "list"):=by kernel_rfl
theorem aEf{a b:Expr}{ta:TA}{p p2 pos pos2:Pos}(hgl:Gl X "list")(hml:X.mg "list" = none)(hg:Gl X "zip")(hm:X.mg "zip" = none)(hc:X.calm=true)(ha:PA X [a,b] ta)(hs:starEach [a,b] X.env=[(false,eval a X.env),(false,eval b X.env)])(hs2:starEach [b] X.env=[(false,eval b X.env)])
 (hs3:starEach [.Call (.Name "zip" p2) [a,b] [] pos2] X.env=[(false,eval (.Call (.Name "zip" p2) [a,b] [] pos2) X.env)]) :
 PE X (.Call (.Name "list" p) [.Call (.Name "zip" p2) [a,b] [] pos2] [] pos) (tLz X.K ta):=by
 intro pins s σ H Q I h
 refine Call_ (eV I hgl hml wC (PyProof.Rows.callWith_type1 ?_ (by rw[hs3];rfl) rfl))
 rw[hs3]
 show wpAny _ _ (spliced ((false,eval (.Call (.Name "zip" p2) [a,b] [] pos2) X.env)::backTo pos (starEach [] X.env))) _ _ s
 refine Calls.spliced_cons (Call_ (eV I hg hm tY (PyProof.Rows.callWith_type1 (thn (ha pos2 pins s σ H _ I h) λus s1 ⟨vs,H1,I1,r1,q1⟩=>?_) (by rw[hs,hs2]) (by rw[hs2];rfl))))
 obtain⟨ka,kb,a1,b1,xs,ys,e,q1,q2,hlen,q⟩:=q1
 subst e
 cases r1 with
 | cons r rr=>
  cases rr with
  | cons r' rr=>
   cases rr
   cases r
   cases r'
   obtain⟨as,ra,pa,_⟩:=I1.sq q1
   obtain⟨bs,rb,pb,_⟩:=I1.sq q2
   have la:=ra.length
   have lb:=rb.length
   refine pV pa pb λh1 hz hTI hTO hi1 hi2 hsz hk=>?_
   refine Calls.spliced_nil ?_
   have I2:Inv X pins σ H1 { s1 with heap:=h1,toks:=s1.toks }:=I1.kept hk
   have la1:a1<s1.heap.objs.size:=by
    cases ka with
    | true=>obtain⟨o,e,_⟩:=pa;exact Heap.lt_size e
    | false=>obtain⟨o,e,_⟩:=pa;exact Heap.lt_size e
   have lb1:b1<s1.heap.objs.size:=by
    cases kb with
    | true=>obtain⟨o,e,_⟩:=pb;exact Heap.lt_size e
    | false=>obtain⟨o,e,_⟩:=pb;exact Heap.lt_size e
   have D:=zU s1.heap.objs.size a1 b1 la1 lb1
   have hmin:min as.toArray.size bs.toArray.size=min xs.length ys.length:=by rw[List.size_toArray,List.size_toArray,la,lb]
   refine aEb (s:={ s1 with heap:=h1 }) (ka:=ka) (kb:=kb) (xs:=as.toArray) (ys:=bs.toArray) (I1.ok.hd hc) D (aEe a1 b1 _ _ la1 lb1 hsz) (by rw[hmin];exact hlen) ⟨hz,hTI,⟨_,_,hTO⟩,hi1,hi2,pa.at λo e=>hk _ o e,pb.at λo e=>hk _ o e⟩ λh2 c' k2 e2 p2=>?_
   have fr:∀b:Nat,h1.objs.size<=b->H1 b=none:=λb hb=>I1.hok.fresh (xJ b _ _ hb hsz)
   have L:=aGo (H:=H1) (l:=h1.objs.size) (xs:=xs) (ys:=ys) fr
   have kk:∀b u,s1.heap.get? b=some u->h2.get? b=some u:=λb u e=>by
    obtain⟨n1,n2,n3,n4⟩:=aEd b _ (Heap.lt_size e)
    exact k2 b u n1 n2 n3 n4 (hk b u e)
   rw[hmin] at e2
   have I3:Inv X pins σ (lzH H1 h1.objs.size xs ys) { s1 with heap:=h2,toks:=s1.toks }:=I1.laidAll kk L.same λb u eb=>by
    by_cases hb:h1.objs.size<=b
    . refine .inr ⟨xJ b _ _ hb hsz,?_⟩
      by_cases hb2:b=h1.objs.size
      . subst hb2
        rw[L.lst] at eb
        cases eb
        exact⟨by rw[lM,List.length_range,sizeLine_eq];omega,_,c',zT _ _,e2⟩
      . obtain⟨j,rfl⟩:=aGp h1.objs.size b hb hb2
        cases ex:xs[j]? with
        | none=>
         unfold lzH at eb
         rw[if_neg hb2,if_pos (by omega),show h1.objs.size+1+j-h1.objs.size-1=j by omega,ex] at eb
         rw[fr _ hb] at eb;cases eb
        | some x=>cases ey:ys[j]? with
         | none=>
          unfold lzH at eb
          rw[if_neg hb2,if_pos (by omega),show h1.objs.size+1+j-h1.objs.size-1=j by omega,ex,ey] at eb
          rw[fr _ hb] at eb;cases eb
         | some y=>
          rw[L.pair j x y ex ey] at eb
          cases eb
          have jx:=(List.getElem?_eq_some_iff.mp ex).1
          have jy:=(List.getElem?_eq_some_iff.mp ey).1
          obtain⟨ux,uy,g1,g2,g3⟩:=p2 j (by rw[hmin];omega)
          obtain⟨ux',g1',rx⟩:=ra.get ex
          obtain⟨uy',g2',ry⟩:=rb.get ey
          have e1:ux=ux':=by
           have:as[j]? = some ux:=by simpa using g1
           rw[this] at g1';cases g1';rfl
          have e2:uy=uy':=by
           have:bs[j]? = some uy:=by simpa using g2
           rw[this] at g2';cases g2';rfl
          subst e1 e2
          exact⟨by show 2<=sizeLine;rw[sizeLine_eq];decide,[ux,uy],.cons rx (.cons ry .nil),_,g3,rfl,_,rfl⟩
    . refine .inl ?_
      exact aEc hb eb
   exact⟨.ref h1.objs.size,_,I3,rfl,q _ _ L⟩
end
end L2
end
noncomputable section
namespace Hp
open PySem PySem.Spec PyProof.Rows L2
section
variable {X:Cx} {P:Pg} {n:Nat} {Γ:Ct} {RT Y old:Addr->Prop} {σ:Sg}
theorem uF{K:Fg}{H:Hp}{ex:Addr->Prop}:∀(as bs:List D) (xs ys:List V) (l:Nat),Reps K H ex as xs->Reps K H ex bs ys->(∀(j:Nat) (x y:V),xs[j]? = some x->ys[j]? = some y->H (l+j)=some (.tup [x,y])) ->
 Reps K H ex (dR as bs) ((List.range (min xs.length ys.length)).map λj=>.ref (l+j))
 | [],bs,xs,ys,l,ra,rb,hp=>by
  have e:xs=[]:=ra
  subst e
  simp[dR,Reps]
 | a::as,[],xs,ys,l,ra,rb,hp=>by
  have e:ys=[]:=rb
  subst e
  simp[dR,Reps]
 | a::as,b::bs,xs,ys,l,ra,rb,hp=>by
  obtain⟨x,xs',rfl,r1,r2⟩:=ra
  obtain⟨y,ys',rfl,q1,q2⟩:=rb
  have ih:=uF as bs xs' ys' (l+1) r2 q2 λj x' y' e1 e2=>by
   have:=hp (j+1) x' y' (by simpa using e1) (by simpa using e2)
   rwa [show l+(j+1)=l+1+j by omega] at this
  have h0:=hp 0 x y rfl rfl
  have el:(List.range (min (x::xs').length (y::ys').length)).map (λj=>V.ref (l+j))=V.ref l::(List.range (min xs'.length ys'.length)).map λj=>V.ref (l+1+j):=by
   have:min (x::xs').length (y::ys').length=min xs'.length ys'.length+1:=by simp only[lC];omega
   rw[this,List.range_succ_eq_map,mC,List.map_map]
   congr 1
   refine List.map_congr_left λj _=>?_
   show V.ref (l+(j+1))=_
   rw[show l+(j+1)=l+1+j by omega]
  rw[el]
  exact⟨_,_,rfl,⟨l,[x,y],rfl,SqT.of h0,.cons r1 (.cons q1 .nil)⟩,ih⟩
theorem aGq(M:Mc X P Γ n){a b:E}{ea eb:Expr}{p p2 pos pos2:Pos}(hgl:cS Γ "list" = true)(hg:cS Γ "zip" = true)(ha:PE X ea (WE X P n RT Y old σ a))(hb:PE X eb (WE X P n RT Y old σ b))(hpa:aV ea=true)(hpb:aV eb=true) :
 PE X (.Call (.Name "list" p) [.Call (.Name "zip" p2) [ea,eb] [] pos2] [] pos) (WE X P n RT Y old σ (.lzip a b)):=by
 refine(aEf (M.gl hgl) (M.md.blt _ (by decide +kernel)) (M.gl hg) (M.md.blt _ (by decide +kernel)) M.calm (gY ha (gY hb tV hpb) hpa) (by rw[aA hpa,aA hpb];rfl) (aA hpb) rfl).imp λσV H Q t ⟨S,h⟩=>?_
 have h:=RE.bind' (show RE _ (ev P (call P n) σ a >>= λx=>ev P (call P n) σ b >>= λy=>(match eY x.d,eY y.d with
  | some as,some bs=>R.iff (decide (as.length<=lim)) (R.ok (nK x y (dR as bs)))
  | _,_=>.bad)) _ from h)
 refine⟨S,?_⟩
 show RE _ (ev P (call P n) σ a >>= λx=>evs P (call P n) σ (.cons b .nil) >>= λxs=>R.ok (x::xs)) _
 rw[RE.bind]
 refine h.mono λx hx=>?_
 rw[RE.bind]
 show RE _ (ev P (call P n) σ b >>= λx=>evs P (call P n) σ .nil >>= λxs=>R.ok (x::xs)) _
 rw[RE.bind]
 refine(RE.bind' hx).mono λy hy=>?_
 split at hy
 . rename_i as bs e1 e2
   obtain⟨hl,hy⟩:=hy.iff
   have hl:=of_decide_eq_true hl
   intro us H1 t1 s1 r1
   obtain⟨u,r',eu,ru,u2,r2,eu2,ru2,hr⟩:=r1
   rw[show r2=[] from hr] at eu2
   subst eu2
   subst eu
   obtain⟨ka,a1,xs,rfl,qa,na,ra⟩:=rN ru e1
   obtain⟨kb,b1,ys,rfl,qb,nb,rb⟩:=rN ru2 e2
   have S1:=S.grow s1 t1
   have w1:∀c,exV RT Y old σ σV (x.pa||y.pa) (x.al++y.al) c->exV RT Y old σ σV x.pa x.al c:=λc z=>z.mono (λhp=>by rw[hp];rfl) λj hj=>List.mem_append_left _ hj
   have w2:∀c,exV RT Y old σ σV (x.pa||y.pa) (x.al++y.al) c->exV RT Y old σ σV y.pa y.al c:=λc z=>z.mono (λhp=>by rw[hp,Bool.or_true]) λj hj=>List.mem_append_right _ hj
   refine⟨ka,kb,a1,b1,xs,ys,rfl,qa,qb,?_,λl H' L t'=>(show Wn X RT Y old σ σV H Q (nK x y (dR as bs)) from hy) _ _ t' ?_⟩
   . have:=ra.length
     unfold lim at hl
     omega
   . have sm:aM H1 H':=L.same
     have up:∀{ds:List D} {vs:List V},Reps X.K H1 (exV RT Y old σ σV (x.pa||y.pa) (x.al++y.al)) ds vs->Reps X.K H' (λc=>c=l\/exV RT Y old σ σV (x.pa||y.pa) (x.al++y.al) c) ds vs:=λ{ds vs} r=>by
      refine Reps.imp (λ_ _ q=>aM.seqT sm q) (λc zs nn q=>⟨λz=>?_,sm.seq q⟩) (λ_ _ _ _ q=>sm _ _ q) ds vs r
      rcases z with z|z
      . subst z
        rcases q with(q|⟨o,q⟩)|⟨o,its,n',q,_⟩
        . rw[L.free] at q;cases q
        . rw[L.free] at q;cases q
        . have z:=t' c (by rw[L.lst];simp)
          rw[q] at z;cases z
      . exact nn z
     have rz:=uF as bs xs ys (l+1) (up (ra.weak w1)) (up (rb.weak w2)) L.pair
     refine Ro.from (H1:=H1) ⟨sm,?_⟩ s1
     unfold nK
     by_cases hno:noLs (dR as bs)=true
     . rw[if_pos hno,if_pos rfl]
       exact⟨l,_,_,rfl,rfl,L.free,L.lst,Reps.free _ _ hno rz⟩
     . rw[if_neg hno,if_pos rfl]
       exact⟨l,_,_,rfl,rfl,L.free,L.lst,rz⟩
 . exact hy.elim
end
end Hp
end
noncomputable section
set_option maxHeartbeats 8000000
namespace Hp
open PySem PySem.Spec PyProof.Rows L2
section
variable {P:Pg} {n:Nat}
theorem uG{X:Cx}{Γ:Ct}(M:Mc X P Γ n)(scope:Scope):(relabel scope X.env).names=nN Γ.sc scope.names:=by
 unfold relabel nN
 simp only
 refine List.map_congr_left λp hp=>?_
 obtain⟨m,k⟩:=p
 have e1:(X.env.scope.kind==ScopeKind.function)=true:=by rw[M.fk];rfl
 have e2:X.env.kindOf m=Γ.sc.lookup m:=by unfold Env.kindOf;rw[M.sc]
 simp only[e1,e2,Bool.and_true]
abbrev chN(Γ:Ct)(tg:Expr)(caps:List Nat):List Str:=fK tg++caps.filterMap λi=>Γ.N[i]?
abbrev wD(Γ:Ct)(tg:Expr)(caps:List Nat)(scope:Scope):Ct:={ Γ with N:=chN Γ tg caps,sc:=nN Γ.sc scope.names,fn:=false }
structure aBQ (Γ:Ct) (tg:Expr) (caps:List Nat) (scope:Scope) (k:Nat) (t:T) (elt:E):Prop where
 len:(fK tg).length=k
 lt:∀i∈caps,i<Γ.N.length
 ndc:caps.Nodup
 kind:scope.kind=.function
 nd:(chN Γ tg caps).Nodup
 cap:∀x∈caps.filterMap (λi=>Γ.N[i]?),scope.names.lookup x=some .free/\Γ.sc.lookup x=some .cell
 all:∀p∈scope.names,p.2≠.cell/\(p.2=.local->scope.names.lookup p.1=some .local)/\(p.2=.free->Γ.sc.lookup p.1=some .cell)
 tk:∀i∈tIx t,i<k
 cm:(Γ.fn||gH elt)=true
theorem rO{N:List Str}:∀{caps:List Nat},(∀i∈caps,i<N.length)->∀{j i:Nat},caps[j]? = some i->(caps.filterMap λi=>N[i]?)[j]? = N[i]?/\(caps.filterMap λi=>N[i]?).length=caps.length
 | [],_,_,_,h=>by simp at h
 | c::cs,hl,j,i,h=>by
  have hc:N[c]? = some N[c]! := by
   have:=hl c List.mem_cons_self
   simp[this]
  rw[List.filterMap_cons_some hc]
  have hl':∀i∈cs,i<N.length:=λi hi=>hl i (List.mem_cons_of_mem _ hi)
  have len:(cs.filterMap λi=>N[i]?).length=cs.length:=by
   cases cs with
   | nil=>rfl
   | cons c' cs'=>exact(rO hl' (j:=0) (i:=c') rfl).2
  refine⟨?_,by rw[lC,lC,len]⟩
  cases j with
  | zero=>
   have e:c=i:=by simpa using h
   subst e
   rw[gZ,hc]
  | succ j=>
   rw[gS]
   exact(rO hl' (j:=j) (i:=i) (by simpa using h)).1
theorem aGr{N:List Str}{caps:List Nat}(h:∀i∈caps,i<N.length):(caps.filterMap λi=>N[i]?).length=caps.length:=by
 cases caps with
 | nil=>rfl
 | cons c cs=>exact(rO h (j:=0) (i:=c) rfl).2
theorem aBQ.scope{X:Cx}{Γ:Ct}{tg:Expr}{caps:List Nat}{scope:Scope}{k:Nat}{t:T}{elt:E}(O:aBQ Γ tg caps scope k t elt)(M:Mc X P Γ n):dE X scope k caps (chN Γ tg caps) where
 kind:=O.kind
 nocell:=λy hy=>(O.all y hy).1
 loc:=λy hy e=>(O.all y hy).2.1 e
 free:=λm hm=>.inl (by
  have:=(O.all _ hm).2.2 rfl
  show X.env.scope.names.lookup m=_
  rw[M.sc];exact this)
 len:=by rw[lA,O.len,aGr O.lt]
 cap:=λj i e=>by
  have hi:=O.lt i (mG e)
  have hx:Γ.N[i]? = some Γ.N[i]:=List.getElem?_eq_getElem hi
  have hg:=(rO O.lt e).1
  rw[hx] at hg
  obtain⟨h1,h2⟩:=O.cap _ (mG hg)
  refine⟨Γ.N[i],?_,by rw[M.N];exact hx,h1,?_⟩
  . show(fK tg++_)[k+j]? = _
    rw[List.getElem?_append_right (by rw[O.len];omega),O.len,Nat.add_sub_cancel_left]
    exact hg
  . show X.env.scope.names.lookup _=_
    rw[M.sc];exact h2
 ndp:=M.nd
theorem aBQ.mc{X:Cx}{Γ:Ct}{tg:Expr}{caps:List Nat}{scope:Scope}{k:Nat}{t:T}{elt:E}(O:aBQ Γ tg caps scope k t elt)(M:Mc X P Γ n)(C:Addr)(s₀:Shared)(H₀:Hp)(ex:List Addr) :
 Mc (cM X scope (chN Γ tg caps) C s₀ H₀ ex) P (wD Γ tg caps scope) n where
 md:=⟨M.md.fn,M.md.blt,M.md.cns,M.md.tab,M.md.exc,M.md.rsd,M.md.cls⟩
 N:=rfl
 nd:=O.nd
 sc:=uG M scope
 calm:=M.calm
 room:=M.room
 own:=PassesOwn.never
 st:=λx h=>.inr (by
  show(relabel scope X.env).names.lookup x=_
  rw[uG M scope]
  unfold tJ at h
  have h:(match (nN Γ.sc scope.names).lookup x with|some .local=>true|some .cell=>false|_=>false)=true:=h
  split at h
  . rename_i e;exact e
  . cases h
  . cases h)
 fk:=O.kind
 stk:=λz=>nomatch z
theorem uH{Γ:Ct}{tt:Bool}{a b:E}{e:Expr}:chkI Γ tt (.rng a b) e=oS (pC e) λp=>(p.1==("range" : Str))&&cS Γ p.1&&(match p.2 with
 | [x]=>vN a&&aY Γ b x
 | [x,y]=>aY Γ a x&&aY Γ b y
 | _=>false):=rfl
theorem uI{Γ:Ct}{tt:Bool}{a b:E}{e:Expr}:chkI Γ tt (.zip a b) e=oS (pC e) λp=>(match p.2 with
 | [x,y]=>tt&&(p.1==("zip" : Str))&&cS Γ p.1&&aY Γ a x&&aY Γ b y
 | _=>false):=rfl
theorem jN{Γ:Ct}{tt:Bool}{it:Hp.It}{e:Expr}(h:chkI Γ tt it e=true):aV e=true:=by
 cases it with
 | seq c=>exact aP (c:=c) (by exact h)
 | rng a b=>rw[uH] at h;obtain⟨_,⟨_,_,rfl⟩,_⟩:=aH h;rfl
 | zip a b=>rw[uI] at h;obtain⟨_,⟨_,_,rfl⟩,_⟩:=aH h;rfl
 | enum a=>cases h
 | rev a=>cases h
theorem aEg{X:Cx}{e:Expr}{c:E}{RT Y old:Addr->Prop}{σ:Sg}(h:tst P (call P n) σ c=.bad):PT X e (WT X P n RT Y old σ c):=λpins s σV H Q I ⟨S,hh⟩=>by
 rw[h] at hh
 exact hh.elim
theorem gA{a b c:Bool}(h:(a&&b&&c)=true):a=true/\b=true/\c=true:=by
 cases a <;> cases b <;> cases c <;> first|exact⟨rfl,rfl,rfl⟩|cases h
theorem dO{a b:Bool}(h:(a&&b)=true):a=true/\b=true:=by
 cases a <;> cases b <;> first|exact⟨rfl,rfl⟩|cases h
theorem aEh{a b c d:Bool}(h:(a&&b&&c&&d)=true):a=true/\b=true/\c=true/\d=true:=by
 obtain⟨h1,h2,h3⟩:=gA h
 obtain⟨h1,h4⟩:=dO h1
 exact⟨h1,h4,h2,h3⟩
theorem zV{a b c d e:Bool}(h:(a&&b&&c&&d&&e)=true):a=true/\b=true/\c=true/\d=true/\e=true:=by
 obtain⟨h1,h2,h3,h4⟩:=aEh h
 obtain⟨h1,h5⟩:=dO h1
 exact⟨h1,h5,h2,h3,h4⟩
theorem xK{Γ:Ct}{k:Nat}{caps:List Nat}{t:T}{it:Hp.It}{cond:Es}{elt:E}{e:Expr}(h:aY Γ (.comp k caps t it cond elt) e=true) :
 ∃el tg iter ifs scope pos,e=.ListComp el [⟨tg,iter,ifs,0⟩] scope pos/\aBQ Γ tg caps scope k t elt/\ifs.length<=1/\mL (wD Γ tg caps scope) t tg=true/\chkI Γ (pO tg) it iter=true/\chkEs (wD Γ tg caps scope) cond ifs=true/\aY (wD Γ tg caps scope) elt el=true:=by
 obtain⟨⟨el,gens,scope⟩,h1,g⟩:=aH h
 clear h
 obtain⟨pos,rfl⟩:=h1
 have h:=g
 clear g
 rcases gens with _|⟨⟨tg,iter,ifs,as⟩,_|⟨_,_⟩⟩
 . cases h
 . have h:(as==0&&(fK tg).length==k&&(caps.all λi=>decide (i<Γ.N.length))&&decide caps.Nodup&&scope.kind==.function&&decide (fK tg++caps.filterMap λi=>Γ.N[i]?).Nodup &&
    ((caps.filterMap λi=>Γ.N[i]?).all λx=>scope.names.lookup x==some .free&&Γ.sc.lookup x==some .cell) &&
    (scope.names.all λp=>p.2 != .cell&&(p.2 != .local||scope.names.lookup p.1==some .local)&&(p.2 != .free||Γ.sc.lookup p.1==some .cell)) &&
    ((tIx t).all λi=>decide (i<k))&&decide (ifs.length<=1)&&(Γ.fn||gH elt) &&
    mL (wD Γ tg caps scope) t tg&&chkI Γ (pO tg) it iter&&chkEs (wD Γ tg caps scope) cond ifs&&aY (wD Γ tg caps scope) elt el)=true:=by
    exact h
   simp only[bA,beq_iff_eq,List.all_eq_true,decide_eq_true_eq,Bool.or_eq_true,bne_iff_ne,ne_eq] at h
   obtain⟨⟨⟨⟨⟨⟨⟨⟨⟨⟨⟨⟨⟨⟨h0,h1⟩,h2⟩,h3⟩,h4⟩,h5⟩,h6⟩,h7⟩,h8⟩,h9⟩,hcm⟩,h10⟩,h11⟩,h12⟩,h13⟩:=h
   subst h0
   refine⟨el,tg,iter,ifs,scope,pos,rfl,⟨h1,h2,h3,h4,h5,h6,λp hp=>?_,h8,by simpa using hcm⟩,h9,h10,h11,h12,h13⟩
   obtain⟨⟨q1,q2⟩,q3⟩:=h7 p hp
   exact⟨q1,λe=>q2.resolve_left λz=>z e,λe=>q3.resolve_left λz=>z e⟩
 . cases h
abbrev PEc(P:Pg)(n:Nat)(c:E):Prop:=∀{X:Cx} {Γ:Ct},Mc X P Γ n->∀{e:Expr},aY Γ c e=true->∀(RT Y old:Addr->Prop) (σ:Sg),PE X e (WE X P n RT Y old σ c)
abbrev PTc(P:Pg)(n:Nat)(c:E):Prop:=∀{X:Cx} {Γ:Ct},Mc X P Γ n->∀{e:Expr},aY Γ c e=true->∀(RT Y old:Addr->Prop) (σ:Sg),PT X e (WT X P n RT Y old σ c)
abbrev PWc(P:Pg)(n:Nat)(c:E):Prop:=∀{X:Cx} {Γ:Ct},Mc X P Γ n->∀{o:BoolOp} {xs:List Expr} {pos:Pos},aY Γ c (.BoolOp o xs pos)=true->∀(RT Y old:Addr->Prop) (σ:Sg),PW X (.BoolOp o xs pos) (WT X P n RT Y old σ c)
structure Q3 (P:Pg) (n:Nat) (c:E):Prop where
 e:PEc P n c
 t:PTc P n c
 w:PWc P n c
structure QA (P:Pg) (n:Nat) (cs:Es):Prop where
 a:∀{X:Cx} {Γ:Ct},Mc X P Γ n->∀{es:List Expr},chkEs Γ cs es=true->∀(RT Y old:Addr->Prop) (σ:Sg),PA X es (WA X P n RT Y old σ cs)
 o:∀{X:Cx} {Γ:Ct},Mc X P Γ n->∀{e:Option Expr},chkO Γ cs e=true->∀(RT Y old:Addr->Prop) (σ:Sg),PO X e (wO X P n RT Y old σ cs)
 ts:∀{X:Cx} {Γ:Ct},Mc X P Γ n->∀{es:List Expr},es.length<=1->chkEs Γ cs es=true->∀(RT Y old:Addr->Prop) (σ:Sg),PTs X es (wTs X P n RT Y old σ cs)
abbrev QI(P:Pg)(n:Nat)(it:Hp.It):Prop:=∀{X:Cx} {Γ:Ct},Mc X P Γ n->∀{tg e:Expr},chkI Γ (pO tg) it e=true->∀(RT Y old:Addr->Prop) (σ:Sg),PI X tg e (wI X P n RT Y old σ it)
theorem Q3.of{c:E}(h:PEc P n c)(hd:∀σ,tst P (call P n) σ c=.bad)(hw:∀{Γ:Ct} {o:BoolOp} {xs:List Expr} {pos:Pos},aY Γ c (.BoolOp o xs pos)=false):Q3 P n c:=
 ⟨h,λ{X Γ} M {e} z RT Y old σ=>aEg (hd σ),λ{X Γ} M {o xs pos} z RT Y old σ=>absurd (hw.symm.trans z) bN⟩
theorem n_c{d:D}:Q3 P n (.c d):=by
 have h0:∀{Γ:Ct} {e:Expr},aY Γ (.c d) e=true->(∃c k p,e=.Constant c k p/\eqC d c=true)\/∃x p,e=.Name x p/\cS Γ x=true/\bM x=true/\∃d',Γ.cns.lookup x=some d'/\eqK d d'=true:=λ{Γ e} h=>by
  rcases(Bool.or_eq_true _ _).mp (show(oS (asC e) (eqC d)||oS (asN e) λx=>cS Γ x&&bM x&&oB (Γ.cns.lookup x) (eqK d))=true from h) with h|h
  . obtain⟨c,h1,g⟩:=aH h
    clear h
    obtain⟨k,p,rfl⟩:=h1
    have h:=g
    clear g
    exact .inl ⟨c,k,p,rfl,h⟩
  . obtain⟨x,h1,g⟩:=aH h
    clear h
    obtain⟨p,rfl⟩:=h1
    have h:=g
    clear g
    obtain⟨h1,h2,h3⟩:=gA h
    obtain⟨d',q1,q2⟩:=aBs h3
    exact .inr ⟨x,p,rfl,h1,h2,d',q1,q2⟩
 have k:PEc P n (.c d):=λ{X Γ} M {e} h RT Y old σ=>by
  rcases h0 h with⟨c,j,p,rfl,g⟩|⟨x,p,rfl,h1,h2,d',q,h3⟩
  . exact s_c g
  . have e:=aFX h3
    subst e
    obtain⟨u,v,m,r,hr⟩:=M.md.cns x d q
    refine(mR (M.gl h1) m r (aU h2)).imp λσV H Q t ⟨S,hh⟩ t'=>?_
    exact(show Wn _ RT Y old σ σV H Q (Vl.cl d) from hh) v H t' (Ro.val (aM.refl H) (hr H))
 refine⟨k,λ{X Γ} M {e} h RT Y old σ=>?_,λ{X Γ} M {o xs pos} h RT Y old σ=>absurd h bN⟩
 refine nT (k M h RT Y old σ) ?_ λw p hp=>hp
 rcases h0 h with⟨c,j,p,rfl,h⟩|⟨x,p,rfl,_⟩ <;> (intro _;rfl)
theorem n_v{i:Nat}:Q3 P n (.v i):=by
 have k:PEc P n (.v i):=λ{X Γ} M {e} h RT Y old σ=>by
  obtain⟨x,h1,g⟩:=aH h
  clear h
  obtain⟨p,rfl⟩:=h1
  have h:=g
  clear g
  have h:eJ _ i x=true:=h
  unfold eJ at h
  obtain⟨h1,h2,h3⟩:=gA h
  exact s_v (by rw[M.N];exact eq_of_beq h1) (M.vis h2) (aU h3) (iT h3)
 refine⟨k,λ{X Γ} M {e} h RT Y old σ=>?_,λ{X Γ} M {o xs pos} h RT Y old σ=>absurd h bN⟩
 refine nT (k M h RT Y old σ) ?_ λw p hp=>RE.bind' (show RE _ (aO σ i >>= λx=>fA x) p from hp)
 obtain⟨x,⟨p,rfl⟩,_⟩:=aH h
 intro _;rfl
theorem aKM{o:Operator}{a b:E}(ha:Q3 P n a)(hb:Q3 P n b):Q3 P n (.op o a b):=Q3.of (λ{X Γ} M {e} h RT Y old σ=>by
 obtain⟨⟨l,o',r⟩,h1,g⟩:=aH h
 clear h
 obtain⟨p,rfl⟩:=h1
 have h:=g
 clear g
 obtain⟨h1,h2,h3⟩:=gA h
 have e:o=o':=eq_of_beq h1
 subst e
 exact aKH (ha.e M h2 RT Y old σ) (hb.e M h3 RT Y old σ)) (λ_=>rfl) rfl
theorem aKN{a:E}(ha:Q3 P n a):Q3 P n (.nt a):=by
 have h0:∀{Γ:Ct} {e:Expr},aY Γ (.nt a) e=true->∃x p,e=.UnaryOp .Not x p/\aY Γ a x=true:=λ{Γ e} h=>by
  obtain⟨⟨o,x⟩,h1,g⟩:=aH h
  clear h
  obtain⟨p,rfl⟩:=h1
  have h:=g
  clear g
  obtain⟨h1,h2⟩:=dO h
  have e:o=.Not:=eq_of_beq h1
  subst e
  exact⟨x,p,rfl,h2⟩
 refine⟨λ{X Γ} M {e} h RT Y old σ=>?_,λ{X Γ} M {e} h RT Y old σ=>?_,λ{X Γ} M {o xs pos} h RT Y old σ=>absurd h bN⟩
 . obtain⟨x,p,rfl,g⟩:=h0 h
   exact aIl (ha.e M g RT Y old σ)
 . obtain⟨x,p,rfl,g⟩:=h0 h
   exact aKJ (ha.t M g RT Y old σ)
theorem xL{Γ:Ct}{a b:E}{w:BoolOp}{xs:List Expr}{p:Pos}(h:(match xs with
 | [x,y]=>aY Γ a x&&aY Γ b y
 | x::y::z::r=>aY Γ a x&&aY Γ b (.BoolOp w (y::z::r) p)
 | _=>false)=true):∃x y r,xs=x::y::r/\aY Γ a x=true/\((r=[]/\aY Γ b y=true)\/aY Γ b (.BoolOp w (y::r) p)=true):=by
 rcases xs with _|⟨x,_|⟨y,_|⟨z,r⟩⟩⟩
 . cases h
 . cases h
 . obtain⟨h1,h2⟩:=dO h
   exact⟨x,y,[],rfl,h1,.inl ⟨rfl,h2⟩⟩
 . obtain⟨h1,h2⟩:=dO h
   exact⟨x,y,z::r,rfl,h1,.inr h2⟩
theorem aKO{a b:E}(ha:Q3 P n a)(hb:Q3 P n b):Q3 P n (.an a b):=by
 have kw:PWc P n (.an a b):=λ{X Γ} M {o xs pos} h RT Y old σ=>by
  obtain⟨h1,h2⟩:=dO h
  have e:o=.And:=eq_of_beq h1
  subst e
  obtain⟨x,y,r,rfl,g1,g2⟩:=xL h2
  rcases g2 with⟨rfl,g2⟩|g2
  . exact aIu (ha.t M g1 RT Y old σ) (aDb (hb.t M g2 RT Y old σ))
  . exact aIu (ha.t M g1 RT Y old σ) (hb.w M g2 RT Y old σ)
 refine⟨λ{X Γ} M {e} h RT Y old σ=>?_,λ{X Γ} M {e} h RT Y old σ=>?_,kw⟩
 . obtain⟨⟨o,xs,pos⟩,h1,g⟩:=aH h
   clear h
   obtain rfl:=h1
   have h:=g
   clear g
   obtain⟨h1,h2⟩:=dO h
   have e:o=.And:=eq_of_beq h1
   subst e
   obtain⟨x,y,r,e,g1,g2⟩:=xL h2
   have e:xs=x::y::r:=e
   subst e
   rcases g2 with⟨rfl,g2⟩|g2
   . exact aIm (ha.e M g1 RT Y old σ) (aAs (hb.e M g2 RT Y old σ))
   . exact aIm (ha.e M g1 RT Y old σ) (hb.e M g2 RT Y old σ)
 . obtain⟨⟨o,xs,pos⟩,rfl,_⟩:=aH h
   exact(kw M h RT Y old σ).pt
theorem aIA{a b:E}(ha:Q3 P n a)(hb:Q3 P n b):Q3 P n (.orr a b):=by
 have kw:PWc P n (.orr a b):=λ{X Γ} M {o xs pos} h RT Y old σ=>by
  obtain⟨h1,h2⟩:=dO h
  have e:o=.Or:=eq_of_beq h1
  subst e
  obtain⟨x,y,r,rfl,g1,g2⟩:=xL h2
  rcases g2 with⟨rfl,g2⟩|g2
  . exact aEV (ha.t M g1 RT Y old σ) (aFo (hb.t M g2 RT Y old σ))
  . exact aEV (ha.t M g1 RT Y old σ) (hb.w M g2 RT Y old σ)
 refine⟨λ{X Γ} M {e} h RT Y old σ=>?_,λ{X Γ} M {e} h RT Y old σ=>?_,kw⟩
 . obtain⟨⟨o,xs,pos⟩,h1,g⟩:=aH h
   clear h
   obtain rfl:=h1
   have h:=g
   clear g
   obtain⟨h1,h2⟩:=dO h
   have e:o=.Or:=eq_of_beq h1
   subst e
   obtain⟨x,y,r,e,g1,g2⟩:=xL h2
   have e:xs=x::y::r:=e
   subst e
   rcases g2 with⟨rfl,g2⟩|g2
   . exact aEU (ha.e M g1 RT Y old σ) (aAs (hb.e M g2 RT Y old σ))
   . exact aEU (ha.e M g1 RT Y old σ) (hb.e M g2 RT Y old σ)
 . obtain⟨⟨o,xs,pos⟩,rfl,_⟩:=aH h
   exact(kw M h RT Y old σ).pt
theorem aIB{t a b:E}(ht:Q3 P n t)(ha:Q3 P n a)(hb:Q3 P n b):Q3 P n (.ife t a b):=Q3.of (λ{X Γ} M {e} h RT Y old σ=>by
 obtain⟨⟨t',a',b'⟩,h1,g⟩:=aH h
 clear h
 obtain⟨p,rfl⟩:=h1
 have h:=g
 clear g
 obtain⟨h1,h2,h3⟩:=gA h
 exact aIn (ht.t M h1 RT Y old σ) (ha.e M h2 RT Y old σ) (hb.e M h3 RT Y old σ)) (λ_=>rfl) rfl
theorem aIC{o:CmpOp}{a b:E}(ha:Q3 P n a)(hb:Q3 P n b):Q3 P n (.cmp o a b):=by
 have h0:∀{Γ:Ct} {e:Expr},aY Γ (.cmp o a b) e=true->∃l r p,e=.Compare l [o] [r] p/\aY Γ a l=true/\aY Γ b r=true:=λ{Γ e} h=>by
  obtain⟨⟨l,os,rs⟩,h1,g⟩:=aH h
  clear h
  obtain⟨p,rfl⟩:=h1
  have h:=g
  clear g
  rcases os with _|⟨o',_|⟨_,_⟩⟩
  . cases h
  . rcases rs with _|⟨r,_|⟨_,_⟩⟩
    . cases h
    . obtain⟨h1,h2,h3⟩:=gA h
      have e:o=o':=eq_of_beq h1
      subst e
      exact⟨l,r,p,rfl,h2,h3⟩
    . cases h
  . cases h
 refine⟨λ{X Γ} M {e} h RT Y old σ=>?_,λ{X Γ} M {e} h RT Y old σ=>?_,λ{X Γ} M {o xs pos} h RT Y old σ=>absurd h bN⟩
 . obtain⟨l,r,p,rfl,h2,h3⟩:=h0 h
   exact aIo M (ha.e M h2 RT Y old σ) (hb.e M h3 RT Y old σ) (aP h3)
 . obtain⟨l,r,p,rfl,h2,h3⟩:=h0 h
   exact aIp M (ha.e M h2 RT Y old σ) (hb.e M h3 RT Y old σ) (aP h3)
theorem aGs{o1 o2:CmpOp}{a b c:E}(ha:Q3 P n a)(hb:Q3 P n b)(hc:Q3 P n c):Q3 P n (.cmp2 o1 o2 a b c):=by
 have h0:∀{Γ:Ct} {e:Expr},aY Γ (.cmp2 o1 o2 a b c) e=true->∃l m r p,e=.Compare l [o1,o2] [m,r] p/\aY Γ a l=true/\aY Γ b m=true/\aY Γ c r=true:=λ{Γ e} h=>by
  obtain⟨⟨l,os,rs⟩,h1,g⟩:=aH h
  clear h
  obtain⟨p,rfl⟩:=h1
  have h:=g
  clear g
  rcases os with _|⟨o1',_|⟨o2',_|⟨_,_⟩⟩⟩
  . cases h
  . cases h
  . rcases rs with _|⟨m,_|⟨r,_|⟨_,_⟩⟩⟩
    . cases h
    . cases h
    . obtain⟨h1,h2,h3,h4,h5⟩:=zV h
      have e:o1=o1':=eq_of_beq h1
      subst e
      have e:o2=o2':=eq_of_beq h2
      subst e
      exact⟨l,m,r,p,rfl,h3,h4,h5⟩
    . cases h
  . cases h
 refine⟨λ{X Γ} M {e} h RT Y old σ=>?_,λ{X Γ} M {e} h RT Y old σ=>?_,λ{X Γ} M {o xs pos} h RT Y old σ=>absurd h bN⟩
 . obtain⟨l,m,r,p,rfl,h3,h4,h5⟩:=h0 h
   exact aGa M (ha.e M h3 RT Y old σ) (hb.e M h4 RT Y old σ) (hc.e M h5 RT Y old σ) (aP h5)
 . obtain⟨l,m,r,p,rfl,h3,h4,h5⟩:=h0 h
   exact aGb M (ha.e M h3 RT Y old σ) (hb.e M h4 RT Y old σ) (hc.e M h5 RT Y old σ) (aP h5)
theorem aID{a b:E}(ha:Q3 P n a)(hb:Q3 P n b):Q3 P n (.idx a b):=by
 have k:PEc P n (.idx a b):=λ{X Γ} M {e} h RT Y old σ=>by
  obtain⟨⟨x,i⟩,h1,g⟩:=aH h
  clear h
  obtain⟨p,rfl⟩:=h1
  have h:=g
  clear g
  obtain⟨h1,h2⟩:=dO h
  exact aIq (ha.e M h1 RT Y old σ) (hb.e M h2 RT Y old σ) (aP h2)
 refine⟨k,λ{X Γ} M {e} h RT Y old σ=>?_,λ{X Γ} M {o xs pos} h RT Y old σ=>absurd h bN⟩
 refine nT (k M h RT Y old σ) ?_ λw p hp=>?_
 . obtain⟨⟨x,i⟩,⟨p,rfl⟩,_⟩:=aH h
   intro _;rfl
 . have hp:=RE.bind' (show RE _ (ev P (call P n) σ a >>= λx=>ev P (call P n) σ b >>= λy=>bW x y >>= λz=>fA z) p from hp)
   show RE _ (ev P (call P n) σ a >>= λx=>ev P (call P n) σ b >>= λy=>bW x y) _
   rw[RE.bind]
   refine hp.mono λx hx=>?_
   rw[RE.bind]
   exact(RE.bind' hx).mono λy hy=>RE.bind' hy
theorem aIE{a:E}{lo hi:Es}(ha:Q3 P n a)(hl:QA P n lo)(hh:QA P n hi):Q3 P n (.sli a lo hi):=Q3.of (λ{X Γ} M {e} h RT Y old σ=>by
 obtain⟨⟨x,i⟩,h1,g⟩:=aH h
 clear h
 obtain⟨p,rfl⟩:=h1
 have h:=g
 clear g
 obtain⟨⟨l,u⟩,h1,g⟩:=aH h
 clear h
 obtain⟨p2,e2⟩:=h1
 have h:=g
 clear g
 have e2:i=.Slice l u none p2:=e2
 subst e2
 obtain⟨h1,h2,h3⟩:=gA h
 obtain⟨h1,h4⟩:=dO h1
 exact aIx (ha.e M h1 RT Y old σ) (hl.o M h2 RT Y old σ) (hh.o M h3 RT Y old σ) h4) (λ_=>rfl) rfl
theorem aIF{es:Es}(ha:QA P n es):Q3 P n (.tup es):=Q3.of (λ{X Γ} M {e} h RT Y old σ=>by
 obtain⟨xs,h1,g⟩:=aH h
 clear h
 obtain⟨k,p,rfl⟩:=h1
 have h:=g
 clear g
 obtain⟨h1,h2⟩:=dO h
 exact aIr (ha.a M h2 RT Y old σ) h2 (of_decide_eq_true h1)) (λ_=>rfl) rfl
theorem aIG{es:Es}(ha:QA P n es):Q3 P n (.lst es):=Q3.of (λ{X Γ} M {e} h RT Y old σ=>by
 obtain⟨xs,h1,g⟩:=aH h
 clear h
 obtain⟨p,rfl⟩:=h1
 have h:=g
 clear g
 obtain⟨h1,h2⟩:=dO h
 exact aIs (ha.a M h2 RT Y old σ) h2 (of_decide_eq_true h1)) (λ_=>rfl) rfl
theorem aGt{f:Nat}{es:Es}(ha:QA P n es):Q3 P n (.call f es):=by
 have k:PEc P n (.call f es):=λ{X Γ} M {e} h RT Y old σ=>by
  obtain⟨⟨x,xs⟩,h1,g⟩:=aH h
  clear h
  obtain⟨p1,p2,rfl⟩:=h1
  have h:=g
  clear g
  obtain⟨h1,h2,h3,h4⟩:=aEh h
  exact aFY M (eq_of_beq h1) h2 h3 (ha.a M h4 RT Y old σ) (gX h4) h4
 refine⟨k,λ{X Γ} M {e} h RT Y old σ=>?_,λ{X Γ} M {o xs pos} h RT Y old σ=>absurd h bN⟩
 refine nT (k M h RT Y old σ) ?_ λw p hp=>?_
 . obtain⟨⟨x,xs⟩,⟨p1,p2,rfl⟩,_⟩:=aH h
   intro _;rfl
 . have hp:=RE.bind' (show RE _ (evs P (call P n) σ es >>= λvs=>call P n f (vs.map (·.d)) >>= λr=>fA (fB vs r)) p from hp)
   show RE _ (evs P (call P n) σ es >>= λvs=>call P n f (vs.map (·.d)) >>= λr=>R.ok (fB vs r)) _
   rw[RE.bind]
   refine hp.mono λx hx=>?_
   rw[RE.bind]
   exact(RE.bind' hx).mono λy hy=>hy
theorem aKP{b:Bi}{es:Es}(ha:QA P n es):Q3 P n (.bi b es):=by
 have k:PEc P n (.bi b es):=λ{X Γ} M {e} h RT Y old σ=>by
  obtain⟨⟨x,xs⟩,h1,g⟩:=aH h
  clear h
  obtain⟨p1,p2,rfl⟩:=h1
  have h:=g
  clear g
  obtain⟨h,h6⟩:=dO h
  obtain⟨h1,h2,h3,h4,h5⟩:=zV h
  cases xs with
  | nil=>cases h5
  | cons y ys=>exact aKI M h1 (eq_of_beq h2) h3 h4 (ha.a M h6 RT Y old σ) (gX h6)
 refine⟨k,λ{X Γ} M {e} h RT Y old σ=>?_,λ{X Γ} M {o xs pos} h RT Y old σ=>absurd h bN⟩
 refine nT (k M h RT Y old σ) ?_ λw p hp=>?_
 . obtain⟨⟨x,xs⟩,⟨p1,p2,rfl⟩,_⟩:=aH h
   intro _;rfl
 . have hp:=RE.bind' (show RE _ (evs P (call P n) σ es >>= λvs=>biD b vs >>= λx=>fA x) p from hp)
   show RE _ (evs P (call P n) σ es >>= λvs=>biD b vs) _
   rw[RE.bind]
   exact hp.mono λx hx=>RE.bind' hx
theorem aIH{a:E}{cs:List Cl}(ha:Q3 P n a):Q3 P n (.isi a cs):=by
 have k:PEc P n (.isi a cs):=λ{X Γ} M {e} h RT Y old σ=>by
  obtain⟨⟨f,xs⟩,h1,g⟩:=aH h
  clear h
  obtain⟨p1,p2,rfl⟩:=h1
  have h:=g
  clear g
  rcases cs with _|⟨c,_|⟨_,_⟩⟩
  . cases h
  . rcases xs with _|⟨x,_|⟨y,_|⟨_,_⟩⟩⟩
    . cases h
    . cases h
    . obtain⟨h1,h2,h3,h4,h5⟩:=zV h
      unfold aEQ at h5
      split at h5
      . rename_i z p3
        obtain⟨q1,q2,q3⟩:=gA h5
        have hc:∃cv,tP c=some cv:=by cases c <;> first|exact⟨_,rfl⟩|cases h3
        obtain⟨cv,hc⟩:=hc
        exact aIt M (eq_of_beq h1) h2 hc (eq_of_beq q1) q2 q3 (ha.e M h4 RT Y old σ) (aP h4)
      . cases h5
    . cases h
  . cases h
 refine⟨k,λ{X Γ} M {e} h RT Y old σ=>?_,λ{X Γ} M {o xs pos} h RT Y old σ=>absurd h bN⟩
 refine nT (k M h RT Y old σ) ?_ λw p hp=>?_
 . obtain⟨⟨x,xs⟩,⟨p1,p2,rfl⟩,_⟩:=aH h
   intro _;rfl
 . have hp:=RE.bind' (show RE _ (ev P (call P n) σ a >>= λx=>(match isI cs P x.d with|some k=>R.ok k|none=>.bad)) p from hp)
   show RE _ (ev P (call P n) σ a >>= λx=>(match isI cs P x.d with|some k=>R.ok (Vl.cl (.bl k))|none=>.bad)) _
   rw[RE.bind]
   refine hp.mono λx hx=>?_
   cases q:isI cs P x.d with
   | none=>rw[q] at hx;exact hx.elim
   | some k=>rw[q] at hx;exact hx
theorem aII{a:E}{cs:List Cl}(ha:Q3 P n a):Q3 P n (.isx a cs):=by
 have k:PEc P n (.isx a cs):=λ{X Γ} M {e} h RT Y old σ=>by
  obtain⟨⟨f,xs⟩,h1,g⟩:=aH h
  clear h
  obtain⟨p1,p2,rfl⟩:=h1
  have h:=g
  clear g
  rcases xs with _|⟨x,_|⟨y,_|⟨_,_⟩⟩⟩
  . cases h
  . cases h
  . obtain⟨h1,h2,h3,h4⟩:=aEh h
    unfold aIb at h4
    split at h4
    . rename_i es tk tp
      obtain⟨q1,q2⟩:=dO h4
      obtain⟨vs,i1,i2,i3⟩:=aBz M q1
      refine aBy M (eq_of_beq h1) h2 (ha.e M h3 RT Y old σ) (aP h3) (aAG i1) rfl λσV H Q hq=>?_
      have q2:es.length<=1000:=by simpa using q2
      exact⟨by rw[i3,sizeLine_eq];omega,λp hp=>hq _ _ (aM.new hp) (.inr ⟨p,vs,rfl,SqT.of cE,i2⟩)⟩
    . rename_i z zp
      split at h4
      . obtain⟨q1,q2⟩:=dO h4
        have e:z=("ValueError" : Str):=eq_of_beq q1
        subst e
        exact aBy M (eq_of_beq h1) h2 (ha.e M h3 RT Y old σ) (aP h3) (aDa (v:=.ty "ValueError") (M.gl q2) (M.md.blt _ (by decide +kernel)) (by kernel_rfl) rfl (by decide +kernel) (by decide +kernel)) rfl λσV H Q hq=>hq _ H (aM.refl H) (.inl ⟨_,rfl,rfl⟩)
      . obtain⟨x',p,e1,e2,g1,g2,g3⟩:=tW h4
        cases e2
        subst e1
        obtain⟨C2,q⟩:=M.md.cls _ g3
        exact aBy M (eq_of_beq h1) h2 (ha.e M h3 RT Y old σ) (aP h3) (mR (v:=.ref C2) (M.gl g1) q rfl (aU g2)) rfl λσV H Q hq=>hq _ H (aM.refl H) (.inl ⟨_,rfl,g3,C2,q,rfl⟩)
      . cases h4
    . cases h4
  . cases h
 refine⟨k,λ{X Γ} M {e} h RT Y old σ=>?_,λ{X Γ} M {o xs pos} h RT Y old σ=>absurd h bN⟩
 refine nT (k M h RT Y old σ) ?_ λw p hp=>?_
 . obtain⟨⟨x,xs⟩,⟨p1,p2,rfl⟩,_⟩:=aH h
   intro _;rfl
 . have hp:=RE.bind' (show RE _ (ev P (call P n) σ a >>= λx=>(match isX cs P x.d with|some k=>R.ok k|none=>.bad)) p from hp)
   show RE _ (ev P (call P n) σ a >>= λx=>(match isX cs P x.d with|some k=>R.ok (Vl.cl (.bl k))|none=>.bad)) _
   rw[RE.bind]
   refine hp.mono λx hx=>?_
   cases q:isX cs P x.d with
   | none=>rw[q] at hx;exact hx.elim
   | some k=>rw[q] at hx;exact hx
theorem aGu{k:Nat}{caps:List Nat}{t:T}{it:Hp.It}{cond:Es}{elt:E}(hi:QI P n it)(hc:QA P n cond)(he:Q3 P n elt):Q3 P n (.comp k caps t it cond elt):=Q3.of (λ{X Γ} M {e} h RT Y old σ=>by
 obtain⟨el,tg,iter,ifs,scope,pos,rfl,O,h1,h2,h3,h4,h5⟩:=xK h
 refine aGn M (O.scope M) O.ndc O.tk O.cm (hi M h3 RT Y old σ) (λC s₀ H₀ ex=>?_) (lE (jN h3))
 have M':=O.mc M C s₀ H₀ ex
 exact⟨aBK M' h2,λRT Y old σ1=>xI (hc.ts M' h1 h4 RT Y old σ1),λpl E W own rs RT Y old σ1=>aBM rs (he.e (M'.inTry own) h5 RT Y old σ1)⟩) (λ_=>rfl) rfl
theorem aGv{i:Nat}{a:E}(ha:Q3 P n a):Q3 P n (.tget i a):=Q3.of (λ{X Γ} M {e} h RT Y old σ=>by
 obtain⟨⟨o,m,xs,l⟩,h1,g⟩:=aH h
 clear h
 obtain⟨ap,cp,rfl,hl⟩:=h1
 have h:=g
 clear g
 obtain⟨x,h1,g⟩:=aH h
 clear h
 obtain⟨p,e2⟩:=h1
 have h:=g
 clear g
 have e2:o=.Name x p:=e2
 subst e2
 obtain⟨h,h6⟩:=dO h
 obtain⟨h1,h2,h3,h4,h5⟩:=zV h
 rw[show l=true from h5] at hl
 rcases xs with _|⟨y,_|⟨_,_⟩⟩
 . cases h6
 . exact aFZ M (eq_of_beq h1) (eq_of_beq h2) h3 h4 hl (ha.e M h6 RT Y old σ) (aP h6)
 . cases h6) (λ_=>rfl) rfl
theorem aGw{a b:E}(ha:Q3 P n a)(hb:Q3 P n b):Q3 P n (.lzip a b):=Q3.of (λ{X Γ} M {e} h RT Y old σ=>by
 obtain⟨⟨f,xs⟩,h1,g⟩:=aH h
 clear h
 obtain⟨p1,p2,rfl⟩:=h1
 have h:=g
 clear g
 rcases xs with _|⟨s,_|⟨_,_⟩⟩
 . cases h
 . obtain⟨⟨g,ys⟩,h1,g⟩:=aH h
   clear h
   obtain⟨p3,p4,e2⟩:=h1
   have h:=g
   clear g
   have e2:s=.Call (.Name g p3) ys [] p4:=e2
   subst e2
   obtain⟨h1,h2,h3,h4,h5⟩:=zV h
   have e1:f = "list" := eq_of_beq h1
   have e2:g = "zip" := eq_of_beq h3
   subst e1 e2
   rcases ys with _|⟨x,_|⟨y,_|⟨_,_⟩⟩⟩
   . cases h5
   . cases h5
   . obtain⟨h5,h6⟩:=dO h5
     exact aGq M h2 h4 (ha.e M h5 RT Y old σ) (hb.e M h6 RT Y old σ) (aP h5) (aP h6)
   . cases h5
 . cases h) (λ_=>rfl) rfl
theorem hX{c:E}(h:∀{Γ:Ct} {e:Expr},aY Γ c e=false):Q3 P n c:=
 ⟨λ{X Γ} M {e} z=>absurd (h.symm.trans z) bN,λ{X Γ} M {e} z=>absurd (h.symm.trans z) bN,λ{X Γ} M {o xs pos} z=>absurd (h.symm.trans z) bN⟩
theorem aIJ:QA P n .nil:=by
 refine⟨λ{X Γ} M {es} h RT Y old σ=>?_,λ{X Γ} M {e} h RT Y old σ=>?_,λ{X Γ} M {es} hl h RT Y old σ=>?_⟩
 . cases es with
   | nil=>exact tV
   | cons _ _=>exact nf h
 . cases e with
   | none=>exact aIv
   | some _=>exact nf h
 . cases es with
   | nil=>exact aGl
   | cons _ _=>exact nf h
theorem aGx{c:E}{cs:Es}(hc:Q3 P n c)(hs:QA P n cs):QA P n (.cons c cs):=by
 refine⟨λ{X Γ} M {es} h RT Y old σ=>?_,λ{X Γ} M {e} h RT Y old σ=>?_,λ{X Γ} M {es} hl h RT Y old σ=>?_⟩
 . cases es with
   | nil=>exact nf h
   | cons e es=>
    obtain⟨h1,h2⟩:=dO h
    exact gY (hc.e M h1 RT Y old σ) (hs.a M h2 RT Y old σ) (aP h1)
 . cases cs with
   | nil=>cases e with
    | none=>exact nf h
    | some e=>exact aIw (hc.e M (by exact h) RT Y old σ)
   | cons _ _=>cases e <;> exact nf h
 . cases es with
   | nil=>exact nf h
   | cons e es=>
    obtain⟨h1,h2⟩:=dO h
    cases es with
    | nil=>cases cs with
     | nil=>exact aGm (hc.t M h1 RT Y old σ)
     | cons _ _=>exact absurd h2 bN
    | cons _ _=>simp at hl
theorem aIK{c:E}(hc:Q3 P n c):QI P n (.seq c):=λ{X Γ} M {tg e} h RT Y old σ=>aIy (hc.e M (by exact h) RT Y old σ)
theorem aIL{a b:E}(ha:Q3 P n a)(hb:Q3 P n b):QI P n (.rng a b):=λ{X Γ} M {tg e} h RT Y old σ=>by
 rw[uH] at h
 obtain⟨⟨f,xs⟩,h1,g⟩:=aH h
 clear h
 obtain⟨p1,p2,rfl⟩:=h1
 have h:=g
 clear g
 obtain⟨h1,h2,h3⟩:=gA h
 rcases xs with _|⟨x,_|⟨y,_|⟨_,_⟩⟩⟩
 . cases h3
 . obtain⟨h3,h4⟩:=dO h3
   have ez:a=.c (.int 0):=by
    unfold vN at h3
    split at h3
    . rw[eq_of_beq h3]
    . cases h3
   rw[ez]
   exact aGj M (eq_of_beq h1) h2 (hb.e M h4 RT Y old σ) (aP h4)
 . obtain⟨h3,h4⟩:=dO h3
   exact aGk M (eq_of_beq h1) h2 (ha.e M h3 RT Y old σ) (hb.e M h4 RT Y old σ) (aP h3) (aP h4)
 . cases h3
theorem aIM{a b:E}(ha:Q3 P n a)(hb:Q3 P n b):QI P n (.zip a b):=λ{X Γ} M {tg e} h RT Y old σ=>by
 rw[uI] at h
 obtain⟨⟨f,xs⟩,h1,g⟩:=aH h
 clear h
 obtain⟨p1,p2,rfl⟩:=h1
 have h:=g
 clear g
 rcases xs with _|⟨x,_|⟨y,_|⟨_,_⟩⟩⟩
 . cases h
 . cases h
 . obtain⟨h0,h1,h2,h3,h4⟩:=zV h
   unfold pO at h0
   split at h0
   . exact aIz M (eq_of_beq h1) h2 (ha.e M h3 RT Y old σ) (hb.e M h4 RT Y old σ) (aP h3) (aP h4)
   . cases h0
 . cases h
theorem aEX{it:Hp.It}(z:∀Γ tt e,chkI Γ tt it e=false):QI P n it:=by
 intro X Γ M tg e h RT Y old σ
 rw[z] at h
 cases h
mutual
theorem qE:(c:E)->Q3 P n c
 | .c _=>n_c
 | .v _=>n_v
 | .op _ a b=>aKM (qE a) (qE b)
 | .neg _=>hX rfl
 | .nt a=>aKN (qE a)
 | .an a b=>aKO (qE a) (qE b)
 | .orr a b=>aIA (qE a) (qE b)
 | .ife t a b=>aIB (qE t) (qE a) (qE b)
 | .cmp _ a b=>aIC (qE a) (qE b)
 | .dnin _ _=>hX rfl
 | .dget _ _=>hX rfl
 | .dlen _=>hX rfl
 | .cmp2 _ _ a b c=>aGs (qE a) (qE b) (qE c)
 | .idx a b=>aID (qE a) (qE b)
 | .sli a lo hi=>aIE (qE a) (qA lo) (qA hi)
 | .tup es=>aIF (qA es)
 | .lst es=>aIG (qA es)
 | .dic _ _=>hX rfl
 | .call _ es=>aGt (qA es)
 | .callP _ _ _=>hX rfl
 | .bi _ es=>aKP (qA es)
 | .mth _ _ _=>hX rfl
 | .isi a _=>aIH (qE a)
 | .isx a _=>aII (qE a)
 | .comp _ _ _ it cond elt=>aGu (qI it) (qA cond) (qE elt)
 | .numset _=>hX rfl
 | .tget _ a=>aGv (qE a)
 | .lzip a b=>aGw (qE a) (qE b)
theorem qA:(cs:Es)->QA P n cs
 | .nil=>aIJ
 | .cons c cs=>aGx (qE c) (qA cs)
theorem qI:(it:Hp.It)->QI P n it
 | .seq c=>aIK (qE c)
 | .rng a b=>aIL (qE a) (qE b)
 | .zip a b=>aIM (qE a) (qE b)
 | .enum _=>aEX λ_ _ _=>rfl
 | .rev _=>aEX λ_ _ _=>rfl
end
theorem sE(c:E):PEc P n c:=(qE c).e
theorem sT(c:E):PTc P n c:=(qE c).t
theorem sTs(cs:Es):∀{X:Cx} {Γ:Ct},Mc X P Γ n->∀{es:List Expr},es.length<=1->chkEs Γ cs es=true->∀(RT Y old:Addr->Prop) (σ:Sg),PTs X es (wTs X P n RT Y old σ cs):=(qA cs).ts
theorem sI(it:Hp.It):QI P n it:=qI it
end
end Hp
end
noncomputable section
set_option maxHeartbeats 4000000
namespace Hp
open PySem PySem.Spec PyProof.Rows L2
def cG(K:Fg)(RT Y old:Addr->Prop)(H:Hp)(σ':Sg)(Q:L2.St->Hp->Prop):Prop:=
 ∀(RT':Addr->Prop) (σV':L2.St) (H':Hp),Kp RT H H'->(∀b,RT' b->RT b\/H b=none)->Sx K RT' Y old σ' σV' H'->Q σV' H'
def Rtv(K:Fg)(Y old:Addr->Prop)(H':Hp)(v:Vl)(u:V):Prop:=
 if v.fr=true then ∃a xs ds,u=.ref a/\v.d=.lst ds/\¬ old a/\H' a=some (.lst xs)/\Reps K H' (λb=>b=a\/exB Y old v.pa b) ds xs
 else Rep K H' (exB Y old v.pa) v.d u
def mE(K:Fg)(RT Y old:Addr->Prop)(H:Hp)(v:Vl)(Q:VK):Prop:=∀(u:V) (H':Hp),Kp RT H H'->Tk K H'->Rtv K Y old H' v u->Q u H'
def OE(K:Fg)(w:L2.St->Hp->D->Prop)(RT Y old:Addr->Prop)(H:Hp)(o:O)(D:Ends):Prop:=match o with
 | .next σ'=>cG K RT Y old H σ' D.nx
 | .brk σ'=>cG K RT Y old H σ' D.bk
 | .cnt σ'=>cG K RT Y old H σ' D.ct
 | .ret v=>mE K RT Y old H v D.rt
 | .exc x σ'=>cG K RT Y old H σ' λσV H=>w σV H x
 | .bad=>False
def wS(X:Cx)(RT Y old:Addr->Prop)(σ:Sg)(o:O):TS:=λD σV H=>Sx X.K RT Y old σ σV H/\OE X.K (XW X) RT Y old H o D
section
variable {K:Fg} {w w':L2.St->Hp->D->Prop} {RT RT' RT'' Y old:Addr->Prop} {σ:Sg} {σV:L2.St} {H H1 H2:Hp} {o:O} {D D':Ends}
theorem Kp.chain(a:Kp RT H H1)(s:∀b,RT' b->RT b\/H b=none)(b:Kp RT' H1 H2):Kp RT H H2:=λc o e n=>b c o (a c o e n) λz=>(s c z).elim n λq=>by rw[q] at e;cases e
theorem fN(a:Kp RT H H1)(s1:∀b,RT' b->RT b\/H b=none)(s2:∀b,RT'' b->RT' b\/H1 b=none):∀b,RT'' b->RT b\/H b=none:=λb z=>by
 rcases s2 b z with q|q
 . exact s1 b q
 . by_cases hr:RT b
   . exact .inl hr
   . refine .inr ?_
     cases e:H b with
     | none=>rfl
     | some o=>rw[a b o e hr] at q;cases q
theorem cG.mono{σ':Sg}{Q:L2.St->Hp->Prop}(a:Kp RT H H1)(s:∀b,RT' b->RT b\/H b=none)(h:cG K RT Y old H σ' Q):cG K RT' Y old H1 σ' Q:=λRT2 σV2 H2 k n S=>h RT2 σV2 H2 (a.chain s k) (fN a s n) S
theorem OE.mono(a:Kp RT H H1)(s:∀b,RT' b->RT b\/H b=none)(h:OE K w RT Y old H o D):OE K w RT' Y old H1 o D:=by
 cases o with
 | next σ'=>exact cG.mono a s h
 | brk σ'=>exact cG.mono a s h
 | cnt σ'=>exact cG.mono a s h
 | ret v=>exact λu H2 k t r=>(show mE K RT Y old H v D.rt from h) u H2 (a.chain s k) t r
 | exc x σ'=>exact cG.mono a s h
 | bad=>exact h
theorem aT:∀b,RT b->RT b\/H b=none:=λ_ z=>.inl z
def tkE(K:Fg)(D:Ends):Ends:=⟨λσ H=>Tk K H->D.nx σ H,λv H=>Tk K H->D.rt v H,λσ H=>Tk K H->D.bk σ H,λσ H=>Tk K H->D.ct σ H⟩
theorem OE.from{X:Cx}{α:Type}{x:R α}{f:α->O}(S:Sx X.K RT Y old σ σV H)(h:OE X.K (XW X) RT Y old H (O.from σ x f) D):RE (wx X σV H) x λa=>OE X.K (XW X) RT Y old H (f a) D:=by
 cases x with
 | ok a=>exact h
 | exc e=>exact λH' t s=>(show cG X.K RT Y old H σ (λσV H=>XW X σV H e) from h) RT σV H' (Kp.same s) aT (S.grow s t)
 | bad=>exact h
theorem OE.fromc{α:Type}{x:R α}{f:α->O}(h:OE K w RT Y old H (O.from σ x f) D)(n:∀z,x≠.exc z):∃a,x=.ok a/\OE K w RT Y old H (f a) D:=by
 cases x with
 | ok a=>exact⟨a,rfl,h⟩
 | exc e=>exact absurd rfl (n e)
 | bad=>exact h.elim
theorem cG.imp{σ':Sg}{Q Q':L2.St->Hp->Prop}(h:cG K RT Y old H σ' Q)(f:∀σV H,Q σV H->Q' σV H):cG K RT Y old H σ' Q':=λRT' σV' H' k n S=>f _ _ (h RT' σV' H' k n S)
theorem OE.weak(h:OE K w RT Y old H o D)(f:∀σV H x,w σV H x->w' σV H x):OE K w' RT Y old H o D:=by
 cases o with
 | exc x σ'=>exact cG.imp (Q:=λσV H=>w σV H x) h λσV H z=>f σV H x z
 | _=>exact h
theorem aBR{α:Type}(x:R α):∀z,x.calm≠.exc z:=λz q=>by
 cases x <;> cases q
theorem pX(σ:Sg)(i:Nat)(k:Option Int):∀z,dW σ i k≠.exc z:=λz q=>by
 unfold dW at q
 repeat' split at q
 all_goals cases q
theorem aEi(e:Option (R Vl))(h:∀x,e=some x->∀z,x≠.exc z):∀z,tG e≠.exc z:=λz q=>by
 unfold tG at q
 split at q
 . cases q
 . rename_i x
   refine eG (h x rfl) (λv z q=>?_) z q
   split at q
   . exact fX fY z q
   . cases q
end
section
variable {X:Cx} {st:Stmt} {t t':TS}
theorem aEY{pins:List (Addr×Obj)}{D:Ends}{f:Flow}{s':Shared}(h:SP X pins (tkE X.K D) f s'):SP X pins D f s':=by
 cases f with
 | next=>obtain⟨σ',H',I,q⟩:=h;exact⟨σ',H',I,q I.tk⟩
 | brk=>obtain⟨σ',H',I,q⟩:=h;exact⟨σ',H',I,q I.tk⟩
 | cont=>obtain⟨σ',H',I,q⟩:=h;exact⟨σ',H',I,q I.tk⟩
 | ret u=>obtain⟨v,σ',H',I,r,q⟩:=h;exact⟨v,σ',H',I,r,q I.tk⟩
theorem cC(h:PS X st t)(f:∀D σV H,Tk X.K H->t' D σV H->t (tkE X.K D) σV H):PS X st t':=λpins s σV H D I hw=>thn (h pins s σV H _ I (f D σV H I.tk hw)) λfl s' q=>aEY q
theorem mV{sts:List Stmt}(h:PSs X sts t)(f:∀D σV H,Tk X.K H->t' D σV H->t (tkE X.K D) σV H):PSs X sts t':=λpins s σV H D I hw=>thn (h pins s σV H _ I (f D σV H I.tk hw)) λfl s' q=>aEY q
theorem rP{Y old:Addr->Prop}{sts:List Stmt}{f:Sg->O}(h:∀RT σ,PSs X sts (wS X RT Y old σ (f σ))):PSs X sts (λD σV H=>∃RT σ,wS X RT Y old σ (f σ) D σV H):=λpins s σV H D I ⟨RT,σ,hw⟩=>h RT σ pins s σV H D I hw
end
section
variable {X:Cx} {P:Pg} {Γ:Ct} {n:Nat} {RT Y old:Addr->Prop} {σ:Sg} {pos:Pos}
theorem cG.tkE{σ':Sg}{Q:L2.St->Hp->Prop}{H:Hp}(h:cG X.K RT Y old H σ' Q):cG X.K RT Y old H σ' λσ H=>Tk X.K H->Q σ H:=λRT' σV' H' k n S _=>h RT' σV' H' k n S
theorem OE.tkE{o:O}{D:Ends}{H:Hp}(h:OE X.K (XW X) RT Y old H o D):OE X.K (XW X) RT Y old H o (tkE X.K D):=by
 cases o with
 | next σ'=>exact cG.tkE h
 | brk σ'=>exact cG.tkE h
 | cnt σ'=>exact cG.tkE h
 | ret v=>exact λu H2 k t r _=>(show mE X.K RT Y old H v D.rt from h) u H2 k t r
 | exc x σ'=>exact h
 | bad=>exact h
theorem aIN:PSs X [] (wS X RT Y old σ (exs P (call P n) σ .nil)):=mV aDc λD σV H t ⟨S,h⟩ _=>(show cG X.K RT Y old H σ D.nx from h) RT σV H (Kp.refl RT H) aT S
theorem aGy{s:S}{ss:Ss}{x:Stmt}{xs:List Stmt}(h1:∀RT σ,PS X x (wS X RT Y old σ (ex P (call P n) σ s)))(h2:∀RT σ,PSs X xs (wS X RT Y old σ (exs P (call P n) σ ss))) :
 PSs X (x::xs) (wS X RT Y old σ (exs P (call P n) σ (.cons s ss))):=by
 refine mV (aAu (h1 RT σ) (rP h2)) λD σV H t ⟨S,h⟩=>?_
 have h:OE X.K (XW X) RT Y old H ((ex P (call P n) σ s).on λσ'=>exs P (call P n) σ' ss) D:=h
 refine⟨S,?_⟩
 cases q:ex P (call P n) σ s with
 | next σ'=>
  rw[q] at h
  exact λRT' σV' H' k nn S'=>⟨RT',σ',S',(OE.mono k nn (show OE X.K (XW X) RT Y old H (exs P (call P n) σ' ss) D from h)).tkE⟩
 | brk σ'=>rw[q] at h;exact OE.tkE (D:=D) (o:=.brk σ') h
 | cnt σ'=>rw[q] at h;exact OE.tkE (D:=D) (o:=.cnt σ') h
 | ret v=>rw[q] at h;exact OE.tkE (D:=D) (o:=.ret v) h
 | exc e σ'=>rw[q] at h;exact h
 | bad=>rw[q] at h;exact h
theorem aGz:PS X (.Pass pos) (wS X RT Y old σ (ex P (call P n) σ .pass)):=cC aDe λD σV H t ⟨S,h⟩ _=>(show cG X.K RT Y old H σ D.nx from h) RT σV H (Kp.refl RT H) aT S
theorem aIO:PS X (.Break pos) (wS X RT Y old σ (ex P (call P n) σ .brk)):=cC aAv λD σV H t ⟨S,h⟩ _=>(show cG X.K RT Y old H σ D.bk from h) RT σV H (Kp.refl RT H) aT S
theorem aIP:PS X (.Continue pos) (wS X RT Y old σ (ex P (call P n) σ .cnt)):=cC sU λD σV H t ⟨S,h⟩ _=>(show cG X.K RT Y old H σ D.ct from h) RT σV H (Kp.refl RT H) aT S
theorem aIQ{st:Stmt}:PS X st (wS X RT Y old σ (ex P (call P n) σ .off)):=cC aAx λD σV H t ⟨S,h⟩=>h.elim
theorem aIR{c:Str}{k:Bool}{e:E}{a:Expr}{np cp:Pos}(M:Mc X P Γ n)(hg:cS Γ c=true)(ho:bM c=true)(hc:c∈Γ.rsd)(ha:PE X a (WE X P n RT Y old σ e))(hp:aV a=true) :
 PS X (.Raise (some (.Call (.Name c np) [a] [] cp)) none pos) (wS X RT Y old σ (ex P (call P n) σ (.rse c k (.cons e .nil)))):=by
 obtain⟨ab,hab⟩:=M.md.rsd c hc
 obtain⟨C,E⟩:=M.md.exc c ab hab
 refine cC (aBl PySem.F.excBase_ValueError (by decide +kernel) (M.gl hg) E.bd E.ex (eS ha gL (aA hp)) M.calm (xA X) (aU ho) (aA hp) (by rw[aA hp];rfl)) λD σV H t ⟨S,h⟩=>?_
 have h:=OE.from S (show OE X.K (XW X) RT Y old H (O.from σ (ev P (call P n) σ e >>= λx=>R.ok [x]) λvs=>.exc (.err c (if k then vs.map (·.d) else [])) σ) D from h)
 have h:=RE.bind' h
 refine wE.one S h λx u H1 hx t1 S1 r1=>⟨show 1<=sizeLine by rw[sizeLine_eq];decide,?_⟩
 exact(show cG X.K RT Y old H σ (λσV H=>XW X σV H (.err c (if k then [x].map (·.d) else []))) from hx) RT σV H1 (Kp.same r1.1) aT S1 (.ref C) E.ns
theorem xM{pa:Bool}{al:List Nat}{σV:L2.St}{b:Addr}(h:exB Y old pa b):exV RT Y old σ σV pa al b:=.inr h
theorem Ro.rtv{H H':Hp}{σV:L2.St}{v:Vl}{u:V}(S:Sx X.K RT Y old σ σV H)(ro:Ro X.K RT Y old σ σV H H' v u):Rtv X.K Y old H' v u:=by
 unfold Rtv
 by_cases hf:v.fr=true
 . rw[if_pos hf]
   obtain⟨s,h⟩:=ro
   rw[if_pos hf] at h
   obtain⟨a,xs,ds,e1,e2,e3,e4,r⟩:=h
   exact⟨a,xs,ds,e1,e2,λz=>S.trk a (.inr (.inr z)) e3,e4,r.weak λb z=>z.elim .inl λz=>.inr (xM z)⟩
 . rw[if_neg hf]
   exact Rep.weak (ro.rv S) λb z=>xM z
theorem aIS{c:E}{e:Expr}(he:PE X e (WE X P n RT Y old σ c)):PS X (.Return (some e) pos) (wS X RT Y old σ (ex P (call P n) σ (.ret c))):=by
 refine cC (aAw he) λD σV H t ⟨S,h⟩=>?_
 have h:=OE.from S (show OE X.K (XW X) RT Y old H (O.from σ (ev P (call P n) σ c) .ret) D from h)
 exact wE.one S h λx u H1 hx t1 S1 r1 _=>(show mE X.K RT Y old H x D.rt from hx) u H1 (Kp.same r1.1) t1 (r1.rtv S)
theorem aGA:PS X (.Return none pos) (wS X RT Y old σ (ex P (call P n) σ .retN)):=cC aDf λD σV H t ⟨S,h⟩ _=>(show mE X.K RT Y old H (.cl .non) D.rt from h) .non H (Kp.refl RT H) t rfl
theorem aGB{i:Nat}{x:Str}{p:Pos}(M:Mc X P Γ n)(hx:eJ Γ i x=true):PS X (.Return (some (.Name x p)) pos) (wS X RT Y old σ (ex P (call P n) σ (.retv i))):=by
 have hpe:PE X (.Name x p) (aFk i):=by
  unfold eJ at hx
  obtain⟨h1,h2,h3⟩:=gA hx
  exact qO (by rw[M.N];exact eq_of_beq h1) (M.vis h2) (aU h3) (iT h3)
 refine cC (aAw hpe) λD σV H t ⟨S,h⟩=>?_
 have h:OE X.K (XW X) RT Y old H (match σ[i]? with|some (.own pa ds)=>.ret ⟨.lst ds,true,pa,[]⟩|_=>O.from σ (aO σ i) .ret) D:=h
 unfold aO at h
 cases e:σ[i]? with
 | none=>rw[e] at h;exact h.elim
 | some sl=>
  rw[e] at h
  cases sl with
  | dead=>exact h.elim
  | dct _=>exact h.elim
  | par _ _=>exact h.elim
  | own pa ds=>
   obtain⟨a,xs,h1,h2,h3,h4,h5⟩:=S.own i pa ds e
   refine⟨.ref a,h1,λ_=>(show mE X.K RT Y old H ⟨.lst ds,true,pa,[]⟩ D.rt from h) _ H (Kp.refl RT H) t ?_⟩
   unfold Rtv
   rw[if_pos rfl]
   exact⟨a,xs,ds,rfl,rfl,h4,h2,h5.weak λb z=>z.elim (λz=>.inl (by rw[z];exact h3)) .inr⟩
  | sh pa d=>
   obtain⟨v,h1,h2⟩:=S.sh i pa d e
   refine⟨v,h1,λ_=>(show mE X.K RT Y old H ⟨d,false,pa&&!noL d,[]⟩ D.rt from h) v H (Kp.refl RT H) t ?_⟩
   unfold Rtv
   rw[if_neg bN]
   show Rep X.K H (exB Y old (pa&&!noL d)) d v
   cases hn:noL d with
   | true=>exact Rep.free d v hn h2
   | false=>
    refine h2.weak λb z=>.inr ?_
    rw[Bool.not_false,Bool.and_true] at z
    exact z
theorem aKQ{c:E}{e:Expr}(he:PE X e (WE X P n RT Y old σ c))(hs:gQ e=false):PS X (.Expr e pos) (wS X RT Y old σ (ex P (call P n) σ (.ex c))):=by
 refine cC (jU he (by cases e <;> first|rfl|cases hs)) λD σV H t ⟨S,h⟩=>?_
 have h:=OE.from S (show OE X.K (XW X) RT Y old H (O.from σ (ev P (call P n) σ c) λ_=>.next σ) D from h)
 exact wE.one S h λx u H1 hx t1 S1 r1 _=>(show cG X.K RT Y old H σ D.nx from hx) RT σV H1 (Kp.same r1.1) aT S1
theorem aKR{c:E}{a b:Ss}{e:Expr}{xa xb:List Stmt}(hc:PT X e (WT X P n RT Y old σ c))(ha:∀RT σ,PSs X xa (wS X RT Y old σ (exs P (call P n) σ a)))(hb:∀RT σ,PSs X xb (wS X RT Y old σ (exs P (call P n) σ b))) :
 PS X (.If e xa xb pos) (wS X RT Y old σ (ex P (call P n) σ (.iff c a b))):=by
 refine cC (aHv hc (ha RT σ) (hb RT σ)) λD σV H t ⟨S,h⟩=>?_
 have h:=OE.from S (show OE X.K (XW X) RT Y old H (O.from σ (tst P (call P n) σ c) λk=>if k=true then exs P (call P n) σ a else exs P (call P n) σ b) D from h)
 refine⟨S,h.mono λk hk H1 t1 s1=>?_⟩
 cases k with
 | true=>rw[if_pos rfl] at hk ⊢;exact⟨S.grow s1 t1,(OE.mono (Kp.same s1) aT hk).tkE⟩
 | false=>rw[if_neg bN] at hk ⊢;exact⟨S.grow s1 t1,(OE.mono (Kp.same s1) aT hk).tkE⟩
theorem rQ{σV:L2.St}{H H1:Hp}{v:Vl}{u:V}{t:T}{D:Ends}(S:Sx X.K RT Y old σ σV H)(t1:Tk X.K H1)(r1:Ro X.K RT Y old σ σV H H1 v u)(h:OE X.K (XW X) RT Y old H (O.from σ (bR (freeze σ v.al) v t) .next) D):gT X.K t u σV H1 D.nx:=by
 obtain⟨σ2,e,hp⟩:=OE.fromc h (iY _ _ _)
 have hp:cG X.K RT Y old H σ2 D.nx:=hp
 clear h
 cases t with
 | n i=>
  obtain⟨RT',S',hsub⟩:=S.store r1 t1 i
  rw[nZ e] at hp
  exact hp RT' _ H1 (Kp.same r1.1) hsub S'
 | t is=>
  obtain⟨ds,hd,hl,e'⟩:=nY e
  have Sf:=(S.grow r1.1 t1).frz v.al
  have hr:Rep X.K H1 (λa=>rtF RT σ σV v.al a\/exB Y old v.pa a) v.d u:=r1.rv S
  have hf:v.fr=false\/v.fr=true:=by cases v.fr <;> simp
  rcases hf with hf|hf
  . exact xH Sf hf hr e λσ2V S2 _=>hp _ _ _ (Kp.same r1.1) (λb z=>.inl z.1) S2
  . have:=r1.2
    rw[if_pos hf] at this
    obtain⟨a,xs,ds',_,e2,_⟩:=this
    rw[hd] at e2;cases e2
theorem aGC{c:E}{e:Expr}{i:Nat}{x:Str}{p:Pos}(M:Mc X P Γ n)(hx:bS Γ i x=true)(he:PE X e (WE X P n RT Y old σ c))(hs:gQ e=false):PS X (.Assign [.Name x p] e pos) (wS X RT Y old σ (ex P (call P n) σ (.set (.n i) c))):=by
 unfold bS at hx
 obtain⟨h1,h2,h3⟩:=gA hx
 refine cC (qP (i:=i) M.nd (by rw[M.N];exact eq_of_beq h1) (M.loc h2) he (by cases e <;> first|rfl|cases hs) (M.st x h2)) λD σV H t ⟨S,h⟩=>?_
 have h:=OE.from S (show OE X.K (XW X) RT Y old H (O.from σ (ev P (call P n) σ c) λv=>O.from σ (bR (freeze σ v.al) v (.n i)) .next) D from h)
 exact wE.one S h λv u H1 hv t1 S1 r1=>rQ (t:=.n i) S t1 r1 (OE.tkE hv)
theorem aGD{c:E}{e:Expr}{is:List Nat}{es:List Expr}{k:Nat}{p:Pos}(M:Mc X P Γ n)(hx:mL Γ (.t is) (.Tuple es k p)=true)(he:PE X e (WE X P n RT Y old σ c))(hs:nO e=false):PS X (.Assign [.Tuple es k p] e pos) (wS X RT Y old σ (ex P (call P n) σ (.set (.t is) c))):=by
 refine cC (aAz he (aBK M hx) (by cases e <;> rfl) (by cases e <;> first|rfl|cases hs)) λD σV H t ⟨S,h⟩=>?_
 have h:=OE.from S (show OE X.K (XW X) RT Y old H (O.from σ (ev P (call P n) σ c) λv=>O.from σ (bR (freeze σ v.al) v (.t is)) .next) D from h)
 exact wE.one S h λv u H1 hv t1 S1 r1=>rQ (t:=.t is) S t1 r1 (OE.tkE hv)
theorem zW{i:Nat}{x:Str}{p cpos:Pos}(M:Mc X P Γ n)(hx:bS Γ i x=true){k:Nat}{caps:List Nat}{t:T}{it:Hp.It}{cond:Es}{elt:E}{e tg iter:Expr}{ifs:List Expr}{scope:Scope}{N':List Str}(CS:dE X scope k caps N')(hnd:caps.Nodup)(hk:∀i∈tIx t,i<k)(hcm:(Γ.fn||gH elt)=true)
 (hi:PI X tg iter (wI X P n RT Y old σ it))
 (hch:∀C s₀ H₀ ex,PG (cM X scope N' C s₀ H₀ ex) tg (gT X.K t)/\(∀RT Y old σ1,PTs (cM X scope N' C s₀ H₀ ex) ifs (zP X.K P n RT Y old σ1 cond))/\∀pl E W,PassesOwn (model X.prog X.w) X.A (cM X scope N' C s₀ H₀ ex).env E->Rs ((cM X scope N' C s₀ H₀ ex).inTry pl E) W->∀RT Y old σ1,PE ((cM X scope N' C s₀ H₀ ex).inTry pl E) e (wE0 X.K P n W RT Y old σ1 elt))
 (hs:∀x,foldedSetIterable iter X.env x=pure x):PS X (.Assign [.Name x p] (.ListComp e [⟨tg,iter,ifs,0⟩] scope cpos) pos) (wS X RT Y old σ (ex P (call P n) σ (.set (.n i) (.comp k caps t it cond elt)))):=by
 unfold bS at hx
 obtain⟨h1,h2,h3⟩:=gA hx
 refine cC (vT (g:=gT X.K t) (tt:=λσV H Q=>∃RT Y old σ1,zP X.K P n RT Y old σ1 cond σV H Q) (te:=λW σV H Q=>∃RT Y old σ1,wE0 X.K P n W RT Y old σ1 elt σV H Q) (WX:=λc σ H=>Γ.fn=true/\RX X c σ H) CS M.calm hi (λC s₀ H₀ ex=>?_) (λc σ H z=>⟨M.stk z.1,z.2⟩) hs M.nd (by rw[M.N];exact eq_of_beq h1) (M.loc h2) (M.st x h2)) λD σV H t0 ⟨S,h⟩=>?_
 . obtain⟨h1,h2,h3⟩:=hch C s₀ H₀ ex
   exact⟨h1,λpins s σV H Q I ⟨RT,Y,old,σ1,hw⟩=>h2 RT Y old σ1 pins s σV H Q I hw,λpl E W own rs pins s σV H Q I ⟨RT,Y,old,σ1,hw⟩=>h3 pl E W own rs RT Y old σ1 pins s σV H Q I hw⟩
 . have h:=OE.from S (show OE X.K (XW X) RT Y old H (O.from σ (ev P (call P n) σ (.comp k caps t it cond elt)) λv=>O.from σ (bR (freeze σ v.al) v (.n i)) .next) D from h)
   exact aBN (Q:=λv H'=>pG i v σV H' D.nx) hnd hk hcm ⟨S,h.mono λv hv u H1 t1 r1=>rQ (t:=.n i) S t1 r1 hv⟩
theorem Sx.mut{K:Fg}{σV:L2.St}{H:Hp}(S:Sx K RT Y old σ σV H){i:Nat}{pa pa':Bool}{ds ds':List D}{a:Addr}{xs':List V}(e:σ[i]? = some (.own pa ds))(ha:σV[i]? = some (some (.ref a)))(r:Reps K H (λb=>RT b\/exB Y old pa' b) ds' xs') :
 Sx K RT Y old (σ.set i (.own pa' ds')) σV (upd H a (.lst xs')):=by
 obtain⟨a',xs,h1,h2,h3,h4,h5⟩:=S.own i pa ds e
 rw[ha] at h1
 cases h1
 have ks:∀{ex:Addr->Prop},∀b o,H b=some o->(∀ys,o=.lst ys->¬ (RT b\/ex b))->(∀xs,o≠gP b xs)->upd H a (.lst xs') b=some o:=λ{ex} b o q hl _=>by
  rw[aJ λz=>by subst z;rw[h2] at q;cases q;exact hl xs rfl (.inl h3)]
  exact q
 exact {
  sh:=λj pb d q=>by
   rcases set_some q with⟨_,z,_⟩|⟨_,q⟩
   . cases z
   . obtain⟨v,g1,g2⟩:=S.sh j pb d q
     exact⟨v,g1,g2.keep ks⟩
  own:=λj pb dd q=>by
   rcases set_some q with⟨rfl,z,_⟩|⟨hne,q⟩
   . cases z
     exact⟨a,xs',ha,cE,h3,h4,r.keep ks⟩
   . obtain⟨b,ys,g1,g2,g3,g4,g5⟩:=S.own j pb dd q
     have hb:b≠a:=λz=>by
      subst z
      exact hne (S.inj i j pa pb ds dd b e q ha g1)
     exact⟨b,ys,g1,by rw[aJ hb];exact g2,g3,g4,g5.keep ks⟩
  trk:=λb z q=>by
   by_cases hb:b=a
   . rw[hb,cE] at q;cases q
   . rw[aJ hb] at q;exact S.trk b z q
  yo:=S.yo
  tk:=λb z=>by
   by_cases hb:b=a
   . rw[hb];exact S.tk a (by rw[h2];simp)
   . rw[aJ hb] at z;exact S.tk b z
  rt:=λb z=>by
   by_cases hb:b=a
   . rw[hb];exact .inl ⟨xs',cE⟩
   . unfold RtO;rw[aJ hb];exact S.rt b z
  inj:=λj j' pb pb' dd dd' b q1 q2=>by
   have get:∀{j:Nat} {pb:Bool} {dd:List D},(σ.set i (.own pa' ds'))[j]? = some (.own pb dd)->∃p2 d2,σ[j]? = some (.own p2 d2):=λ{j pb dd} q=>by
    rcases set_some q with⟨rfl,_,_⟩|⟨_,q⟩
    . exact⟨pa,ds,e⟩
    . exact⟨pb,dd,q⟩
   obtain⟨_,_,z1⟩:=get q1
   obtain⟨_,_,z2⟩:=get q2
   exact S.inj j j' _ _ _ _ b z1 z2
  len:=by rw[List.length_set];exact S.len
  dx:=S.dx.imp id (λj dd q=>by
   rcases set_some q with⟨_,z,_⟩|⟨_,q⟩
   . cases z
   . exact⟨q,rfl⟩) (λ_ _ _ _ _ _ e=>e) (λb ys q z _=>⟨by rw[aJ λw=>by rw[w,h2] at q;cases q];exact q,z⟩) (λb ks z=>Kp.seqT (R:=λb=>b=a) (λb o q n=>by rw[aJ n];exact q) (λb z=>.inl ⟨xs,by rw[z];exact h2⟩) z) (λj dd ee q=>by
   rcases set_some q with⟨_,z,_⟩|⟨_,q⟩
   . cases z
   . exact⟨q,rfl⟩) (λ_ _ _ _ _ _ _ _ e=>e) λp ys q z=>⟨by rw[aJ λw=>z.2.2 i pa ds e (by rw[w];exact ha)];exact q,z.1,z.2.1,λk pb dd w=>by
   rcases set_some w with⟨rfl,_,_⟩|⟨_,w⟩
   . exact z.2.2 i pa ds e
   . exact z.2.2 k pb dd w⟩ }
theorem Kp.upd{H H1:Hp}{a:Addr}{xs:List V}(s:aM H H1)(h:RT a):Kp RT H (upd H1 a (.lst xs)):=λb o e nn=>by
 rw[aJ λz=>nn (by rw[z];exact h)]
 exact s b o e
theorem oA{i:Nat}{pa:Bool}{ds:List D}(h:eF σ i=some (pa,ds)):σ[i]? = some (.own pa ds):=by
 unfold eF at h
 split at h
 . rename_i q;cases h;exact q
 . cases h
theorem rR{i:Nat}{v:Vl}{f:List D->Option (List D)}{H:Hp}{D:Ends}(h:OE X.K (XW X) RT Y old H (put σ i v f) D):∃pa ds ds',σ[i]? = some (.own pa ds)/\i∉v.al/\f ds=some ds'/\ds'.length<=lim/\cG X.K RT Y old H ((freeze σ v.al).set i (.own (pa||v.pa) ds')) D.nx:=by
 unfold put at h
 split at h
 . rename_i pa ds q
   have q:=eA (oA q)
   split at h
   . rename_i ds' q2
     split at h
     . rename_i hl
       exact⟨pa,ds,ds',q.1,q.2,q2,hl,h⟩
     . exact h.elim
   . exact h.elim
 . exact h.elim
theorem mW{pa pb:Bool}{b:Addr}(h:exB Y old (pa||pb) b):exB Y old pa b:=h.imp_right λz=>⟨by cases pa <;> simp_all,z.2⟩
theorem xN{pa pb:Bool}{b:Addr}(h:exB Y old (pa||pb) b):exB Y old pb b:=h.imp_right λz=>⟨by cases pb <;> simp_all,z.2⟩
theorem fF{i:Nat}{m:Str}{c:Expr}{xs:List Expr}(h:fL Γ i m c=some xs):∃x p ap cp,c=.Call (.Attribute (.Name x p) m ap) xs [] cp/\eJ Γ i x=true/\(ap.endLine==cp.line)=true:=by
 unfold fL at h
 split at h
 . rename_i x p a ap xs' cp
   split at h
   . rename_i q
     obtain⟨q1,q2,q3⟩:=gA q
     cases h
     have e:a=m:=eq_of_beq q1
     subst e
     exact⟨x,p,ap,cp,rfl,q2,q3⟩
   . cases h
 . cases h
theorem gB{i:Nat}{x:Str}{p:Pos}(M:Mc X P Γ n)(hx:eJ Γ i x=true):PE X (.Name x p) (aFk i):=by
 unfold eJ at hx
 obtain⟨h1,h2,h3⟩:=gA hx
 exact qO (by rw[M.N];exact eq_of_beq h1) (M.vis h2) (aU h3) (iT h3)
theorem wF:lim<sizeLine:=by rw[sizeLine_eq];decide
theorem kE{i:Nat}{al:List Nat}{pa:Bool}{ds:List D}{σV:L2.St}{H H1:Hp}{b:Addr}{xs:List V}(S:Sx X.K RT Y old σ σV H)(s1:aM H H1)(q1:σ[i]? = some (.own pa ds))(h1:σV[i]? = some (some (.ref b)))(h2:H b=some (.lst xs)) :
 Reps X.K H1 (λc=>rtF RT σ σV al c\/exB Y old pa c) ds xs:=by
 obtain⟨b',xs',g1,g2,g3,g4,g5⟩:=S.own i pa ds q1
 rw[h1] at g1
 cases g1
 rw[h2] at g2
 cases g2
 exact(g5.grow s1).weak λc z=>z.elim (λz=>.inl z.1) .inr
theorem kF{i:Nat}{v:Vl}{pa:Bool}{ds ds':List D}{σV:L2.St}{H H1:Hp}{b:Addr}{xs':List V}{Q:L2.St->Hp->Prop}(S:Sx X.K RT Y old σ σV H)(s1:aM H H1)(t1:Tk X.K H1)(q1:σ[i]? = some (.own pa ds))(q2:i∉v.al)(h1:σV[i]? = some (some (.ref b)))
 (r:Reps X.K H1 (λc=>rtF RT σ σV v.al c\/exB Y old (pa||v.pa) c) ds' xs') (hpost:cG X.K RT Y old H ((freeze σ v.al).set i (.own (pa||v.pa) ds')) Q):Q σV (upd H1 b (.lst xs')):=by
 obtain⟨b',xs,g1,g2,g3,g4,g5⟩:=S.own i pa ds q1
 rw[h1] at g1
 cases g1
 have e':(freeze σ v.al)[i]? = some (.own pa ds):=by
  rw[dZ,q1]
  simp[q2]
 exact hpost _ σV _ (Kp.upd s1 g3) (λc z=>.inl z.1) (((S.grow s1 t1).frz v.al).mut e' h1 r)
theorem aBS{σV:L2.St}{H1:Hp}{v:Vl}{u:V}{pa:Bool}(h:Rv X.K RT Y old σ σV H1 v u):Rep X.K H1 (λc=>rtF RT σ σV v.al c\/exB Y old (pa||v.pa) c) v.d u:=Rep.weak h λc z=>z.imp id xN
theorem aIT{i:Nat}{c:E}{e a:Expr}(M:Mc X P Γ n)(hc:fL Γ i "append" e=some [a])(ha:PE X a (WE X P n RT Y old σ c))(hp:aV a=true):PS X (.Expr e pos) (wS X RT Y old σ (ex P (call P n) σ (.app i c))):=by
 obtain⟨x,p,ap,cp,rfl,hx,hl⟩:=fF hc
 refine cC (jU (aAN PySem.F.plainAttrs_list PySem.F.slot_list_append PySem.F.type_list_append pM (gB M hx) (eS ha gL (aA hp)) rfl (by rw[aA hp];rfl) hl (aA hp) rfl)) λD σV H t ⟨S,h⟩=>?_
 have h:=OE.from S (show OE X.K (XW X) RT Y old H (O.from σ (ev P (call P n) σ c).calm λv=>put σ i v λds=>some (ds++[v.d])) D from h)
 obtain⟨v,ee,h⟩:=RE.calmEq h
 obtain⟨pa,ds,ds',q1,q2,q3,q4,hpost⟩:=rR h
 cases q3
 obtain⟨b,xs,h1,h2,h3,h4,h5⟩:=S.own i pa ds q1
 refine⟨.ref b,h1,.inl ⟨rfl,xs,SqL.of h2⟩,S,?_⟩
 rw[ee]
 intro u H1 t1 r1
 have hlen:=h5.length
 refine⟨b,xs,u,rfl,rfl,r1.1 _ _ h2,?_,λ_=>?_⟩
 . rw[lA,List.length_singleton] at q4
   have:=wF
   omega
 . exact kF S r1.1 t1 q1 q2 h1 (((kE S r1.1 q1 h1 h2).weak λc z=>z.imp id mW).append (.cons (aBS (r1.rv S)) .nil)) hpost
theorem aIU{i:Nat}{c:E}{e a:Expr}(M:Mc X P Γ n)(hc:fL Γ i "extend" e=some [a])(ha:PE X a (WE X P n RT Y old σ c))(hp:aV a=true):PS X (.Expr e pos) (wS X RT Y old σ (ex P (call P n) σ (.ext i c))):=by
 obtain⟨x,p,ap,cp,rfl,hx,hl⟩:=fF hc
 refine cC (jU (aAN PySem.F.plainAttrs_list PySem.F.slot_list_extend PySem.F.type_list_extend yZ (gB M hx) (eS ha gL (aA hp)) rfl (by rw[aA hp];rfl) hl (aA hp) rfl)) λD σV H t ⟨S,h⟩=>?_
 have h:=OE.from S (show OE X.K (XW X) RT Y old H (O.from σ (ev P (call P n) σ c).calm λv=>(match nL v with|some (v',ds')=>put σ i v' λds=>some (ds++ds')|none=>.bad)) D from h)
 obtain⟨v,ee,h⟩:=RE.calmEq h
 unfold nL at h
 cases hf:v.fr with
 | false=>rw[hf] at h;exact h.elim
 | true=>
  rw[hf] at h
  cases hd:v.d with
  | lst es=>
   rw[hd] at h
   obtain⟨pa,ds,ds',q1,q2,q3,q4,hpost⟩:=rR h
   cases q3
   obtain⟨b,xs,h1,h2,h3,h4,h5⟩:=S.own i pa ds q1
   refine⟨.ref b,h1,.inl ⟨rfl,xs,SqL.of h2⟩,S,?_⟩
   rw[ee]
   intro u H1 t1 r1
   have hr:=r1.2
   rw[if_pos hf] at hr
   obtain⟨a',ys,es',e1,e2,e3,e4,r⟩:=hr
   rw[hd] at e2
   cases e2
   subst e1
   have hlen:=h5.length
   have hlen2:=r.length
   refine⟨b,a',xs,ys,rfl,rfl,r1.1 _ _ h2,e4,?_,λ_=>?_⟩
   . rw[lA] at q4
     have:=wF
     omega
   . refine kF S r1.1 t1 q1 q2 h1 (((kE S r1.1 q1 h1 h2).weak λc z=>z.imp id mW).append ?_) hpost
     have rr:=fU (r.weak λb z=>.inr z)
     exact rr.weak λc z=>z.imp id xN
  | _=>rw[hd] at h;exact h.elim
theorem aIV{i:Nat}{e:Expr}(M:Mc X P Γ n)(hc:fL Γ i "reverse" e=some []):PS X (.Expr e pos) (wS X RT Y old σ (ex P (call P n) σ (.rev i))):=by
 obtain⟨x,p,ap,cp,rfl,hx,hl⟩:=fF hc
 refine cC (jU (vK PySem.F.plainAttrs_list PySem.F.slot_list_reverse PySem.F.type_list_reverse vL (gB M hx) rfl hl)) λD σV H t ⟨S,h⟩=>?_
 obtain⟨pa,ds,ds',q1,q2,q3,q4,hpost⟩:=rR (show OE X.K (XW X) RT Y old H (put σ i (.cl .non) λds=>some ds.reverse) D from h)
 cases q3
 obtain⟨b,xs,h1,h2,h3,h4,h5⟩:=S.own i pa ds q1
 exact⟨.ref b,h1,.inl ⟨rfl,xs,SqL.of h2⟩,b,xs,rfl,rfl,h2,λ_=>kF S (aM.refl H) t q1 q2 h1 (((kE S (aM.refl H) q1 h1 h2).weak λc z=>z.imp id mW).reverse) hpost⟩
theorem hZ{i:Nat}{k:Option Int}{v:Vl}{σ':Sg}(h:dW σ i k=.ok (v,σ')):∃pa ds j d,σ[i]? = some (.own pa ds)/\ixN ds.length (k.getD (-1))=some j/\ds[j]? = some d/\v=Vl.sub ⟨.non,false,pa,[]⟩ d/\σ'=σ.set i (.own pa (ds.eraseIdx j)):=by
 unfold dW at h
 cases q:eF σ i with
 | none=>rw[q] at h;cases h
 | some pd=>
  obtain⟨pa,ds⟩:=pd
  rw[q] at h
  cases k with
  | none=>
   have h:(match ixN ds.length (-1) with|some j=>(match ds[j]? with|some d=>R.ok (Vl.sub ⟨.non,false,pa,[]⟩ d,σ.set i (.own pa (ds.eraseIdx j)))|none=>.bad)|none=>.bad)=R.ok (v,σ'):=h
   cases hj:ixN ds.length (-1) with
   | none=>rw[hj] at h;cases h
   | some j=>
    rw[hj] at h
    have h:(match ds[j]? with|some d=>R.ok (Vl.sub ⟨.non,false,pa,[]⟩ d,σ.set i (.own pa (ds.eraseIdx j)))|none=>.bad)=R.ok (v,σ'):=h
    cases hd:ds[j]? with
    | none=>rw[hd] at h;cases h
    | some d=>rw[hd] at h;cases h;exact⟨pa,ds,j,d,oA q,hj,hd,rfl,rfl⟩
  | some k=>
   have h:(match ixN ds.length k with|some j=>(match ds[j]? with|some d=>R.ok (Vl.sub ⟨.non,false,pa,[]⟩ d,σ.set i (.own pa (ds.eraseIdx j)))|none=>.bad)|none=>.bad)=R.ok (v,σ'):=h
   cases hj:ixN ds.length k with
   | none=>rw[hj] at h;cases h
   | some j=>
    rw[hj] at h
    have h:(match ds[j]? with|some d=>R.ok (Vl.sub ⟨.non,false,pa,[]⟩ d,σ.set i (.own pa (ds.eraseIdx j)))|none=>.bad)=R.ok (v,σ'):=h
    cases hd:ds[j]? with
    | none=>rw[hd] at h;cases h
    | some d=>rw[hd] at h;cases h;exact⟨pa,ds,j,d,oA q,hj,hd,rfl,rfl⟩
theorem uJ{i:Nat}{pa:Bool}{ds:List D}{j:Nat}{d:D}{σV:L2.St}{H H1:Hp}{b:Addr}{xs:List V}(S:Sx X.K RT Y old σ σV H)(s1:aM H H1)(t1:Tk X.K H1)(q1:σ[i]? = some (.own pa ds))(h1:σV[i]? = some (some (.ref b)))(h2:H b=some (.lst xs))(hd:ds[j]? = some d) :
 ∃y,xs[j]? = some y/\Kp RT H (upd H1 b (.lst (xs.eraseIdx j)))/\Sx X.K RT Y old (σ.set i (.own pa (ds.eraseIdx j))) σV (upd H1 b (.lst (xs.eraseIdx j))) /\
  Rep X.K (upd H1 b (.lst (xs.eraseIdx j))) (λa=>RT a\/exB Y old (Vl.sub ⟨.non,false,pa,[]⟩ d).pa a) (Vl.sub ⟨.non,false,pa,[]⟩ d).d y:=by
 have S1:=S.grow s1 t1
 obtain⟨b',xs',g1,g2,g3,g4,g5⟩:=S1.own i pa ds q1
 rw[h1] at g1
 cases g1
 rw[s1 _ _ h2] at g2
 cases g2
 obtain⟨y,hy,ry⟩:=g5.get hd
 refine⟨y,hy,Kp.upd s1 g3,S1.mut q1 h1 (g5.eraseIdx j),?_⟩
 have ry':Rep X.K (upd H1 b (.lst (xs.eraseIdx j))) (λa=>RT a\/exB Y old pa a) d y:=ry.keep λc o e hl _=>by
  rw[aJ λz=>by subst z;rw[s1 _ _ h2] at e;cases e;exact hl xs rfl (.inl g3)]
  exact e
 unfold Vl.sub
 by_cases hn:noL d=true
 . rw[if_pos hn];exact Rep.free d y hn ry'
 . rw[if_neg hn];exact ry'
def aGE(X:Cx)(P:Pg)(n:Nat)(RT Y old:Addr->Prop)(σ:Sg)(i:Nat)(k:Option E):TE:=λσV H Q=>Sx X.K RT Y old σ σV H/\RE (λ_=>False) (tG (k.map λe=>(ev P (call P n) σ e).calm)) λk=>RE (λ_=>False) (dW σ i k) λr=>
 ∀u H',Kp RT H H'->Sx X.K RT Y old r.2 σV H'->Rep X.K H' (λa=>RT a\/exB Y old r.1.pa a) r.1.d u->Q u H'
theorem aGF{i:Nat}{e:Expr}(M:Mc X P Γ n)(hc:fL Γ i "pop" e=some []):PE X e (aGE X P n RT Y old σ i none):=by
 obtain⟨x,p,ap,cp,rfl,hx,hl⟩:=fF hc
 refine(vK PySem.F.plainAttrs_list PySem.F.slot_list_pop PySem.F.type_list_pop aAO (gB M hx) rfl hl).imp λσV H Q t ⟨S,h⟩=>?_
 obtain⟨⟨v,σ'⟩,ep,h⟩:=(show RE (λ_=>False) (dW σ i none) _ from h).eqc (pX _ _ _)
 obtain⟨pa,ds,j,d,q1,hj,hd,e1,e2⟩:=hZ ep
 obtain⟨b,xs,h1,h2,h3,h4,h5⟩:=S.own i pa ds q1
 obtain⟨y,hy,kp,S2,ry⟩:=uJ S (aM.refl H) t q1 h1 h2 hd
 have hlen:=h5.length
 have hj':j=xs.length-1:=by
  unfold ixN at hj
  rw[Option.getD_none,if_neg (by decide)] at hj
  split at hj
  . have:=Option.some.inj hj
    omega
  . cases hj
 refine⟨.ref b,h1,.inl ⟨rfl,xs,SqL.of h2⟩,b,xs,y,rfl,rfl,h2,by rw[<-hj'];exact hy,λ_=>?_⟩
 rw[<-jJ,<-hj']
 subst e1 e2
 exact h y _ kp S2 ry
theorem aEj{k:Option E}{f:E->R Vl}:∀x,(k.map λe=>(f e).calm)=some x->∀z,x≠.exc z:=λx q=>by
 cases k with
 | none=>cases q
 | some e=>cases q;exact aBR _
theorem RE.never{α:Type}{x:R α}{p:α->Prop}{w w':D->Prop}(h:RE w x p)(n:∀z,x≠.exc z):RE w' x p:=by
 cases x with
 | ok a=>exact h
 | exc e=>exact absurd rfl (n e)
 | bad=>exact h
theorem aGG{i:Nat}{k:Option E}{tt:T}{e tg:Expr}(M:Mc X P Γ n)(hx:mL Γ tt tg=true)(he:PE X e (aGE X P n RT Y old σ i k))(hs:gQ e=false)(hs2:nO e=false):PS X (.Assign [tg] e pos) (wS X RT Y old σ (ex P (call P n) σ (.pop (some tt) i k))):=by
 have key:∀(D:Ends) (σV:L2.St) (H:Hp),wS X RT Y old σ (ex P (call P n) σ (.pop (some tt) i k)) D σV H->aDh (aGE X P n RT Y old σ i k) (gT X.K tt) D σV H:=λD σV H ⟨S,h⟩=>by
  have h:=(OE.from S (show OE X.K (XW X) RT Y old H (O.from σ (tG (k.map λe=>(ev P (call P n) σ e).calm)) λk=>O.from σ (dW σ i k) λ(v,σ')=>O.from σ' (bR σ' v tt) .next) D from h)).never (w':=λ_=>False) (aEi _ aEj)
  refine⟨S,h.mono λk hk=>?_⟩
  obtain⟨⟨v,σ'⟩,ep,hr⟩:=(OE.from S hk).eqc (pX _ _ _)
  rw[ep]
  intro u H' kp S2 ry
  obtain⟨σ2,e2,hr⟩:=OE.fromc (show OE X.K (XW X) RT Y old H (O.from σ' (bR σ' v tt) .next) D from hr) (iY _ _ _)
  obtain⟨pa,ds,j,d,q1,hj,hd,e3,e4⟩:=hZ ep
  exact xH S2 (by rw[e3];exact nW) ry e2 λσ2V S3 _=>(show cG X.K RT Y old H σ2 D.nx from hr) RT σ2V H' kp aT S3
 refine cC (aAz he (aBK M hx) (by cases e <;> first|rfl|cases hs) (by
  cases tg with
  | Tuple es k p=>cases e <;> first|rfl|cases hs2
  | List es p=>cases tt <;> cases hx
  | _=>rfl) (by cases tg <;> first|rfl|(cases tt <;> cases hx))) λD σV H t hw=>key _ σV H ⟨hw.1,OE.tkE hw.2⟩
theorem Sx.move{K:Fg}{σV:L2.St}{H:Hp}(S:Sx K RT Y old σ σV H){i j:Nat}{pa:Bool}{ds:List D}{a:Addr}(e:σ[j]? = some (.own pa ds))(hij:i≠j)(ha:σV[j]? = some (some (.ref a))):Sx K RT Y old ((σ.set j .dead).set i (.own pa ds)) (σV.set i (some (.ref a))) H where
 sh:=λk pb d q=>by
  rcases set_some q with⟨_,z,_⟩|⟨n1,q⟩
  . cases z
  rcases set_some q with⟨_,z,_⟩|⟨n2,q⟩
  . cases z
  obtain⟨v,g1,g2⟩:=S.sh k pb d q
  exact⟨v,by rw[List.getElem?_set_ne n1];exact g1,g2⟩
 own:=λk pb dd q=>by
  rcases set_some q with⟨rfl,z,hl⟩|⟨n1,q⟩
  . cases z
    obtain⟨b,xs,g1,g2,g3⟩:=S.own j pa ds e
    rw[ha] at g1
    cases g1
    rw[List.length_set] at hl
    exact⟨a,xs,List.getElem?_set_self (by rw[<-S.len];exact hl),g2,g3⟩
  rcases set_some q with⟨_,z,_⟩|⟨n2,q⟩
  . cases z
  obtain⟨b,xs,g1,g2⟩:=S.own k pb dd q
  exact⟨b,xs,by rw[List.getElem?_set_ne n1];exact g1,g2⟩
 trk:=S.trk
 yo:=S.yo
 tk:=S.tk
 rt:=S.rt
 inj:=λk k' pb pb' dd dd' b q1 q2 v1 v2=>by
  have get:∀{k:Nat} {pb:Bool} {dd:List D},((σ.set j .dead).set i (.own pa ds))[k]? = some (.own pb dd)->(σV.set i (some (.ref a)))[k]? = some (some (.ref b))->(k=i/\b=a)\/(k≠i/\k≠j/\σ[k]? = some (.own pb dd)/\σV[k]? = some (some (.ref b))):=λ{k pb dd} q v=>by
   rcases set_some q with⟨rfl,z,hl⟩|⟨n1,q⟩
   . rw[List.length_set] at hl
     rw[List.getElem?_set_self (by rw[<-S.len];exact hl)] at v
     cases v
     exact .inl ⟨rfl,rfl⟩
   rcases set_some q with⟨_,z,_⟩|⟨n2,q⟩
   . cases z
   rw[List.getElem?_set_ne n1] at v
   exact .inr ⟨Ne.symm n1,Ne.symm n2,q,v⟩
  rcases get q1 v1 with⟨e1,b1⟩|⟨n1,m1,o1,w1⟩
  . rcases get q2 v2 with⟨e2,_⟩|⟨n2,m2,o2,w2⟩
    . rw[e1,e2]
    . subst b1
      exact absurd (S.inj k' j _ _ _ _ b o2 e w2 ha) m2
  . rcases get q2 v2 with⟨e2,b2⟩|⟨n2,m2,o2,w2⟩
    . subst b2
      exact absurd (S.inj k j _ _ _ _ b o1 e w1 ha) m1
    . exact S.inj k k' _ _ _ _ b o1 o2 w1 w2
 len:=by rw[List.length_set,List.length_set,List.length_set];exact S.len
 dx:=S.dx.imp id (λk dd q=>by
  rcases set_some q with⟨_,z,_⟩|⟨n1,q⟩
  . cases z
  rcases set_some q with⟨_,z,_⟩|⟨n2,q⟩
  . cases z
  exact⟨q,List.getElem?_set_ne n1⟩) (λ_ _ _ _ _ _ e=>e) (λ_ _ e z _=>⟨e,z⟩) (λ_ _ r=>r) (λk dd ee q=>by
  rcases set_some q with⟨_,z,_⟩|⟨n1,q⟩
  . cases z
  rcases set_some q with⟨_,z,_⟩|⟨n2,q⟩
  . cases z
  exact⟨q,List.getElem?_set_ne n1⟩) (λ_ _ _ _ _ _ _ _ e=>e) λp xs q z=>⟨q,z.1,z.2.1,λk pb dd q w=>by
  rcases set_some q with⟨rfl,_,hl⟩|⟨n1,q⟩
  . rw[List.length_set] at hl
    rw[List.getElem?_set_self (by rw[<-S.len];exact hl)] at w
    cases w
    exact z.2.2 j pa ds e ha
  rcases set_some q with⟨_,v,_⟩|⟨n2,q⟩
  . cases v
  rw[List.getElem?_set_ne n1] at w
  exact z.2.2 k pb dd q w⟩
theorem aIW{i j:Nat}{x y:Str}{p p2:Pos}(M:Mc X P Γ n)(hx:bS Γ i x=true)(hy:eJ Γ j y=true):PS X (.Assign [.Name x p] (.Name y p2) pos) (wS X RT Y old σ (ex P (call P n) σ (.mov i j))):=by
 unfold bS at hx
 obtain⟨h1,h2,h3⟩:=gA hx
 refine cC (qP (i:=i) M.nd (by rw[M.N];exact eq_of_beq h1) (M.loc h2) (gB M hy) rfl (M.st x h2)) λD σV H t ⟨S,h⟩=>?_
 have h:OE X.K (XW X) RT Y old H (match σ[j]? with
  | some (.own pa ds)=>if i=j then .bad else .next ((σ.set j .dead).set i (.own pa ds))
  | some (.sh pa d)=>.next (σ.set i (.sh (pa&&!noL d) d))
  | _=>.bad) D:=h
 cases e:σ[j]? with
 | none=>rw[e] at h;exact h.elim
 | some sl=>
  rw[e] at h
  cases sl with
  | dead=>exact h.elim
  | dct _=>exact h.elim
  | par _ _=>exact h.elim
  | own pa ds=>
   by_cases hij:i=j
   . have h:OE X.K (XW X) RT Y old H (if i=j then .bad else .next ((σ.set j .dead).set i (.own pa ds))) D:=h
     rw[if_pos hij] at h;exact h.elim
   . have h:OE X.K (XW X) RT Y old H (if i=j then .bad else .next ((σ.set j .dead).set i (.own pa ds))) D:=h
     rw[if_neg hij] at h
     obtain⟨a,xs,g1,g2⟩:=S.own j pa ds e
     exact⟨.ref a,g1,λ_=>(show cG X.K RT Y old H _ D.nx from h) RT _ H (Kp.refl RT H) aT (S.move e hij g1)⟩
  | sh pa d=>
   obtain⟨v,g1,g2⟩:=S.sh j pa d e
   refine⟨v,g1,λ_=>(show cG X.K RT Y old H (σ.set i (.sh (pa&&!noL d) d)) D.nx from h) RT _ H (Kp.refl RT H) aT (S.setSh ?_)⟩
   cases hn:noL d with
   | true=>exact Rep.free d v hn g2
   | false=>rw[Bool.not_false,Bool.and_true];exact g2
theorem aIX{t:T}{it:Hp.It}{b:Ss}{tg iter:Expr}{body:List Stmt}(M:Mc X P Γ n)(hx:mL Γ t tg=true)(hi:PI X tg iter (wI X P n RT Y old σ it))(hb:∀RT σ,PSs X body (wS X RT Y old σ (exs P (call P n) σ b)))(hs:∀x,foldedSetIterable iter X.env x=pure x) :
 PS X (.For tg iter body [] pos) (wS X RT Y old σ (ex P (call P n) σ (.for t it b))):=by
 have hp:PassesOwn (model X.prog X.w) X.A X.env X.xe:=M.own
 refine cC (aFw hp M.calm hi (aBK M hx) (rP hb) hs) λD0 σV H t0 ⟨S,h⟩=>?_
 have h:=OE.tkE h
 revert h
 generalize tkE X.K D0=D
 intro h
 let f:Sg->Vl->O:=λσ x=>O.from σ (bR σ x t) λσ'=>exs P (call P n) σ' b
 have h:=OE.from S (show OE X.K (XW X) RT Y old H (O.from σ (walk P (call P n) σ it) λxs=>cZ f xs.1 (freeze σ xs.2)) D from h)
 refine⟨S,h.mono λxs hx J H1 t1 s1 ok=>?_⟩
 have S1:=S.grow s1 t1
 have Sf:=S1.frz xs.2
 refine⟨λi m σ1V Hc=>m=xs.1.length-i/\i<=xs.1.length/\∃RT1 σ1,Kp (rtF RT σ σV xs.2) H1 Hc/\(∀b,RT1 b->rtF RT σ σV xs.2 b\/H1 b=none)/\Sx X.K RT1 Y old σ1 σ1V Hc/\OE X.K (XW X) RT1 Y old Hc (cZ f (xs.1.drop i) σ1) D,
  ⟨_,rfl,Nat.zero_le _,rtF RT σ σV xs.2,freeze σ xs.2,Kp.refl _ _,aT,Sf,OE.mono (Kp.same s1) (λb z=>.inl z.1) hx⟩,?_⟩
 rintro i m σ1V Hc ⟨hm,hi,RT1,σ1,kp,hsub,Sc,ho⟩
 have okc:=ok.ok (rtF RT σ σV xs.2) (λ_ z=>z) i Hc kp
 by_cases hlt:i<xs.1.length
 . refine .inr ⟨okc.1 hlt,λσ' H'=>xs.1.length-(i+1)=xs.1.length-(i+1)/\i+1<=xs.1.length/\∃RT1 σ1,Kp (rtF RT σ σV xs.2) H1 H'/\(∀b,RT1 b->rtF RT σ σV xs.2 b\/H1 b=none)/\Sx X.K RT1 Y old σ1 σ' H'/\OE X.K (XW X) RT1 Y old H' (cZ f (xs.1.drop (i+1)) σ1) D,
    λσ' H' hN=>⟨_,by omega,hN⟩,λx H' hy=>?_⟩
   have hxi:xs.1[i]? = some xs.1[i]:=List.getElem?_eq_getElem hlt
   obtain⟨sm,tkf,rv⟩:=okc.2.2 x H' hy xs.1[i] hxi
   have hmem:xs.1[i]∈xs.1:=List.getElem_mem hlt
   rw[List.drop_eq_getElem_cons hlt] at ho
   have Sc':=Sc.grow sm (tkf Sc.tk)
   have rep:Rep X.K H' (λa=>RT1 a\/exB Y old xs.1[i].pa a) xs.1[i].d x:=rv.weak λa z=>by
    rcases z with z|z
    . rcases hsub a z with q|q
      . exact .inl (.inl ⟨q.1,λw=>q.2 (w.mono (ok.sub _ hmem))⟩)
      . exact .inr ⟨q,Sc.tk a (Sc.trk a (.inl z))⟩
    . exact .inl (.inr z)
   have ho:OE X.K (XW X) RT1 Y old Hc (match f σ1 xs.1[i] with
    | .next σ'=>cZ f (xs.1.drop (i+1)) σ'
    | .cnt σ'=>cZ f (xs.1.drop (i+1)) σ'
    | .brk σ'=>.next σ'
    | o=>o) D:=ho
   cases hset:bR σ1 xs.1[i] t with
   | exc e=>exact absurd hset (iY _ _ _ _)
   | bad=>rw[show f σ1 xs.1[i]=.bad by show O.from σ1 (bR σ1 xs.1[i] t) _=_;rw[hset];rfl] at ho;exact ho.elim
   | ok σ2=>
    rw[show f σ1 xs.1[i]=exs P (call P n) σ2 b by show O.from σ1 (bR σ1 xs.1[i] t) _=_;rw[hset];rfl] at ho
    refine xH Sc' (ok.nofr _ hmem) rep hset λσ2V S2 _=>⟨RT1,σ2,S2,?_⟩
    have kS:Kp RT1 Hc H':=Kp.same sm
    have again:∀{σ':Sg} {RT':Addr->Prop} {σV':L2.St} {H'':Hp},Kp RT1 H' H''->(∀b,RT' b->RT1 b\/H' b=none)->Sx X.K RT' Y old σ' σV' H''->OE X.K (XW X) RT1 Y old Hc (cZ f (xs.1.drop (i+1)) σ') D ->
     (xs.1.length-(i+1)=xs.1.length-(i+1)/\i+1<=xs.1.length/\∃RT1 σ1,Kp (rtF RT σ σV xs.2) H1 H''/\(∀b,RT1 b->rtF RT σ σV xs.2 b\/H1 b=none)/\Sx X.K RT1 Y old σ1 σV' H''/\OE X.K (XW X) RT1 Y old H'' (cZ f (xs.1.drop (i+1)) σ1) D):=λ{σ' RT' σV' H''} k2 s2 S3 h3=>by
     have k3:Kp RT1 Hc H'':=kS.chain aT k2
     have s3:∀b,RT' b->RT1 b\/Hc b=none:=fN kS aT s2
     exact⟨rfl,hlt,RT',σ',kp.chain hsub k3,fN kp hsub s3,S3,OE.mono k3 s3 h3⟩
    cases q:exs P (call P n) σ2 b with
    | next σ'=>rw[q] at ho;exact λRT' σV' H'' k2 s2 S3=>again k2 s2 S3 ho
    | cnt σ'=>rw[q] at ho;exact λRT' σV' H'' k2 s2 S3=>again k2 s2 S3 ho
    | brk σ'=>rw[q] at ho;exact cG.mono kS aT (show cG X.K RT1 Y old Hc σ' D.nx from ho)
    | ret v=>rw[q] at ho;exact OE.mono (o:=.ret v) kS aT ho
    | exc e σ'=>rw[q] at ho;exact OE.mono (o:=.exc e σ') kS aT ho
    | bad=>rw[q] at ho;exact ho.elim
 . have hie:i=xs.1.length:=by omega
   subst hie
   rw[List.drop_length] at ho
   exact .inl ⟨okc.2.1 (Nat.le_refl _),(show cG X.K RT1 Y old Hc σ1 D.nx from ho) RT1 σ1V Hc (Kp.refl _ _) aT Sc⟩
theorem aIY{c:E}{b:Ss}{e:Expr}{body:List Stmt}(M:Mc X P Γ n)(hc:∀RT σ,PT X e (WT X P n RT Y old σ c))(hb:∀RT σ,PSs X body (wS X RT Y old σ (exs P (call P n) σ b))):PS X (.While e body [] pos) (wS X RT Y old σ (ex P (call P n) σ (.whl c b))):=by
 have hp:PassesOwn (model X.prog X.w) X.A X.env X.xe:=M.own
 refine cC (aAA hp (tc:=λσV H Q=>∃RT σ,WT X P n RT Y old σ c σV H Q) (λpins s σV H Q I ⟨RT,σ,hw⟩=>hc RT σ pins s σV H Q I hw) (rP hb)) λD0 σV H t0 ⟨S,h⟩=>?_
 have h:=OE.tkE h
 revert h
 generalize tkE X.K D0=D
 intro h
 have h:OE X.K (XW X) RT Y old H (gN (λσ=>tst P (call P n) σ c) (λσ=>exs P (call P n) σ b) tF σ) D:=h
 refine⟨λm σ1V Hc=>∃RT1 σ1,Sx X.K RT1 Y old σ1 σ1V Hc/\OE X.K (XW X) RT1 Y old Hc (gN (λσ=>tst P (call P n) σ c) (λσ=>exs P (call P n) σ b) m σ1) D,⟨tF,RT,σ,S,h⟩,?_⟩
 rintro m σ1V Hc ⟨RT1,σ1,Sc,ho⟩
 cases m with
 | zero=>exact ho.elim
 | succ m=>
  have ho:=OE.from Sc (show OE X.K (XW X) RT1 Y old Hc (O.from σ1 (tst P (call P n) σ1 c) λk=>if k=true then (match exs P (call P n) σ1 b with
   | .next σ'=>gN (λσ=>tst P (call P n) σ c) (λσ=>exs P (call P n) σ b) m σ'
   | .cnt σ'=>gN (λσ=>tst P (call P n) σ c) (λσ=>exs P (call P n) σ b) m σ'
   | .brk σ'=>.next σ'
   | o=>o) else .next σ1) D from ho)
  refine⟨RT1,σ1,Sc,ho.mono λk hk H1 t1 s1=>?_⟩
  have S1:=Sc.grow s1 t1
  have kS:Kp RT1 Hc H1:=Kp.same s1
  cases k with
  | false=>
   rw[if_neg bN] at hk
   exact aFL ((show cG X.K RT1 Y old Hc σ1 D.nx from hk) RT1 σ1V H1 kS aT S1)
  | true=>
   rw[if_pos rfl] at hk
   refine aHO ⟨λσV' H'=>∃RT1 σ1,Sx X.K RT1 Y old σ1 σV' H'/\OE X.K (XW X) RT1 Y old H' (gN (λσ=>tst P (call P n) σ c) (λσ=>exs P (call P n) σ b) m σ1) D,λσ' H' hN=>⟨m,Nat.lt_succ_self m,hN⟩,RT1,σ1,S1,?_⟩
   cases q:exs P (call P n) σ1 b with
   | next σ'=>rw[q] at hk;exact λRT' σV' H'' k2 s2 S3=>⟨RT',σ',S3,OE.mono (kS.chain aT k2) (fN kS aT s2) hk⟩
   | cnt σ'=>rw[q] at hk;exact λRT' σV' H'' k2 s2 S3=>⟨RT',σ',S3,OE.mono (kS.chain aT k2) (fN kS aT s2) hk⟩
   | brk σ'=>rw[q] at hk;exact cG.mono kS aT (show cG X.K RT1 Y old Hc σ' D.nx from hk)
   | ret v=>rw[q] at hk;exact OE.mono (o:=.ret v) kS aT hk
   | exc e σ'=>rw[q] at hk;exact OE.mono (o:=.exc e σ') kS aT hk
   | bad=>rw[q] at hk;exact hk.elim
theorem Sx.kill{K:Fg}{σV:L2.St}{H:Hp}(S:Sx K RT Y old σ σV H)(j:Nat)(v:Option V):Sx K RT Y old (σ.set j .dead) (σV.set j v) H where
 sh:=λk pb d q=>by
  rcases set_some q with⟨_,z,_⟩|⟨n1,q⟩
  . cases z
  obtain⟨v,g1,g2⟩:=S.sh k pb d q
  exact⟨v,by rw[List.getElem?_set_ne n1];exact g1,g2⟩
 own:=λk pb dd q=>by
  rcases set_some q with⟨_,z,_⟩|⟨n1,q⟩
  . cases z
  obtain⟨b,xs,g1,g2⟩:=S.own k pb dd q
  exact⟨b,xs,by rw[List.getElem?_set_ne n1];exact g1,g2⟩
 trk:=S.trk
 yo:=S.yo
 tk:=S.tk
 rt:=S.rt
 inj:=λk k' pb pb' dd dd' b q1 q2 v1 v2=>by
  rcases set_some q1 with⟨_,z,_⟩|⟨n1,q1⟩
  . cases z
  rcases set_some q2 with⟨_,z,_⟩|⟨n2,q2⟩
  . cases z
  rw[List.getElem?_set_ne n1] at v1
  rw[List.getElem?_set_ne n2] at v2
  exact S.inj k k' _ _ _ _ b q1 q2 v1 v2
 len:=by rw[List.length_set,List.length_set];exact S.len
 dx:=S.dx.imp id (λj ds e=>by
  rcases set_some e with⟨_,z,_⟩|⟨hij,e⟩
  . cases z
  . exact⟨e,List.getElem?_set_ne hij⟩) (λ_ _ _ _ _ _ e=>e) (λ_ _ e z _=>⟨e,z⟩) (λ_ _ r=>r) (λj ds es e=>by
  rcases set_some e with⟨_,z,_⟩|⟨hij,e⟩
  . cases z
  . exact⟨e,List.getElem?_set_ne hij⟩) (λ_ _ _ _ _ _ _ _ e=>e) λp xs e z=>⟨e,z.1,z.2.1,λk pa' ds q=>by
  rcases set_some q with⟨_,w,_⟩|⟨hij,q⟩
  . cases w
  . rw[List.getElem?_set_ne hij];exact z.2.2 k pa' ds q⟩
theorem aIZ{c nm y:Str}{i j:Nat}{b:Ss}{body:List Stmt}{np yp np2 ap hp:Pos}(M:Mc X P Γ n)(hg:cS Γ c=true)(ho:bM c=true)(hc:c∈Γ.cls)(hr:c∈Γ.rsd)(hy:bS Γ i y=true)(hn:bS Γ j nm=true)(hl:Γ.sc.lookup nm=some .local)(hij:i≠j)(hfn:Γ.fn=true)
 (hb:∀{X':Cx},Mc X' P Γ n->∀RT σ,PSs X' body (wS X' RT Y old σ (exs P (call P n) σ b))) :
 PS X (.Try body [.ExceptHandler (some (.Name c np)) (some nm) [.Assign [.Name y yp] (.Name nm np2) ap] hp] [] [] pos) (wS X RT Y old σ (ex P (call P n) σ (.tryAs b c i j))):=by
 unfold bS at hy hn
 obtain⟨y1,y2,y3⟩:=gA hy
 obtain⟨n1,n2,n3⟩:=gA hn
 obtain⟨ab0,hab0⟩:=M.md.rsd c hr
 obtain⟨C,E0⟩:=M.md.exc c ab0 hab0
 have hC:=E0.bd
 refine cC (aBn (tb:=λW D σV H=>Sx X.K RT Y old σ σV H/\OE X.K (clW X.K W) RT Y old H (exs P (call P n) σ b) D) (C:=C) (newId:= "ValueError.__new__") (iy:=i) (jn:=j) (M.gl hg) hC (aU ho) E0.ex (M.stk hfn) M.nd (by rw[M.N];exact eq_of_beq y1) (by rw[M.N];exact eq_of_beq n1) (M.loc y2) (by rw[M.sc];exact hl) (M.st y y2) (aU n3) (iT n3) rfl hij λpins E W own rs=>
  mV (hb (M.inTry own) RT σ) λD σV H t ⟨S,h⟩=>⟨S,(OE.weak h λσV H x z=>clW.xw rs z).tkE⟩) λD σV H t ⟨S,h⟩=>⟨S,?_⟩
 have h:OE X.K (XW X) RT Y old H (match exs P (call P n) σ b with
  | .exc x σ'=>(match isX [.own c] P x with
   | some true=>.next ((σ'.set i (.sh true x)).set j .dead)
   | _=>.bad)
  | o=>o) D:=h
 cases q:exs P (call P n) σ b with
 | next σ'=>rw[q] at h;exact cG.tkE h
 | brk σ'=>rw[q] at h;exact cG.tkE h
 | cnt σ'=>rw[q] at h;exact cG.tkE h
 | ret v=>rw[q] at h;exact λu H2 k t r _=>(show mE X.K RT Y old H v D.rt from h) u H2 k t r
 | bad=>rw[q] at h;exact h
 | exc x σ'=>
  rw[q] at h
  have h:OE X.K (XW X) RT Y old H (match isX [.own c] P x with
   | some true=>.next ((σ'.set i (.sh true x)).set j .dead)
   | _=>.bad) D:=h
  cases hi:isX [.own c] P x with
  | none=>rw[hi] at h;exact h.elim
  | some kk=>
   rw[hi] at h
   cases kk with
   | false=>exact h.elim
   | true=>
    have h:cG X.K RT Y old H ((σ'.set i (.sh true x)).set j .dead) D.nx:=h
    cases x with
    | err c' fs=>
     have hi:(match P.above.lookup c' with|some ab=>some ([Cl.own c].any λa=>ab.contains a)|none=>none)=some true:=hi
     split at hi
     . rename_i ab hab
       obtain⟨C1,E⟩:=M.md.exc c' ab hab
       obtain⟨C',g1,_,g2⟩:=E.ow c hc
       rw[hC] at g1
       cases g1
       have hin:ab.contains (.own c)=true:=by simpa using Option.some.inj hi
       intro RT' σV' H' kp sub S' cls hns
       have e:cls=.ref C1:=by
        have:=E.ns.symm.trans hns
        simpa using this.symm
       subst e
       refine⟨C1,rfl,⟨_,E.ex⟩,(g2 hin).1,λa ha tk=>h RT' _ _ (kp.chain sub (Kp.same (aM.new ha))) sub ?_⟩
       have S1:=S'.grow (aM.new ha) tk
       have S2:=(((S1.kill j (some (.ref a))).setSh (i:=i) (pa:=true) (d:=.err c' fs) (u:=.ref a) ⟨a,C1,rfl,cE,hns⟩).kill j (some .non)).kill j none
       have es:(((σ'.set j .dead).set i (.sh true (.err c' fs))).set j .dead).set j .dead=(σ'.set i (.sh true (.err c' fs))).set j .dead:=by
        rw[List.set_set,List.set_comm _ _ hij.symm,List.set_set]
       rw[es] at S2
       exact S2
     . cases hi
    | _=>cases hi
end
end Hp
end
noncomputable section
namespace L2
open PySem PySem.Spec PyProof.Rows
section
variable {prog:Program} {w:World} {A:Around} {E:Value->Shared->Prop} {s:Shared}
end
theorem IsTupleKey.mono{prog:Program}{w:World}{h h':Heap}{k:List Int}{a:Addr}(k':∀b o,h.get? b=some o->h'.get? b=some o)(x:IsTupleKey (intKind prog w) h k a):IsTupleKey (intKind prog w) h' k a:=by
 obtain⟨o,its,n,h1,h2⟩:=x
 exact⟨o,its,n,k' _ _ h1,h2⟩
theorem cR.mono{prog:Program}{w:World}{h h':Heap}(k':∀b o,h.get? b=some o->h'.get? b=some o):∀{k:NK} {vs:List Value},cR (tupleKind (intKind prog w)) h k vs->cR (tupleKind (intKind prog w)) h' k vs
 | _,_,.nil=>.nil
 | _,_,.cons h1 t=>.cons (IsTupleKey.mono k' h1) (cR.mono k' t)
theorem gO.mono{prog:Program}{w:World}{h h':Heap}{k:NK}{a:Addr}(k':∀b o,h.get? b=some o->h'.get? b=some o)(x:gO (tupleKind (intKind prog w)) h k a):gO (tupleKind (intKind prog w)) h' k a:=by
 obtain⟨o,its,n,h1,h2,h3,h4⟩:=x
 exact⟨o,its,n,k' _ _ h1,h2,h3,cR.mono k' h4⟩
section
variable {prog:Program} {w:World} {A:Around} {R:Result->Shared->Prop} {good:NK->Addr->Prop} {h₀:Heap} {d it l:Addr} {items:Array Value} {ks:List (NK×V)}
end
section
variable {X:Cx}
end
end L2
end
noncomputable section
set_option maxHeartbeats 4000000
namespace Hp
open PySem PySem.Spec PyProof.Rows L2
section
variable {X:Cx} {P:Pg} {Γ:Ct} {n:Nat} {RT Y old:Addr->Prop} {σ:Sg} {pos:Pos} {l:Nat} {K:Fg} {H:Hp} {σV:L2.St}
end
section
variable {X:Cx} {P:Pg} {Γ:Ct} {n:Nat} {RT Y old:Addr->Prop} {σ:Sg} {pos:Pos} {l:Nat} {K:Fg} {H H':Hp} {σV:L2.St}
end
section
variable {X:Cx} {P:Pg} {Γ:Ct} {n:Nat} {RT Y old:Addr->Prop} {σ:Sg} {pos:Pos}
theorem RE.eqF{α:Type}{x:R α}{p:α->Prop}(h:RE (λ_=>False) x p):∃a,x=.ok a/\p a:=by
 cases x with
 | ok a=>exact⟨a,rfl,h⟩
 | exc e=>exact h.elim
 | bad=>exact h.elim
theorem OE.calmEq{K:Fg}{w:L2.St->Hp->D->Prop}{H:Hp}{α:Type}{x:R α}{f:α->O}{D:Ends}(h:OE K w RT Y old H (O.from σ x.calm f) D):∃a,x=.ok a/\OE K w RT Y old H (f a) D:=by
 cases x with
 | ok a=>exact⟨a,rfl,h⟩
 | exc e=>exact h.elim
 | bad=>exact h.elim
def But(σV:L2.St)(i:Nat)(H H':Hp):Prop:=∀c o,H c=some o->σV[i]?≠some (some (.ref c))->H' c=some o
def aJa(X:Cx)(RT Y old:Addr->Prop)(i:Nat):TE:=λσV H Q=>∃σ,Sx X.K RT Y old σ σV H/\RE (λ_=>False) (dW σ i none) λr=>
 ∀u H',Kp RT H H'->But σV i H H'->Sx X.K RT Y old r.2 σV H'->Rep X.K H' (λa=>RT a\/exB Y old r.1.pa a) r.1.d u->Q u H'
theorem aGH{i:Nat}{e:Expr}(M:Mc X P Γ n)(hc:fL Γ i "pop" e=some []):PE X e (aJa X RT Y old i):=by
 obtain⟨x,p,ap,cp,rfl,hx,hl⟩:=fF hc
 refine(vK PySem.F.plainAttrs_list PySem.F.slot_list_pop PySem.F.type_list_pop aAO (gB M hx) rfl hl).imp λσV H Q t ⟨σ,S,h⟩=>?_
 obtain⟨⟨v,σ'⟩,ep,h⟩:=RE.eqF h
 obtain⟨pa,ds,j,d,q1,hj,hd,e1,e2⟩:=hZ ep
 obtain⟨b,xs,h1,h2,h3,h4,h5⟩:=S.own i pa ds q1
 obtain⟨y,hy,kp,S2,ry⟩:=uJ S (aM.refl H) t q1 h1 h2 hd
 have hlen:=h5.length
 have hj':j=xs.length-1:=by
  unfold ixN at hj
  rw[Option.getD_none,if_neg (by decide)] at hj
  split at hj
  . have:=Option.some.inj hj
    omega
  . cases hj
 refine⟨.ref b,h1,.inl ⟨rfl,xs,SqL.of h2⟩,b,xs,y,rfl,rfl,h2,by rw[<-hj'];exact hy,λ_=>?_⟩
 rw[<-jJ,<-hj']
 subst e1 e2
 refine h y _ kp (λc o e n=>?_) S2 ry
 rw[aJ λz=>n (by rw[z];exact h1)]
 exact e
theorem aEk{σV:L2.St}{i:Nat}{pa pa':Bool}{ds ds':List D}{al:List Nat}{a:Addr}(q:σ[i]? = some (.own pa ds))(h:alR σ σV al a):alR (σ.set i (.own pa' ds')) σV al a:=by
 obtain⟨j,hj,⟨pb,es,e⟩,hv⟩:=h
 refine⟨j,hj,?_,hv⟩
 by_cases hij:i=j
 . subst hij
   exact⟨pa',ds',by rw[List.getElem?_set_self (List.getElem?_eq_some_iff.mp e).1]⟩
 . exact⟨pb,es,by rw[List.getElem?_set_ne hij];exact e⟩
theorem aGI{σV:L2.St}{H H':Hp}{i:Nat}{pa pa':Bool}{ds ds':List D}{v:Vl}{u:V}(S:Sx X.K RT Y old σ σV H)(q:σ[i]? = some (.own pa ds))(hi:i∉v.al)(b:But σV i H H')(h:Rv X.K RT Y old σ σV H v u) :
 Rv X.K RT Y old (σ.set i (.own pa' ds')) σV H' v u:=by
 unfold Rv at h ⊢
 refine Rep.weak (Rep.keep h λa o e hl _=>?_) λa z=>?_
 . by_cases hv:σV[i]? = some (some (.ref a))
   . exfalso
     obtain⟨a',xs,g1,g2,g3,g4,g5⟩:=S.own i pa ds q
     rw[hv] at g1
     cases g1
     rw[e] at g2
     cases g2
     refine hl xs rfl (.inl ⟨g3,λ⟨j,hj,⟨pb,es,ej⟩,hjv⟩=>?_⟩)
     have:=S.inj j i pb pa es ds a ej q hjv hv
     subst this
     exact hi hj
   . exact b a o e hv
 . rcases z with⟨z1,z2⟩|z
   . exact .inl ⟨z1,λw=>z2 (aEk q w)⟩
   . exact .inr z
theorem xO{σV:L2.St}{H H':Hp}{i:Nat}{pa pa':Bool}{ds ds':List D}(S:Sx X.K RT Y old σ σV H)(q:σ[i]? = some (.own pa ds))(b:But σV i H H') :
 ∀{vs:List Vl} {us:List V},i∉bH vs->Rvs X.K RT Y old σ σV H vs us->Rvs X.K RT Y old (σ.set i (.own pa' ds')) σV H' vs us
 | [],_,_,h=>h
 | v::vs,_,hi,h=>by
  obtain⟨u,r,e,h1,h2⟩:=h
  refine⟨u,r,e,aGI S q (λz=>hi (fD List.mem_cons_self i z)) b h1,xO S q b (λz=>hi ?_) h2⟩
  obtain⟨w,hw,hz⟩:=List.mem_flatMap.mp z
  exact fD (List.mem_cons_of_mem _ hw) i hz
theorem Rvs.snoc{K:Fg}{σV:L2.St}{H:Hp}{v:Vl}{u:V}(h2:Rv K RT Y old σ σV H v u):∀{vs:List Vl} {us:List V},Rvs K RT Y old σ σV H vs us->Rvs K RT Y old σ σV H (vs++[v]) (us++[u])
 | [],_,h=>by
  rw[show _=[] from h]
  exact⟨u,[],rfl,h2,rfl⟩
 | w::vs,_,h=>by
  obtain⟨x,r,e,h1,h3⟩:=h
  subst e
  exact⟨x,r++[u],rfl,h1,Rvs.snoc h2 h3⟩
def tAs(X:Cx)(P:Pg)(n:Nat)(RT Y old:Addr->Prop)(as:List Arg):TA:=λσV H Q=>∃(σ:Sg) (acc:List Vl) (accU:List V),Sx X.K RT Y old σ σV H/\Rvs X.K RT Y old σ σV H acc accU /\
 RE (λ_=>False) (cQ (λσ a=>ev P (call P n) σ a) σ acc as) λr=>∀us H',Tk X.K H'->Kp RT H H'->Sx X.K RT Y old r.2 σV H'->Rvs X.K RT Y old r.2 σV H' r.1 (accU++us)->Q us H'
theorem aJb:PA X [] (tAs X P n RT Y old []):=gL.imp λσV H Q t ⟨σ,acc,accU,S,r,h⟩ t'=>
 (show ∀us H',Tk X.K H'->Kp RT H H'->Sx X.K RT Y old σ σV H'->Rvs X.K RT Y old σ σV H' acc (accU++us)->Q us H' from h) [] H t' (Kp.refl RT H) S (by rw[List.append_nil];exact r)
theorem a_e{a:E}{as:List Arg}{e:Expr}{es:List Expr}(ha:∀σ,PE X e (WE X P n RT Y old σ a))(hr:PA X es (tAs X P n RT Y old as))(hp:aV e=true):PA X (e::es) (tAs X P n RT Y old (.e a::as)):=by
 refine(eS (te:=λσV H Q=>∃σ,WE X P n RT Y old σ a σV H Q) (λpins s σV H Q I ⟨σ,h⟩=>ha σ pins s σV H Q I h) hr (aA hp)).imp λσV H Q t ⟨σ,acc,accU,S,r,h⟩=>?_
 have h:=RE.bind' (show RE (λ_=>False) (ev P (call P n) σ a >>= λx=>cQ (λσ a=>ev P (call P n) σ a) σ (acc++[x]) as) _ from h)
 refine⟨σ,S,(h.weak λ_ z=>z.elim).mono λx hx u H1 t1 r1=>⟨σ,acc++[x],accU++[u],S.grow r1.1 t1,Rvs.snoc (r1.rv S) (r.grow r1.1),hx.mono λw h2 us H' t' kp S' rr _=>?_⟩⟩
 exact h2 (u::us) H' t' ((Kp.same r1.1).chain aT kp) S' (by simpa[List.append_assoc] using rr)
theorem aJc{j:Nat}{as:List Arg}{e:Expr}{es:List Expr}(M:Mc X P Γ n)(hc:fL Γ j "pop" e=some [])(hr:PA X es (tAs X P n RT Y old as))(hp:aV e=true):PA X (e::es) (tAs X P n RT Y old (.pop j::as)):=by
 refine(eS (aGH (RT:=RT) (Y:=Y) (old:=old) M hc) hr (aA hp)).imp λσV H Q t ⟨σ,acc,accU,S,r,h⟩=>?_
 have h:=RE.bind' (show RE (λ_=>False) (dW σ j none >>= λp=>if (bH acc).contains j then R.bad else cQ (λσ a=>ev P (call P n) σ a) p.2 (acc++[p.1]) as) _ from h)
 obtain⟨⟨x,σ'⟩,ep,h⟩:=RE.eqF h
 refine⟨σ,S,?_⟩
 rw[ep]
 intro u H1 kp bt S1 ry
 have h:RE (λ_=>False) (if (bH acc).contains j then R.bad else cQ (λσ a=>ev P (call P n) σ a) σ' (acc++[x]) as) _:=h
 split at h
 . exact h.elim
 . rename_i hnc
   obtain⟨pa,ds,k,d,q1,hj,hd,e1,e2⟩:=hZ ep
   have hal:x.al=[]:=by
    rw[e1]
    unfold Vl.sub
    split <;> rfl
   have rx:Rv X.K RT Y old σ' σV H1 x u:=by
    unfold Rv
    refine Rep.weak ry λa z=>?_
    rcases z with⟨z,_⟩|z
    . exact .inl z
    . exact .inr z
   have racc:Rvs X.K RT Y old σ' σV H1 acc accU:=by
    rw[e2]
    exact xO S q1 bt (λz=>hnc (by simpa using z)) r
   refine⟨σ',acc++[x],accU++[u],S1,Rvs.snoc rx racc,h.mono λw h2 us H' t' kp' S' rr _=>?_⟩
   exact h2 (u::us) H' t' (kp.chain aT kp') S' (by simpa[List.append_assoc] using rr)
theorem oD{f:Sg->E->R Vl}{i:Nat}:∀{as:List Arg} {σ:Sg} {acc vs:List Vl} {σ':Sg},cQ f σ acc as=.ok (vs,σ')->(∃pa ds,σ'[i]? = some (.own pa ds))->∃pa ds,σ[i]? = some (.own pa ds)
 | [],σ,acc,vs,σ',e,h=>by
  cases e
  exact h
 | .e a::as,σ,acc,vs,σ',e,h=>by
  have e:(f σ a >>= λx=>cQ f σ (acc++[x]) as)=.ok (vs,σ'):=e
  cases q:f σ a with
  | ok x=>
   rw[q] at e
   exact oD (as:=as) (show cQ f σ (acc++[x]) as=.ok (vs,σ') from e) h
  | exc x=>rw[q] at e;cases e
  | bad=>rw[q] at e;cases e
 | .pop j::as,σ,acc,vs,σ',e,h=>by
  have e:(dW σ j none >>= λp=>if (bH acc).contains j then R.bad else cQ f p.2 (acc++[p.1]) as)=.ok (vs,σ'):=e
  cases q:dW σ j none with
  | ok p=>
   obtain⟨x,σ1⟩:=p
   rw[q] at e
   have e:(if (bH acc).contains j then R.bad else cQ f σ1 (acc++[x]) as)=.ok (vs,σ'):=e
   split at e
   . cases e
   . obtain⟨pa,ds,h1⟩:=oD (as:=as) e h
     obtain⟨pb,es,k,d,q1,_,_,_,e2⟩:=hZ q
     rw[e2] at h1
     by_cases hij:j=i
     . subst hij
       exact⟨pb,es,q1⟩
     . rw[List.getElem?_set_ne hij] at h1
       exact⟨pa,ds,h1⟩
  | exc x=>rw[q] at e;cases e
  | bad=>rw[q] at e;cases e
theorem zX(M:Mc X P Γ n){i f:Nat}{as:List Arg}{e y:Expr}{ys:List Expr}{g:Str}{p p2:Pos}(hc:fL Γ i "append" e=some [.Call (.Name g p) (y::ys) [] p2])(hf:Γ.fns[f]? = some g)(hg:cS Γ g=true)(ho:bM g=true)
 (ha:PA X (y::ys) (tAs X P n RT Y old as)) (hp:(y::ys).all aV=true):PS X (.Expr e pos) (wS X RT Y old σ (ex P (call P n) σ (.appCall i f as))):=by
 obtain⟨x,p',ap,cp,rfl,hx,hl⟩:=fF hc
 obtain⟨fa,fd,ps,h1,h2,h3,h4⟩:=M.md.fn f g hf
 have hp':aV y=true/\ys.all aV=true:=by simpa using hp
 have hcall:PE X (.Call (.Name g p) (y::ys) [] p2) (λσV H Q=>tAs X P n RT Y old as σV H λus H1=>spF X.K P n f (us++[]) H1 (λv H'=>Tk X.K H'->Q v H') (λc _ H'=>RX X c σV H')):=by
  intro pins s σV H Q I hw
  refine wpAny_Call_Name_kw (iR I (M.gl hg) h1 ?_ (aU ho))
  refine PySem.W.callWith_K (h₀:=X.base) I.ok.mod.kin h2 (thn (ha p2 pins s σV H _ I hw) λus s1 ⟨vs,H1,I1,r,q⟩=>⟨I1.kIn,?_⟩) (aA hp'.1) (dY hp'.2)
  exact thn (rH h4 M.room h3 .nil (xA X) I1 r q) λu s2 z=>EP.tk z
 refine cC (jU (aAN PySem.F.plainAttrs_list PySem.F.slot_list_append PySem.F.type_list_append pM (gB M hx) (eS hcall gL (aA rfl)) rfl (by rw[aA rfl];rfl) hl (aA rfl) rfl)) λD σV H t ⟨S,h⟩=>?_
 have h:=OE.calmEq (show OE X.K (XW X) RT Y old H (O.from σ (cQ (λσ a=>ev P (call P n) σ a) σ [] as).calm λr=>O.from r.2 (call P n f (r.1.map (·.d))).calm λq=>put r.2 i (fB r.1 q) λds=>some (ds++[(fB r.1 q).d])) D from h)
 obtain⟨⟨vs,σ'⟩,ea,h⟩:=h
 obtain⟨r,er,h⟩:=OE.calmEq h
 obtain⟨pa,ds,ds',q1,q2,q3,q4,hpost⟩:=rR h
 cases q3
 obtain⟨pa0,ds0,q0⟩:=oD ea ⟨pa,ds,q1⟩
 obtain⟨b,xs,g1,g2,g3,g4,g5⟩:=S.own i pa0 ds0 q0
 refine⟨.ref b,g1,.inl ⟨rfl,xs,SqL.of g2⟩,σ,[],[],S,rfl,?_⟩
 rw[ea]
 intro us H1 t1 kp S1 rr
 refine⟨vs.map (·.d),λb=>H1 b≠none/\exV RT Y old σ' σV (eX vs) (bH vs) b,λa z=>z.1,by rw[List.append_nil];exact Reps.weak (Rvs.all rr) λa z=>z.2,?_⟩
 rw[er]
 intro u H2 t2 s2 rr2 _
 have ro:=xF S1 (aM.refl H1) s2 rr2
 obtain⟨b',xs',k1,k2,k3,k4,k5⟩:=S1.own i pa ds q1
 rw[g1] at k1
 cases k1
 have hlen:=k5.length
 refine⟨b,xs',u,rfl,rfl,ro.1 _ _ k2,?_,λ_=>?_⟩
 . rw[lA,List.length_singleton] at q4
   have:=wF
   omega
 . exact kF S1 ro.1 t2 q1 q2 g1 (((kE S1 ro.1 q1 g1 k2).weak λc z=>z.imp id mW).append (.cons (aBS (ro.rv S1)) .nil)) (hpost.mono kp aT)
end
section
variable {P:Pg} {n:Nat} {Y old:Addr->Prop}
theorem aBT{Γ:Ct}{is:List Nat}{tg:Expr}(h:mL Γ (.t is) tg=true):∃es k p,tg=.Tuple es k p:=by
 cases tg with
 | Tuple es k p=>exact⟨es,k,p,rfl⟩
 | _=>cases h
theorem zY{Γ:Ct}{i:Nat}{tg:Expr}(h:mL Γ (.n i) tg=true):∃x p,tg=.Name x p/\bS Γ i x=true:=by
 cases tg with
 | Name x p=>exact⟨x,p,rfl,h⟩
 | _=>cases h
theorem pY{Γ:Ct}{i:Nat}{m:Str}{c:Expr}{xs:List Expr}(h:fL Γ i m c=some xs):gQ c=false/\nO c=false:=by
 obtain⟨x,p,ap,cp,rfl,_⟩:=fF h
 exact⟨rfl,rfl⟩
theorem zZ{c:E}(hc:isC c=true):∃k caps t it cond elt,c=.comp k caps t it cond elt:=by
 cases c <;> first|exact⟨_,_,_,_,_,_,rfl⟩|cases hc
theorem m1{Γ:Ct}{i:Nat}{m:Str}{c:Expr}{f:Expr->Bool}(h:(match fL Γ i m c with|some [a]=>f a|_=>false)=true):∃a,fL Γ i m c=some [a]/\f a=true:=by
 split at h
 . rename_i a q;exact⟨a,q,h⟩
 . cases h
theorem m0{Γ:Ct}{i:Nat}{m:Str}{c:Expr}(h:(match fL Γ i m c with|some []=>true|_=>false)=true):fL Γ i m c=some []:=by
 split at h
 . rename_i q;exact q
 . cases h
theorem aEl{Γ:Ct}{f:Nat}{as:List Arg}{e:Expr}(h:aDC Γ f as e=true):∃g p y ys p2,e=.Call (.Name g p) (y::ys) [] p2/\Γ.fns[f]? = some g/\cS Γ g=true/\bM g=true/\nP Γ as (y::ys)=true:=by
 unfold aDC at h
 split at h
 . rename_i g p y ys p2
   simp only[bA] at h
   obtain⟨⟨⟨h1,h2⟩,h3⟩,h4⟩:=h
   exact⟨g,p,y,ys,p2,rfl,eq_of_beq h1,h2,h3,h4⟩
 . cases h
theorem sAs{X:Cx}{Γ:Ct}{RT:Addr->Prop}(M:Mc X P Γ n):∀{as:List Arg} {es:List Expr},nP Γ as es=true->PA X es (tAs X P n RT Y old as)/\es.all aV=true
 | [],[],_=>⟨aJb,rfl⟩
 | [],_::_,h=>by cases h
 | .e a::as,x::xs,h=>by
  obtain⟨h1,h2⟩:=dO (show(aY Γ a x&&nP Γ as xs)=true from h)
  obtain⟨r1,r2⟩:=sAs M h2
  exact⟨a_e (λσ=>sE a M h1 RT Y old σ) r1 (aP h1),by rw[List.all_cons,aP h1,r2];rfl⟩
 | .e _::_,[],h=>by cases h
 | .pop j::as,x::xs,h=>by
  obtain⟨h1,h2⟩:=dO (show((match fL Γ j "pop" x with|some []=>true|_=>false)&&nP Γ as xs)=true from h)
  obtain⟨r1,r2⟩:=sAs M h2
  have hc:=m0 h1
  have hp:aV x=true:=by
   obtain⟨_,_,_,_,rfl,_,_⟩:=fF hc
   rfl
  exact⟨aJc M hc r1 hp,by rw[List.all_cons,hp,r2];rfl⟩
 | .pop _::_,[],h=>by cases h
abbrev QS(P:Pg)(n:Nat)(Y old:Addr->Prop)(c:S):Prop:=∀{X:Cx} {Γ:Ct},Mc X P Γ n->∀{st:Stmt},fC Γ c st=true->∀(RT:Addr->Prop) (σ:Sg),PS X st (wS X RT Y old σ (ex P (call P n) σ c))
abbrev QSs(P:Pg)(n:Nat)(Y old:Addr->Prop)(c:Ss):Prop:=∀{X:Cx} {Γ:Ct},Mc X P Γ n->∀{st:List Stmt},chkSs Γ c st=true->∀(RT:Addr->Prop) (σ:Sg),PSs X st (wS X RT Y old σ (exs P (call P n) σ c))
theorem aJd{t:T}{e:E}:QS P n Y old (.set t e):=λ{X Γ} M {st} h RT σ=>by
 unfold fC at h
 obtain⟨⟨tg,v⟩,⟨p,rfl⟩,g⟩:=aH h
 clear h
 obtain⟨h1,h2,h3,h4⟩:=aEh g
 clear g
 have h5:gQ v=isC e:=eq_of_beq h4
 clear h4
 cases t with
 | n i=>
  obtain⟨x,p,e1,hx⟩:=zY h1
  have e1:tg=.Name x p:=e1
  subst e1
  cases hc:gQ v with
  | false=>exact aGC M hx (sE e M h2 RT Y old σ) hc
  | true=>
   obtain⟨k,caps,t,it,cond,elt,rfl⟩:=zZ (h5.symm.trans hc)
   obtain⟨el,tg,iter,ifs,scope,cpos,e2,O,g1,g2,g3,g4,g5⟩:=xK h2
   have e2:v=.ListComp el [⟨tg,iter,ifs,0⟩] scope cpos:=e2
   subst e2
   refine zW M hx (O.scope M) O.ndc O.tk O.cm (sI it M g3 RT Y old σ) (λC s₀ H₀ ex=>?_) (lE (jN g3))
   have M':=O.mc M C s₀ H₀ ex
   exact⟨aBK M' g2,λRT Y old σ1=>xI (sTs cond M' g1 g4 RT Y old σ1),λpl E W own rs RT Y old σ1=>aBM rs (sE elt (M'.inTry own) g5 RT Y old σ1)⟩
 | t is=>
  obtain⟨es,k,p,e1⟩:=aBT h1
  have e1:tg=.Tuple es k p:=e1
  subst e1
  refine aGD M h1 (sE e M h2 RT Y old σ) ?_
  have:(false||!nO v)=true:=h3
  simpa using this
theorem aJe{i j:Nat}:QS P n Y old (.mov i j):=λ{X Γ} M {st} h RT σ=>by
 unfold fC at h
 obtain⟨⟨tg,v⟩,⟨p,rfl⟩,g⟩:=aH h
 clear h
 obtain⟨x,⟨p1,e1⟩,g⟩:=aH g
 obtain⟨y,⟨p2,e2⟩,g⟩:=aH g
 have e1:tg=.Name x p1:=e1
 have e2:v=.Name y p2:=e2
 subst e1 e2
 obtain⟨h1,h2⟩:=dO g
 exact aIW M h1 h2
theorem aJf{i:Nat}{e:E}:QS P n Y old (.app i e):=λ{X Γ} M {st} h RT σ=>by
 unfold fC at h
 obtain⟨c,⟨p,rfl⟩,g⟩:=aH h
 obtain⟨a,h1,h2⟩:=m1 (f:=λa=>aY Γ e a) g
 exact aIT M h1 (sE e M h2 RT Y old σ) (aP h2)
theorem aJg{i:Nat}{e:E}:QS P n Y old (.ext i e):=λ{X Γ} M {st} h RT σ=>by
 unfold fC at h
 obtain⟨c,⟨p,rfl⟩,g⟩:=aH h
 obtain⟨a,h1,h2⟩:=m1 (f:=λa=>aY Γ e a) g
 exact aIU M h1 (sE e M h2 RT Y old σ) (aP h2)
theorem aEm{i:Nat}{t:T}:QS P n Y old (.pop (some t) i none):=λ{X Γ} M {st} h RT σ=>by
 unfold fC at h
 obtain⟨⟨tg,c⟩,⟨p,rfl⟩,g⟩:=aH h
 obtain⟨h0,g⟩:=dO g
 have h1:=m0 g
 exact aGG M h0 (aGF M h1) (pY h1).1 (pY h1).2
theorem aJh{i:Nat}:QS P n Y old (.rev i):=λ{X Γ} M {st} h RT σ=>by
 unfold fC at h
 obtain⟨c,⟨p,rfl⟩,g⟩:=aH h
 exact aIV M (m0 g)
theorem aAa{i f:Nat}{as:List Arg}:QS P n Y old (.appCall i f as):=λ{X Γ} M {st} h RT σ=>by
 unfold fC at h
 obtain⟨c,⟨p,rfl⟩,g⟩:=aH h
 obtain⟨a,h1,h2⟩:=m1 (f:=λa=>aDC Γ f as a) g
 obtain⟨g,p,y,ys,p2,rfl,g1,g2,g3,g4⟩:=aEl h2
 obtain⟨ha,hp⟩:=sAs (RT:=RT) (Y:=Y) (old:=old) M g4
 exact zX M h1 g1 g2 g3 ha hp
theorem aJi{e:E}:QS P n Y old (.ret e):=λ{X Γ} M {st} h RT σ=>by
 unfold fC at h
 obtain⟨r,⟨p,rfl⟩,g⟩:=aH h
 clear h
 obtain⟨v,e1,g⟩:=aBs g
 subst e1
 exact aIS (sE e M g RT Y old σ)
theorem aGJ{i:Nat}:QS P n Y old (.retv i):=λ{X Γ} M {st} h RT σ=>by
 unfold fC at h
 obtain⟨r,⟨p,rfl⟩,g⟩:=aH h
 clear h
 obtain⟨v,e1,g⟩:=aBs g
 subst e1
 obtain⟨x,⟨p1,e2⟩,g⟩:=aH g
 have e2:v=.Name x p1:=e2
 subst e2
 exact aGB M g
theorem aGK:QS P n Y old .retN:=λ{X Γ} M {st} h RT σ=>by
 unfold fC at h
 obtain⟨r,⟨p,rfl⟩,g⟩:=aH h
 cases r with
 | none=>exact aGA
 | some _=>cases g
theorem aJj{c:E}{a b:Ss}(ha:QSs P n Y old a)(hb:QSs P n Y old b):QS P n Y old (.iff c a b):=λ{X Γ} M {st} h RT σ=>by
 unfold fC at h
 obtain⟨⟨t,x,y⟩,⟨p,rfl⟩,g⟩:=aH h
 obtain⟨h1,h2,h3⟩:=gA g
 exact aKR (sT c M h1 RT Y old σ) (ha M h2) (hb M h3)
theorem aJk{t:T}{it:Hp.It}{b:Ss}(hb:QSs P n Y old b):QS P n Y old (.for t it b):=λ{X Γ} M {st} h RT σ=>by
 unfold fC at h
 obtain⟨⟨tg,iter,body⟩,⟨p,rfl⟩,g⟩:=aH h
 obtain⟨h1,h2,h3⟩:=gA g
 exact aIX M h1 (sI it M h2 RT Y old σ) (hb M h3) (lE (jN h2))
theorem aJl{c:E}{b:Ss}(hb:QSs P n Y old b):QS P n Y old (.whl c b):=λ{X Γ} M {st} h RT σ=>by
 unfold fC at h
 obtain⟨⟨t,body⟩,⟨p,rfl⟩,g⟩:=aH h
 obtain⟨h1,h2⟩:=dO g
 exact aIY M (λRT σ=>sT c M h1 RT Y old σ) (hb M h2)
theorem aJm:QS P n Y old .brk:=λ{X Γ} M {st} h RT σ=>by
 unfold fC at h
 obtain⟨_,⟨p,rfl⟩,_⟩:=aH h
 exact aIO
theorem aJn:QS P n Y old .cnt:=λ{X Γ} M {st} h RT σ=>by
 unfold fC at h
 obtain⟨_,⟨p,rfl⟩,_⟩:=aH h
 exact aIP
theorem aGL:QS P n Y old .pass:=λ{X Γ} M {st} h RT σ=>by
 unfold fC at h
 obtain⟨_,⟨p,rfl⟩,_⟩:=aH h
 exact aGz
theorem aKS{e:E}:QS P n Y old (.ex e):=λ{X Γ} M {st} h RT σ=>by
 unfold fC at h
 obtain⟨v,⟨p,rfl⟩,g⟩:=aH h
 obtain⟨h1,h2⟩:=dO g
 exact aKQ (sE e M h1 RT Y old σ) (by simpa using h2)
theorem aJo{c:Str}{k:Bool}{e:E}:QS P n Y old (.rse c k (.cons e .nil)):=λ{X Γ} M {st} h RT σ=>by
 unfold fC at h
 obtain⟨⟨x,a⟩,⟨np,cp,p,rfl⟩,g⟩:=aH h
 simp only[bA] at g
 obtain⟨⟨⟨⟨g1,g2⟩,g3⟩,g4⟩,g5⟩:=g
 have e1:x=c:=eq_of_beq g1
 subst e1
 exact aIR M g2 g3 (by simpa using g4) (sE e M g5 RT Y old σ) (aP g5)
theorem aJp{b:Ss}{c:Str}{i j:Nat}(hb:QSs P n Y old b):QS P n Y old (.tryAs b c i j):=λ{X Γ} M {st} h RT σ=>by
 unfold fC at h
 obtain⟨⟨body,x,nm,y⟩,⟨np,yp,np2,ap,hp,p,rfl⟩,g⟩:=aH h
 simp only[bA] at g
 obtain⟨⟨⟨⟨⟨⟨⟨⟨⟨⟨⟨g1,g2⟩,g3⟩,g4⟩,g5⟩,g6⟩,g7⟩,g8⟩,g9⟩,g10⟩,g11⟩,g12⟩:=g
 have e1:x=c:=eq_of_beq g1
 subst e1
 exact aIZ M g2 g3 (by simpa using g4) (by simpa using g5) g6 g7 (eq_of_beq g8) (by simpa using g10) g11 λM' RT σ=>hb M' g12 RT σ
theorem aGM:QS P n Y old .off:=λ{X Γ} M {st} h RT σ=>aIQ
theorem fG{c:S}(z:∀Γ st,fC Γ c st=false):QS P n Y old c:=by
 intro X Γ M st h RT σ
 rw[z] at h
 cases h
theorem aJq:QSs P n Y old .nil:=λ{X Γ} M {st} h RT σ=>by
 cases st with
 | nil=>exact aIN
 | cons _ _=>exact nf h
theorem aGN{c:S}{cs:Ss}(hc:QS P n Y old c)(hs:QSs P n Y old cs):QSs P n Y old (.cons c cs):=λ{X Γ} M {st} h RT σ=>by
 cases st with
 | nil=>exact nf h
 | cons x xs=>
  obtain⟨h1,h2⟩:=dO h
  exact aGy (hc M h1) (hs M h2)
mutual
theorem sS:(c:S)->QS P n Y old c
 | .set _ _=>aJd
 | .mov _ _=>aJe
 | .setIx _ _ _=>fG λ_ _=>rfl
 | .dnew _=>fG λ_ _=>rfl
 | .dput _ _=>fG λ_ _=>rfl
 | .dfrom _ _=>fG λ_ _=>rfl
 | .two _ _ _=>fG λ_ _=>rfl
 | .appP _ _ _=>fG λ_ _=>rfl
 | .clrP _ _=>fG λ_ _=>rfl
 | .app _ _=>aJf
 | .ext _ _=>aJg
 | .pop none _ none=>fG λ_ _=>rfl
 | .pop none _ (some _)=>fG λ_ _=>rfl
 | .pop (some _) _ none=>aEm
 | .pop (some _) _ (some _)=>fG λ_ _=>rfl
 | .clr _=>fG λ_ _=>rfl
 | .ins _ _ _=>fG λ_ _=>rfl
 | .rev _=>aJh
 | .appCall _ _ _=>aAa
 | .ret _=>aJi
 | .retv _=>aGJ
 | .retN=>aGK
 | .iff _ a b=>aJj (sSs a) (sSs b)
 | .for _ _ b=>aJk (sSs b)
 | .whl _ b=>aJl (sSs b)
 | .brk=>aJm
 | .cnt=>aJn
 | .pass=>aGL
 | .ex _=>aKS
 | .rse _ _ (.cons _ .nil)=>aJo
 | .rse _ _ .nil=>fG λ_ _=>rfl
 | .rse _ _ (.cons _ (.cons _ _))=>fG λ_ _=>rfl
 | .tryAs b _ _ _=>aJp (sSs b)
 | .off=>aGM
theorem sSs:(c:Ss)->QSs P n Y old c
 | .nil=>aJq
 | .cons c cs=>aGN (sS c) (sSs cs)
end
end
structure Tx where
 x:Str
 qual:Str
 st:Stmt
 N:List Str
def pZ(Γ:Ct)(F:Fn)(t:Tx):Bool:=
 t.N.length==F.ns&&decide (F.np<=F.ns)&&decide t.N.Nodup&&(cF t.st).kind==.function&&!(cF t.st).isCoroutine&&!(cF t.st).isGenerator &&
 ((t.N.take F.np).all λx=>(cF t.st).names.lookup x==some .local||(cF t.st).names.lookup x==some .cell)&&((cF t.st).names.all λp=>p.2 != .free) &&
 chkSs { Γ with N:=t.N,sc:=(cF t.st).names,fn:=true } F.body (jW t.st)
def iA(Γ:Ct):List Fn->List Tx->Bool
 | [],[]=>true
 | F::Fs,t::ts=>pZ Γ F t&&iA Γ Fs ts
 | _,_=>false
theorem gC{Γ:Ct}:∀{Fs:List Fn} {ts:List Tx},iA Γ Fs ts=true->∀{f:Nat} {t:Tx},ts[f]? = some t->∃F,Fs[f]? = some F/\pZ Γ F t=true
 | [],[],_,_,_,e=>by simp at e
 | [],_::_,h,_,_,_=>by cases h
 | _::_,[],h,_,_,_=>by cases h
 | F::Fs,t::ts,h,0,t',e=>by
  obtain⟨h1,h2⟩:=dO (show(pZ Γ F t&&iA Γ Fs ts)=true from h)
  have e':t=t':=by simpa using e
  subst e'
  exact⟨F,rfl,h1⟩
 | F::Fs,t::ts,h,f+1,t',e=>by
  obtain⟨h1,h2⟩:=dO (show(pZ Γ F t&&iA Γ Fs ts)=true from h)
  obtain⟨F',q1,q2⟩:=gC h2 (f:=f) (t:=t') (by simpa using e)
  exact⟨F',by simpa using q1,q2⟩
section
variable {prog:Program} {w:World} {K:Fg} {mg:Str->Option Value} {base:Heap} {P:Pg} {Γ:Ct} {txs:List Tx}
structure Top (prog:Program) (w:World) (K:Fg) (mg:Str->Option Value) (P:Pg) (Γ:Ct) (txs:List Tx):Prop where
 fn:∀(f:Nat) (t:Tx),txs[f]? = some t->∃fa fd,mg t.x=some (.ref fa)/\Fun K t.x t.qual t.st fa fd/\∀F,P.fns[f]? = some F->lY K fd (t.N.take F.np) []
 fns:∀(f:Nat) (x:Str),Γ.fns[f]? = some x->∃t,txs[f]? = some t/\t.x=x
 blt:∀x∈bltNames,mg x=none
 cns:∀(x:Str) (d:D),Γ.cns.lookup x=some d->∃u v,mg x=some u/\bQ v u/\∀H ex,Rep K H ex d v
 tab:∀(i:Nat) (x:Str),Γ.tbs[i]? = some x->∃a t,mg x=some (.ref a)/\P.tabs[i]? = some t/\pQ prog w K a t
 exc:∀(c:Str) (ab:List Cl),P.above.lookup c=some ab->∃C,pS K mg Γ.cls c ab C
 rsd:∀c∈Γ.rsd,∃ab,P.above.lookup c=some ab
 cls:∀x∈Γ.cls,∃C2,mg x=some (.ref C2)
 chk:iA Γ P.fns txs=true
theorem xP{k f:Nat}{F:Fn}(hF:P.fns[f]? = some F){vs:List V}{H:Hp}{Q:VK}{E:XK}(h:spF K P (k+1) f vs H Q E):vs.length=F.np:=by
 obtain⟨ds,Y,_,r,hr⟩:=h
 have hr:RE (xE K H E) (nM P (call P k) f ds) _:=hr
 unfold nM at hr
 rw[hF] at hr
 have hr:RE (xE K H E) (if ds.length=F.np then _ else R.bad) _:=hr
 split at hr
 . rename_i hl;rw[<-r.length];exact hl
 . exact hr.elim
theorem aBU{ds:List D}{vs:List V}{H:Hp}{Y:Addr->Prop}{m:Nat}(hY:∀a,Y a->H a≠none)(t:Tk K H)(r:Reps K H Y ds vs):Sx K (λ_=>False) Y (λb=>H b≠none) ((ds.map λd=>Sl.sh true d)++List.replicate m Sl.dead) (vs.map some++List.replicate m none) H:=by
 have len:=r.length
 have get:∀{i:Nat} {s:Sl},((ds.map λd=>Sl.sh true d)++List.replicate m Sl.dead)[i]? = some s->s=.dead\/∃d,s=.sh true d/\ds[i]? = some d:=λ{i s} e=>by
  by_cases hi:i<ds.length
  . rw[List.getElem?_append_left (by simpa using hi),List.getElem?_map,List.getElem?_eq_getElem hi] at e
    cases e
    exact .inr ⟨ds[i],rfl,List.getElem?_eq_getElem hi⟩
  . rw[List.getElem?_append_right (by simpa using hi),List.getElem?_replicate] at e
    split at e
    . cases e;exact .inl rfl
    . cases e
 exact {
  sh:=λi pa d e=>by
   rcases get e with z|⟨d',z,q⟩
   . cases z
   . cases z
     obtain⟨v,hv,rv⟩:=r.get q
     have hi:i<vs.length:=(List.getElem?_eq_some_iff.mp hv).1
     refine⟨v,?_,rv.weak λa z=>?_⟩
     . rw[List.getElem?_append_left (by simpa using hi),List.getElem?_map,hv];rfl
     . rcases z with z|z|⟨z,_⟩
       . exact z.elim
       . exact z
       . cases z
  own:=λi pa ds' e=>by
   rcases get e with z|⟨d',z,q⟩
   . cases z
   . cases z
  trk:=λa z=>by
   rcases z with z|z|z
   . exact z.elim
   . exact hY a z
   . exact z
  yo:=hY
  tk:=t
  rt:=λ_ z=>z.elim
  inj:=λi j pa pa' ds1 ds2 a e=>by
   rcases get e with z|⟨d',z,q⟩
   . cases z
   . cases z
  len:=by rw[lA,lA,lM,lM,List.length_replicate,List.length_replicate,len]
  dx:={
   at':=λi ds' e=>by
    rcases get e with z|⟨d',z,q⟩
    . cases z
    . cases z
   inj:=λi j ds1 ds2 a e=>by
    rcases get e with z|⟨d',z,q⟩
    . cases z
    . cases z
   at2:=λi ds es e=>by
    rcases get e with z|⟨d',z,q⟩
    . cases z
    . cases z
   one:=λi j ds es ds' es' e=>by
    rcases get e with z|⟨d',z,q⟩
    . cases z
    . cases z } }
theorem xQ{k f:Nat}{t:Tx}{F:Fn}{fa:Addr}{fd:FuncData}(hmd:∀(f:Nat) (x:Str),Γ.fns[f]? = some x->∃fa fd ps,mg x=some (.ref fa)/\PySem.W.keepIn K (.ref fa)=true/\lY K fd ps []/\qQ prog w K mg base (CX1 prog w) k fa fd ps (spF K P k f))
 (hblt:∀x∈bltNames,mg x=none) (hcns:∀(x:Str) (d:D),Γ.cns.lookup x=some d->∃u v,mg x=some u/\bQ v u/\∀H ex,Rep K H ex d v) (htab:∀(i:Nat) (x:Str),Γ.tbs[i]? = some x->∃a t,mg x=some (.ref a)/\P.tabs[i]? = some t/\pQ prog w K a t) (hexc:∀(c:Str) (ab:List Cl),P.above.lookup c=some ab->∃C,pS K mg Γ.cls c ab C) (hrsd:∀c∈Γ.rsd,∃ab,P.above.lookup c=some ab) (hcls:∀x∈Γ.cls,∃C2,mg x=some (.ref C2)) (h2:Fun K t.x t.qual t.st fa fd) (hF:P.fns[f]? = some F) (hc:pZ Γ F t=true) :
 qQ prog w K mg base (CX1 prog w) (k+1) fa fd (t.N.take F.np) (spF K P (k+1) f):=by
 unfold pZ at hc
 simp only[bA,beq_iff_eq,decide_eq_true_eq,Bool.not_eq_true',List.all_eq_true,Bool.or_eq_true,bne_iff_ne,ne_eq] at hc
 obtain⟨⟨⟨⟨⟨⟨⟨⟨c1,c2⟩,c3⟩,c4⟩,c5⟩,c6⟩,c7⟩,c8⟩,c9⟩:=hc
 have lt:(t.N.take F.np).length=F.np:=by rw[List.length_take];omega
 have sc:qR t.N (t.N.take F.np) (cF t.st):=⟨c4,c5,c6,c3,by rw[lt],c7,c8⟩
 obtain⟨oc,od,kV,doc,pm,an,cdv,ct,osl,rfl,lk,hcd⟩:=h2.ex
 refine aHH lk hcd sc (λvs H Q E h=>by rw[lt];exact xP hF h) λA outer s H vs Q E hr h=>?_
 have hlen:=xP hF h
 obtain⟨ds,Y,hY,r,hq⟩:=h
 have M:Mc (qS (CX1 prog w) prog w K mg base t.N t.qual (cF t.st) fa cdv A outer s H E) P { Γ with N:=t.N,sc:=(cF t.st).names,fn:=true } k:={
  md:=⟨hmd,hblt,hcns,htab,hexc,hrsd,hcls⟩
  N:=rfl
  nd:=c3
  sc:=rfl
  calm:=rfl
  room:=hr
  own:=PassesOwn.leaving
  st:=λ_ _=>.inl rfl
  fk:=c4
  stk:=λ_=>rfl }
 have hq:RE (xE K H E) (nM P (call P k) f ds) _:=hq
 unfold nM at hq
 rw[hF] at hq
 have hdl:ds.length=F.np:=by rw[r.length];exact hlen
 have hq:RE (xE K H E) (if ds.length=F.np then (match exs P (call P k) ((ds.map λd=>Sl.sh true d)++List.replicate (F.ns-F.np) Sl.dead) F.body with
  | .ret v=>R.ok (v.d,v.fr,v.pa)
  | .next _=>R.ok (.non,false,false)
  | .exc x _=>R.exc x
  | _=>R.bad) else R.bad) λr=>∀u H',Tk K H'->aM H H'->Rr K H H' Y r u->Q u H':=hq
 rw[if_pos hdl] at hq
 refine⟨_,mV (t':=λD σV H'=>Tk K H'->wS _ (λ_=>False) Y (λb=>H b≠none) ((ds.map λd=>Sl.sh true d)++List.replicate (F.ns-F.np) Sl.dead) (exs P (call P k) ((ds.map λd=>Sl.sh true d)++List.replicate (F.ns-F.np) Sl.dead) F.body) D σV H') (sSs (Y:=Y) (old:=λb=>H b≠none) F.body M c9 (λ_=>False) ((ds.map λd=>Sl.sh true d)++List.replicate (F.ns-F.np) Sl.dead)) (λD σV H' tk hw=>⟨(hw tk).1,OE.tkE (hw tk).2⟩),λtk=>⟨?_,?_⟩⟩
 . have e:L2.start t.N vs=vs.map some++List.replicate (F.ns-F.np) none:=by unfold L2.start;rw[hlen,c1]
   rw[e]
   exact aBU hY tk r
 . have same:∀{H':Hp},Kp (λ_=>False) H H'->aM H H':=λk b o e=>k b o e id
   show OE K (XW _) (λ_=>False) Y (λb=>H b≠none) H (exs P (call P k) ((ds.map λd=>Sl.sh true d)++List.replicate (F.ns-F.np) Sl.dead) F.body) _
   cases q:exs P (call P k) ((ds.map λd=>Sl.sh true d)++List.replicate (F.ns-F.np) Sl.dead) F.body with
   | next σ'=>
    rw[q] at hq
    exact λRT' σV' H' kp sub S'=>hq .non H' S'.tk (same kp) (show(if false=true then _ else _) from aFL rfl)
   | ret v=>
    rw[q] at hq
    refine λu H' kp tk' rt=>hq u H' tk' (same kp) ?_
    unfold Rr
    unfold Rtv at rt
    cases hfr:v.fr with
    | true=>
     rw[hfr,if_pos rfl] at rt
     obtain⟨a,xs,ds',e1,e2,e3,e4,rr⟩:=rt
     exact aHO ⟨a,xs,ds',e1,e2,Classical.not_not.mp e3,e4,rr⟩
    | false=>
     rw[hfr,if_neg bN] at rt
     exact aFL rt
   | brk σ'=>rw[q] at hq;exact hq.elim
   | cnt σ'=>rw[q] at hq;exact hq.elim
   | exc e σ'=>
    rw[q] at hq
    have hq:xE K H E e:=hq
    intro RT' σV' H' kp sub S'
    cases e with
    | err c fs=>exact λcls hn pins s1 a I fl=>vP pins σV' H' s1 a cls I fl (hq cls H' hn S'.tk (same kp))
    | _=>exact hq.elim
   | bad=>rw[q] at hq;exact hq.elim
theorem aBV(T:Top prog w K mg P Γ txs):∀(k f:Nat) (x:Str),Γ.fns[f]? = some x->∃fa fd ps,mg x=some (.ref fa)/\PySem.W.keepIn K (.ref fa)=true/\lY K fd ps []/\qQ prog w K mg base (CX1 prog w) k fa fd ps (spF K P k f)
 | 0,f,x,hf=>by
  obtain⟨t,ht,rfl⟩:=T.fns f x hf
  obtain⟨fa,fd,h1,h2,h3⟩:=T.fn f t ht
  obtain⟨F,hF,_⟩:=gC T.chk ht
  have no:∀vs H Q E,¬ spF K P 0 f vs H Q E:=λvs H Q E h=>by
   obtain⟨ds,Y,_,r,hr⟩:=h
   exact hr
  exact⟨fa,fd,_,h1,h2.kp,h3 F hF,λvs H Q E h=>absurd h (no vs H Q E),λA outer s H args us vs Q E _ _ _ _ h=>absurd h (no vs H Q E)⟩
 | k+1,f,x,hf=>by
  obtain⟨t,ht,rfl⟩:=T.fns f x hf
  obtain⟨fa,fd,h1,h2,h3⟩:=T.fn f t ht
  obtain⟨F,hF,hc⟩:=gC T.chk ht
  exact⟨fa,fd,_,h1,h2.kp,h3 F hF,xQ (λf x hf=>aBV T k f x hf) T.blt T.cns T.tab T.exc T.rsd T.cls h2 hF hc⟩
theorem aGO(T:Top prog w K mg P Γ txs){f:Nat}{t:Tx}{F:Fn}{fa:Addr}{fd:FuncData}(ht:txs[f]? = some t)(hF:P.fns[f]? = some F)(h2:Fun K t.x t.qual t.st fa fd)(k:Nat):qQ prog w K mg base (CX1 prog w) (k+1) fa fd (t.N.take F.np) (spF K P (k+1) f):=by
 obtain⟨F',hF',hc⟩:=gC T.chk ht
 rw[hF] at hF'
 cases hF'
 exact xQ (aBV T k) T.blt T.cns T.tab T.exc T.rsd T.cls h2 hF hc
theorem aGP{k f:Nat}{K:Fg}{H:Hp}{a:Addr}{ns:List Int}(hO:aDy H)(hS:SqL K H a (ns.map V.int))(h:∃fr pa,call P k f [.lst (ns.map D.int)]=.ok (.bl true,fr,pa)) :
 spF K P k f [.ref a] H (λv _=>v=.bl true) λ_ _ _=>False:=by
 obtain⟨fr,pa,e⟩:=h
 have ri:∀(ns:List Int),Reps K H (λ_=>False) (ns.map D.int) (ns.map V.int):=by
  intro ns
  induction ns with
  | nil=>exact .nil
  | cons i ns ih=>exact .cons rfl ih
 refine⟨[.lst (ns.map D.int)],λ_=>False,λ_ z=>z.elim,.cons ⟨a,_,rfl,hS,id,ri ns⟩ .nil,?_⟩
 rw[e]
 intro u H' _ _ rr
 unfold Rr at rr
 cases fr with
 | true=>
  rw[if_pos rfl] at rr
  obtain⟨_,_,_,_,e2,_⟩:=rr
  cases e2
 | false=>
  rw[if_neg bN] at rr
  exact rr
theorem aAb{H:Hp}{s:Shared}{e:Value}{s':Shared}{out:List Env}(h:CX1 prog w out H s (λ_ _ _=>False) e s'):False:=by
 obtain⟨_,_,_,_,_,_,_,_,_,z⟩:=h
 exact z
def wG(K:Fg)(C:Addr)(cs:List (Addr×Bool))(ve:Bool):Bool:=
 PySem.W.excIn K C bmV "ValueError.__new__" && (PySem.W.clsIn K C).isSome&&(PySem.W.subIn K (.ref C) (.type "BaseException")==some true)&&(PySem.W.findIn K (.ref C) "__getattribute__" == some (some (.builtin "BaseException.__getattribute__"))) &&
 (PySem.W.findIn K (.ref C) "__getattr__" == some none)&&(PySem.W.findIn K (.ref C) "__class__" == some (some (.builtin "object.__class__")))&&(PySem.W.mroIn K C (.type "object")==some true)&&(PySem.W.kitOne K (.ref C) (.type "ValueError")==some ve) &&
 cs.all λp=>(PySem.W.kitOne K (.ref C) (.ref p.1)==some p.2)&&(!p.2||(pR K C p.1&&PySem.W.excIn K p.1 bmV "ValueError.__new__"))
def uK(mg:Str->Option Value):List Str->List Addr->Prop
 | [],[]=>True
 | x::xs,a::as=>mg x=some (.ref a)/\uK mg xs as
 | _,_=>False
theorem lP{f:Str->Bool}:∀{xs:List Str} {as:List Addr},uK mg xs as->∀x∈xs,∃a,mg x=some (.ref a)/\(a,f x)∈as.zip (xs.map f)
 | [],_,_,x,hx=>by cases hx
 | y::ys,[],h,_,_=>h.elim
 | y::ys,a::as,h,x,hx=>by
  rcases List.mem_cons.mp hx with rfl|hx
  . exact⟨a,h.1,List.mem_cons_self⟩
  . obtain⟨b,h1,h2⟩:=lP (f:=f) h.2 x hx
    exact⟨b,h1,List.mem_cons_of_mem _ h2⟩
theorem aAc{xs:List Str}{as:List Addr}(h:uK mg xs as):∀x∈xs,∃C2,mg x=some (.ref C2):=λx hx=>by
 obtain⟨a,q,_⟩:=lP (f:=λ_=>true) h x hx
 exact⟨a,q⟩
theorem aBW{cls:List Str}{c:Str}{ab:List Cl}{C:Addr}{as:List Addr}(hm:mg c=some (.ref C))(hn:PySem.W.nsIn K mainGlobals c=some (some (.ref C)))
 (h:wG K C (as.zip (cls.map λx=>ab.contains (.own x))) (ab.contains .tValueError)=true) (ha:uK mg cls as):pS K mg cls c ab C:=by
 unfold wG at h
 simp only[bA,beq_iff_eq,List.all_eq_true] at h
 obtain⟨⟨⟨⟨⟨⟨⟨⟨h1,h2⟩,h3⟩,h4⟩,h5⟩,h6⟩,h7⟩,h8⟩,h9⟩:=h
 refine⟨hm,hn,h1,⟨h2,h3,h4,h5,h6,h7⟩,h8,λx hx=>?_⟩
 obtain⟨a,q1,q2⟩:=lP (f:=λx=>ab.contains (.own x)) ha x hx
 obtain⟨g1,g2⟩:=h9 _ q2
 refine⟨a,q1,g1,λz=>?_⟩
 have g2:(!ab.contains (.own x)||(pR K C a&&PySem.W.excIn K a bmV "ValueError.__new__"))=true:=g2
 rw[z] at g2
 simpa using g2
end
end Hp
end
noncomputable section
namespace Hp
open PySem PySem.Spec PyProof.Rows L2
def ER(w:World)(K:Fg)(e:DictEntry)(p:Str×D):Prop:=e.hash=hashStr w p.1/\(∃tk,e.key=.str p.1 tk)/\∃v,bQ v e.val/\∀(H:Hp) (ex:Addr->Prop),Rep K H ex p.2 v
theorem qB{K:Fg}{H:Hp}{ex:Addr->Prop}:∀xs:List Str,Reps K H ex (xs.map D.str) (xs.map V.str)
 | []=>rfl
 | x::xs=>⟨.str x,xs.map V.str,rfl,rfl,qB xs⟩
theorem aBX{K:Fg}{b:Addr}{od:Option Addr}{its:Array Value}{n:Nat}{sl:Array (Option Value)}(h:K.lookup b=some ⟨.type "tuple",od,.seq its n,sl⟩)(xs:List Str)(hz:its.size<=1000)(hv:aW (xs.map V.str) its.toList) :
 ∀(H:Hp) (ex:Addr->Prop),Rep K H ex (.tup (xs.map D.str)) (.ref b):=λH ex=>
 ⟨b,xs.map V.str,rfl,.inr ⟨_,its,n,h,rfl,rfl,Nat.le_trans hz (by rw[sizeLine_eq];decide),hv⟩,qB xs⟩
theorem aBY{prog:Program}{w:World}{K:Fg}:∀{es:List DictEntry} {t:List (Str×D)},Paired (ER w K) es t->∃vs:List (Key×Value),(∀e∈es,∃k:Key,(eC prog w).is k e.key=true/\e.hash=(eC prog w).hash k) /\
 Pairs (eC prog w) es vs/\vs.map (·.1)=t.map (λp=>(Sum.inr p.1:Key)) /\
 ∀k:Str,(t.lookup k=none/\valueAt vs (Sum.inr k:Key)=none)\/∃d u v,t.lookup k=some d/\valueAt vs (Sum.inr k:Key)=some u/\bQ v u/\∀(H:Hp) (ex:Addr->Prop),Rep K H ex d v
 | _,_,.nil=>⟨[],λe he=>absurd he (by simp),.nil,rfl,λk=>.inl ⟨rfl,rfl⟩⟩
 | e::es,p::t,.cons ⟨h1,⟨tk,h2⟩,v,h3,h4⟩ r=>by
  obtain⟨vs,g1,g2,g3,g4⟩:=aBY (prog:=prog) r
  have hk:sR (Sum.inr p.1:Key) e.key=true:=by rw[h2];exact pE p.1 tk
  refine⟨(Sum.inr p.1,e.val)::vs,λe' he=>?_,.cons hk rfl g2,by rw[mC,mC,g3],λk=>?_⟩
  . rcases List.mem_cons.mp he with rfl|he
    . exact⟨Sum.inr p.1,hk,h1⟩
    . exact g1 e' he
  . by_cases hkp:k=p.1
    . subst hkp
      refine .inr ⟨p.2,e.val,v,?_,?_,h3,h4⟩
      . obtain⟨a,b⟩:=p
        simp[List.lookup]
      . simp[valueAt]
    . have n1:(p::t).lookup k=t.lookup k:=by
       obtain⟨a,b⟩:=p
       have:(k==a)=false:=beq_eq_false_iff_ne.mpr hkp
       simp[List.lookup,this]
      have n2:valueAt ((Sum.inr p.1,e.val)::vs) (Sum.inr k:Key)=valueAt vs (Sum.inr k:Key):=by
       unfold valueAt
       have:decide ((Sum.inr p.1:Key)=Sum.inr k)=false:=decide_eq_false λz=>hkp (Sum.inr.inj z).symm
       rw[List.find?_cons]
       simp only[this]
      rw[n1,n2]
      exact g4 k
theorem aGQ{prog:Program}{w:World}{K:Fg}{a:Addr}{es:Array DictEntry}{ep:Nat}{t:List (Str×D)}(hs:(a==sysModules)=false)(h:K.lookup a=some ⟨.type "dict",none,.dict es ep,#[]⟩)(hp:Paired (ER w K) es.toList t)(hn:(t.map (·.1)).Nodup):pQ prog w K a t:=by
 obtain⟨vs,g1,g2,g3,g4⟩:=aBY (prog:=prog) hp
 refine⟨hs,vs,λhh X=>⟨_,es,ep,X a _ h,⟨rfl,rfl,rfl⟩,rfl,λe he=>g1 e (by simpa using he),g2,?_⟩,g4⟩
 rw[g3]
 have e:t.map (λp=>(Sum.inr p.1:Key))=(t.map (·.1)).map Sum.inr:=by rw[List.map_map];rfl
 rw[e]
 unfold List.Nodup at hn ⊢
 rw[List.pairwise_map]
 exact hn.imp λhne z=>hne (Sum.inr.inj z)
end Hp
end
noncomputable section
namespace Hh
open PySem PySem.W PySem.Calls PyProof.Rows
def go(st:SharedT->Thread->Option (SharedT×Thread))(ok:Thread->Bool)(n:Nat):SharedT->Thread->Option SharedT:=
 @Nat.rec (λ_=>SharedT->Thread->Option SharedT) (λ_ _=>none) (λ_ ih s t=>match through t with
  | true=>some s
  | false=>match ok t with
   | false=>none
   | true=>match st s t with
    | some (s',t')=>ih s' t'
    | none=>none) n
theorem nG{tb:String->Option Builtin}{p:Program}{w:World}{n₀:Nat}{ann:Option Value}:∀(n:Nat) (s s':SharedT) (t:Thread),go (stepT (denote tb) p w) (stepOk n₀ ann) n s t=some s'->topRun tb p w n₀ ann n s.abs t=some s'.abs
 | 0,_,_,_,h=>by cases h
 | n+1,s,s',t,h=>by
  have h:(match through t with
   | true=>some s
   | false=>match stepOk n₀ ann t with
    | false=>none
    | true=>match stepT (denote tb) p w s t with
     | some (s',t')=>go (stepT (denote tb) p w) (stepOk n₀ ann) n s' t'
     | none=>none)=some s':=h
  unfold topRun
  cases ht:through t with
  | true=>rw[ht] at h;cases h;rfl
  | false=>
   rw[ht] at h
   cases hk:stepOk n₀ ann t with
   | false=>rw[hk] at h;cases h
   | true=>
    rw[hk] at h
    cases hs:stepT (denote tb) p w s t with
    | none=>rw[hs] at h;cases h
    | some r=>obtain⟨s₂,t₂⟩:=r;rw[hs] at h;rw[stepT_spec hs];exact nG n _ _ _ h
def bt(l:List Obj)(n:Nat):Nat->Nat->BT:=
 @Nat.rec (λ_=>Nat->Nat->BT) (λ_ _=>.nil) (λ_ ih a b=>match l[b]? with
  | some o=>.node o (ih (2*a) (a+b)) (ih (2*a) (2*a+b))
  | none=>.nil) n
end Hh
namespace Hh
open PySem PySem.W PySem.Calls PyProof.Rows
def aBZ{α:Type}(p q:Program)(loose:List Str)(Xt:Shared->Bool)(Yf:Shared->α)(h0:Heap)(s:Shared):=
 ((staticsOk (importedModules p.main.body) h0 s.heap&&namesBound p s.heap&&gensDone s&&laidKept h0 s.heap),openSeen q loose (importedModules p.main.body) Xt true s,Yf s)
theorem aEn{p q:Program}{loose:List Str}{Xt:Shared->Bool}{α:Type}{Yf:Shared->α}{Ya:World->α}{N m₀:Nat}{ann:Option Value}{T₀:Params->BT}{l₀:Life}(e:opening p=plainProg p.main.scope.names)(hN:Nat.ble 600 N=true)(f:∀s,fenceModules? p s=some s)
 (hb:∀P,absHeap (T₀ P) m₀ l₀=boot_heap P) (hz:∀P:Params,((boot_heap P).isNs mainGlobals,(boot_heap P).objs.size,(boot_heap P).nsMap mainGlobals "__annotations__")=(true,m₀,ann))
 (h:∀(w:World) (os:OsState),(go (stepT (denote treeTable) p w) (stepOk m₀ ann) N ⟨T₀ w.params,m₀,l₀,Array.mk [],boot_drawn,boot_toks,os⟩ (topStub p)).map (λs=>aBZ p q loose Xt Yf (boot_heap w.params) s.abs)=some (true,openGood q loose,Ya w)):LeftO p q loose Xt Yf Ya N:=λw=>by
 obtain⟨⟨hh,gs,d,k,os⟩,e1,e2⟩:=Option.map_eq_some_iff.mp (boot_open e hN f w)
 simp only[Prod.mk.injEq] at e2
 obtain⟨rfl,rfl,rfl,rfl⟩:=e2
 obtain⟨s,g1,g2⟩:=Option.map_eq_some_iff.mp (h w os)
 have r:=nG N _ _ _ g1
 have r:topRun treeTable p w m₀ ann N ⟨boot_heap w.params,Array.mk [],boot_drawn,boot_toks,os⟩ (topStub p)=some s.abs:=by
  rw[<-hb];exact r
 have z:=hz w.params
 simp only[Prod.mk.injEq] at z
 obtain⟨z1,z2,z3⟩:=z
 unfold aBZ at g2
 simp only[Prod.mk.injEq] at g2
 obtain⟨l1,l2,l3⟩:=g2
 have t:topFrom treeTable p w N ⟨boot_heap w.params,Array.mk [],boot_drawn,boot_toks,os⟩=some s.abs:=by
  unfold topFrom
  dsimp only
  rw[z1,z2,z3,r]
  show(match staticsOk (importedModules p.main.body) (boot_heap w.params) s.abs.heap&&namesBound p s.abs.heap&&gensDone s.abs&&laidKept (boot_heap w.params) s.abs.heap with|true=>_|false=>_)=_
  rw[l1]
 unfold openEnds
 rw[e1]
 show(topFrom treeTable p w N _).map _=_
 rw[t]
 exact congrArg some (Prod.ext l2 l3)
def T0(P:Params):BT:=bt (boot_heap P).objs.toList 5 1 0
theorem aGR:∀P,absHeap (T0 P) 11 {}=boot_heap P:=λP=>by kernel_rfl
theorem aEo:∀P:Params,((boot_heap P).isNs mainGlobals,(boot_heap P).objs.size,(boot_heap P).nsMap mainGlobals "__annotations__")=(true,11,some (.ref 6)):=λP=>by kernel_rfl
abbrev aJr:=@PySem.W.Fast.tw10156331382660048174
abbrev qOk:=@PySem.W.Fast.tw6613529449190102663
abbrev aKT:=@PySem.W.Fast.tw11892475500146522536
abbrev aKU:=@PySem.W.Fast.tw14364793385576792824
abbrev aJs:=@PySem.W.Fast.tw4187177175401517315
abbrev aJt:=@PySem.W.Fast.tw5923862056798008813
def aJu{α:Type}(p q:Program)(loose:List Str)(Yf:Shared->α)(N:Nat)(w:World)(os:OsState):=
 (go (aJr (aKT aKU) p w) (qOk 11 (some (.ref 6))) N ⟨T0 w.params,11,{},Array.mk [],boot_drawn,boot_toks,os⟩ (topStub p)).map λs=>
  ((staticsOk (aJt p.main.body) (boot_heap w.params) s.abs.heap&&namesBound p s.abs.heap&&gensDone s.abs&&laidKept (boot_heap w.params) s.abs.heap),aJs q loose (aJt p.main.body) (λ_=>true) true s.abs,Yf s.abs)
theorem aGS{p q:Program}{loose:List Str}{α:Type}{Yf:Shared->α}{Ya:World->α}{N:Nat}(e:opening p=plainProg p.main.scope.names)(hN:Nat.ble 600 N=true)(f:∀s,fenceModules? p s=some s)
 (h:∀w os,aJu p q loose Yf N w os=some (true,openGood q loose,Ya w)):LeftO p q loose (λ_=>true) Yf Ya N:=by
 refine aEn e hN f aGR aEo λw os=>?_
 unfold aBZ
 rw[PySem.W.Fast.te10156331382660048174,PySem.W.Fast.te6613529449190102663,PySem.W.Fast.te11892475500146522536,PySem.W.Fast.te14364793385576792824,PySem.W.Fast.te4187177175401517315,PySem.W.Fast.te5923862056798008813]
 exact h w os
end Hh
end
noncomputable section
namespace Hh
open PySem PySem.W PySem.Calls PyProof.Rows L2 Hp
def iB(h:Heap):PySem.W.Frag:=(List.range h.objs.size).filterMap λa=>(h.get? a).map λo=>(a,o)
theorem oE{α:Type}(f:Nat->Option α)(a:Nat):∀n,((List.range n).filterMap λi=>(f i).map λo=>(i,o)).lookup a=if a<n then f a else none
 | 0=>rfl
 | n+1=>by
  rw[List.range_succ,List.filterMap_append,List.lookup_append,oE f a n]
  by_cases h:a<n
  . rw[if_pos h,if_pos (Nat.lt_succ_of_lt h)]
    cases q:f a with
    | some o=>rfl
    | none=>
     have hne:(a==n)=false:=beq_eq_false_iff_ne.mpr (Nat.ne_of_lt h)
     cases q2:f n with
     | none=>simp[q2]
     | some o=>simp[q2,List.lookup,hne]
  . rw[if_neg h]
    by_cases e:a=n
    . subst e
      rw[if_pos (Nat.lt_succ_self _)]
      cases q:f a with
      | none=>simp[q]
      | some o=>simp[q,List.lookup]
    . rw[if_neg (by omega)]
      have hne:(a==n)=false:=beq_eq_false_iff_ne.mpr e
      cases q2:f n with
      | none=>simp[q2]
      | some o=>simp[q2,List.lookup,hne]
theorem dB(h:Heap)(a:Addr):(iB h).lookup a=h.get? a:=by
 unfold iB
 rw[oE]
 by_cases q:a<h.objs.size
 . rw[if_pos q]
 . rw[if_neg q]
   cases e:h.get? a with
   | none=>rfl
   | some o=>exact absurd (Heap.lt_size e) q
theorem xR{h h':Heap}(k:∀b o,h.get? b=some o->h'.get? b=some o):(iB h).In h':=λa o e=>k a o (by rw[<-dB];exact e)
def iC(h:Heap)(x:Str):Option (Option Value):=match h.get? mainGlobals with
 | some ⟨_,_,.dict es _,_⟩=>(match es.toList.find? (λe=>match e.key with|.str y _=>Fast.sEq y x|_=>false) with
  | some e=>some (some e.val)
  | none=>if es.toList.any (·.refKey) then none else some none)
 | _=>none
theorem aCa(v:Value)(x:Str):v.isStr x=(match v with|.str y _=>Fast.sEq y x|_=>false):=by
 cases v with
 | str y t=>
  show(y==x)=Fast.sEq y x
  rw[Bool.eq_iff_iff,beq_iff_eq,Fast.sEq_iff]
 | _=>rfl
theorem eD(h:Heap)(x:Str):nsIn (iB h) mainGlobals x=iC h x:=by
 unfold nsIn iC
 rw[dB]
 simp only[aCa]
 rfl
def oF(h:Heap)(cd:Value):Option Str:=match cd with
 | .ref c=>(match h.get? c with
  | some ⟨_,_,.fields vs,_⟩=>(match vs.toList with|_::.str n _::_=>some n|_=>none)
  | _=>none)
 | _=>none
theorem aAd{h:Heap}{cd:Value}{q:Str}(e:oF h cd=some q):codeIn (iB h) cd q=true:=by
 unfold oF at e
 unfold codeIn
 split at e
 . rename_i c
   simp only[dB]
   split at e
   . rename_i vs _ ho
     rw[ho]
     split at e
     . rename_i a n t r hv
       cases e
       simp only[hv,beq_self_eq_true]
     . cases e
   . cases e
 . cases e
abbrev Pin:=Str×Str×Arguments×FuncBody×Scope×Addr×List (Str×Addr)×Value×Addr×Option Str
def wH(h:Heap)(x:Str):Option Pin:=match iC h x with
 | some (some (.ref a))=>(match h.get? a with
  | some ⟨_,_,.func fd,_⟩=>some (fd.name,fd.qualname,fd.params,fd.body,fd.scope,fd.globals,fd.closure,fd.defaults,fd.builtins,oF h fd.code)
  | _=>none)
 | _=>none
def cX(s:Stmt):Str:=match s with
 | .FunctionDef x _ _ _ _ _ _ _ _ _=>x
 | _=>⟨#[]⟩
def aCb(st:Stmt):Pin:=(cX st,cX st,iS st,.stmts (jW st),cF st,mainGlobals,[],.none,builtinsNs,some (cX st))
theorem aEp{h:Heap}{st:Stmt}(e:wH h (cX st)=some (aCb st)):∃fa fd,nsIn (iB h) mainGlobals (cX st)=some (some (.ref fa))/\Fun (iB h) (cX st) (cX st) st fa fd:=by
 unfold wH at e
 split at e
 . rename_i a hn
   split at e
   . rename_i c d fd sl ho
     obtain⟨n,qn,ps,b,sc,g,cl,df,kd,doc,pm,an,cd,ct,bn⟩:=fd
     unfold aCb at e
     simp only[Option.some.injEq,Prod.mk.injEq] at e
     obtain⟨rfl,rfl,rfl,rfl,rfl,rfl,rfl,rfl,rfl,hc⟩:=e
     refine⟨a,_,by rw[eD];exact hn,⟨⟨c,d,kd,doc,pm,an,cd,ct,sl,rfl,by rw[dB];exact ho,aAd hc⟩,?_⟩⟩
     unfold keepIn
     simp only[dB,ho]
   . cases e
 . cases e
theorem uL{α:Type}{x:Str}{u:α}:∀{ps:List Str} {us:List α},ps.Nodup->ps.length=us.length->(x,u)∈ps.zip us->(ps.zip us).lookup x=some u
 | [],_,_,_,h=>by simp at h
 | p::ps,[],_,h,_=>by simp at h
 | p::ps,v::us,hn,hl,h=>by
  rw[List.zip_cons_cons] at h ⊢
  obtain⟨h1,h2⟩:=List.nodup_cons.mp hn
  rcases List.mem_cons.mp h with h|h
  . cases h;simp[List.lookup]
  . have hx:x∈ps:=(List.of_mem_zip h).1
    have:(x==p)=false:=beq_eq_false_iff_ne.mpr λz=>h1 (z▸hx)
    simp only[List.lookup,this]
    exact uL h2 (by simpa using hl) h
theorem aCc{α:Type}(L:List (Str×α)):∀{ps:List Str} {us:List α},ps.length=us.length->(∀p∈ps.zip us,L.lookup p.1=some p.2)->(ps.filterMap λn=>(L.lookup n).map (n,·))=ps.zip us
 | [],_,_,_=>by simp
 | p::ps,[],h,_=>by simp at h
 | p::ps,v::us,hl,h=>by
  rw[List.zip_cons_cons,List.filterMap_cons,h (p,v) (by simp),aCc L (ps:=ps) (us:=us) (by simpa using hl) λq hq=>h q (by rw[List.zip_cons_cons];exact List.mem_cons_of_mem _ hq)]
  rfl
theorem aCd{α:Type}(L:List (Str×α)):∀{ps:List Str} {us:List α},ps.length=us.length->(∀p∈ps.zip us,L.lookup p.1=some p.2)->(ps.filter λn=>(L.lookup n).isNone)=[]
 | [],_,_,_=>by simp
 | p::ps,[],h,_=>by simp at h
 | p::ps,v::us,hl,h=>by
  rw[List.filter_cons,h (p,v) (by simp),aCd L (ps:=ps) (us:=us) (by simpa using hl) λq hq=>h q (by rw[List.zip_cons_cons];exact List.mem_cons_of_mem _ hq)]
  rfl
def iZ(a:Arguments)(ps:List Str):Bool:=match a with
 | ⟨[],as,none,[],[],none,[]⟩=>decide (as.map (·.arg)=ps)&&decide ps.Nodup
 | _=>false
theorem oG{x q:Str}{a:Arguments}{b:List Stmt}{sc:Scope}{kV doc pm:Value}{an:Option Addr}{cdv ct:Value}{ps:List Str}{us:List Value}(h:iZ a ps=true)(hl:us.length=ps.length) :
 bindArgs (fnOf x q a b sc .none kV doc pm an cdv ct) ⟨us,[]⟩=pure (ps.zip us):=by
 unfold iZ at h
 split at h
 . rename_i as
   obtain⟨h1,h2⟩:=Bool.and_eq_true_iff.mp h
   have h1:=of_decide_eq_true h1
   have h2:=of_decide_eq_true h2
   have z:∀p∈ps.zip us,(ps.zip us).lookup p.1=some p.2:=λp hp=>uL h2 hl.symm hp
   have e1:=aCd (ps.zip us) hl.symm z
   have e2:=aCc (ps.zip us) hl.symm z
   unfold bindArgs
   have e3:∀s:Value,s=.none->(seqItems? s)=pure none:=λs e=>by subst e;rfl
   simp only[mN,List.nil_append,h1,e3,List.forIn_nil,pure_bind,hl,gt_iff_lt,Nat.lt_irrefl,decide_false,Bool.false_and,Option.getD_none,lN,Nat.zero_sub,List.drop_nil,Nat.sub_zero,List.take_length,e1,List.isEmpty_nil,Bool.not_true,List.drop_length,List.zip_nil_right,List.append_nil,e2,if_false,bF]
 . cases h
def uM(s:Stmt):Bool:=match s with
 | .FunctionDef _ _ _ _ _ _ _ _ _ _=>true
 | _=>false
def aCe:D->Value->Bool
 | .int i,.int j _=>decide (i=j)
 | .str a,.str b _=>Fast.sEq a b
 | .non,.none=>true
 | .bl a,.bool b=>a==b
 | _,_=>false
def wJ(h:Heap)(c:Str×D):Bool:=match iC h c.1 with
 | some (some u)=>aCe c.2 u
 | _=>false
def kG:Value->Option Str
 | .str x _=>some x
 | _=>none
abbrev aCf:=Int×Option Str×Option (Value×List (Option Str))
def mX(h:Heap)(e:DictEntry):aCf:=(e.hash,kG e.key,match e.val with
 | .ref b=>(match h.get? b with
  | some ⟨c,_,.seq its _,_⟩=>some (c,its.toList.map kG)
  | _=>none)
 | _=>none)
def rS(h:Heap)(x:Str):Option (Bool×Value×Option Addr×Array (Option Value)×List aCf):=match iC h x with
 | some (some (.ref a))=>(match h.get? a with
  | some ⟨c,d,.dict es _,sl⟩=>some (a==sysModules,c,d,sl,es.toList.map (mX h))
  | _=>none)
 | _=>none
def rT(w:World)(p:Str×List Str):aCf:=(hashStr w p.1,some p.1,some (.type "tuple",p.2.map some))
def wK(w:World)(t:List (Str×List Str)):Option (Bool×Value×Option Addr×Array (Option Value)×List aCf):=some (false,.type "dict",none,#[],t.map (rT w))
def aAe(t:List (Str×List Str)):List (Str×D):=t.map λp=>(p.1,.tup (p.2.map D.str))
theorem xS:∀{us:List Value} {xs:List Str},us.map kG=xs.map some->aW (xs.map V.str) us
 | [],[],_=>.nil
 | [],_::_,h=>by cases h
 | _::_,[],h=>by cases h
 | u::us,x::xs,h=>by
  rw[mC,mC] at h
  obtain⟨h1,h2⟩:=List.cons.inj h
  refine .cons ?_ (xS h2)
  unfold kG at h1
  split at h1
  . cases h1;exact⟨_,rfl⟩
  . cases h1
theorem aGT{h:Heap}{w:World}{e:DictEntry}{p:Str×List Str}(q:mX h e=rT w p)(hl:p.2.length<=1000):ER w (iB h) e (p.1,.tup (p.2.map D.str)):=by
 unfold mX rT at q
 simp only[Prod.mk.injEq] at q
 obtain⟨q1,q2,q3⟩:=q
 refine⟨q1,?_,?_⟩
 . unfold kG at q2
   split at q2
   . rename_i y tk he
     exact⟨tk,by rw[he];exact congrArg (λz=>Value.str z tk) (Option.some.inj q2)⟩
   . cases q2
 . split at q3
   . rename_i b he
     split at q3
     . rename_i c d its n sl ho
       have q3:=Option.some.inj q3
       simp only[Prod.mk.injEq] at q3
       obtain⟨e1,e2⟩:=q3
       subst e1
       have hz:=congrArg List.length e2
       rw[lM,lM] at hz
       exact⟨.ref b,by rw[he];rfl,aBX (by rw[dB];exact ho) p.2 (by rw[<-Array.length_toList,hz];exact hl) (xS e2)⟩
     . cases q3
   . cases q3
theorem qD{h:Heap}{w:World}:∀{es:List DictEntry} {t:List (Str×List Str)},es.map (mX h)=t.map (rT w)->(∀p∈t,p.2.length<=1000)->Paired (ER w (iB h)) es (aAe t)
 | [],[],_,_=>.nil
 | [],_::_,q,_=>by cases q
 | _::_,[],q,_=>by cases q
 | e::es,p::t,q,hl=>by
  rw[mC,mC] at q
  obtain⟨h1,h2⟩:=List.cons.inj q
  exact .cons (aGT h1 (hl p (List.mem_cons_self ..))) (qD h2 λp' hp=>hl p' (List.mem_cons_of_mem _ hp))
def xT(t:List (Str×List Str)):Bool:=(t.all λp=>decide (p.2.length<=1000))&&decide (t.map (·.1)).Nodup
theorem aCg{prog:Program}{h:Heap}{w:World}{x:Str}{t:List (Str×List Str)}(e:rS h x=wK w t)(ok:xT t=true):∃a,nsIn (iB h) mainGlobals x=some (some (.ref a))/\pQ prog w (iB h) a (aAe t):=by
 unfold xT at ok
 rw[bA,List.all_eq_true] at ok
 unfold rS wK at e
 split at e
 . rename_i a hn
   split at e
   . rename_i c d es ep sl ho
     have e:=Option.some.inj e
     simp only[Prod.mk.injEq] at e
     obtain⟨e1,rfl,rfl,rfl,e5⟩:=e
     refine⟨a,(eD h x).trans hn,aGQ e1 (by rw[dB];exact ho) (qD e5 λp hp=>of_decide_eq_true (ok.1 p hp)) ?_⟩
     unfold aAe
     rw[List.map_map]
     exact of_decide_eq_true ok.2
   . cases e
 . cases e
def kH(h:Heap):List Str->Option (List Addr)
 | []=>some []
 | x::xs=>match iC h x,kH h xs with
  | some (some (.ref a)),some as=>some (a::as)
  | _,_=>none
def xU(h:Heap)(above:List (Str×List Cl))(cls:List Str):Bool:=match kH h cls with
 | some as=>above.all λca=>match iC h ca.1 with
  | some (some (.ref C))=>wG (iB h) C (as.zip (cls.map λx=>ca.2.contains (.own x))) (ca.2.contains .tValueError)
  | _=>false
 | none=>false
structure Sn where
 cns:List (Str×D)
 tbs:List (Str×List (Str×List Str))
 above:List (Str×List Cl)
 cls:List Str
abbrev aEZ:=List (Option Pin)×List (Option (Option Value))×Bool×List (Option (Bool×Value×Option Addr×Array (Option Value)×List aCf))×Bool
def jA(p:Program)(n:Sn)(h:Heap):aEZ:=
 ((p.main.body.filter uM).map (λst=>wH h (cX st)),bltNames.map (iC h),n.cns.all (wJ h),n.tbs.map (λq=>rS h q.1),xU h n.above n.cls)
def lQ(p:Program)(n:Sn)(w:World):aEZ:=
 ((p.main.body.filter uM).map (λst=>some (aCb st)),bltNames.map (λ_=>some none),true,n.tbs.map (λq=>wK w q.2),true)
def uN(p:Program)(i:Nat):Stmt:=p.main.body.getD i (.Pass ⟨0,0,0,0⟩)
def mP(p:Program)(c:Nat×List Str):Tx:=⟨cX (uN p c.1),cX (uN p c.1),uN p c.1,c.2⟩
theorem aGU{p:Program}{i:Nat}(h:uM (uN p i)=true):uN p i∈p.main.body:=by
 unfold uN at h ⊢
 rw[List.getD_eq_getElem?_getD] at h ⊢
 cases e:p.main.body[i]? with
 | none=>rw[e] at h;cases h
 | some s=>exact mG e
theorem aEq{h:Heap}{c:Str×D}(e:wJ h c=true):∃u v,nsIn (iB h) mainGlobals c.1=some (some u)/\bQ v u/\∀H ex,Rep (iB h) H ex c.2 v:=by
 unfold wJ at e
 split at e
 . rename_i u hn
   obtain⟨x,d⟩:=c
   have e:aCe d u=true:=e
   unfold aCe at e
   split at e
   . cases of_decide_eq_true e;exact⟨_,.int _,(eD _ _).trans hn,⟨_,rfl⟩,λ_ _=>rfl⟩
   . cases Fast.sEq_iff.mp e;exact⟨_,.str _,(eD _ _).trans hn,⟨_,rfl⟩,λ_ _=>rfl⟩
   . exact⟨_,.non,(eD _ _).trans hn,rfl,λ_ _=>rfl⟩
   . cases eq_of_beq e;exact⟨_,.bl _,(eD _ _).trans hn,rfl,λ_ _=>rfl⟩
   . cases e
 . cases e
theorem xV{h0 h:Heap}{mg:Str->Option Value}(X:(iB h0).In h)(G:h.Ns mainGlobals mg):∀{xs:List Str} {as:List Addr},kH h0 xs=some as->uK mg xs as
 | [],as,e=>by cases e;trivial
 | x::xs,as,e=>by
  unfold kH at e
  split at e
  . rename_i a as' e1 e2
    cases e
    exact⟨mg_of X G ((eD h0 x).trans e1),xV X G e2⟩
  . cases e
theorem aGV{prog p:Program}{w:World}{h0 h:Heap}{mg:Str->Option Value}{P:Pg}{Γ:Ct}{ix:List (Nat×List Str)}{n:Sn}(S:jA p n h0=lQ p n w)(k:∀b o,h0.get? b=some o->h.get? b=some o)(G:h.Ns mainGlobals mg)
 (hi:(ix.all λc=>uM (uN p c.1))=true) (h1:Γ.fns=(ix.map (mP p)).map (·.x)) (h2:Γ.cns=n.cns) (h3:Γ.tbs=n.tbs.map (·.1)) (h4:P.tabs=n.tbs.map λq=>aAe q.2) (h5:(n.tbs.all λq=>xT q.2)=true) (h6:P.above=n.above) (h7:Γ.cls=n.cls) (h8:(Γ.rsd.all λc=>(P.above.lookup c).isSome)=true)
 (hb:((P.fns.zip (ix.map (mP p))).all λq=>iZ (iS q.2.st) (q.2.N.take q.1.np))=true) (chk:iA Γ P.fns (ix.map (mP p))=true) :
 Top prog w (iB h0) mg P Γ (ix.map (mP p)):=by
 unfold jA lQ at S
 simp only[Prod.mk.injEq] at S
 obtain⟨s1,s2,s3,s4,s5⟩:=S
 have X:=xR k
 unfold xU at s5
 split at s5
 . rename_i as hr
   have ma:=xV X G hr
   rw[List.all_eq_true] at s5
   exact {
    fn:=λf t ht=>by
     rw[List.getElem?_map] at ht
     obtain⟨c,hc,rfl⟩:=Option.map_eq_some_iff.mp ht
     have hd:=List.all_eq_true.mp hi c (mG hc)
     obtain⟨fa,fd,g1,g2⟩:=aEp (List.map_inj_left.mp s1 _ (List.mem_filter.mpr ⟨aGU hd,hd⟩))
     refine⟨fa,fd,mg_of X G g1,g2,λF hF=>g2.binds λkV doc pm an cdv ct us hl=>oG (List.all_eq_true.mp hb (F,mP p c) (mG (i:=f) ?_)) hl⟩
     rw[List.getElem?_zip_eq_some]
     exact⟨hF,by rw[List.getElem?_map,hc];rfl⟩
    fns:=λf x hx=>by
     rw[h1,List.getElem?_map] at hx
     obtain⟨t,ht,rfl⟩:=Option.map_eq_some_iff.mp hx
     exact⟨t,ht,rfl⟩
    blt:=λx hx=>mg_none_of X G ((eD h0 x).trans (List.map_inj_left.mp s2 x hx))
    cns:=λx d hx=>by
     rw[h2] at hx
     obtain⟨u,v,g1,g2⟩:=aEq (List.all_eq_true.mp s3 _ (PySem.mem_of_lookup hx))
     exact⟨u,v,mg_of X G g1,g2⟩
    tab:=λi x hx=>by
     rw[h3,List.getElem?_map] at hx
     obtain⟨q,hq,rfl⟩:=Option.map_eq_some_iff.mp hx
     have hm:=mG hq
     obtain⟨a,g1,g2⟩:=aCg (prog:=prog) (List.map_inj_left.mp s4 q hm) (List.all_eq_true.mp h5 q hm)
     exact⟨a,aAe q.2,mg_of X G g1,by rw[h4,List.getElem?_map,hq];rfl,g2⟩
    exc:=λc ab hc=>by
     rw[h6] at hc
     have z:=s5 (c,ab) (PySem.mem_of_lookup hc)
     split at z
     . rename_i C hn
       refine⟨C,aBW (as:=as) (mg_of X G ((eD h0 c).trans hn)) ((eD h0 c).trans hn) ?_ ?_⟩
       . rw[h7];exact z
       . rw[h7];exact ma
     . cases z
    rsd:=λc hc=>Option.isSome_iff_exists.mp (List.all_eq_true.mp h8 c hc)
    cls:=λx hx=>aAc ma x (by rw[<-h7];exact hx)
    chk:=chk }
 . cases s5
theorem aCh{l:PySem.W.OpenLaw}{n k:Nat}{q:Program}{loose:List Str}{XP:(Str->Option Value)->Heap->Prop}{YP:World->Heap->Prop}{d:DefRec}{sp:PySem.W.Frag->Sp}{x:Str}(hn:l.most=some n)(hn2:n<=sizeLine)(hdf:d.params.defaults=[])(hr:mJ k callerA)
 (F:∀(w:World) (mg:Str->Option Value) (fa:Addr) (h:Heap),YP w h->h.Ns mainGlobals mg->mg d.name=some (.ref fa)->∃K:PySem.W.Frag,K.In h/\∃fd:FuncData,(∀(s:Shared) (u:Value),BindsTo s fd ⟨[u],[]⟩ [(x,u)])/\∀base:Heap,K.In base->base.Ns mainGlobals mg->qQ l.prog w K mg base (CX1 l.prog w) k fa fd [x] (sp K))
 (hsp:∀(K:PySem.W.Frag) (H:Hp) (a:Addr) (ns:List Int),ns.length<=n->aDy H->SqL K H a (ns.map V.int)->sp K [.ref a] H (λv _=>v=.bl true) λ_ _ _=>False):PySem.W.WalkO q loose XP YP l.row.toRowW d [] (λf vs=>PySem.call f vs):=by
 refine Att.attach_call hn hdf λw s₀ s₁ mg mb fa o pm cd doc a vs ns G Y ho hd hcd hmg hobj hints hlen hg=>?_
 obtain⟨K,KX,fd,hb,hF⟩:=F w mg fa _ Y G.T.g hmg
 exact aAQ KX G.T.g G.T.b G.T.builtins G.T.nolimit hg hobj hints (Nat.le_trans hlen hn2) hr hF hb (λH hO hS=>hsp K H a ns hlen hO hS) λ_ _ _ z=>aAb z
def lst(p:Program):Stmt:=p.main.body.getLastD (.Pass ⟨0,0,0,0⟩)
def qF(p:Program):Program:={ p with main:={ p.main with body:=[lst p] } }
def rU(p:Program):List Str:=(p.main.scope.names.map (·.1)).filter λx=>!(Fast.sEq x (cX (lst p)))
def aGW(s:Stmt):Pos:=match s with
 | .FunctionDef _ _ _ _ _ _ _ _ _ p=>p
 | _=>⟨0,0,0,0⟩
def jO(p:Program):DefRec:=⟨cX (lst p),iS (lst p),jW (lst p),cF (lst p),aGW (lst p)⟩
theorem aGX{l:PySem.W.OpenLaw}{P:Pg}{n:Sn}{rsd:List Str}{ix:List (Nat×List Str)}{k f N:Nat}{x:Str}{sl:List Str}(said:l.row.wellSaid=true)(left:LeftO l.prog (qF l.prog) (rU l.prog) (λ_=>true) (λs=>jA l.prog n s.heap) (λw=>lQ l.prog n w) N)
 (hdef:defOf (qF l.prog) l.name=some (jO l.prog,[])) (hp:l.prog.theDef l.name=some ((jO l.prog).params,(jO l.prog).body,(jO l.prog).scope)) (hk:kwWritten? (jO l.prog).params.kwonlyargs (jO l.prog).params.kw_defaults=some []) (hwr:(!l.writes||([]:WRecords).isEmpty)=true)
 (ok:(chainsOk (qF l.prog)&&opensWell l.prog&&(frees l.row.toRowW&&l.row.within.isEmpty))=true) (hb:l.prog.bare) (hw:l.row.toRowW.promised) (hn:l.most=some 63) (hdf:(jO l.prog).params.defaults=[])
 (hi:(ix.all λc=>uM (uN l.prog c.1))=true) (hbd:((P.fns.zip (ix.map (mP l.prog))).all λq=>iZ (iS q.2.st) (q.2.N.take q.1.np))=true) (chk:iA ⟨[],[],(ix.map (mP l.prog)).map (·.x),n.cns,n.cls,true,n.tbs.map (·.1),rsd⟩ P.fns (ix.map (mP l.prog))=true)
 (h4:P.tabs=n.tbs.map λq=>aAe q.2) (h5:(n.tbs.all λq=>xT q.2)=true) (h6:P.above=n.above) (h8:(rsd.all λc=>(P.above.lookup c).isSome)=true) (hr:mJ (k+1) callerA) (hx:(ix.map (mP l.prog))[f]? = some ⟨cX (lst l.prog),cX (lst l.prog),lst l.prog,x::sl⟩) (hnp:(P.fns[f]?).map (·.np)=some 1)
 (pure:∀ns:List Int,ns.length<=63->∃fr pa,Hp.call P (k+1) f [.lst (ns.map D.int)]=.ok (.bl true,fr,pa)):l.row.Holds:=by
 refine holds_open (XP:=λ_ _=>True) (YP:=λw h=>∃h0,jA l.prog n h0=lQ l.prog n w/\∀b o,h0.get? b=some o->h.get? b=some o) left (λw s e=>⟨s.heap,e,λ_ _ z=>z⟩) (λw h h' ⟨h0,e,k⟩ k'=>⟨h0,e,λb o z=>k' b o (k b o z)⟩) (λ_ _=>trivial) (λ_ _ _ _ _=>trivial) hdef hp hk (λ_ _=>recFacts_nil rfl) hwr said ok hb hw ?_
 obtain⟨F,hF,hFn⟩:=Option.map_eq_some_iff.mp hnp
 refine aCh (sp:=λK=>spF K P (k+1) f) (x:=x) hn (by decide) hdf hr (λw mg fa h ⟨h0,e,kk⟩ G hmg=>?_) λK H a ns hl hO hS=>aGP hO hS (pure ns hl)
 have T:=aGV (prog:=l.prog) (w:=w) (P:=P) (Γ:=⟨[],[],(ix.map (mP l.prog)).map (·.x),n.cns,n.cls,true,n.tbs.map (·.1),rsd⟩) e kk G hi rfl rfl rfl h4 h5 h6 rfl h8 hbd chk
 obtain⟨fa',fd,g1,g2,g3⟩:=T.fn f _ hx
 have e:=hmg.symm.trans g1
 cases e
 have b:=g3 F hF
 refine⟨iB h0,xR kk,fd,λs u=>?_,λbase _ _=>?_⟩
 . obtain⟨oc,od,kV,doc,pm,an,cdv,ct,osl,rfl,lk,hcd⟩:=g2.ex
   refine .of_eq ((oG (ps:=[x]) ?_ rfl).trans rfl)
   have:=List.all_eq_true.mp hbd (F,_) (mG (i:=f) (List.getElem?_zip_eq_some.mpr ⟨hF,hx⟩))
   rw[hFn] at this
   exact this
 . have:=aGO (base:=base) T hx hF g2 k
   rw[hFn] at this
   exact this
end Hh
end
noncomputable section
namespace Hp
open PySem (Str Operator CmpOp)
section
variable {P:Pg} {cl:Caller} {σ:Sg}
@[simp] theorem aB {α β:Type} (a:α) (f:α->R β):((R.ok a:R α) >>= f)=f a:=id rfl
@[simp] theorem fO {α:Type} (x:R α):R.iff true x=x:=id rfl
@[simp] theorem aLD {α:Type} (x:α):R.of (some x)=.ok x:=id rfl
@[simp] theorem aE {α:Type} (a:α) (f:α->O):O.from σ (.ok a) f=f a:=id rfl
@[simp] theorem dP (f:Sg->O):(O.next σ).on f=f σ:=id rfl
@[simp] theorem fP (v:Vl) (f:Sg->O):(O.ret v).on f=.ret v:=id rfl
@[simp] theorem bL (d:D):ev P cl σ (.c d)=.ok (.cl d):=id rfl
@[simp] theorem aX (i:Nat):ev P cl σ (.v i)=aO σ i:=id rfl
@[simp] theorem cP (o:Operator) (a b:E):ev P cl σ (.op o a b)=(ev P cl σ a >>= λx=>ev P cl σ b >>= λy=>opD o x y):=id rfl
@[simp] theorem aKV (a:E):ev P cl σ (.neg a)=(ev P cl σ a >>= λx=>match x.d with|.int i=>.ok (.cl (.int (-i)))|_=>.bad):=id rfl
@[simp] theorem aFa (a:E):ev P cl σ (.nt a)=(ev P cl σ a >>= λx=>fA x >>= λk=>.ok (.cl (.bl (!k)))):=id rfl
@[simp] theorem aFb (a b:E):ev P cl σ (.an a b)=(ev P cl σ a >>= λx=>match x.d with|.bl true=>ev P cl σ b|.bl false=>.ok (.cl (.bl false))|_=>.bad):=id rfl
@[simp] theorem aCi (a b:E):ev P cl σ (.orr a b)=(ev P cl σ a >>= λx=>match x.d with|.bl true=>.ok (.cl (.bl true))|.bl false=>ev P cl σ b|_=>.bad):=id rfl
@[simp] theorem wL (t a b:E):ev P cl σ (.ife t a b)=(tst P cl σ t >>= λx=>if x then ev P cl σ a else ev P cl σ b):=id rfl
@[simp] theorem lR (o:CmpOp) (a b:E):ev P cl σ (.cmp o a b)=(ev P cl σ a >>= λx=>ev P cl σ b >>= λy=>match cT o x.d y.d with|some k=>.ok (.cl (.bl k))|none=>.bad):=id rfl
@[simp] theorem aJN (o o':CmpOp) (a b c:E):ev P cl σ (.cmp2 o o' a b c)=(ev P cl σ a >>= λx=>ev P cl σ b >>= λy=>match cT o x.d y.d with
 | some true=>ev P cl σ c >>= λz=>(match cT o' y.d z.d with|some k=>.ok (.cl (.bl k))|none=>.bad)
 | some false=>.ok (.cl (.bl false))
 | none=>.bad):=id rfl
@[simp] theorem bX (a b:E):ev P cl σ (.idx a b)=(ev P cl σ a >>= λx=>ev P cl σ b >>= λy=>bW x y):=id rfl
@[simp] theorem fM (es:Es):ev P cl σ (.tup es)=(evs P cl σ es >>= λvs=>.ok (cW vs)):=id rfl
@[simp] theorem rV (es:Es):ev P cl σ (.lst es)=(evs P cl σ es >>= λvs=>.ok (gM vs)):=id rfl
@[simp] theorem aZ (f:Nat) (es:Es):ev P cl σ (.call f es)=(evs P cl σ es >>= λvs=>cl f (vs.map (·.d)) >>= λr=>.ok (fB vs r)):=id rfl
@[simp] theorem iD (b:Bi) (es:Es):ev P cl σ (.bi b es)=(evs P cl σ es >>= λvs=>biD b vs):=id rfl
@[simp] theorem aKW (m:Mt) (o:E) (es:Es):ev P cl σ (.mth m o es)=(ev P cl σ o >>= λx=>evs P cl σ es >>= λys=>mtD m x ys):=id rfl
@[simp] theorem aKX (a:E) (cs:List Cl):ev P cl σ (.isi a cs)=(ev P cl σ a >>= λx=>match isI cs P x.d with|some k=>.ok (.cl (.bl k))|none=>.bad):=id rfl
@[simp] theorem xW (a:E) (h:E):ev P cl σ (.sli a .nil (.cons h .nil))=(ev P cl σ a >>= λx=>ev P cl σ h >>= λh=>match h.d with|.int h=>.iff (aI h) (dH x none (some h))|_=>.bad):=by
 show(ev P cl σ a >>= λx=>evs P cl σ .nil >>= λl=>evs P cl σ (.cons h .nil) >>= λh=>_)=_
 cases ev P cl σ a with
 | ok x=>
  show(evs P cl σ (.cons h .nil) >>= λh=>_)=(ev P cl σ h >>= λh=>_)
  show((ev P cl σ h >>= λx=>evs P cl σ .nil >>= λxs=>R.ok (x::xs)) >>= λh=>_)=_
  cases ev P cl σ h <;> rfl
 | exc e=>rfl
 | bad=>rfl
@[simp] theorem dL {α:Type} (a:α):(R.ok a).calm=R.ok a:=id rfl
theorem rW(k:Nat)(caps:List Nat)(t:T)(it:It)(cond:Es)(elt:E):ev P cl σ (.comp k caps t it cond elt)=(walk P cl σ it >>= λxs=>.iff (decide (xs.1.length<=lim)) (
 dX (λx=>bR (List.replicate k .dead++caps.map λi=>((freeze σ xs.2)[i]?).getD .dead) x t >>= λσ1=>(tsts P cl σ1 cond).calm >>= λk=>if k then (ev P cl σ1 elt >>= λy=>.ok (some y)) else .ok none) xs.1 >>= λvs=>
 .ok (eP k caps xs.2 vs))):=rfl
@[simp] theorem aHm (a:E):ev P cl σ (.numset a)=(ev P cl σ a >>= λx=>match x.d with
 | .lst ds=>(match rG ds with|some ks=>.iff (decide (ds.length<=1000)) (.ok (.cl (.int (aAS ks).length)))|none=>.bad)
 | _=>.bad):=id rfl
@[simp] theorem aF:evs P cl σ .nil=.ok []:=id rfl
@[simp] theorem aC (e:E) (es:Es):evs P cl σ (.cons e es)=(ev P cl σ e >>= λx=>evs P cl σ es >>= λxs=>.ok (x::xs)):=id rfl
@[simp] theorem jP (a:E):tst P cl σ (.nt a)=(tst P cl σ a >>= λx=>.ok (!x)):=id rfl
@[simp] theorem lT (a b:E):tst P cl σ (.an a b)=(tst P cl σ a >>= λx=>if x then tst P cl σ b else .ok false):=id rfl
@[simp] theorem dF (a b:E):tst P cl σ (.orr a b)=(tst P cl σ a >>= λx=>if x then .ok true else tst P cl σ b):=id rfl
@[simp] theorem aLA (d:D):tst P cl σ (.c d)=fA (.cl d):=id rfl
@[simp] theorem aCj (i:Nat):tst P cl σ (.v i)=(aO σ i >>= λx=>fA x):=id rfl
@[simp] theorem aR (o:CmpOp) (a b:E):tst P cl σ (.cmp o a b)=(ev P cl σ a >>= λx=>ev P cl σ b >>= λy=>match cT o x.d y.d with|some k=>.ok k|none=>.bad):=id rfl
@[simp] theorem aJv (o o':CmpOp) (a b c:E):tst P cl σ (.cmp2 o o' a b c)=(ev P cl σ a >>= λx=>ev P cl σ b >>= λy=>match cT o x.d y.d with
 | some true=>ev P cl σ c >>= λz=>(match cT o' y.d z.d with|some k=>.ok k|none=>.bad)
 | some false=>.ok false
 | none=>.bad):=id rfl
@[simp] theorem kI (f:Nat) (es:Es):tst P cl σ (.call f es)=(evs P cl σ es >>= λvs=>cl f (vs.map (·.d)) >>= λr=>fA (fB vs r)):=id rfl
@[simp] theorem jB (a:E) (cs:List Cl):tst P cl σ (.isi a cs)=(ev P cl σ a >>= λx=>match isI cs P x.d with|some k=>.ok k|none=>.bad):=id rfl
@[simp] theorem aJO (a b:E):tst P cl σ (.idx a b)=(ev P cl σ a >>= λx=>ev P cl σ b >>= λy=>bW x y >>= λz=>fA z):=id rfl
@[simp] theorem aCk:tsts P cl σ .nil=.ok true:=id rfl
@[simp] theorem aAf (e:E) (es:Es):tsts P cl σ (.cons e es)=(tst P cl σ e >>= λx=>if x then tsts P cl σ es else .ok false):=id rfl
@[simp] theorem aCl (a b:E):walk P cl σ (.rng a b)=(ev P cl σ a >>= λx=>ev P cl σ b >>= λy=>match x.d,y.d with|.int i,.int j=>.iff (aI i&&aI j) (.ok ((fT i j).map .cl,[]))|_,_=>.bad):=id rfl
@[simp] theorem cU (e:E):walk P cl σ (.seq e)=(ev P cl σ e >>= λx=>match x.d with
 | .lst ds=>.ok (items x ds,x.al)
 | .tup ds=>.ok (items x ds,x.al)
 | .str a=>.iff (decide (a.length<=lim)) (.ok (a.cps.toList.map λn=>.cl (.str ⟨#[n]⟩),[]))
 | _=>.bad):=id rfl
@[simp] theorem iE (a b:E):walk P cl σ (.zip a b)=(ev P cl σ a >>= λx=>ev P cl σ b >>= λy=>match eY x.d,eY y.d with
 | some as,some bs=>.ok (items ⟨.non,false,x.pa||y.pa,x.al++y.al⟩ (dR as bs),x.al++y.al)
 | _,_=>.bad):=id rfl
@[simp] theorem bT (t:T) (e:E):ex P cl σ (.set t e)=O.from σ (ev P cl σ e) λv=>O.from σ (bR (freeze σ v.al) v t) .next:=id rfl
@[simp] theorem oH (i:Nat) (e:E):ex P cl σ (.app i e)=O.from σ (ev P cl σ e).calm λv=>put σ i v λds=>some (ds++[v.d]):=id rfl
@[simp] theorem aCm (i:Nat) (e:E):ex P cl σ (.ext i e)=O.from σ (ev P cl σ e).calm λv=>match nL v with|some (v',ds')=>put σ i v' λds=>some (ds++ds')|none=>.bad:=id rfl
@[simp] theorem aKY (i:Nat):ex P cl σ (.clr i)=put σ i (.cl .non) λ_=>some []:=id rfl
@[simp] theorem aJw (i:Nat) (k e:E):ex P cl σ (.setIx i k e)=O.from σ (ev P cl σ e) λv=>O.from σ (ev P cl σ k).calm λkv=>match kv.d with
 | .int k=>put σ i v λds=>(match ixN ds.length k with|some j=>some (ds.set j v.d)|none=>none)
 | _=>.bad:=id rfl
@[simp] theorem iF (e:E):ex P cl σ (.ret e)=O.from σ (ev P cl σ e) .ret:=id rfl
@[simp] theorem bJ (c:E) (a b:Ss):ex P cl σ (.iff c a b)=O.from σ (tst P cl σ c) λk=>if k then exs P cl σ a else exs P cl σ b:=id rfl
theorem gD(t:T)(it:It)(b:Ss):ex P cl σ (.for t it b)=O.from σ (walk P cl σ it) λxs=>cZ (λσ x=>O.from σ (bR σ x t) λσ'=>exs P cl σ' b) xs.1 (freeze σ xs.2):=rfl
@[simp] theorem aKZ (i j:Nat):ex P cl σ (.mov i j)=(match σ[j]? with
 | some (.own pa ds)=>if i=j then .bad else .next ((σ.set j .dead).set i (.own pa ds))
 | some (.sh pa d)=>.next (σ.set i (.sh (pa&&!noL d) d))
 | _=>.bad):=id rfl
@[simp] theorem jC (i:Nat):ex P cl σ (.retv i)=(match σ[i]? with|some (.own pa ds)=>.ret ⟨.lst ds,true,pa,[]⟩|_=>O.from σ (aO σ i) .ret):=id rfl
@[simp] theorem aJx (i:Nat) (k:E):ex P cl σ (.pop none i (some k))=O.from σ ((ev P cl σ k).calm >>= λv=>match v.d with|.int k=>.iff (aI k) (.ok (some k))|_=>.bad) λk=>O.from σ (dW σ i k) λr=>.next r.2:=id rfl
@[simp] theorem aK:exs P cl σ .nil=.next σ:=id rfl
@[simp] theorem aG (s:S) (ss:Ss):exs P cl σ (.cons s ss)=(ex P cl σ s).on λσ'=>exs P cl σ' ss:=id rfl
end
theorem bB{P:Pg}{cl:Caller}{f:Nat}{F:Fn}{ds:List D}(hF:P.fns[f]? = some F)(hl:ds.length=F.np){v:Vl}
 (h:exs P cl ((ds.map λd=>Sl.sh true d)++List.replicate (F.ns-F.np) Sl.dead) F.body=.ret v):nM P cl f ds=.ok (v.d,v.fr,v.pa):=by
 unfold nM
 rw[hF]
 simp only[hl,if_true,h]
theorem uO{f:Sg->Vl->O}:∀(xs:List Vl) (I:Nat->Sg->Prop) (σ:Sg),I 0 σ->(∀(i:Nat) (h:i<xs.length) (σ:Sg),I i σ->∃σ',f σ xs[i]=.next σ'/\I (i+1) σ')->∃σ',cZ f xs σ=.next σ'/\I xs.length σ'
 | [],I,σ,h0,_=>⟨σ,rfl,h0⟩
 | x::xs,I,σ,h0,hs=>by
  obtain⟨σ1,e1,h1⟩:=hs 0 (by simp) σ h0
  obtain⟨σ2,e2,h2⟩:=uO xs (λi=>I (i+1)) σ1 h1 λi h σ hI=>by
   have:=hs (i+1) (by simpa using h) σ hI
   simpa using this
  refine⟨σ2,?_,by simpa using h2⟩
  have e1:f σ x=.next σ1:=by simpa using e1
  unfold cZ
  rw[e1]
  exact e2
theorem oI{f:Vl->R (Option Vl)}{g:Vl->Vl}:∀{xs:List Vl},(∀x∈xs,f x=.ok (some (g x)))->dX f xs=.ok (xs.map g)
 | [],_=>rfl
 | x::xs,h=>by
  have h1:=h x List.mem_cons_self
  have h2:=oI (f:=f) (g:=g) (xs:=xs) λy hy=>h y (List.mem_cons_of_mem _ hy)
  show(f x >>= λy=>dX f xs >>= λys=>(match y with|some y=>R.ok (y::ys)|none=>R.ok ys))=_
  rw[h1,h2]
  rfl
theorem aGY(n:Nat):(fT 0 (n:Int)).map Vl.cl=(List.range n).map λ(k:Nat)=>Vl.cl (.int (k:Int)):=by
 unfold fT
 rw[List.map_map]
 simp
theorem aEr{P:Pg}{cl:Caller}{σ:Sg}{k:Nat}{caps:List Nat}{t:T}{it:It}{elt:E}{xs:List Vl}{al:List Nat}(g:Vl->Vl)(hw:walk P cl σ it=.ok (xs,al))(hl:xs.length<=lim)
 (hb:∀x∈xs,∃σ1,bR (List.replicate k .dead++caps.map λi=>((freeze σ al)[i]?).getD .dead) x t=.ok σ1/\ev P cl σ1 elt=.ok (g x)):ev P cl σ (.comp k caps t it .nil elt)=.ok (eP k caps al (xs.map g)):=by
 rw[rW,hw,aB,oI (g:=g) λx hx=>by
  obtain⟨σ1,e1,e2⟩:=hb x hx
  show(bR _ x t >>= λσ1=>_)=_
  rw[e1]
  show(ev P cl σ1 elt >>= λy=>R.ok (some y))=_
  rw[e2]
  rfl]
 show R.iff (decide (xs.length<=lim)) (R.ok (eP k caps al (List.map g xs)))=_
 rw[decide_eq_true hl,fO]
theorem eM{P:Pg}{cl:Caller}{σ:Sg}{t:T}{it:It}{b:Ss}{xs:List Vl}{al:List Nat}(I:Nat->Sg->Prop)(hw:walk P cl σ it=.ok (xs,al))(h0:I 0 (freeze σ al))
 (hs:∀(i:Nat) (h:i<xs.length) (σ:Sg),I i σ->∃σ1 σ',bR σ xs[i] t=.ok σ1/\exs P cl σ1 b=.next σ'/\I (i+1) σ'):∃σ',ex P cl σ (.for t it b)=.next σ'/\I xs.length σ':=by
 rw[gD,hw]
 refine uO xs I _ h0 λi h σ hI=>?_
 obtain⟨σ1,σ',e1,e2,h'⟩:=hs i h σ hI
 refine⟨σ',?_,h'⟩
 show O.from σ (bR σ xs[i] t) _=_
 rw[e1]
 exact e2
theorem aEs:aI 0=true:=by decide
theorem rX{n:Nat}(hn:n<=1000000):aI (n:Int)=true:=by
 unfold aI
 rw[bA,decide_eq_true_eq,decide_eq_true_eq]
 exact⟨Int.le_trans (b:=0) (by decide) (Int.natCast_nonneg n),Int.lt_of_le_of_lt (b:=1000000) (by omega) (by decide)⟩
theorem aEt{n:Int}(h0:0<=n)(hn:n<=1000000):aI n=true:=by
 have:=rX (n:=n.toNat) (by omega)
 rwa [Int.toNat_of_nonneg h0] at this
theorem gE{P:Pg}{cl:Caller}{σ:Sg}{a:E}{v:Vl}{n:Nat}(h:ev P cl σ a=.ok v)(hd:v.d=.int n)(hn:n<=1000000):walk P cl σ (.rng (.c (.int 0)) a)=.ok ((List.range n).map λ(k:Nat)=>Vl.cl (.int (k:Int)),[]):=by
 rw[aCl,h,bL,aB,aB,hd,<-aGY]
 show R.iff (aI 0&&aI (n:Int)) _=_
 rw[aEs,rX hn]
 rfl
theorem qG{k:Nat}{caps al:List Nat}{vs:List Vl}(h:noLs (vs.map (·.d))=true):eP k caps al vs=⟨.lst (vs.map (·.d)),true,false,[]⟩:=by
 unfold eP
 rw[if_pos h]
end Hp
end
noncomputable section
namespace HpS
open Hp PySem
def box(b:Str×Int):D:=.tup [.str b.1,.int b.2]
def eN(bs:List (Str×Int)):List D:=bs.map box
def aL(is:List Int):D:=.tup (is.map D.int)
structure uP (bs:List (Str×Int)):Prop where
 few:bs.length<=5
 one:∀b∈bs,1<=b.2/\b.2<=7
 room:(bs.map λb=>b.2+1).foldl (·*·) 1<=24
def prod(bs:List (Str×Int)):Int:=(bs.map λb=>b.2+1).foldl (·*·) 1
theorem oJ:∀is:List Int,noLs (is.map D.int)=true
 | []=>rfl
 | i::is=>by simp[noLs,noL,oJ is]
@[simp] theorem bC (is:List Int):noL (aL is)=true:=by simp[aL,noL,oJ]
@[simp] theorem aJP (b:Str×Int):noL (box b)=true:=by simp[box,noL,noLs]
theorem iG:∀ss:List (List Int),noLs (ss.map aL)=true
 | []=>rfl
 | s::ss=>by simp[noLs,iG ss]
theorem uQ{v:Vl}(bs:List (Str×Int)):items v (eN bs)=bs.map λb=>Vl.cl (box b):=by
 simp[items,eN,Vl.sub,Function.comp_def]
theorem rY:∀(xs:List Int) (a:Int),1<=a->(∀x∈xs,1<=x)->a<=xs.foldl (·*·) a
 | [],a,_,_=>Int.le_refl _
 | x::xs,a,ha,h=>by
  have hx:=h x List.mem_cons_self
  have h1:a<=a*x:=by
   have:=Int.mul_le_mul_of_nonneg_left hx (show 0<=a by omega)
   omega
  exact Int.le_trans h1 (rY xs (a*x) (by omega) λy hy=>h y (List.mem_cons_of_mem _ hy))
theorem rZ(bs:List (Str×Int))(h:∀b∈bs,1<=b.2)(i:Nat):1<=prod (bs.take i)/\prod (bs.take i)<=prod bs:=by
 have pos:∀(l:List (Str×Int)),(∀b∈l,1<=b.2)->∀x∈l.map (λb=>b.2+1),1<=x:=λl hl x hx=>by
  obtain⟨b,hb,rfl⟩:=List.mem_map.mp hx
  have:=hl b hb
  omega
 have e:bs=bs.take i++bs.drop i:=(List.take_append_drop i bs).symm
 have h1:1<=prod (bs.take i):=rY _ 1 (by omega) (pos _ λb hb=>h b (List.mem_of_mem_take hb))
 refine⟨h1,?_⟩
 have:prod bs=((bs.drop i).map λb=>b.2+1).foldl (·*·) (prod (bs.take i)):=by
  unfold prod
  conv=>lhs;rw[e,List.map_append,List.foldl_append]
 rw[this]
 exact rY _ _ h1 (pos _ λb hb=>h b (List.mem_of_mem_drop hb))
theorem aAg{bs:List (Str×Int)}{i:Nat}(h:i<bs.length):prod (bs.take (i+1))=prod (bs.take i)*(bs[i].2+1):=by
 rw[List.take_succ_eq_append_getElem h]
 unfold prod
 rw[List.map_append,List.foldl_append]
 rfl
def sA:Fn:=⟨1,6,
 (.cons (.set (.n 1) (.lst (.cons (.tup .nil) .nil)))
 (.cons (.for (.t [2,3]) (.seq (.v 0))
  (.cons (.set (.n 4) (.lst .nil))
  (.cons (.for (.n 5) (.seq (.v 1))
   (.cons (.ext 4 (.comp 1 [5] (.n 0) (.rng (.c (.int 0)) (.op .Add (.v 3) (.c (.int 1)))) .nil (.op .Add (.v 1) (.tup (.cons (.v 0) .nil)))))
   .nil))
  (.cons (.mov 1 4)
  .nil))))
 (.cons (.retv 1)
 .nil)))⟩
def dJ(b:List Int)(top:Int):List (List Int):=(List.range (top+1).toNat).map λ(h:Nat)=>b++[(h:Int)]
def iH(found:List (List Int))(top:Int):List (List Int):=found.flatMap λb=>dJ b top
def standsL(bs:List (Str×Int)):List (List Int):=bs.foldl (λfound b=>iH found b.2) [[]]
theorem gF{bs:List (Str×Int)}{i:Nat}(h:i<bs.length):standsL (bs.take (i+1))=iH (standsL (bs.take i)) bs[i].2:=by
 rw[List.take_succ_eq_append_getElem h]
 unfold standsL
 rw[List.foldl_append]
 rfl
theorem wM(found:List (List Int))(top:Int):(iH found top).length=found.length*(top+1).toNat:=by
 induction found with
 | nil=>simp[iH]
 | cons b r ih=>
  unfold iH at ih ⊢
  rw[List.flatMap_cons,lA,ih,lC,Nat.succ_mul]
  simp[dJ]
  omega
theorem sB{bs:List (Str×Int)}(h:uP bs):∀i,i<=bs.length->((standsL (bs.take i)).length:Int)=prod (bs.take i)/\∀s∈standsL (bs.take i),s.length=i
 | 0,_=>by simp[standsL,prod]
 | i+1,hi=>by
  have hi':i<bs.length:=by omega
  obtain⟨h1,h2⟩:=sB h i (by omega)
  obtain⟨g2,g3⟩:=h.one bs[i] (List.getElem_mem hi')
  rw[gF hi',aAg hi',wM]
  refine⟨?_,λs hs=>?_⟩
  . rw[Int.natCast_mul,h1,Int.toNat_of_nonneg (by omega)]
  . obtain⟨b,hb,hs⟩:=List.mem_flatMap.mp hs
    obtain⟨k,_,rfl⟩:=List.mem_map.mp hs
    rw[lA,h2 b hb];rfl
theorem aFc{bs:List (Str×Int)}(h:uP bs)(i:Nat)(hi:i<=bs.length):(standsL (bs.take i)).length<=24:=by
 have h1:=(sB h i hi).1
 have h2:=(rZ bs (λb hb=>(h.one b hb).1) i).2
 have h3:prod bs<=24:=h.room
 omega
theorem mF{found:List (List Int)}{top:Int}{j:Nat}(h:j<found.length):(found.take (j+1)).flatMap (λb=>dJ b top)=(found.take j).flatMap (λb=>dJ b top)++dJ found[j] top:=by
 rw[List.take_succ_eq_append_getElem h,List.flatMap_append]
 simp
theorem aEu{found:List (List Int)}{top:Int}(j:Nat):((found.take j).flatMap λb=>dJ b top).length<=(iH found top).length:=by
 have e:found=found.take j++found.drop j:=(List.take_append_drop j found).symm
 unfold iH
 conv=>rhs;rw[e,List.flatMap_append,lA]
 omega
theorem sC{v:Vl}(ss:List (List Int)):items v (ss.map aL)=ss.map λs=>Vl.cl (aL s):=by
 simp[items,Vl.sub,Function.comp_def]
theorem aCn{P:Pg}(n:Nat){s0 s1 s2 s4:Sl}{b:List Int}{top:Int}(ht:1<=top)(ht7:top<=7)(hb:b.length<=10) :
 ev P (call P n) [s0,s1,s2,.sh false (.int top),s4,.sh false (aL b)] (.comp 1 [5] (.n 0) (.rng (.c (.int 0)) (.op .Add (.v 3) (.c (.int 1)))) .nil (.op .Add (.v 1) (.tup (.cons (.v 0) .nil))))=.ok ⟨.lst ((dJ b top).map aL),true,false,[]⟩:=by
 have hw:walk P (call P n) [s0,s1,s2,.sh false (.int top),s4,.sh false (aL b)] (.rng (.c (.int 0)) (.op .Add (.v 3) (.c (.int 1))))=.ok ((List.range (top+1).toNat).map λ(k:Nat)=>Vl.cl (.int (k:Int)),[]):=by
  refine gE (v:=.cl (.int (top+1))) ?_ ?_ (by omega)
  . simp[aO,Sl.val,opD,Vl.cl,noL]
  . show D.int (top+1)=D.int ((top+1).toNat:Int)
    rw[Int.toNat_of_nonneg (by omega)]
 rw[aEr (λv=>match v.d with|.int k=>.cl (aL (b++[k]))|_=>.cl .non) hw]
 . have e:(((List.range (top+1).toNat).map λ(k:Nat)=>Vl.cl (.int (k:Int))).map λv=>(match v.d with|.int k=>Vl.cl (aL (b++[k]))|_=>Vl.cl .non)).map (·.d)=(dJ b top).map aL:=by
    simp[dJ,Vl.cl,Function.comp_def]
   rw[qG (by rw[e];exact iG _),e]
 . simp only[lM,List.length_range];unfold lim;omega
 . intro y hy
   obtain⟨k,hk,rfl⟩:=List.mem_map.mp hy
   have hl:b.length+1<=lim:=by unfold lim;omega
   refine⟨[.sh false (.int k),.sh false (aL b)],?_,?_⟩
   . simp[bR,Vl.cl,Vl.slot,freeze]
   . simp[aO,Sl.val,Vl.cl,opD,cW,eX,bH,aL,noL,hl,oJ]
theorem qH{P:Pg}{f:Nat}(hF:P.fns[f]? = some sA)(n:Nat){bs:List (Str×Int)}(h:uP bs):call P (n+1) f [.lst (eN bs)]=.ok (.lst ((standsL bs).map aL),true,false):=by
 obtain⟨σ',e,hI⟩:=eM (P:=P) (cl:=call P n) (σ:=[.sh true (.lst (eN bs)),.own false [.tup []],.dead,.dead,.dead,.dead]) (t:=.t [2,3]) (it:=.seq (.v 0))
  (b:=.cons (.set (.n 4) (.lst .nil)) (.cons (.for (.n 5) (.seq (.v 1)) (.cons (.ext 4 (.comp 1 [5] (.n 0) (.rng (.c (.int 0)) (.op .Add (.v 3) (.c (.int 1)))) .nil (.op .Add (.v 1) (.tup (.cons (.v 0) .nil))))) .nil)) (.cons (.mov 1 4) .nil)))
  (xs:=bs.map λb=>Vl.cl (box b)) (al:=[])
  (λi σ=>∃s2 s3 s4 s5,σ=[.sh true (.lst (eN bs)),.own false ((standsL (bs.take i)).map aL),s2,s3,s4,s5])
  (by simp[aO,Sl.val,uQ]) ⟨_,_,_,_,rfl⟩ (λi hi σ hσ=>by
   obtain⟨s2,s3,s4,s5,rfl⟩:=hσ
   have hi':i<bs.length:=by simpa using hi
   obtain⟨g2,g3⟩:=h.one bs[i] (List.getElem_mem hi')
   have hl24:=aFc h (i+1) hi'
   rw[gF hi'] at hl24
   obtain⟨_,hlen⟩:=sB h i (by omega)
   have hfew:=h.few
   obtain⟨σ2,e2,hJ⟩:=eM (P:=P) (cl:=call P n) (σ:=[.sh true (.lst (eN bs)),.own false ((standsL (bs.take i)).map aL),.sh false (.str bs[i].1),.sh false (.int bs[i].2),.own false [],s5]) (t:=.n 5) (it:=.seq (.v 1))
    (b:=.cons (.ext 4 (.comp 1 [5] (.n 0) (.rng (.c (.int 0)) (.op .Add (.v 3) (.c (.int 1)))) .nil (.op .Add (.v 1) (.tup (.cons (.v 0) .nil))))) .nil)
    (xs:=(standsL (bs.take i)).map λs=>Vl.cl (aL s)) (al:=[1])
    (λj σ=>∃s5,σ=[.sh true (.lst (eN bs)),.sh false (.lst ((standsL (bs.take i)).map aL)),.sh false (.str bs[i].1),.sh false (.int bs[i].2),.own false ((((standsL (bs.take i)).take j).flatMap λb=>dJ b bs[i].2).map aL),s5])
    (by simp[aO,Sl.val,sC]) ⟨_,by simp[freeze,Sl.freeze];rfl⟩ (λj hj σ hσ=>by
     obtain⟨s5,rfl⟩:=hσ
     have hj':j<(standsL (bs.take i)).length:=by simpa using hj
     have hb:(standsL (bs.take i))[j].length<=10:=by rw[hlen _ (List.getElem_mem hj')];omega
     have hc:=aCn (P:=P) n (s0:=.sh true (.lst (eN bs))) (s1:=.sh false (.lst ((standsL (bs.take i)).map aL))) (s2:=.sh false (.str bs[i].1)) (s4:=.own false ((((standsL (bs.take i)).take j).flatMap λb=>dJ b bs[i].2).map aL)) (b:=(standsL (bs.take i))[j]) g2 g3 hb
     have hle:=aEu (found:=standsL (bs.take i)) (top:=bs[i].2) (j+1)
     rw[mF hj',lA] at hle
     have hlim:((((standsL (bs.take i)).take j).flatMap λb=>dJ b bs[i].2).map aL++(dJ (standsL (bs.take i))[j] bs[i].2).map aL).length<=lim:=by
      rw[lA,lM,lM];unfold lim;omega
     refine⟨[.sh true (.lst (eN bs)),.sh false (.lst ((standsL (bs.take i)).map aL)),.sh false (.str bs[i].1),.sh false (.int bs[i].2),.own false ((((standsL (bs.take i)).take j).flatMap λb=>dJ b bs[i].2).map aL),.sh false (aL (standsL (bs.take i))[j])],
      [.sh true (.lst (eN bs)),.sh false (.lst ((standsL (bs.take i)).map aL)),.sh false (.str bs[i].1),.sh false (.int bs[i].2),.own false ((((standsL (bs.take i)).take (j+1)).flatMap λb=>dJ b bs[i].2).map aL),.sh false (aL (standsL (bs.take i))[j])],?_,?_,⟨_,rfl⟩⟩
     . simp[bR,Vl.cl,Vl.slot]
     . rw[aG,aCm,hc,dL,aE]
       show(match nL ⟨.lst ((dJ (standsL (bs.take i))[j] bs[i].2).map aL),true,false,[]⟩ with|some (v',ds')=>put _ 4 v' λds=>some (ds++ds')|none=>.bad).on _=_
       simp only[nL,iG,if_true]
       unfold put
       simp only[freeze,eF,gS,gZ]
       rw[if_pos hlim]
       simp[mF hj'])
   obtain⟨s5',rfl⟩:=hJ
   refine⟨[.sh true (.lst (eN bs)),.own false ((standsL (bs.take i)).map aL),.sh false (.str bs[i].1),.sh false (.int bs[i].2),s4,s5],[.sh true (.lst (eN bs)),.own false ((standsL (bs.take (i+1))).map aL),.sh false (.str bs[i].1),.sh false (.int bs[i].2),.dead,s5'],?_,?_,⟨_,_,_,_,rfl⟩⟩
   . simp[bR,box,Vl.cl,Vl.sub,noL,Vl.slot]
   . have et:(standsL (bs.take i)).take ((standsL (bs.take i)).map λs=>Vl.cl (aL s)).length=standsL (bs.take i):=by simp
     rw[et] at e2
     simp[gM,eX,bH,bR,freeze,Vl.slot,e2,gF hi',iH])
 obtain⟨s2,s3,s4,s5,rfl⟩:=hI
 have et:bs.take (bs.map λb=>Vl.cl (box b)).length=bs:=by simp
 rw[et] at e
 refine bB (F:=sA) hF rfl (v:=⟨.lst ((standsL bs).map aL),true,false,[]⟩) ?_
 simp[sA,gM,cW,eX,bH,bR,freeze,Vl.slot,e]
end HpS
end
noncomputable section
namespace Hp
open PySem (Str)
@[simp] theorem aJQ (d:D):(⟨d,false,false,[]⟩:Vl)=.cl d:=id rfl
@[simp] theorem aS (d:D):(Vl.cl d).d=d:=id rfl
@[simp] theorem aLB (d:D):(Vl.cl d).fr=false:=id rfl
@[simp] theorem fQ (d:D):(Vl.cl d).pa=false:=id rfl
@[simp] theorem cH (d:D):(Vl.cl d).al=[]:=id rfl
@[simp] theorem bU (d:D):(Vl.cl d).slot=.sh false d:=by cases d <;> rfl
@[simp] theorem dN (ds:List D) (pa:Bool) (al:List Nat):(⟨.lst ds,true,pa,al⟩:Vl).slot=.own pa ds:=id rfl
@[simp] theorem aN (i:Nat) (d:D):Sl.val i (.sh false d)=.ok (.cl d):=id rfl
@[simp] theorem cI (i:Nat) (pa:Bool) (k:Int):Sl.val i (.sh pa (.int k))=.ok (.cl (.int k)):=by cases pa <;> rfl
@[simp] theorem jD (i:Nat) (pa:Bool) (k:Str):Sl.val i (.sh pa (.str k))=.ok (.cl (.str k)):=by cases pa <;> rfl
@[simp] theorem eO (i:Nat) (pa:Bool) (k:Bool):Sl.val i (.sh pa (.bl k))=.ok (.cl (.bl k)):=by cases pa <;> rfl
@[simp] theorem aJR (i:Nat) (pa:Bool):Sl.val i (.sh pa .non)=.ok (.cl .non):=by cases pa <;> rfl
@[simp] theorem bI (i:Nat) (ds:List D):Sl.val i (.sh true (.lst ds))=.ok ⟨.lst ds,false,true,[]⟩:=id rfl
theorem cJ(i:Nat)(pa:Bool){d:D}(h:noL d=true):Sl.val i (.sh pa d)=.ok (.cl d):=by unfold Sl.val;simp[h]
@[simp] theorem bE (i:Nat) (pa:Bool) (ds:List D):Sl.val i (.own pa ds)=.ok ⟨.lst ds,false,pa,[i]⟩:=id rfl
@[simp] theorem bO (σ:Sg) (v:Vl) (i:Nat):bR σ v (.n i)=.ok (σ.set i v.slot):=id rfl
@[simp] theorem aQ (σ:Sg):freeze σ []=σ:=id rfl
@[simp] theorem jQ (b:Bool):fA (.cl (.bl b))=.ok b:=id rfl
@[simp] theorem cN (args:List Vl) (d:D):fB args (d,false,false)=.cl d:=id rfl
@[simp] theorem gG (args:List Vl) (d:D):fB args (d,true,false)=⟨d,true,false,[]⟩:=id rfl
@[simp] theorem bK (a b:D):cT .Eq a b=eqD a b:=id rfl
@[simp] theorem iI (a b:D):cT .NotEq a b=(eqD a b).map (!·):=id rfl
@[simp] theorem sD (a b:Int):cT .Lt (.int a) (.int b)=some (decide (a<b)):=id rfl
@[simp] theorem oK (a b:Int):cT .Gt (.int a) (.int b)=some (decide (b<a)):=id rfl
@[simp] theorem aGZ (a b:Int):cT .LtE (.int a) (.int b)=some (decide (a<=b)):=id rfl
@[simp] theorem aLa (a b:Int):cT .GtE (.int a) (.int b)=some (decide (b<=a)):=id rfl
theorem kJ(n:Nat)(a b:Int):eqF (n+1) (.int a) (.int b)=some (a==b):=rfl
theorem eT(n:Nat)(a b:Str):eqF (n+1) (.str a) (.str b)=some (a==b):=rfl
theorem dS(n:Nat)(a b:List D):eqF (n+1) (.tup a) (.tup b)=cV n a b:=rC n a b
@[simp] theorem bY (a b:Int):eqD (.int a) (.int b)=some (a==b):=id rfl
@[simp] theorem dU (a b:Str):eqD (.str a) (.str b)=some (a==b):=id rfl
@[simp] theorem aCo (a b:Bool):eqD (.bl a) (.bl b)=some (a==b):=id rfl
@[simp] theorem aJS (P:Pg) (k:Int):isI [.tInt] P (.int k)=some true:=id rfl
@[simp] theorem aJy (P:Pg) (k:Int):isI [.tBool] P (.int k)=some false:=id rfl
@[simp] theorem xX (P:Pg) (k:Str):isI [.tStr] P (.str k)=some true:=id rfl
@[simp] theorem xY (P:Pg) (k:List D):isI [.tTuple] P (.tup k)=some true:=id rfl
@[simp] theorem aJT (P:Pg) (k:List D):isI [.tList] P (.lst k)=some true:=id rfl
@[simp] theorem aHa (P:Pg) (k:Bool):isI [.tBool] P (.bl k)=some true:=id rfl
@[simp] theorem add_int (i j:Int):opD .Add (.cl (.int i)) (.cl (.int j))=.ok (.cl (.int (i+j))):=id rfl
@[simp] theorem sub_int (i j:Int):opD .Sub (.cl (.int i)) (.cl (.int j))=.ok (.cl (.int (i-j))):=id rfl
theorem mul_int{i j:Int}(h:jX i j=true):opD .Mult (.cl (.int i)) (.cl (.int j))=.ok (.cl (.int (i*j))):=by
 show R.iff (jX i j) _=_
 rw[h];rfl
theorem sF{i j:Int}(h:wV j=true):opD .FloorDiv (.cl (.int i)) (.cl (.int j))=.ok (.cl (.int (i / j))):=by
 show R.iff (wV j) _=_
 rw[h];rfl
theorem cY{i j:Int}(h:0<j):opD .Mod (.cl (.int i)) (.cl (.int j))=.ok (.cl (.int (i % j))):=by
 show R.iff (decide (0<j)) _=_
 rw[decide_eq_true h];rfl
@[simp] theorem jE (ds:List D) (fr pa:Bool) (al:List Nat):biD .len [⟨.lst ds,fr,pa,al⟩]=.ok (.cl (.int ds.length)):=id rfl
@[simp] theorem mY (ds:List D):biD .len [.cl (.tup ds)]=.ok (.cl (.int ds.length)):=id rfl
@[simp] theorem aJz (ds:List D):biD .len [.cl (.lst ds)]=.ok (.cl (.int ds.length)):=id rfl
end Hp
end
noncomputable section
namespace HpS
open Hp PySem
section
variable {P:Pg} {cl:Caller} {σ σ':Sg}
theorem cs{s:S}{ss:Ss}{o:O}(h:ex P cl σ s=.next σ')(r:exs P cl σ' ss=o):exs P cl σ (.cons s ss)=o:=by rw[aG,h,dP,r]
theorem eH{i:Nat}{e:E}{d:D}(h:ev P cl σ e=.ok (.cl d)):ex P cl σ (.set (.n i) e)=.next (σ.set i (.sh false d)):=by rw[bT,h,aE,cH,aQ,bO,aE,bU]
theorem dM{e:E}{ss:Ss}{v:Vl}(h:ev P cl σ e=.ok v):exs P cl σ (.cons (.ret e) ss)=.ret v:=by rw[aG,iF,h];rfl
theorem eI{c:E}{a:Ss}(h:tst P cl σ c=.ok false):ex P cl σ (.iff c a .nil)=.next σ:=by rw[bJ,h];rfl
theorem iJ{c:E}{a b ss:Ss}{v:Vl}(h:tst P cl σ c=.ok true)(r:exs P cl σ a=.ret v):exs P cl σ (.cons (.iff c a b) ss)=.ret v:=by
 rw[aG,bJ,h,aE,if_pos rfl,r];rfl
theorem cA{a b:E}{x y z:Vl}(h:ev P cl σ a=.ok x)(k:ev P cl σ b=.ok y)(e:bW x y=.ok z):ev P cl σ (.idx a b)=.ok z:=by rw[bX,h,aB,k,aB,e]
theorem cK{a:E}{w x:Str}{b:Bool}(h:ev P cl σ a=.ok (.cl (.str w)))(q:(w==x)=b):tst P cl σ (.cmp .Eq a (.c (.str x)))=.ok b:=by
 rw[aR,h,aB,bL,aB,aS,aS,bK,dU,q]
theorem aFd{a:E}{w x:Str}{b:Bool}(h:ev P cl σ a=.ok (.cl (.str w)))(q:(w==x)=b):ev P cl σ (.cmp .Eq a (.c (.str x)))=.ok (.cl (.bl b)):=by
 rw[lR,h,aB,bL,aB,aS,aS,bK,dU,q]
theorem eE{f:Nat}{a b c:E}{x y z:Vl}{d:D}(h1:ev P cl σ a=.ok x)(h2:ev P cl σ b=.ok y)(h3:ev P cl σ c=.ok z)(hc:cl f [x.d,y.d,z.d]=.ok (d,false,false)):ev P cl σ (.call f (.cons a (.cons b (.cons c .nil))))=.ok (.cl d):=by
 have e:evs P cl σ (.cons a (.cons b (.cons c .nil)))=.ok [x,y,z]:=by rw[aC,h1,aB,aC,h2,aB,aC,h3,aB,aF];rfl
 rw[aZ,e,aB,show [x,y,z].map (·.d)=[x.d,y.d,z.d] from rfl,hc];rfl
theorem v0_{d:D}{r:Sg}(h:noL d=true):ev P cl (.sh true d::r) (.v 0)=.ok (.cl d):=cJ 0 true h
theorem v1_{s:Sl}{d:D}{r:Sg}(h:noL d=true):ev P cl (s::.sh true d::r) (.v 1)=.ok (.cl d):=cJ 1 true h
theorem v2_{s t:Sl}{d:D}{r:Sg}(h:noL d=true):ev P cl (s::t::.sh true d::r) (.v 2)=.ok (.cl d):=cJ 2 true h
theorem aFe{t a b:E}{k:Bool}{v:Vl}(h:tst P cl σ t=.ok k)(r:(if k then ev P cl σ a else ev P cl σ b)=.ok v):ev P cl σ (.ife t a b)=.ok v:=by rw[wL,h,aB,r]
theorem aLb{a:E}{k:Bool}(h:ev P cl σ a=.ok (.cl (.bl k))):ev P cl σ (.nt a)=.ok (.cl (.bl !k)):=by rw[aFa,h];rfl
theorem aLc{a b:E}{x y:Bool}(h1:ev P cl σ a=.ok (.cl (.bl x)))(h2:ev P cl σ b=.ok (.cl (.bl y))):ev P cl σ (.an a b)=.ok (.cl (.bl (x&&y))):=by
 rw[aFb,h1,aB];cases x
 . rfl
 . exact h2
theorem aJA{a b:E}{x y:Bool}(h1:ev P cl σ a=.ok (.cl (.bl x)))(h2:ev P cl σ b=.ok (.cl (.bl y))):ev P cl σ (.orr a b)=.ok (.cl (.bl (x||y))):=by
 rw[aCi,h1,aB];cases x
 . exact h2
 . rfl
theorem oM{o:Operator}{a b:E}{x y z:Vl}(h:ev P cl σ a=.ok x)(k:ev P cl σ b=.ok y)(e:opD o x y=.ok z):ev P cl σ (.op o a b)=.ok z:=by rw[cP,h,aB,k,aB,e]
theorem aJB{o:CmpOp}{a b:E}{x y:Vl}{k:Bool}(h:ev P cl σ a=.ok x)(g:ev P cl σ b=.ok y)(e:cT o x.d y.d=some k):ev P cl σ (.cmp o a b)=.ok (.cl (.bl k)):=by rw[lR,h,aB,g,aB,e]
theorem aCp{b:Bi}{a:E}{x z:Vl}(h:ev P cl σ a=.ok x)(e:biD b [x]=.ok z):ev P cl σ (.bi b (.cons a .nil))=.ok z:=by
 have h2:evs P cl σ (.cons a .nil)=.ok [x]:=by rw[aC,h];rfl
 rw[iD,h2,aB,e]
end
end HpS
end
noncomputable section
namespace Hp
open PySem (Str)
theorem iK{α:Type}{g:α->D}(ng:∀t,noL (g t)=true):∀ts:List α,noLs (ts.map g)=true
 | []=>rfl
 | t::ts=>by rw[mC,noLs,ng t,iK ng ts];rfl
theorem oN{α:Type}{F:Vl->R (Option Vl)}{f:α->Vl}{g:α->D}{p:α->Bool}:∀{ts:List α},(∀t∈ts,F (f t)=.ok (if p t then some (.cl (g t)) else none))->dX F (ts.map f)=.ok ((ts.filter p).map λt=>.cl (g t))
 | [],_=>rfl
 | t::ts,h=>by
  have h1:=h t List.mem_cons_self
  have h2:=oN (F:=F) (f:=f) (g:=g) (p:=p) (ts:=ts) λy hy=>h y (List.mem_cons_of_mem _ hy)
  show(F (f t) >>= λy=>dX F (ts.map f) >>= λys=>(match y with|some y=>R.ok (y::ys)|none=>R.ok ys))=_
  rw[h1,h2]
  cases hp:p t with
  | true=>rw[List.filter_cons_of_pos hp];rfl
  | false=>rw[List.filter_cons_of_neg (by rw[hp];exact bN)];rfl
theorem xZ{α:Type}{g:α->D}(ng:∀t,noL (g t)=true){k:Nat}{caps al:List Nat}(ts:List α):eP k caps al (ts.map λt=>Vl.cl (g t))=⟨.lst (ts.map g),true,false,[]⟩:=by
 have e:(ts.map λt=>Vl.cl (g t)).map (·.d)=ts.map g:=by rw[List.map_map];rfl
 rw[qG (by rw[e];exact iK ng ts),e]
theorem iL{P:Pg}{cl:Caller}{σ:Sg}{k:Nat}{caps al:List Nat}{T:T}{it:It}{elt:E}{α:Type}{ts:List α}(f:α->Vl)(g:α->D)(ng:∀t,noL (g t)=true)(hw:walk P cl σ it=.ok (ts.map f,al))(hl:ts.length<=lim)
 (hb:∀t∈ts,∃σ1,bR (List.replicate k .dead++caps.map λi=>((freeze σ al)[i]?).getD .dead) (f t) T=.ok σ1/\ev P cl σ1 elt=.ok (.cl (g t))):ev P cl σ (.comp k caps T it .nil elt)=.ok ⟨.lst (ts.map g),true,false,[]⟩:=by
 rw[rW,hw,aB,oN (f:=f) (g:=g) (p:=λ_=>true) λt ht=>by
  obtain⟨σ1,e1,e2⟩:=hb t ht
  show(bR _ (f t) T >>= λσ1=>_)=_
  rw[e1]
  show(ev P cl σ1 elt >>= λy=>R.ok (some y))=_
  rw[e2]
  rfl]
 have hf:ts.filter (λ_=>true)=ts:=List.filter_eq_self.mpr λ_ _=>rfl
 have hl2:decide ((ts.map f).length<=lim)=true:=decide_eq_true (by rw[lM];exact hl)
 show R.iff (decide ((ts.map f).length<=lim)) (R.ok (eP k caps al ((ts.filter λ_=>true).map λt=>Vl.cl (g t))))=_
 rw[hf,hl2,fO,xZ ng]
theorem aCq{P:Pg}{cl:Caller}{σ:Sg}{k:Nat}{caps al:List Nat}{T:T}{it:It}{c elt:E}{α:Type}{ts:List α}(f:α->Vl)(g:α->D)(p:α->Bool)(ng:∀t,noL (g t)=true)(hw:walk P cl σ it=.ok (ts.map f,al))(hl:ts.length<=lim)
 (hb:∀t∈ts,∃σ1,bR (List.replicate k .dead++caps.map λi=>((freeze σ al)[i]?).getD .dead) (f t) T=.ok σ1/\tst P cl σ1 c=.ok (p t)/\ev P cl σ1 elt=.ok (.cl (g t))):ev P cl σ (.comp k caps T it (.cons c .nil) elt)=.ok ⟨.lst ((ts.filter p).map g),true,false,[]⟩:=by
 rw[rW,hw,aB,oN (f:=f) (g:=g) (p:=p) λt ht=>by
  obtain⟨σ1,e1,e2,e3⟩:=hb t ht
  show(bR _ (f t) T >>= λσ1=>_)=_
  rw[e1]
  show((tsts P cl σ1 (.cons c .nil)).calm >>= λk=>if k then (ev P cl σ1 elt >>= λy=>R.ok (some y)) else R.ok none)=_
  rw[aAf,e2,aB]
  cases hp:p t with
  | true=>rw[if_pos rfl,aCk,dL,aB,if_pos rfl,e3];rfl
  | false=>rfl]
 have hl2:decide ((ts.map f).length<=lim)=true:=decide_eq_true (by rw[lM];exact hl)
 show R.iff (decide ((ts.map f).length<=lim)) (R.ok (eP k caps al ((ts.filter p).map λt=>Vl.cl (g t))))=_
 rw[hl2,fO,xZ ng]
theorem iM{α:Type}(a b:α->D):∀ts:List α,dR (ts.map a) (ts.map b)=ts.map λt=>.tup [a t,b t]
 | []=>rfl
 | t::ts=>by rw[mC,mC,dR,iM a b ts];rfl
theorem bV{α:Type}{v:Vl}{g:α->D}(ng:∀t,noL (g t)=true)(ts:List α):items v (ts.map g)=ts.map λt=>Vl.cl (g t):=by
 unfold items
 rw[List.map_map]
 refine List.map_congr_left λt _=>?_
 show Vl.sub v (g t)=_
 unfold Vl.sub
 rw[if_pos (ng t)]
theorem yA{a b:D}(ha:noL a=true)(hb:noL b=true):noL (.tup [a,b])=true:=by simp[noL,noLs,ha,hb]
theorem sG{s0 s1:Sl}{r:Sg}{a b:D}(ha:noL a=true)(hb:noL b=true):bR (s0::s1::r) (.cl (.tup [a,b])) (.t [0,1])=.ok (.sh false a::.sh false b::r):=by
 have h1:Vl.sub (.cl (.tup [a,b])) a=.cl a:=by unfold Vl.sub;rw[if_pos ha]
 have h2:Vl.sub (.cl (.tup [a,b])) b=.cl b:=by unfold Vl.sub;rw[if_pos hb]
 unfold bR
 simp only[aS,lC,lN,if_true,List.zip_cons_cons,List.zip_nil_left,List.foldl_cons,List.foldl_nil,h1,h2,bU,lS,lZ]
@[simp] theorem yB {P:Pg} {cl:Caller} {σ:Sg} (a b:E):ev P cl σ (.lzip a b)=(ev P cl σ a >>= λx=>ev P cl σ b >>= λy=>match eY x.d,eY y.d with
 | some as,some bs=>.iff (decide (as.length<=lim)) (.ok (nK x y (dR as bs)))
 | _,_=>.bad):=id rfl
end Hp
end
noncomputable section
namespace Hp
open PySem (Str Operator CmpOp)
section
variable {P:Pg} {cl:Caller} {σ:Sg}
@[simp] theorem kK {α β:Type} (a:D) (f:α->R β):((R.exc a:R α) >>= f)=.exc a:=id rfl
@[simp] theorem kL {α:Type} (a:D) (f:α->O):O.from σ (.exc a) f=.exc a σ:=id rfl
@[simp] theorem qJ (x:D) (f:Sg->O):(O.exc x σ).on f=.exc x σ:=id rfl
@[simp] theorem aLd (c:Str) (k:Bool) (es:Es):ex P cl σ (.rse c k es)=O.from σ (evs P cl σ es) λvs=>.exc (.err c (if k then vs.map (·.d) else [])) σ:=id rfl
@[simp] theorem aCr (b:Ss) (c:Str) (i j:Nat):ex P cl σ (.tryAs b c i j)=(match exs P cl σ b with
 | .exc x σ'=>(match isX [.own c] P x with
  | some true=>.next ((σ'.set i (.sh true x)).set j .dead)
  | _=>.bad)
 | o=>o):=id rfl
@[simp] theorem aLe (a:E) (cs:List Cl):ev P cl σ (.isx a cs)=(ev P cl σ a >>= λx=>match isX cs P x.d with|some k=>.ok (.cl (.bl k))|none=>.bad):=id rfl
@[simp] theorem aJU (a:E) (cs:List Cl):tst P cl σ (.isx a cs)=(ev P cl σ a >>= λx=>match isX cs P x.d with|some k=>.ok k|none=>.bad):=id rfl
@[simp] theorem aLC (e:E):ex P cl σ (.ex e)=O.from σ (ev P cl σ e) λ_=>.next σ:=id rfl
@[simp] theorem aLf (i:Nat) (k e:E):ex P cl σ (.ins i k e)=O.from σ (ev P cl σ k).calm λkv=>O.from σ (ev P cl σ e).calm λv=>match kv.d with
 | .int k=>if 0<=k/\k<1000000 then put σ i v λds=>some (ds.take k.toNat++v.d::ds.drop k.toNat) else .bad
 | _=>.bad:=id rfl
@[simp] theorem aJV:ev P cl σ (.dic .nil .nil)=.ok (.cl (.dic [])):=id rfl
end
theorem kM{P:Pg}{cl:Caller}{f:Nat}{F:Fn}{ds:List D}(hF:P.fns[f]? = some F)(hl:ds.length=F.np){x:D}{σ:Sg}
 (h:exs P cl ((ds.map λd=>Sl.sh true d)++List.replicate (F.ns-F.np) Sl.dead) F.body=.exc x σ):nM P cl f ds=.exc x:=by
 unfold nM
 rw[hF]
 simp only[hl,if_true,h]
section
variable {P:Pg} {cl:Caller} {σ:Sg}
@[simp] theorem sH (a l:E):ev P cl σ (.sli a (.cons l .nil) .nil)=(ev P cl σ a >>= λx=>ev P cl σ l >>= λl=>match l.d with|.int l=>.iff (aI l) (dH x (some l) none)|_=>.bad):=by
 show(ev P cl σ a >>= λx=>evs P cl σ (.cons l .nil) >>= λl=>evs P cl σ .nil >>= λh=>_)=_
 cases ev P cl σ a with
 | ok x=>
  show((ev P cl σ l >>= λx=>evs P cl σ .nil >>= λxs=>R.ok (x::xs)) >>= λl=>_)=(ev P cl σ l >>= λl=>_)
  cases ev P cl σ l <;> rfl
 | exc e=>rfl
 | bad=>rfl
@[simp] theorem mZ (a l h:E):ev P cl σ (.sli a (.cons l .nil) (.cons h .nil))=(ev P cl σ a >>= λx=>ev P cl σ l >>= λl=>ev P cl σ h >>= λh=>match l.d,h.d with|.int l,.int h=>.iff (aI l&&aI h) (dH x (some l) (some h))|_,_=>.bad):=by
 show(ev P cl σ a >>= λx=>evs P cl σ (.cons l .nil) >>= λl=>evs P cl σ (.cons h .nil) >>= λh=>_)=_
 cases ev P cl σ a with
 | ok x=>
  show((ev P cl σ l >>= λx=>evs P cl σ .nil >>= λxs=>R.ok (x::xs)) >>= λl=>_)=(ev P cl σ l >>= λl=>_)
  cases ev P cl σ l with
  | ok l=>
   show((ev P cl σ h >>= λx=>evs P cl σ .nil >>= λxs=>R.ok (x::xs)) >>= λh=>_)=(ev P cl σ h >>= λh=>_)
   cases ev P cl σ h <;> rfl
  | exc e=>rfl
  | bad=>rfl
 | exc e=>rfl
 | bad=>rfl
end
theorem eU:∀is:List Int,noLs (is.map D.int)=true
 | []=>rfl
 | i::is=>by simp[noLs,noL,eU is]
theorem fH{n k:Nat}(h:k<n):ixN n (k:Int)=some k:=by
 unfold ixN
 rw[if_pos (Int.natCast_nonneg k),if_pos (by omega)]
 simp
theorem cB{v:Vl}{is:List Int}{k:Nat}(hv:v.d=.lst (is.map D.int))(h:k<is.length):bW v (.cl (.int (k:Int)))=.ok (.cl (.int (is.getD k 0))):=by
 unfold bW
 rw[hv]
 have hl:(is.map D.int).length=is.length:=by simp
 have e:(is.map D.int)[k]? = some (.int (is.getD k 0)):=by simp[h]
 simp only[aS,hl,fH h,e,Vl.sub,noL,if_true]
def sJ:Fn:=⟨2,5,
 (.cons (.set (.n 2) (.lst .nil))
 (.cons (.set (.n 3) (.op .Add (.op .Mod (.v 0) (.c (.int 2147483647))) (.c (.int 48271))))
 (.cons (.for (.n 4) (.rng (.c (.int 0)) (.op .Add (.v 1) (.c (.int 1))))
  (.cons (.set (.n 3) (.op .Mod (.op .Add (.op .Add (.op .Mult (.v 3) (.v 3)) (.op .Mult (.c (.int 48271)) (.v 3))) (.v 4)) (.c (.int 2147483647))))
  (.cons (.app 2 (.v 3))
  .nil)))
 (.cons (.ret (.sli (.v 2) (.cons (.c (.int 1)) .nil) .nil))
 .nil))))⟩
def num(c:Int):Nat->Int
 | 0=>c % 2147483647+48271
 | k+1=>(num c k*num c k+48271*num c k+(k:Int)) % 2147483647
theorem aEv(c:Int):∀k,0<=num c k/\num c k<2147531918
 | 0=>by
  have h0:0<=c % 2147483647:=Int.emod_nonneg _ (by decide)
  have h1:c % 2147483647<2147483647:=Int.emod_lt_of_pos _ (by decide)
  unfold num
  omega
 | k+1=>by
  unfold num
  have h0:=Int.emod_nonneg (num c k*num c k+48271*num c k+(k:Int)) (show(2147483647:Int)≠0 by decide)
  have h1:=Int.emod_lt_of_pos (num c k*num c k+48271*num c k+(k:Int)) (show(0:Int)<2147483647 by decide)
  omega
def strm(c:Int)(m:Nat):List Int:=(List.range m).map λi=>num c (i+2)
theorem oO(c:Int)(m:Nat):(strm c m).length=m:=by simp[strm]
theorem lU{P:Pg}{f:Nat}(hF:P.fns[f]? = some sJ)(n:Nat)(c:Int){m:Nat}(hm:m<=1000):call P (n+1) f [.int c,.int m]=.ok (.lst ((strm c m).map D.int),true,false):=by
 have mm:∀i:Int,opD .Mod (.cl (.int i)) (.cl (.int 2147483647))=.ok (.cl (.int (i % 2147483647))):=λi=>cY (by decide)
 have hw:walk P (call P n) [.sh true (.int c),.sh true (.int m),.own false [],.sh false (.int (num c 0)),.dead] (.rng (.c (.int 0)) (.op .Add (.v 1) (.c (.int 1))))=.ok ((List.range (m+1)).map λ(k:Nat)=>Vl.cl (.int (k:Int)),[]):=by
  refine gE (v:=.cl (.int ((m+1:Nat):Int))) ?_ rfl (by omega)
  simp[aO]
 obtain⟨σ',e,hI⟩:=eM (t:=.n 4) (b:=(.cons (.set (.n 3) (.op .Mod (.op .Add (.op .Add (.op .Mult (.v 3) (.v 3)) (.op .Mult (.c (.int 48271)) (.v 3))) (.v 4)) (.c (.int 2147483647))))
  (.cons (.app 2 (.v 3))
  .nil)))
   (λk σ=>∃s4,σ=[.sh true (.int c),.sh true (.int m),.own false ((List.range k).map λi=>.int (num c (i+1))),.sh false (.int (num c k)),s4]) hw ⟨_,rfl⟩ (λk hk σ hσ=>by
    obtain⟨s4,rfl⟩:=hσ
    have hk':k<m+1:=by simpa using hk
    obtain⟨r0,r1⟩:=aEv c k
    have m1:opD .Mult (.cl (.int (num c k))) (.cl (.int (num c k)))=.ok (.cl (.int (num c k*num c k))):=mul_int (by
     simp only[jX,Bool.or_eq_true,bA,decide_eq_true_eq];right;omega)
    have m2:opD .Mult (.cl (.int 48271)) (.cl (.int (num c k)))=.ok (.cl (.int (48271*num c k))):=mul_int (by
     simp only[jX,Bool.or_eq_true,bA,decide_eq_true_eq];right;omega)
    have hll:k+1<=lim:=by unfold lim;omega
    have hsn:(List.range (k+1)).map (λi=>D.int (num c (i+1)))=(List.range k).map (λi=>D.int (num c (i+1)))++[.int (num c (k+1))]:=by rw[List.range_succ];simp
    refine⟨[.sh true (.int c),.sh true (.int m),.own false ((List.range k).map λi=>.int (num c (i+1))),.sh false (.int (num c k)),.sh false (.int k)],
     [.sh true (.int c),.sh true (.int m),.own false ((List.range (k+1)).map λi=>.int (num c (i+1))),.sh false (.int (num c (k+1))),.sh false (.int k)],?_,?_,⟨_,rfl⟩⟩
    . simp
    . rw[hsn]
      simp[aO,m1,m2,mm,put,eF,hll,num])
 obtain⟨s4,rfl⟩:=hI
 have et:((List.range (m+1)).map λ(k:Nat)=>Vl.cl (.int (k:Int))).length=m+1:=by simp
 rw[et] at e
 have hno:noLs ((List.range (m+1)).map λi=>D.int (num c (i+1)))=true:=by
  have:(List.range (m+1)).map (λi=>D.int (num c (i+1)))=((List.range (m+1)).map λi=>num c (i+1)).map D.int:=by simp
  rw[this]
  exact eU _
 have hcut:cut ((List.range (m+1)).map λi=>D.int (num c (i+1))) (some 1) none=(strm c m).map D.int:=by
  unfold cut sIx
  simp only[lM,List.length_range]
  have e1:min (1:Int).toNat (m+1)=1:=by simp
  rw[if_neg (by decide),e1,List.take_of_length_le (by simp),List.range_succ_eq_map]
  simp[strm,Function.comp_def]
 have s1:aI 1=true:=by decide
 refine bB (F:=sJ) hF rfl (v:=⟨.lst ((strm c m).map D.int),true,false,[]⟩) ?_
 have e:ex P (call P n) [.sh true (.int c),.sh true (.int m),.own false [],.sh false (.int (c % 2147483647+48271)),.dead] _=_:=e
 simp[sJ,aO,mm,gM,eX,bH,e,s1,dH,hno,hcut]
def sK(b:Str×Int):D:=.tup [.str b.1,.int b.2]
def aD(bs:List (Str×Int)):List D:=bs.map sK
@[simp] theorem aJC (b:Str×Int):noL (sK b)=true:=by simp[sK,noL,noLs]
theorem mH:∀bs:List (Str×Int),noLs (aD bs)=true
 | []=>rfl
 | b::bs=>by
  have:=mH bs
  unfold aD at this
  simp[aD,noLs,this]
def mI(xs:List Int)(k:Nat):Str:=tE "abcdefgh" (some (k:Int)) (some ((k:Int)+1+xs.getD 4 0 % 5))
structure Bx (bs:List (Str×Int)) (many:Int):Prop where
 few:bs.length<=5
 one:∀b∈bs,1<=b.2/\b.2<=7
 prod:many=(bs.map λb=>b.2+1).foldl (·*·) 1
 lo:1<=many
 hi:many<=24
end Hp
end
noncomputable section
namespace HpS
open Hp PySem
inductive Sm where
 | num (n:Int)|box (k:Nat)|aft (k:Nat)|two (p:Bool) (a b:Sm)
def oP(p:Bool):Str:=if p then "plus" else "minus"
def Sm.d:Sm->D
 | .num n=>.tup [.str "number",.int n]
 | .box k=>.tup [.str "box",.int k]
 | .aft k=>.tup [.str "after",.int k]
 | .two p a b=>.tup [.str (oP p),a.d,b.d]
def Sm.sz:Sm->Nat
 | .two _ a b=>1+a.sz+b.sz
 | _=>1
def Sm.val(ah be:List Int):Sm->Int
 | .num n=>n
 | .box k=>ah.getD k 0
 | .aft k=>be.getD k 0
 | .two p a b=>if p then a.val ah be+b.val ah be else a.val ah be-b.val ah be
def Sm.wf(c:Nat)(pl:Bool):Sm->Prop
 | .num n=>0<=n/\n<=99
 | .box k=>k<c
 | .aft k=>k<c/\pl=false
 | .two _ a b=>a.wf c pl/\b.wf c pl
theorem Sm.noL:∀s:Sm,Hp.noL s.d=true
 | .num _=>rfl
 | .box _=>rfl
 | .aft _=>rfl
 | .two _ a b=>by simp[Sm.d,Hp.noL,noLs,a.noL,b.noL]
theorem cL{v:Vl}{d:D}(h:Hp.noL d=true):Vl.sub v d=.cl d:=by unfold Vl.sub;rw[if_pos h]
theorem fR(x:D)(r:List D)(h:Hp.noL x=true):bW (.cl (.tup (x::r))) (.cl (.int 0))=.ok (.cl x):=by
 have:ixN (x::r).length 0=some 0:=fH (k:=0) (by simp)
 unfold bW
 simp only[aS,this,gZ,cL h]
theorem kN(x y:D)(r:List D)(h:Hp.noL y=true):bW (.cl (.tup (x::y::r))) (.cl (.int 1))=.ok (.cl y):=by
 have:ixN (x::y::r).length 1=some 1:=fH (k:=1) (by simp)
 unfold bW
 simp only[aS,this,gZ,gS,cL h]
theorem aEw(x y z:D)(r:List D)(h:Hp.noL z=true):bW (.cl (.tup (x::y::z::r))) (.cl (.int 2))=.ok (.cl z):=by
 have:ixN (x::y::z::r).length 2=some 2:=fH (k:=2) (by simp)
 unfold bW
 simp only[aS,this,gZ,gS,cL h]
theorem nA{is:List Int}{k:Nat}(h:k<is.length):bW (.cl (aL is)) (.cl (.int (k:Int)))=.ok (.cl (.int (is.getD k 0))):=by
 unfold bW aL
 have hl:(is.map D.int).length=is.length:=by simp
 have e:(is.map D.int)[k]? = some (.int (is.getD k 0)):=by simp[h]
 simp only[aS,hl,fH h,e,Vl.sub,Hp.noL,if_true]
def lV(f:Nat):Fn:=⟨3,6,
 (.cons (.set (.n 3) (.idx (.v 0) (.c (.int 0))))
 (.cons (.iff (.cmp .Eq (.v 3) (.c (.str "number")))
  (.cons (.ret (.idx (.v 0) (.c (.int 1))))
  .nil)
  .nil)
 (.cons (.iff (.cmp .Eq (.v 3) (.c (.str "box")))
  (.cons (.ret (.idx (.v 1) (.idx (.v 0) (.c (.int 1)))))
  .nil)
  .nil)
 (.cons (.iff (.cmp .Eq (.v 3) (.c (.str "after")))
  (.cons (.ret (.idx (.v 2) (.idx (.v 0) (.c (.int 1)))))
  .nil)
  .nil)
 (.cons (.set (.n 4) (.call f (.cons (.idx (.v 0) (.c (.int 1))) (.cons (.v 1) (.cons (.v 2) .nil)))))
 (.cons (.set (.n 5) (.call f (.cons (.idx (.v 0) (.c (.int 2))) (.cons (.v 1) (.cons (.v 2) .nil)))))
 (.cons (.ret (.ife (.cmp .Eq (.v 3) (.c (.str "plus"))) (.op .Add (.v 4) (.v 5)) (.op .Sub (.v 4) (.v 5))))
 .nil)))))))⟩
theorem aHb:(("number" : Str) == "number")=true:=by decide +kernel
theorem aEx:(("box" : Str) == "number")=false:=by decide +kernel
theorem aLg:(("box" : Str) == "box")=true:=by decide +kernel
theorem aJD:(("after" : Str) == "number")=false:=by decide +kernel
theorem aLh:(("after" : Str) == "box")=false:=by decide +kernel
theorem aHc:(("after" : Str) == "after")=true:=by decide +kernel
theorem aLi:∀p,(oP p == "number")=false:=by decide +kernel
theorem aLj:∀p,(oP p == "box")=false:=by decide +kernel
theorem aEy:∀p,(oP p == "after")=false:=by decide +kernel
theorem aLk:∀p,(oP p == "plus")=p:=by decide +kernel
theorem kO{P:Pg}{f:Nat}(hF:P.fns[f]? = some (lV f)){ah be:List Int}{bd:D}{c:Nat}{pl:Bool}(ha:ah.length=c)(hb:be.length=c)(hn:Hp.noL bd=true)(hbd:pl=false->bd=aL be) :
 ∀(s:Sm) (n:Nat),s.wf c pl->call P (n+s.sz) f [s.d,aL ah,bd]=.ok (.int (s.val ah be),false,false)
 | .num k,n,w=>by
  refine bB (F:=lV f) hF rfl (v:=.cl (.int k)) ?_
  exact cs (eH (cA (v0_ rfl) rfl (fR _ _ rfl))) (iJ (cK rfl aHb) (dM (cA (v0_ rfl) rfl (kN _ _ _ rfl))))
 | .box k,n,w=>by
  have w:k<c:=w
  refine bB (F:=lV f) hF rfl (v:=.cl (.int (ah.getD k 0))) ?_
  exact cs (eH (cA (v0_ rfl) rfl (fR _ _ rfl))) (cs (eI (cK rfl aEx)) (iJ (cK rfl aLg) (dM (cA (v1_ (bC _)) (cA (v0_ rfl) rfl (kN _ _ _ rfl)) (nA (by omega))))))
 | .aft k,n,w=>by
  obtain⟨w1,w2⟩:k<c/\pl=false:=w
  have e:=hbd w2
  subst e
  refine bB (F:=lV f) hF rfl (v:=.cl (.int (be.getD k 0))) ?_
  exact cs (eH (cA (v0_ rfl) rfl (fR _ _ rfl))) (cs (eI (cK rfl aJD)) (cs (eI (cK rfl aLh)) (iJ (cK rfl aHc) (dM (cA (v2_ (bC _)) (cA (v0_ rfl) rfl (kN _ _ _ rfl)) (nA (by omega)))))))
 | .two p a b,n,w=>by
  obtain⟨w1,w2⟩:a.wf c pl/\b.wf c pl:=w
  have c1:=kO hF ha hb hn hbd a (n+b.sz) w1
  have c2:=kO hF ha hb hn hbd b (n+a.sz) w2
  rw[show n+b.sz+a.sz=n+a.sz+b.sz by omega] at c1
  have e:n+Sm.sz (.two p a b)=n+a.sz+b.sz+1:=by show n+(1+a.sz+b.sz)=_;omega
  rw[e]
  refine bB (F:=lV f) hF rfl (v:=.cl (.int (Sm.val ah be (.two p a b)))) ?_
  refine cs (eH (cA (v0_ (Sm.noL _)) rfl (fR _ _ rfl))) (cs (eI (cK rfl (aLi p))) (cs (eI (cK rfl (aLj p))) (cs (eI (cK rfl (aEy p))) (cs (eH (eE (cA (v0_ (Sm.noL _)) rfl (kN _ _ _ a.noL)) (v1_ (bC _)) (v2_ hn) c1)) (cs (eH (eE (cA (v0_ (Sm.noL _)) rfl (aEw _ _ _ _ b.noL)) (v1_ (bC _)) (v2_ hn) c2)) (dM (aFe (cK rfl (aLk p)) ?_)))))))
  cases p <;> rfl
theorem qK{P:Pg}{cl:Caller}{f:Nat}{F:Fn}{ds:List D}(hF:P.fns[f]? = some F)(hl:ds.length=F.np){σ:Sg}
 (h:exs P cl ((ds.map λd=>Sl.sh true d)++List.replicate (F.ns-F.np) Sl.dead) F.body=.next σ):nM P cl f ds=.ok (.non,false,false):=by
 unfold nM
 rw[hF]
 simp only[hl,if_true,h]
@[simp] theorem uR {P:Pg} {cl:Caller} {σ:Sg} (i:Nat) (a:E):ev P cl σ (.tget i a)=(ev P cl σ a >>= λx=>match x.d,P.tabs[i]? with|.str k,some t=>.ok (.cl ((t.lookup k).getD .non))|_,_=>.bad):=id rfl
def fWhole:Fn:=⟨1,1,(.cons (.ret (.an (.isi (.v 0) [.tInt]) (.nt (.isi (.v 0) [.tBool])))) .nil)⟩
def fWithin(wh:Nat):Fn:=⟨3,3,(.cons (.ret (.an (.call wh (.cons (.v 0) .nil)) (.cmp2 .LtE .LtE (.v 1) (.v 0) (.v 2)))) .nil)⟩
def fCheck(wi:Nat):Fn:=⟨3,4,
 (.cons (.set (.n 3) (.ife (.cmp .Eq (.v 1) (.c (.str "number"))) (.c (.int 99)) (.op .Sub (.bi .len (.cons (.v 0) .nil)) (.c (.int 1)))))
 (.cons (.iff (.nt (.call wi (.cons (.v 2) (.cons (.c (.int 0)) (.cons (.v 3) .nil)))))
  (.cons (.rse "NoCond" false (.cons (.c (.str "a number is a whole one from 0 to 99, a box the number of one")) .nil))
  .nil)
  .nil)
 .nil))⟩
theorem aCs{P:Pg}{wh:Nat}(hF:P.fns[wh]? = some fWhole)(n:Nat)(i:Int):call P (n+1) wh [.int i]=.ok (.bl true,false,false):=bB (F:=fWhole) hF rfl (v:=.cl (.bl true)) rfl
theorem aAh{P:Pg}{wh wi:Nat}(hW:P.fns[wh]? = some fWhole)(hF:P.fns[wi]? = some (fWithin wh))(n:Nat)(i a b:Int)(h1:a<=i)(h2:i<=b):call P (n+2) wi [.int i,.int a,.int b]=.ok (.bl true,false,false):=by
 refine bB (F:=fWithin wh) hF rfl (v:=.cl (.bl true)) ?_
 simp[fWithin,aO,aCs hW,h1,h2]
theorem aCt{P:Pg}{wh wi ch:Nat}(hW:P.fns[wh]? = some fWhole)(hI:P.fns[wi]? = some (fWithin wh))(hF:P.fns[ch]? = some (fCheck wi))(n:Nat){bs:List D}{due:Str}{i:Int}(h0:0<=i)(h1:i<=(if due == "number" then 99 else (bs.length:Int)-1)) :
 call P (n+3) ch [.lst bs,.str due,.int i]=.ok (.non,false,false):=by
 have c1:=aAh hW hI n i 0 _ h0 h1
 cases q:due == "number" with
 | true=>
  rw[q,if_pos rfl] at c1
  refine qK (F:=fCheck wi) hF rfl (σ:=[.sh true (.lst bs),.sh true (.str due),.sh true (.int i),.sh false (.int 99)]) ?_
  simp[fCheck,aO,q,c1]
 | false=>
  rw[q,if_neg bN] at c1
  refine qK (F:=fCheck wi) hF rfl (σ:=[.sh true (.lst bs),.sh true (.str due),.sh true (.int i),.sh false (.int ((bs.length:Int)-1))]) ?_
  simp[fCheck,aO,q,c1]
def sumTab:List (Str×D):=[("number",.tup [.str "number"]),("box",.tup [.str "box"]),("after",.tup [.str "box"]),("plus",.tup [.str "sum",.str "sum"]),("minus",.tup [.str "sum",.str "sum"])]
def fForm:Fn:=⟨3,5,
 (.cons (.iff (.orr (.nt (.isi (.v 1) [.tTuple])) (.orr (.cmp .Eq (.bi .len (.cons (.v 1) .nil)) (.c (.int 0))) (.nt (.isi (.idx (.v 1) (.c (.int 0))) [.tStr]))))
  (.cons (.rse "NoCond" false (.cons (.c (.str "a part is a tuple that begins with a word")) .nil))
  .nil)
  .nil)
 (.cons (.set (.n 3) (.idx (.v 1) (.c (.int 0))))
 (.cons (.set (.n 4) (.ife (.cmp .Eq (.v 0) (.c (.str "sum"))) (.tget 0 (.v 3)) (.tget 1 (.v 3))))
 (.cons (.iff (.orr (.cmp .Is (.v 4) (.c .non)) (.cmp .NotEq (.bi .len (.cons (.v 1) .nil)) (.op .Add (.bi .len (.cons (.v 4) .nil)) (.c (.int 1)))))
  (.cons (.rse "NoCond" false (.cons (.c (.str "a part has a word that is due there, and as many things as go with it")) .nil))
  .nil)
  .nil)
 (.cons (.iff (.an (.v 2) (.cmp .Eq (.v 3) (.c (.str "after"))))
  (.cons (.rse "NoCond" false (.cons (.c (.str "no after stands where a plain one is due")) .nil))
  .nil)
  .nil)
 (.cons (.retv 4)
 .nil))))))⟩
def Sm.word:Sm->Str
 | .num _ => "number" | .box _ => "box" | .aft _ => "after" | .two p _ _=>oP p
def Sm.rest:Sm->List D
 | .num n=>[.int n]|.box k=>[.int k]|.aft k=>[.int k]|.two _ a b=>[a.d,b.d]
def Sm.form:Sm->List Str
 | .num _=>["number"]|.box _=>["box"]|.aft _=>["box"]|.two _ _ _=>["sum", "sum"]
theorem Sm.d_eq:∀s:Sm,s.d=.tup (.str s.word::s.rest)
 | .num _=>rfl|.box _=>rfl|.aft _=>rfl|.two _ _ _=>rfl
theorem Sm.rest_noL:∀s:Sm,noLs s.rest=true
 | .num _=>rfl|.box _=>rfl|.aft _=>rfl
 | .two _ a b=>by simp[Sm.rest,noLs,a.noL,b.noL]
theorem Sm.len_eq:∀s:Sm,s.rest.length=s.form.length
 | .num _=>rfl|.box _=>rfl|.aft _=>rfl|.two _ _ _=>rfl
theorem Sm.look:∀s:Sm,sumTab.lookup s.word=some (.tup (s.form.map D.str))
 | .num _=>by rfl
 | .box _=>by rfl
 | .aft _=>by rfl
 | .two true _ _=>by rfl
 | .two false _ _=>by rfl
theorem uS{P:Pg}{fo:Nat}(hF:P.fns[fo]? = some fForm)(hT:P.tabs[0]? = some sumTab)(n:Nat)(s:Sm){pl:Bool}(w:pl=true->(s.word == "after")=false):call P (n+1) fo [.str "sum",s.d,.bl pl]=.ok (.tup (s.form.map D.str),false,false):=by
 have v1:=cJ 1 true s.noL
 rw[s.d_eq] at v1 ⊢
 have i0:=fR (.str s.word) s.rest rfl
 have qs:(("sum" : Str) == "sum")=true:=by decide +kernel
 have hln:((.str s.word::s.rest:List D).length:Int)=(s.form.length:Int)+1:=by rw[lC,s.len_eq];omega
 have h0:((((.str s.word::s.rest:List D).length:Int))==0)=false:=by rw[hln];exact beq_eq_false_iff_ne.mpr (by omega)
 have t1:tst P (call P n) [.sh true (.str "sum"),.sh true (.tup (.str s.word::s.rest)),.sh true (.bl pl),.dead,.dead] (.orr (.nt (.isi (.v 1) [.tTuple])) (.orr (.cmp .Eq (.bi .len (.cons (.v 1) .nil)) (.c (.int 0))) (.nt (.isi (.idx (.v 1) (.c (.int 0))) [.tStr]))))=.ok false:=by
  simp only[dF,jP,jB,aR,aX,bL,iD,bX,aC,aF,aO,gS,gZ,v1,aB,aS,xY,Bool.not_true,bF,if_false,mY,bK,bY,h0,i0,xX]
 have t2:tst P (call P n) [.sh true (.str "sum"),.sh true (.tup (.str s.word::s.rest)),.sh true (.bl pl),.sh false (.str s.word),.sh false (.tup (s.form.map D.str))] (.orr (.cmp .Is (.v 4) (.c .non)) (.cmp .NotEq (.bi .len (.cons (.v 1) .nil)) (.op .Add (.bi .len (.cons (.v 4) .nil)) (.c (.int 1)))))=.ok false:=by
  have hi:cT .Is (.tup (s.form.map D.str)) .non=some false:=rfl
  have hq:(((s.form.length:Int)+1==(s.form.length:Int)+1))=true:=beq_self_eq_true _
  simp only[dF,aR,aX,bL,iD,cP,aC,aF,aO,gS,gZ,v1,aN,aB,aS,hi,bF,if_false,mY,hln,lM,add_int,iI,bY,hq,Option.map_some,Bool.not_true]
 have t3:tst P (call P n) [.sh true (.str "sum"),.sh true (.tup (.str s.word::s.rest)),.sh true (.bl pl),.sh false (.str s.word),.sh false (.tup (s.form.map D.str))] (.an (.v 2) (.cmp .Eq (.v 3) (.c (.str "after"))))=.ok false:=by
  simp only[lT,aCj,aR,aX,bL,aO,gS,gZ,eO,aN,aB,jQ,aS,bK,dU]
  cases pl with
  | false=>rfl
  | true=>rw[if_pos rfl,w rfl]
 refine bB (F:=fForm) hF rfl (v:=.cl (.tup (s.form.map D.str))) ?_
 have hnl:Hp.noL (.tup (s.form.map D.str))=true:=by cases s <;> rfl
 have hl:=s.look
 show exs P (call P n) [.sh true (.str "sum"),.sh true (.tup (.str s.word::s.rest)),.sh true (.bl pl),.dead,.dead] fForm.body=_
 unfold fForm
 simp only[aG,aK,bJ,t1,aE,bF,if_false,dP,bT,bX,aX,bL,aO,gS,gZ,v1,aB,i0,cH,aQ,bO,bU,lS,lZ,wL,aR,jD,aS,bK,dU,qs,if_true,uR,aN,hT,hl,Option.getD_some,t2,t3,jC,fP]
theorem Sm.wordOk{c:Nat}{pl:Bool}:∀{s:Sm},s.wf c pl->pl=true->(s.word == "after")=false
 | .num _,_,_=>(show((("number" : Str)) == "after")=false by decide +kernel)
 | .box _,_,_=>(show((("box" : Str)) == "after")=false by decide +kernel)
 | .aft k,w,h=>by
  obtain⟨_,z⟩:k<c/\pl=false:=w
  rw[h] at z;cases z
 | .two p _ _,_,_=>aEy p
theorem aEz{P:Pg}{fo:Nat}(hF:P.fns[fo]? = some fForm)(hT:P.tabs[0]? = some sumTab)(n:Nat)(s:Sm){c:Nat}{pl:Bool}(w:s.wf c pl):call P (n+1) fo [.str "sum",s.d,.bl pl]=.ok (.tup (s.form.map D.str),false,false):=uS hF hT n s (Sm.wordOk w)
def fLook(fo ch lo:Nat):Fn:=⟨5,8,
 (.cons (.iff (.cmp .Eq (.v 4) (.c (.int 40)))
  (.cons (.rse "TooMany" false (.cons (.c (.str "a condition or sum has at most forty parts")) .nil))
  .nil)
  .nil)
 (.cons (.set (.n 4) (.op .Add (.v 4) (.c (.int 1))))
 (.cons (.set (.n 5) (.call fo (.cons (.v 1) (.cons (.v 2) (.cons (.v 3) .nil)))))
 (.cons (.for (.t [6,7]) (.zip (.v 5) (.sli (.v 2) (.cons (.c (.int 1)) .nil) .nil))
  (.cons (.iff (.orr (.cmp .Eq (.v 6) (.c (.str "sum"))) (.cmp .Eq (.v 6) (.c (.str "cond"))))
   (.cons (.set (.n 4) (.call lo (.cons (.v 0) (.cons (.v 6) (.cons (.v 7) (.cons (.v 3) (.cons (.v 4) .nil)))))))
   .nil)
   (.cons (.ex (.call ch (.cons (.v 0) (.cons (.v 6) (.cons (.v 7) .nil)))))
   .nil))
  .nil))
 (.cons (.retv 4)
 .nil)))))⟩
def bP(ch lo:Nat):Ss:=(.cons (.iff (.orr (.cmp .Eq (.v 6) (.c (.str "sum"))) (.cmp .Eq (.v 6) (.c (.str "cond"))))
 (.cons (.set (.n 4) (.call lo (.cons (.v 0) (.cons (.v 6) (.cons (.v 7) (.cons (.v 3) (.cons (.v 4) .nil)))))))
 .nil)
 (.cons (.ex (.call ch (.cons (.v 0) (.cons (.v 6) (.cons (.v 7) .nil)))))
 .nil))
 .nil)
def eQ(w:Str)(d:D):Vl:=.cl (.tup [.str w,d])
theorem uT{P:Pg}{cl:Caller}{σ:Sg}(e:E):ex P cl σ (.ex e)=O.from σ (ev P cl σ e) λ_=>.next σ:=rfl
theorem fI{s0 s1 s2 s3 s4 s5 s6 s7:Sl}{w:Str}{d:D}(h:Hp.noL d=true):bR [s0,s1,s2,s3,s4,s5,s6,s7] (eQ w d) (.t [6,7])=.ok [s0,s1,s2,s3,s4,s5,.sh false (.str w),.sh false d]:=by
 unfold bR eQ
 simp only[aS,lC,lN,if_true,List.zip_cons_cons,List.zip_nil_left,List.foldl_cons,List.foldl_nil,cL (show Hp.noL (.str w)=true from rfl),cL h,bU,lS,lZ]
theorem oQ{P:Pg}{cl:Caller}{s0 s1 s3 s4 s6 s7:Sl}(s:Sm):walk P cl [s0,s1,.sh true s.d,s3,s4,.sh false (.tup (s.form.map D.str)),s6,s7] (.zip (.v 5) (.sli (.v 2) (.cons (.c (.int 1)) .nil) .nil)) =
 .ok ((s.form.zip s.rest).map λp=>eQ p.1 p.2,[]):=by
 have v2:=cJ 2 true s.noL
 have k1:aI 1=true:=by decide
 have hno:noLs (.str s.word::s.rest)=true:=by simp[noLs,Hp.noL,s.rest_noL]
 have hcut:cut (.str s.word::s.rest) (some 1) none=s.rest:=by cases s <;> rfl
 have hs:dH (.cl (.tup (.str s.word::s.rest))) (some 1) none=.ok (.cl (.tup s.rest)):=by
  unfold dH
  simp only[aS,hcut,fQ,Bool.false_and,hno,if_true]
  rfl
 have hz:items ⟨.non,false,false,[]⟩ (dR (s.form.map D.str) s.rest)=(s.form.zip s.rest).map λp=>eQ p.1 p.2:=by
  cases s with
  | num _=>rfl
  | box _=>rfl
  | aft _=>rfl
  | two p a b=>
   show [Vl.sub _ (.tup [.str "sum",a.d]),Vl.sub _ (.tup [.str "sum",b.d])]=[eQ "sum" a.d,eQ "sum" b.d]
   rw[cL (by simp[Hp.noL,noLs,a.noL]),cL (by simp[Hp.noL,noLs,b.noL])]
   rfl
 rw[s.d_eq] at v2 ⊢
 simp only[iE,aX,sH,bL,aO,gS,gZ,v2,aN,aB,aS,k1,fO,hs,eY,fQ,Bool.or_self,cH,List.append_nil]
 rw[hz]
theorem aJE:(("sum" : Str) == "sum")=true:=by decide +kernel
theorem aLl:(("number" : Str) == "sum")=false:=by decide +kernel
theorem aLm:(("number" : Str) == "cond")=false:=by decide +kernel
theorem aJF:(("box" : Str) == "sum")=false:=by decide +kernel
theorem aJG:(("box" : Str) == "cond")=false:=by decide +kernel
section
variable {P:Pg} {wh wi ch fo lo:Nat} (hW:P.fns[wh]? = some fWhole) (hI:P.fns[wi]? = some (fWithin wh)) (hC:P.fns[ch]? = some (fCheck wi)) (hO:P.fns[fo]? = some fForm) (hT:P.tabs[0]? = some sumTab) (hL:P.fns[lo]? = some (fLook fo ch lo))
include hW hI hC hO hT hL
theorem aAi{n:Nat}{bs:List D}{s1 s2 s3 s5 s6 s7:Sl}{m:Int}{w:Str}{i:Int}(h0:0<=i)(h1:i<=(if w == "number" then 99 else (bs.length:Int)-1))(q1:(w == "sum")=false)(q2:(w == "cond")=false) :
 exs P (call P (n+3)) [.sh true (.lst bs),s1,s2,s3,.sh false (.int m),s5,.sh false (.str w),.sh false (.int i)] (bP ch lo)=.next [.sh true (.lst bs),s1,s2,s3,.sh false (.int m),s5,.sh false (.str w),.sh false (.int i)]:=by
 have c1:=aCt hW hI hC n (bs:=bs) (due:=w) h0 h1
 simp only[bP,aG,aK,bJ,dF,aR,aX,bL,aO,gS,gZ,aN,aB,aS,bK,dU,q1,q2,bF,if_false,aE,uT,aZ,aC,aF,bI,mC,mN,c1,dP]
end
theorem iN{P:Pg}{ch lo M:Nat}{bs:List D}{s1 s2 s5:Sl}{pl:Bool}{m m':Int}{d:D}(c1:call P M lo [.lst bs,.str "sum",d,.bl pl,.int m]=.ok (.int m',false,false)) :
 exs P (call P M) [.sh true (.lst bs),s1,s2,.sh true (.bl pl),.sh false (.int m),s5,.sh false (.str "sum"),.sh false d] (bP ch lo)=.next [.sh true (.lst bs),s1,s2,.sh true (.bl pl),.sh false (.int m'),s5,.sh false (.str "sum"),.sh false d]:=by
 simp only[bP,aG,aK,bJ,dF,aR,aX,bL,aO,gS,gZ,aN,aB,aS,bK,dU,aJE,if_true,aE,bT,aZ,aC,aF,bI,eO,mC,mN,c1,cN,cH,aQ,bO,bU,lS,lZ,dP]
section
variable {P:Pg} {wh wi ch fo lo:Nat} (hW:P.fns[wh]? = some fWhole) (hI:P.fns[wi]? = some (fWithin wh)) (hC:P.fns[ch]? = some (fCheck wi)) (hO:P.fns[fo]? = some fForm) (hT:P.tabs[0]? = some sumTab) (hL:P.fns[lo]? = some (fLook fo ch lo))
include hW hI hC hO hT hL
theorem yC{m:Nat}{bs:List D}{s:Sm}{c:Nat}{pl:Bool}{seen r:Int}{s6 s7:Sl}(w:s.wf c pl)(hs:seen<40)
 (hfor:ex P (call P (m+1)) [.sh true (.lst bs),.sh true (.str "sum"),.sh true s.d,.sh true (.bl pl),.sh false (.int (seen+1)),.sh false (.tup (s.form.map D.str)),.dead,.dead] (.for (.t [6,7]) (.zip (.v 5) (.sli (.v 2) (.cons (.c (.int 1)) .nil) .nil)) (bP ch lo)) =
  .next [.sh true (.lst bs),.sh true (.str "sum"),.sh true s.d,.sh true (.bl pl),.sh false (.int r),.sh false (.tup (s.form.map D.str)),s6,s7]) :
 call P (m+2) lo [.lst bs,.str "sum",s.d,.bl pl,.int seen]=.ok (.int r,false,false):=by
 have c1:=aEz hO hT m s w
 have v2:=cJ 2 true s.noL
 have q40:(seen==40)=false:=beq_eq_false_iff_ne.mpr (by omega)
 refine bB (F:=fLook fo ch lo) hL rfl (v:=.cl (.int r)) ?_
 show exs P (call P (m+1)) [.sh true (.lst bs),.sh true (.str "sum"),.sh true s.d,.sh true (.bl pl),.sh true (.int seen),.dead,.dead,.dead] (.cons (.iff (.cmp .Eq (.v 4) (.c (.int 40)))
  (.cons (.rse "TooMany" false (.cons (.c (.str "a condition or sum has at most forty parts")) .nil))
  .nil)
  .nil)
 (.cons (.set (.n 4) (.op .Add (.v 4) (.c (.int 1))))
 (.cons (.set (.n 5) (.call fo (.cons (.v 1) (.cons (.v 2) (.cons (.v 3) .nil)))))
 (.cons (.for (.t [6,7]) (.zip (.v 5) (.sli (.v 2) (.cons (.c (.int 1)) .nil) .nil)) (bP ch lo))
 (.cons (.retv 4)
 .nil)))))=_
 simp only[aG,aK,bJ,aR,aX,bL,aO,gS,gZ,cI,aB,aS,bK,bY,q40,bF,if_false,aE,dP,bT,cP,add_int,cH,aQ,bO,bU,lS,lZ,aZ,aC,aF,jD,v2,eO,mC,mN,c1,cN,hfor,jC,fP]
theorem sL{n:Nat}{bs:List D}{s:Sm}{c:Nat}{pl:Bool}{seen:Int}{w:Str}{i:Int}(hwf:s.wf c pl)(hs:seen<40)(hf:s.form=[w])(hr:s.rest=[.int i])(h0:0<=i)(h1:i<=(if w == "number" then 99 else (bs.length:Int)-1))(q1:(w == "sum")=false)(q2:(w == "cond")=false) :
 call P (n+4) lo [.lst bs,.str "sum",s.d,.bl pl,.int seen]=.ok (.int (seen+1),false,false):=by
 refine yC hW hI hC hO hT hL (m:=n+2) (s6:=.sh false (.str w)) (s7:=.sh false (.int i)) hwf hs ?_
 have tl:∀{s1 s2 s3 s5:Sl} {m:Int},exs P (call P (n+2+1)) [.sh true (.lst bs),s1,s2,s3,.sh false (.int m),s5,.sh false (.str w),.sh false (.int i)] (bP ch lo)=.next [.sh true (.lst bs),s1,s2,s3,.sh false (.int m),s5,.sh false (.str w),.sh false (.int i)]:=aAi hW hI hC hO hT hL (n:=n) (s6:=.dead) (s7:=.dead) h0 h1 q1 q2
 rw[gD,oQ,hf,hr,aE]
 simp only[List.zip_cons_cons,List.zip_nil_left,mC,mN,aQ,cZ,fI (show Hp.noL (.int i)=true from rfl),aE,tl]
theorem jF{bs:List D}{c:Nat}(hc:bs.length=c){pl:Bool}:∀(s:Sm) (n:Nat) (seen:Int),s.wf c pl->seen+s.sz<=40->call P (n+3+s.sz) lo [.lst bs,.str "sum",s.d,.bl pl,.int seen]=.ok (.int (seen+s.sz),false,false)
 | .num k,n,seen,w,h=>by
  have h:seen+1<=40:=h
  obtain⟨w1,w2⟩:0<=k/\k<=99:=w
  exact sL hW hI hC hO hT hL (n:=n) (s:=.num k) (c:=c) ⟨w1,w2⟩ (by omega) rfl rfl w1 (by rw[aHb,if_pos rfl];exact w2) aLl aLm
 | .box k,n,seen,w,h=>by
  have h:seen+1<=40:=h
  have w1:k<c:=w
  exact sL hW hI hC hO hT hL (n:=n) (s:=.box k) (c:=c) w1 (by omega) rfl rfl (by omega) (by rw[aEx,if_neg bN];omega) aJF aJG
 | .aft k,n,seen,w,h=>by
  have h:seen+1<=40:=h
  obtain⟨w1,w2⟩:k<c/\pl=false:=w
  exact sL hW hI hC hO hT hL (n:=n) (s:=.aft k) (c:=c) ⟨w1,w2⟩ (by omega) rfl rfl (by omega) (by rw[aEx,if_neg bN];omega) aJF aJG
 | .two p a b,n,seen,w,h=>by
  have h:seen+((1+a.sz+b.sz:Nat):Int)<=40:=h
  obtain⟨w1,w2⟩:a.wf c pl/\b.wf c pl:=w
  have pa:1<=a.sz:=by cases a <;> simp[Sm.sz];omega
  have c1:=jF hc a (n+b.sz) (seen+1) w1 (by omega)
  have c2:=jF hc b (n+a.sz) (seen+1+a.sz) w2 (by omega)
  have e1:n+b.sz+3+a.sz=n+2+a.sz+b.sz+1:=by omega
  have e2:n+a.sz+3+b.sz=n+2+a.sz+b.sz+1:=by omega
  rw[e1] at c1
  rw[e2] at c2
  have e3:n+3+Sm.sz (.two p a b)=n+2+a.sz+b.sz+2:=by show n+3+(1+a.sz+b.sz)=_;omega
  have e4:seen+((Sm.sz (.two p a b):Nat):Int)=seen+1+a.sz+b.sz:=by show seen+((1+a.sz+b.sz:Nat):Int)=_;omega
  rw[e3,e4]
  refine yC hW hI hC hO hT hL (m:=n+2+a.sz+b.sz) (s6:=.sh false (.str "sum")) (s7:=.sh false b.d) (c:=c) ⟨w1,w2⟩ (by omega) ?_
  rw[gD,oQ,aE]
  have ef:(Sm.two p a b).form=[("sum" : Str),("sum" : Str)]:=rfl
  have er:(Sm.two p a b).rest=[a.d,b.d]:=rfl
  simp only[ef,er,List.zip_cons_cons,List.zip_nil_left,mC,mN,aQ,cZ,fI a.noL,fI b.noL,aE,iN c1,iN c2]
end
inductive Cn where
 | yes|cmp (i:Bool) (a b:Sm)|nt (c:Cn)|two (p:Bool) (a b:Cn)
def mQ(i:Bool):Str:=if i then "is" else "less"
def iO(p:Bool):Str:=if p then "both" else "either"
def Cn.d:Cn->D
 | .yes=>.tup [.str "yes"]
 | .cmp i a b=>.tup [.str (mQ i),a.d,b.d]
 | .nt c=>.tup [.str "not",c.d]
 | .two p a b=>.tup [.str (iO p),a.d,b.d]
def Cn.sz:Cn->Nat
 | .yes=>1
 | .cmp _ a b=>1+a.sz+b.sz
 | .nt c=>1+c.sz
 | .two _ a b=>1+a.sz+b.sz
def Cn.hold(ah be:List Int):Cn->Bool
 | .yes=>true
 | .cmp i a b=>if i then a.val ah be==b.val ah be else decide (a.val ah be<b.val ah be)
 | .nt c=>!c.hold ah be
 | .two p a b=>if p then a.hold ah be&&b.hold ah be else a.hold ah be||b.hold ah be
def Cn.wf(c:Nat)(pl:Bool):Cn->Prop
 | .yes=>True
 | .cmp _ a b=>a.wf c pl/\b.wf c pl
 | .nt x=>x.wf c pl
 | .two _ a b=>a.wf c pl/\b.wf c pl
theorem Cn.noL:∀s:Cn,Hp.noL s.d=true
 | .yes=>rfl
 | .cmp _ a b=>by simp[Cn.d,Hp.noL,noLs,a.noL,b.noL]
 | .nt c=>by simp[Cn.d,Hp.noL,noLs,c.noL]
 | .two _ a b=>by simp[Cn.d,Hp.noL,noLs,a.noL,b.noL]
def oR(v f:Nat):Fn:=⟨3,6,
 (.cons (.set (.n 3) (.idx (.v 0) (.c (.int 0))))
 (.cons (.iff (.cmp .Eq (.v 3) (.c (.str "yes")))
  (.cons (.ret (.c (.bl true)))
  .nil)
  .nil)
 (.cons (.iff (.cmp .Eq (.v 3) (.c (.str "not")))
  (.cons (.ret (.nt (.call f (.cons (.idx (.v 0) (.c (.int 1))) (.cons (.v 1) (.cons (.v 2) .nil))))))
  .nil)
  .nil)
 (.cons (.iff (.cmp .Eq (.v 3) (.c (.str "both")))
  (.cons (.ret (.an (.call f (.cons (.idx (.v 0) (.c (.int 1))) (.cons (.v 1) (.cons (.v 2) .nil)))) (.call f (.cons (.idx (.v 0) (.c (.int 2))) (.cons (.v 1) (.cons (.v 2) .nil))))))
  .nil)
  .nil)
 (.cons (.iff (.cmp .Eq (.v 3) (.c (.str "either")))
  (.cons (.ret (.orr (.call f (.cons (.idx (.v 0) (.c (.int 1))) (.cons (.v 1) (.cons (.v 2) .nil)))) (.call f (.cons (.idx (.v 0) (.c (.int 2))) (.cons (.v 1) (.cons (.v 2) .nil))))))
  .nil)
  .nil)
 (.cons (.set (.n 4) (.call v (.cons (.idx (.v 0) (.c (.int 1))) (.cons (.v 1) (.cons (.v 2) .nil)))))
 (.cons (.set (.n 5) (.call v (.cons (.idx (.v 0) (.c (.int 2))) (.cons (.v 1) (.cons (.v 2) .nil)))))
 (.cons (.ret (.ife (.cmp .Eq (.v 3) (.c (.str "is"))) (.cmp .Eq (.v 4) (.v 5)) (.cmp .Lt (.v 4) (.v 5))))
 .nil))))))))⟩
theorem aLn:(("yes" : Str) == "yes")=true:=by decide +kernel
theorem aLo:(("not" : Str) == "yes")=false:=by decide +kernel
theorem aLp:(("not" : Str) == "not")=true:=by decide +kernel
theorem aLq:∀p,(mQ p == "yes")=false:=by decide +kernel
theorem aLr:∀p,(mQ p == "not")=false:=by decide +kernel
theorem aLs:∀p,(mQ p == "both")=false:=by decide +kernel
theorem aLt:∀p,(mQ p == "either")=false:=by decide +kernel
theorem aLu:∀p,(mQ p == "is")=p:=by decide +kernel
theorem aLv:∀p,(iO p == "yes")=false:=by decide +kernel
theorem aLw:∀p,(iO p == "not")=false:=by decide +kernel
theorem aJH:∀p,(iO p == "both")=p:=by decide +kernel
theorem aLx:∀p,(iO p == "either")=!p:=by decide +kernel
theorem Sm.sz_pos:∀s:Sm,1<=s.sz
 | .num _=>Nat.le_refl _|.box _=>Nat.le_refl _|.aft _=>Nat.le_refl _
 | .two _ a b=>by show 1<=1+a.sz+b.sz;omega
theorem Cn.sz_pos:∀s:Cn,1<=s.sz
 | .yes=>Nat.le_refl _
 | .cmp _ a b=>by show 1<=1+a.sz+b.sz;omega
 | .nt c=>by show 1<=1+c.sz;omega
 | .two _ a b=>by show 1<=1+a.sz+b.sz;omega
theorem iP{P:Pg}{v f:Nat}(hV:P.fns[v]? = some (lV v))(hF:P.fns[f]? = some (oR v f)){ah be:List Int}{bd:D}{c:Nat}{pl:Bool}(ha:ah.length=c)(hb:be.length=c)(hn:Hp.noL bd=true)(hbd:pl=false->bd=aL be) :
 ∀(s:Cn) (n:Nat),s.wf c pl->call P (n+s.sz) f [s.d,aL ah,bd]=.ok (.bl (s.hold ah be),false,false)
 | .yes,n,w=>by
  refine bB (F:=oR v f) hF rfl (v:=.cl (.bl true)) ?_
  exact cs (eH (cA (v0_ rfl) rfl (fR _ _ rfl))) (iJ (cK rfl aLn) (dM rfl))
 | .cmp i a b,n,w=>by
  obtain⟨w1,w2⟩:a.wf c pl/\b.wf c pl:=w
  have c1:=kO hV ha hb hn hbd a (n+b.sz) w1
  have c2:=kO hV ha hb hn hbd b (n+a.sz) w2
  rw[show n+b.sz+a.sz=n+a.sz+b.sz by omega] at c1
  have e:n+Cn.sz (.cmp i a b)=n+a.sz+b.sz+1:=by show n+(1+a.sz+b.sz)=_;omega
  rw[e]
  refine bB (F:=oR v f) hF rfl (v:=.cl (.bl (Cn.hold ah be (.cmp i a b)))) ?_
  refine cs (eH (cA (v0_ (Cn.noL _)) rfl (fR _ _ rfl))) (cs (eI (cK rfl (aLq i))) (cs (eI (cK rfl (aLr i))) (cs (eI (cK rfl (aLs i))) (cs (eI (cK rfl (aLt i))) (cs (eH (eE (cA (v0_ (Cn.noL _)) rfl (kN _ _ _ a.noL)) (v1_ (bC _)) (v2_ hn) c1)) (cs (eH (eE (cA (v0_ (Cn.noL _)) rfl (aEw _ _ _ _ b.noL)) (v1_ (bC _)) (v2_ hn) c2)) (dM (aFe (cK rfl (aLu i)) ?_))))))))
  cases i <;> rfl
 | .nt x,n,w=>by
  have c1:=iP hV hF ha hb hn hbd x n w
  have e:n+Cn.sz (.nt x)=n+x.sz+1:=by show n+(1+x.sz)=_;omega
  rw[e]
  refine bB (F:=oR v f) hF rfl (v:=.cl (.bl (Cn.hold ah be (.nt x)))) ?_
  exact cs (eH (cA (v0_ (Cn.noL _)) rfl (fR _ _ rfl))) (cs (eI (cK rfl aLo)) (iJ (cK rfl aLp) (dM (aLb (eE (cA (v0_ (Cn.noL _)) rfl (kN _ _ _ x.noL)) (v1_ (bC _)) (v2_ hn) c1)))))
 | .two p a b,n,w=>by
  obtain⟨w1,w2⟩:a.wf c pl/\b.wf c pl:=w
  have c1:=iP hV hF ha hb hn hbd a (n+b.sz) w1
  have c2:=iP hV hF ha hb hn hbd b (n+a.sz) w2
  rw[show n+b.sz+a.sz=n+a.sz+b.sz by omega] at c1
  have e:n+Cn.sz (.two p a b)=n+a.sz+b.sz+1:=by show n+(1+a.sz+b.sz)=_;omega
  rw[e]
  refine bB (F:=oR v f) hF rfl (v:=.cl (.bl (Cn.hold ah be (.two p a b)))) ?_
  refine cs (eH (cA (v0_ (Cn.noL _)) rfl (fR _ _ rfl))) (cs (eI (cK rfl (aLv p))) (cs (eI (cK rfl (aLw p))) ?_))
  cases p with
  | true=>exact iJ (cK rfl (aJH true)) (dM (aLc (eE (cA (v0_ (Cn.noL _)) rfl (kN _ _ _ a.noL)) (v1_ (bC _)) (v2_ hn) c1) (eE (cA (v0_ (Cn.noL _)) rfl (aEw _ _ _ _ b.noL)) (v1_ (bC _)) (v2_ hn) c2)))
  | false=>exact cs (eI (cK rfl (aJH false))) (iJ (cK rfl (aLx false)) (dM (aJA (eE (cA (v0_ (Cn.noL _)) rfl (kN _ _ _ a.noL)) (v1_ (bC _)) (v2_ hn) c1) (eE (cA (v0_ (Cn.noL _)) rfl (aEw _ _ _ _ b.noL)) (v1_ (bC _)) (v2_ hn) c2))))
def condTab:List (Str×D):=[("yes",.tup []),("is",.tup [.str "sum",.str "sum"]),("less",.tup [.str "sum",.str "sum"]),("not",.tup [.str "cond"]),("both",.tup [.str "cond",.str "cond"]),("either",.tup [.str "cond",.str "cond"])]
def Cn.word:Cn->Str
 | .yes => "yes" | .cmp i _ _=>mQ i|.nt _ => "not" | .two p _ _=>iO p
def Cn.rest:Cn->List D
 | .yes=>[]|.cmp _ a b=>[a.d,b.d]|.nt x=>[x.d]|.two _ a b=>[a.d,b.d]
def Cn.form:Cn->List Str
 | .yes=>[]|.cmp _ _ _=>["sum", "sum"]|.nt _=>["cond"]|.two _ _ _=>["cond", "cond"]
theorem Cn.d_eq:∀s:Cn,s.d=.tup (.str s.word::s.rest)
 | .yes=>rfl|.cmp _ _ _=>rfl|.nt _=>rfl|.two _ _ _=>rfl
theorem Cn.rest_noL:∀s:Cn,noLs s.rest=true
 | .yes=>rfl
 | .cmp _ a b=>by simp[Cn.rest,noLs,a.noL,b.noL]
 | .nt x=>by simp[Cn.rest,noLs,x.noL]
 | .two _ a b=>by simp[Cn.rest,noLs,a.noL,b.noL]
theorem Cn.len_eq:∀s:Cn,s.rest.length=s.form.length
 | .yes=>rfl|.cmp _ _ _=>rfl|.nt _=>rfl|.two _ _ _=>rfl
theorem Cn.look:∀s:Cn,condTab.lookup s.word=some (.tup (s.form.map D.str))
 | .yes=>by rfl
 | .cmp true _ _=>by rfl
 | .cmp false _ _=>by rfl
 | .nt _=>by rfl
 | .two true _ _=>by rfl
 | .two false _ _=>by rfl
theorem Cn.notAfter:∀s:Cn,(s.word == "after")=false
 | .yes=>by show(("yes" : Str) == "after")=false;decide +kernel
 | .cmp true _ _=>by show(mQ true == "after")=false;decide +kernel
 | .cmp false _ _=>by show(mQ false == "after")=false;decide +kernel
 | .nt _=>by show(("not" : Str) == "after")=false;decide +kernel
 | .two true _ _=>by show(iO true == "after")=false;decide +kernel
 | .two false _ _=>by show(iO false == "after")=false;decide +kernel
theorem kP{P:Pg}{fo:Nat}(hF:P.fns[fo]? = some fForm)(hT:P.tabs[1]? = some condTab)(n:Nat)(s:Cn){pl:Bool}:call P (n+1) fo [.str "cond",s.d,.bl pl]=.ok (.tup (s.form.map D.str),false,false):=by
 have v1:=cJ 1 true s.noL
 rw[s.d_eq] at v1 ⊢
 have i0:=fR (.str s.word) s.rest rfl
 have qs:(("cond" : Str) == "sum")=false:=by decide +kernel
 have hln:((.str s.word::s.rest:List D).length:Int)=(s.form.length:Int)+1:=by rw[lC,s.len_eq];omega
 have h0:((((.str s.word::s.rest:List D).length:Int))==0)=false:=by rw[hln];exact beq_eq_false_iff_ne.mpr (by omega)
 have t1:tst P (call P n) [.sh true (.str "cond"),.sh true (.tup (.str s.word::s.rest)),.sh true (.bl pl),.dead,.dead] (.orr (.nt (.isi (.v 1) [.tTuple])) (.orr (.cmp .Eq (.bi .len (.cons (.v 1) .nil)) (.c (.int 0))) (.nt (.isi (.idx (.v 1) (.c (.int 0))) [.tStr]))))=.ok false:=by
  simp only[dF,jP,jB,aR,aX,bL,iD,bX,aC,aF,aO,gS,gZ,v1,aB,aS,xY,Bool.not_true,bF,if_false,mY,bK,bY,h0,i0,xX]
 have t2:tst P (call P n) [.sh true (.str "cond"),.sh true (.tup (.str s.word::s.rest)),.sh true (.bl pl),.sh false (.str s.word),.sh false (.tup (s.form.map D.str))] (.orr (.cmp .Is (.v 4) (.c .non)) (.cmp .NotEq (.bi .len (.cons (.v 1) .nil)) (.op .Add (.bi .len (.cons (.v 4) .nil)) (.c (.int 1)))))=.ok false:=by
  have hi:cT .Is (.tup (s.form.map D.str)) .non=some false:=rfl
  have hq:(((s.form.length:Int)+1==(s.form.length:Int)+1))=true:=beq_self_eq_true _
  simp only[dF,aR,aX,bL,iD,cP,aC,aF,aO,gS,gZ,v1,aN,aB,aS,hi,bF,if_false,mY,hln,lM,add_int,iI,bY,hq,Option.map_some,Bool.not_true]
 have t3:tst P (call P n) [.sh true (.str "cond"),.sh true (.tup (.str s.word::s.rest)),.sh true (.bl pl),.sh false (.str s.word),.sh false (.tup (s.form.map D.str))] (.an (.v 2) (.cmp .Eq (.v 3) (.c (.str "after"))))=.ok false:=by
  simp only[lT,aCj,aR,aX,bL,aO,gS,gZ,eO,aN,aB,jQ,aS,bK,dU,s.notAfter]
  cases pl <;> rfl
 refine bB (F:=fForm) hF rfl (v:=.cl (.tup (s.form.map D.str))) ?_
 have hl:=s.look
 show exs P (call P n) [.sh true (.str "cond"),.sh true (.tup (.str s.word::s.rest)),.sh true (.bl pl),.dead,.dead] fForm.body=_
 unfold fForm
 simp only[aG,aK,bJ,t1,aE,bF,if_false,dP,bT,bX,aX,bL,aO,gS,gZ,v1,aB,i0,cH,aQ,bO,bU,lS,lZ,wL,aR,jD,aS,bK,dU,qs,uR,aN,hT,hl,Option.getD_some,t2,t3,jC,fP]
theorem eB{P:Pg}{cl:Caller}{s0 s1 s3 s4 s6 s7:Sl}(s:Cn):walk P cl [s0,s1,.sh true s.d,s3,s4,.sh false (.tup (s.form.map D.str)),s6,s7] (.zip (.v 5) (.sli (.v 2) (.cons (.c (.int 1)) .nil) .nil)) =
 .ok ((s.form.zip s.rest).map λp=>eQ p.1 p.2,[]):=by
 have v2:=cJ 2 true s.noL
 have k1:aI 1=true:=by decide
 have hno:noLs (.str s.word::s.rest)=true:=by simp[noLs,Hp.noL,s.rest_noL]
 have hcut:cut (.str s.word::s.rest) (some 1) none=s.rest:=by cases s <;> rfl
 have hs:dH (.cl (.tup (.str s.word::s.rest))) (some 1) none=.ok (.cl (.tup s.rest)):=by
  unfold dH
  simp only[aS,hcut,fQ,Bool.false_and,hno,if_true]
  rfl
 have two:∀(w:Str) {a b:D},Hp.noL a=true->Hp.noL b=true->items ⟨.non,false,false,[]⟩ (dR ([w,w].map D.str) [a,b])=[eQ w a,eQ w b]:=λw a b ha hb=>by
  show [Vl.sub _ (.tup [.str w,a]),Vl.sub _ (.tup [.str w,b])]=[eQ w a,eQ w b]
  rw[cL (by simp[Hp.noL,noLs,ha]),cL (by simp[Hp.noL,noLs,hb])]
  rfl
 have hz:items ⟨.non,false,false,[]⟩ (dR (s.form.map D.str) s.rest)=(s.form.zip s.rest).map λp=>eQ p.1 p.2:=by
  cases s with
  | yes=>rfl
  | cmp _ a b=>exact two _ a.noL b.noL
  | nt x=>
   show [Vl.sub _ (.tup [.str "cond",x.d])]=[eQ "cond" x.d]
   rw[cL (by simp[Hp.noL,noLs,x.noL])]
   rfl
  | two p a b=>exact two _ a.noL b.noL
 rw[s.d_eq] at v2 ⊢
 simp only[iE,aX,sH,bL,aO,gS,gZ,v2,aN,aB,aS,k1,fO,hs,eY,fQ,Bool.or_self,cH,List.append_nil]
 rw[hz]
theorem aJI:(("cond" : Str) == "sum")=false:=by decide +kernel
theorem aJJ:(("cond" : Str) == "cond")=true:=by decide +kernel
theorem jG{P:Pg}{ch lo M:Nat}{bs:List D}{s1 s2 s5:Sl}{pl:Bool}{m m':Int}{d:D}(c1:call P M lo [.lst bs,.str "cond",d,.bl pl,.int m]=.ok (.int m',false,false)) :
 exs P (call P M) [.sh true (.lst bs),s1,s2,.sh true (.bl pl),.sh false (.int m),s5,.sh false (.str "cond"),.sh false d] (bP ch lo)=.next [.sh true (.lst bs),s1,s2,.sh true (.bl pl),.sh false (.int m'),s5,.sh false (.str "cond"),.sh false d]:=by
 simp only[bP,aG,aK,bJ,dF,aR,aX,bL,aO,gS,gZ,aN,aB,aS,bK,dU,aJI,aJJ,bF,if_false,if_true,aE,bT,aZ,aC,aF,bI,eO,mC,mN,c1,cN,cH,aQ,bO,bU,lS,lZ,dP]
section
variable {P:Pg} {wh wi ch fo lo:Nat} (hW:P.fns[wh]? = some fWhole) (hI:P.fns[wi]? = some (fWithin wh)) (hC:P.fns[ch]? = some (fCheck wi)) (hO:P.fns[fo]? = some fForm) (hT:P.tabs[0]? = some sumTab) (hU:P.tabs[1]? = some condTab) (hL:P.fns[lo]? = some (fLook fo ch lo))
include hW hI hC hO hT hU hL
theorem kQ{m:Nat}{bs:List D}{s:Cn}{pl:Bool}{seen r:Int}{s6 s7:Sl}(hs:seen<40)
 (hfor:ex P (call P (m+1)) [.sh true (.lst bs),.sh true (.str "cond"),.sh true s.d,.sh true (.bl pl),.sh false (.int (seen+1)),.sh false (.tup (s.form.map D.str)),.dead,.dead] (.for (.t [6,7]) (.zip (.v 5) (.sli (.v 2) (.cons (.c (.int 1)) .nil) .nil)) (bP ch lo)) =
  .next [.sh true (.lst bs),.sh true (.str "cond"),.sh true s.d,.sh true (.bl pl),.sh false (.int r),.sh false (.tup (s.form.map D.str)),s6,s7]) :
 call P (m+2) lo [.lst bs,.str "cond",s.d,.bl pl,.int seen]=.ok (.int r,false,false):=by
 have c1:=kP hO hU m s (pl:=pl)
 have v2:=cJ 2 true s.noL
 have q40:(seen==40)=false:=beq_eq_false_iff_ne.mpr (by omega)
 refine bB (F:=fLook fo ch lo) hL rfl (v:=.cl (.int r)) ?_
 show exs P (call P (m+1)) [.sh true (.lst bs),.sh true (.str "cond"),.sh true s.d,.sh true (.bl pl),.sh true (.int seen),.dead,.dead,.dead] (.cons (.iff (.cmp .Eq (.v 4) (.c (.int 40)))
  (.cons (.rse "TooMany" false (.cons (.c (.str "a condition or sum has at most forty parts")) .nil))
  .nil)
  .nil)
 (.cons (.set (.n 4) (.op .Add (.v 4) (.c (.int 1))))
 (.cons (.set (.n 5) (.call fo (.cons (.v 1) (.cons (.v 2) (.cons (.v 3) .nil)))))
 (.cons (.for (.t [6,7]) (.zip (.v 5) (.sli (.v 2) (.cons (.c (.int 1)) .nil) .nil)) (bP ch lo))
 (.cons (.retv 4)
 .nil)))))=_
 simp only[aG,aK,bJ,aR,aX,bL,aO,gS,gZ,cI,aB,aS,bK,bY,q40,bF,if_false,aE,dP,bT,cP,add_int,cH,aQ,bO,bU,lS,lZ,aZ,aC,aF,jD,v2,eO,mC,mN,c1,cN,hfor,jC,fP]
theorem iQ{bs:List D}{c:Nat}(hc:bs.length=c){pl:Bool}:∀(s:Cn) (n:Nat) (seen:Int),s.wf c pl->seen+s.sz<=40->call P (n+3+s.sz) lo [.lst bs,.str "cond",s.d,.bl pl,.int seen]=.ok (.int (seen+s.sz),false,false)
 | .yes,n,seen,w,h=>by
  have h:seen+1<=40:=h
  refine kQ hW hI hC hO hT hU hL (m:=n+2) (s:=.yes) (s6:=.dead) (s7:=.dead) (by omega) ?_
  rw[gD,eB,aE]
  rfl
 | .cmp i a b,n,seen,w,h=>by
  have h:seen+((1+a.sz+b.sz:Nat):Int)<=40:=h
  obtain⟨w1,w2⟩:a.wf c pl/\b.wf c pl:=w
  have pa:=a.sz_pos
  have c1:=jF hW hI hC hO hT hL hc a (n+b.sz) (seen+1) w1 (by omega)
  have c2:=jF hW hI hC hO hT hL hc b (n+a.sz) (seen+1+a.sz) w2 (by omega)
  have e1:n+b.sz+3+a.sz=n+2+a.sz+b.sz+1:=by omega
  have e2:n+a.sz+3+b.sz=n+2+a.sz+b.sz+1:=by omega
  rw[e1] at c1
  rw[e2] at c2
  have e3:n+3+Cn.sz (.cmp i a b)=n+2+a.sz+b.sz+2:=by show n+3+(1+a.sz+b.sz)=_;omega
  have e4:seen+((Cn.sz (.cmp i a b):Nat):Int)=seen+1+a.sz+b.sz:=by show seen+((1+a.sz+b.sz:Nat):Int)=_;omega
  rw[e3,e4]
  refine kQ hW hI hC hO hT hU hL (m:=n+2+a.sz+b.sz) (s6:=.sh false (.str "sum")) (s7:=.sh false b.d) (by omega) ?_
  rw[gD,eB,aE]
  have ef:(Cn.cmp i a b).form=[("sum" : Str),("sum" : Str)]:=rfl
  have er:(Cn.cmp i a b).rest=[a.d,b.d]:=rfl
  simp only[ef,er,List.zip_cons_cons,List.zip_nil_left,mC,mN,aQ,cZ,fI a.noL,fI b.noL,aE,iN c1,iN c2]
 | .nt x,n,seen,w,h=>by
  have h:seen+((1+x.sz:Nat):Int)<=40:=h
  have pa:=x.sz_pos
  have c1:=iQ hc x n (seen+1) w (by omega)
  have e1:n+3+x.sz=n+2+x.sz+1:=by omega
  rw[e1] at c1
  have e3:n+3+Cn.sz (.nt x)=n+2+x.sz+2:=by show n+3+(1+x.sz)=_;omega
  have e4:seen+((Cn.sz (.nt x):Nat):Int)=seen+1+x.sz:=by show seen+((1+x.sz:Nat):Int)=_;omega
  rw[e3,e4]
  refine kQ hW hI hC hO hT hU hL (m:=n+2+x.sz) (s6:=.sh false (.str "cond")) (s7:=.sh false x.d) (by omega) ?_
  rw[gD,eB,aE]
  have ef:(Cn.nt x).form=[("cond" : Str)]:=rfl
  have er:(Cn.nt x).rest=[x.d]:=rfl
  simp only[ef,er,List.zip_cons_cons,List.zip_nil_left,mC,mN,aQ,cZ,fI x.noL,aE,jG c1]
 | .two p a b,n,seen,w,h=>by
  have h:seen+((1+a.sz+b.sz:Nat):Int)<=40:=h
  obtain⟨w1,w2⟩:a.wf c pl/\b.wf c pl:=w
  have pa:=a.sz_pos
  have c1:=iQ hc a (n+b.sz) (seen+1) w1 (by omega)
  have c2:=iQ hc b (n+a.sz) (seen+1+a.sz) w2 (by omega)
  have e1:n+b.sz+3+a.sz=n+2+a.sz+b.sz+1:=by omega
  have e2:n+a.sz+3+b.sz=n+2+a.sz+b.sz+1:=by omega
  rw[e1] at c1
  rw[e2] at c2
  have e3:n+3+Cn.sz (.two p a b)=n+2+a.sz+b.sz+2:=by show n+3+(1+a.sz+b.sz)=_;omega
  have e4:seen+((Cn.sz (.two p a b):Nat):Int)=seen+1+a.sz+b.sz:=by show seen+((1+a.sz+b.sz:Nat):Int)=_;omega
  rw[e3,e4]
  refine kQ hW hI hC hO hT hU hL (m:=n+2+a.sz+b.sz) (s6:=.sh false (.str "cond")) (s7:=.sh false b.d) (by omega) ?_
  rw[gD,eB,aE]
  have ef:(Cn.two p a b).form=[("cond" : Str),("cond" : Str)]:=rfl
  have er:(Cn.two p a b).rest=[a.d,b.d]:=rfl
  simp only[ef,er,List.zip_cons_cons,List.zip_nil_left,mC,mN,aQ,cZ,fI a.noL,fI b.noL,aE,jG c1,jG c2]
end
end HpS
end
noncomputable section
namespace K07
open Hp
def f0:Hp.Fn:=⟨1,1,
 (.cons (.ret (.an (.isi (.v 0) [.tInt]) (.nt (.isi (.v 0) [.tBool]))))
 .nil)⟩
def f1:Hp.Fn:=⟨3,3,
 (.cons (.ret (.an (.call 0 (.cons (.v 0) .nil)) (.cmp2 .LtE .LtE (.v 1) (.v 0) (.v 2))))
 .nil)⟩
def f2:Hp.Fn:=⟨1,6,
 (.cons (.set (.n 1) (.lst (.cons (.tup .nil) .nil)))
 (.cons (.for (.t [2,3]) (.seq (.v 0))
  (.cons (.set (.n 4) (.lst .nil))
  (.cons (.for (.n 5) (.seq (.v 1))
   (.cons (.ext 4 (.comp 1 [5] (.n 0) (.rng (.c (.int 0)) (.op .Add (.v 3) (.c (.int 1)))) .nil (.op .Add (.v 1) (.tup (.cons (.v 0) .nil)))))
   .nil))
  (.cons (.mov 1 4)
  .nil))))
 (.cons (.retv 1)
 .nil)))⟩
def f3:Hp.Fn:=⟨3,3,
 (.cons (.ex (.call 4 (.cons (.v 0) (.cons (.c (.str "cond")) (.cons (.v 1) (.cons (.v 2) (.cons (.c (.int 0)) .nil)))))))
 (.cons (.retv 1)
 .nil))⟩
def f4:Hp.Fn:=⟨5,8,
 (.cons (.iff (.cmp .Eq (.v 4) (.c (.int 40)))
  (.cons (.rse "TooMany" false (.cons (.c (.str "a condition or sum has at most forty parts")) .nil))
  .nil)
  .nil)
 (.cons (.set (.n 4) (.op .Add (.v 4) (.c (.int 1))))
 (.cons (.set (.n 5) (.call 5 (.cons (.v 1) (.cons (.v 2) (.cons (.v 3) .nil)))))
 (.cons (.for (.t [6,7]) (.zip (.v 5) (.sli (.v 2) (.cons (.c (.int 1)) .nil) .nil))
  (.cons (.iff (.orr (.cmp .Eq (.v 6) (.c (.str "sum"))) (.cmp .Eq (.v 6) (.c (.str "cond"))))
   (.cons (.set (.n 4) (.call 4 (.cons (.v 0) (.cons (.v 6) (.cons (.v 7) (.cons (.v 3) (.cons (.v 4) .nil)))))))
   .nil)
   (.cons (.ex (.call 6 (.cons (.v 0) (.cons (.v 6) (.cons (.v 7) .nil)))))
   .nil))
  .nil))
 (.cons (.retv 4)
 .nil)))))⟩
def f5:Hp.Fn:=⟨3,5,
 (.cons (.iff (.orr (.nt (.isi (.v 1) [.tTuple])) (.orr (.cmp .Eq (.bi .len (.cons (.v 1) .nil)) (.c (.int 0))) (.nt (.isi (.idx (.v 1) (.c (.int 0))) [.tStr]))))
  (.cons (.rse "NoCond" false (.cons (.c (.str "a part is a tuple that begins with a word")) .nil))
  .nil)
  .nil)
 (.cons (.set (.n 3) (.idx (.v 1) (.c (.int 0))))
 (.cons (.set (.n 4) (.ife (.cmp .Eq (.v 0) (.c (.str "sum"))) (.tget 0 (.v 3)) (.tget 1 (.v 3))))
 (.cons (.iff (.orr (.cmp .Is (.v 4) (.c .non)) (.cmp .NotEq (.bi .len (.cons (.v 1) .nil)) (.op .Add (.bi .len (.cons (.v 4) .nil)) (.c (.int 1)))))
  (.cons (.rse "NoCond" false (.cons (.c (.str "a part has a word that is due there, and as many things as go with it")) .nil))
  .nil)
  .nil)
 (.cons (.iff (.an (.v 2) (.cmp .Eq (.v 3) (.c (.str "after"))))
  (.cons (.rse "NoCond" false (.cons (.c (.str "no after stands where a plain one is due")) .nil))
  .nil)
  .nil)
 (.cons (.retv 4)
 .nil))))))⟩
def f6:Hp.Fn:=⟨3,4,
 (.cons (.set (.n 3) (.ife (.cmp .Eq (.v 1) (.c (.str "number"))) (.c (.int 99)) (.op .Sub (.bi .len (.cons (.v 0) .nil)) (.c (.int 1)))))
 (.cons (.iff (.nt (.call 1 (.cons (.v 2) (.cons (.c (.int 0)) (.cons (.v 3) .nil)))))
  (.cons (.rse "NoCond" false (.cons (.c (.str "a number is a whole one from 0 to 99, a box the number of one")) .nil))
  .nil)
  .nil)
 .nil))⟩
def f7:Hp.Fn:=⟨3,6,
 (.cons (.set (.n 3) (.idx (.v 0) (.c (.int 0))))
 (.cons (.iff (.cmp .Eq (.v 3) (.c (.str "number")))
  (.cons (.ret (.idx (.v 0) (.c (.int 1))))
  .nil)
  .nil)
 (.cons (.iff (.cmp .Eq (.v 3) (.c (.str "box")))
  (.cons (.ret (.idx (.v 1) (.idx (.v 0) (.c (.int 1)))))
  .nil)
  .nil)
 (.cons (.iff (.cmp .Eq (.v 3) (.c (.str "after")))
  (.cons (.ret (.idx (.v 2) (.idx (.v 0) (.c (.int 1)))))
  .nil)
  .nil)
 (.cons (.set (.n 4) (.call 7 (.cons (.idx (.v 0) (.c (.int 1))) (.cons (.v 1) (.cons (.v 2) .nil)))))
 (.cons (.set (.n 5) (.call 7 (.cons (.idx (.v 0) (.c (.int 2))) (.cons (.v 1) (.cons (.v 2) .nil)))))
 (.cons (.ret (.ife (.cmp .Eq (.v 3) (.c (.str "plus"))) (.op .Add (.v 4) (.v 5)) (.op .Sub (.v 4) (.v 5))))
 .nil)))))))⟩
def f8:Hp.Fn:=⟨3,6,
 (.cons (.set (.n 3) (.idx (.v 0) (.c (.int 0))))
 (.cons (.iff (.cmp .Eq (.v 3) (.c (.str "yes")))
  (.cons (.ret (.c (.bl true)))
  .nil)
  .nil)
 (.cons (.iff (.cmp .Eq (.v 3) (.c (.str "not")))
  (.cons (.ret (.nt (.call 8 (.cons (.idx (.v 0) (.c (.int 1))) (.cons (.v 1) (.cons (.v 2) .nil))))))
  .nil)
  .nil)
 (.cons (.iff (.cmp .Eq (.v 3) (.c (.str "both")))
  (.cons (.ret (.an (.call 8 (.cons (.idx (.v 0) (.c (.int 1))) (.cons (.v 1) (.cons (.v 2) .nil)))) (.call 8 (.cons (.idx (.v 0) (.c (.int 2))) (.cons (.v 1) (.cons (.v 2) .nil))))))
  .nil)
  .nil)
 (.cons (.iff (.cmp .Eq (.v 3) (.c (.str "either")))
  (.cons (.ret (.orr (.call 8 (.cons (.idx (.v 0) (.c (.int 1))) (.cons (.v 1) (.cons (.v 2) .nil)))) (.call 8 (.cons (.idx (.v 0) (.c (.int 2))) (.cons (.v 1) (.cons (.v 2) .nil))))))
  .nil)
  .nil)
 (.cons (.set (.n 4) (.call 7 (.cons (.idx (.v 0) (.c (.int 1))) (.cons (.v 1) (.cons (.v 2) .nil)))))
 (.cons (.set (.n 5) (.call 7 (.cons (.idx (.v 0) (.c (.int 2))) (.cons (.v 1) (.cons (.v 2) .nil)))))
 (.cons (.ret (.ife (.cmp .Eq (.v 3) (.c (.str "is"))) (.cmp .Eq (.v 4) (.v 5)) (.cmp .Lt (.v 4) (.v 5))))
 .nil))))))))⟩
def f9:Hp.Fn:=⟨2,6,
 (.cons (.set (.n 2) (.call 2 (.cons (.v 0) .nil)))
 (.cons (.set (.n 3) (.lst .nil))
 (.cons (.for (.n 4) (.seq (.v 2))
  (.cons (.for (.n 5) (.seq (.v 2))
   (.cons (.iff (.an (.cmp .NotEq (.v 4) (.v 5)) (.call 8 (.cons (.v 1) (.cons (.v 4) (.cons (.v 5) .nil)))))
    (.cons (.app 3 (.tup (.cons (.v 4) (.cons (.v 5) .nil))))
    .nil)
    .nil)
   .nil))
  .nil))
 (.cons (.retv 3)
 .nil))))⟩
def f10:Hp.Fn:=⟨2,5,
 (.cons (.set (.n 2) (.lst .nil))
 (.cons (.set (.n 3) (.op .Add (.op .Mod (.v 0) (.c (.int 2147483647))) (.c (.int 48271))))
 (.cons (.for (.n 4) (.rng (.c (.int 0)) (.op .Add (.v 1) (.c (.int 1))))
  (.cons (.set (.n 3) (.op .Mod (.op .Add (.op .Add (.op .Mult (.v 3) (.v 3)) (.op .Mult (.c (.int 48271)) (.v 3))) (.v 4)) (.c (.int 2147483647))))
  (.cons (.app 2 (.v 3))
  .nil)))
 (.cons (.ret (.sli (.v 2) (.cons (.c (.int 1)) .nil) .nil))
 .nil))))⟩
def f11:Hp.Fn:=⟨1,6,
 (.cons (.set (.n 1) (.lst .nil))
 (.cons (.set (.n 2) (.c (.int 1)))
 (.cons (.set (.n 3) (.idx (.lst (.cons (.c (.int 12)) (.cons (.c (.int 12)) (.cons (.c (.int 12)) (.cons (.c (.int 24)) .nil))))) (.op .Mod (.idx (.v 0) (.c (.int 8))) (.c (.int 4)))))
 (.cons (.for (.n 4) (.rng (.c (.int 0)) (.c (.int 4)))
  (.cons (.set (.n 5) (.op .Add (.c (.int 1)) (.op .Mod (.idx (.v 0) (.v 4)) (.c (.int 7)))))
  (.cons (.iff (.orr (.cmp .Eq (.v 4) (.c (.int 0))) (.an (.cmp .LtE (.op .Mult (.v 2) (.op .Add (.v 5) (.c (.int 1)))) (.v 3)) (.cmp .Gt (.op .Mod (.idx (.v 0) (.op .Add (.c (.int 4)) (.v 4))) (.c (.int 4))) (.c (.int 0)))))
   (.cons (.app 1 (.tup (.cons (.sli (.c (.str "abcdefgh")) (.cons (.v 4) .nil) (.cons (.op .Add (.op .Add (.v 4) (.c (.int 1))) (.op .Mod (.idx (.v 0) (.c (.int 4))) (.c (.int 5)))) .nil)) (.cons (.v 5) .nil))))
   (.cons (.set (.n 2) (.op .Mult (.v 2) (.op .Add (.v 5) (.c (.int 1)))))
   .nil))
   .nil)
  .nil)))
 (.cons (.retv 1)
 .nil)))))⟩
def f12:Hp.Fn:=⟨2,3,
 (.cons (.set (.n 2) (.op .Mod (.op .FloorDiv (.v 0) (.c (.int 5))) (.v 1)))
 (.cons (.iff (.cmp .Lt (.op .Mod (.v 0) (.c (.int 5))) (.c (.int 2)))
  (.cons (.ret (.tup (.cons (.c (.str "after")) (.cons (.v 2) .nil))))
  .nil)
  .nil)
 (.cons (.iff (.cmp .Lt (.op .Mod (.v 0) (.c (.int 5))) (.c (.int 4)))
  (.cons (.ret (.tup (.cons (.c (.str "box")) (.cons (.v 2) .nil))))
  .nil)
  .nil)
 (.cons (.ret (.tup (.cons (.c (.str "number")) (.cons (.idx (.lst (.cons (.c (.int 0)) (.cons (.c (.int 1)) (.cons (.c (.int 1)) (.cons (.c (.int 2)) (.cons (.c (.int 7)) .nil)))))) (.op .Mod (.op .FloorDiv (.v 0) (.c (.int 5))) (.c (.int 5)))) .nil))))
 .nil))))⟩
def f13:Hp.Fn:=⟨2,2,
 (.cons (.iff (.cmp .Eq (.idx (.v 0) (.c (.int 0))) (.c (.str "number")))
  (.cons (.ret (.idx (.v 0) (.c (.int 1))))
  .nil)
  .nil)
 (.cons (.ret (.idx (.idx (.v 1) (.bi .int (.cons (.cmp .Eq (.idx (.v 0) (.c (.int 0))) (.c (.str "after"))) .nil))) (.idx (.v 0) (.c (.int 1)))))
 .nil))⟩
def f14:Hp.Fn:=⟨3,8,
 (.cons (.set (.n 3) (.call 12 (.cons (.idx (.v 0) (.c (.int 0))) (.cons (.v 1) .nil))))
 (.cons (.set (.n 4) (.comp 1 [3] (.n 0) (.seq (.v 2)) .nil (.call 13 (.cons (.v 1) (.cons (.v 0) .nil)))))
 (.cons (.iff (.cmp .Eq (.op .Mod (.idx (.v 0) (.c (.int 1))) (.c (.int 3))) (.c (.int 0)))
  (.cons (.set (.n 5) (.call 12 (.cons (.idx (.v 0) (.c (.int 2))) (.cons (.v 1) .nil))))
  (.cons (.set (.n 6) (.op .Sub (.c (.int 1)) (.op .Mult (.c (.int 2)) (.op .Mod (.op .FloorDiv (.idx (.v 0) (.c (.int 1))) (.c (.int 3))) (.c (.int 2))))))
  (.cons (.set (.n 7) (.comp 1 [5,6] (.n 0) (.seq (.v 2)) .nil (.op .Mult (.v 2) (.call 13 (.cons (.v 1) (.cons (.v 0) .nil))))))
  (.cons (.set (.n 4) (.comp 2 [] (.t [0,1]) (.zip (.v 4) (.v 7)) .nil (.op .Add (.v 0) (.v 1))))
  (.cons (.set (.n 3) (.tup (.cons (.idx (.lst (.cons (.c (.str "plus")) (.cons (.c (.str "minus")) .nil))) (.op .Mod (.op .FloorDiv (.idx (.v 0) (.c (.int 1))) (.c (.int 3))) (.c (.int 2)))) (.cons (.v 3) (.cons (.v 5) .nil)))))
  .nil)))))
  .nil)
 (.cons (.ret (.tup (.cons (.v 3) (.cons (.v 4) .nil))))
 .nil))))⟩
def f15:Hp.Fn:=⟨3,10,
 (.cons (.set (.n 3) (.call 10 (.cons (.v 0) (.cons (.c (.int 8)) .nil))))
 (.cons (.set (.t [4,5]) (.call 14 (.cons (.sli (.v 3) .nil (.cons (.c (.int 3)) .nil)) (.cons (.v 1) (.cons (.v 2) .nil)))))
 (.cons (.set (.t [6,7]) (.call 14 (.cons (.sli (.v 3) (.cons (.c (.int 3)) .nil) (.cons (.c (.int 6)) .nil)) (.cons (.v 1) (.cons (.v 2) .nil)))))
 (.cons (.iff (.cmp .Eq (.op .Mod (.idx (.v 3) (.c (.int 6))) (.c (.int 9))) (.c (.int 0)))
  (.cons (.set (.n 8) (.tup (.cons (.tup (.cons (.c (.str "yes")) .nil)) (.cons (.comp 1 [] (.n 0) (.seq (.v 2)) .nil (.c (.bl true))) .nil))))
  .nil)
  (.cons (.iff (.cmp .Lt (.op .Mod (.idx (.v 3) (.c (.int 6))) (.c (.int 9))) (.c (.int 5)))
   (.cons (.set (.n 9) (.comp 2 [] (.t [0,1]) (.zip (.v 5) (.v 7)) .nil (.cmp .Eq (.v 0) (.v 1))))
   (.cons (.set (.n 8) (.tup (.cons (.tup (.cons (.c (.str "is")) (.cons (.v 4) (.cons (.v 6) .nil)))) (.cons (.v 9) .nil))))
   .nil))
   (.cons (.set (.n 9) (.comp 2 [] (.t [0,1]) (.zip (.v 5) (.v 7)) .nil (.cmp .Lt (.v 0) (.v 1))))
   (.cons (.set (.n 8) (.tup (.cons (.tup (.cons (.c (.str "less")) (.cons (.v 4) (.cons (.v 6) .nil)))) (.cons (.v 9) .nil))))
   .nil)))
  .nil))
 (.cons (.iff (.cmp .Eq (.op .Mod (.idx (.v 3) (.c (.int 7))) (.c (.int 4))) (.c (.int 0)))
  (.cons (.ret (.tup (.cons (.tup (.cons (.c (.str "not")) (.cons (.idx (.v 8) (.c (.int 0))) .nil))) (.cons (.comp 1 [] (.n 0) (.seq (.idx (.v 8) (.c (.int 1)))) .nil (.nt (.v 0))) .nil))))
  .nil)
  .nil)
 (.cons (.retv 8)
 .nil))))))⟩
def f16:Hp.Fn:=⟨3,4,
 (.cons (.set (.n 3) (.lzip (.idx (.v 1) (.c (.int 1))) (.idx (.v 2) (.c (.int 1)))))
 (.cons (.iff (.cmp .Eq (.op .Mod (.v 0) (.c (.int 2))) (.c (.int 0)))
  (.cons (.ret (.tup (.cons (.tup (.cons (.c (.str "both")) (.cons (.idx (.v 1) (.c (.int 0))) (.cons (.idx (.v 2) (.c (.int 0))) .nil)))) (.cons (.comp 2 [] (.t [0,1]) (.seq (.v 3)) .nil (.an (.v 0) (.v 1))) .nil))))
  .nil)
  .nil)
 (.cons (.ret (.tup (.cons (.tup (.cons (.c (.str "either")) (.cons (.idx (.v 1) (.c (.int 0))) (.cons (.idx (.v 2) (.c (.int 0))) .nil)))) (.cons (.comp 2 [] (.t [0,1]) (.seq (.v 3)) .nil (.orr (.v 0) (.v 1))) .nil))))
 .nil)))⟩
def f17:Hp.Fn:=⟨3,7,
 (.cons (.set (.n 3) (.call 10 (.cons (.v 0) (.cons (.c (.int 10)) .nil))))
 (.cons (.set (.n 4) (.lst .nil))
 (.cons (.for (.n 5) (.rng (.c (.int 0)) (.op .Add (.c (.int 1)) (.op .Mod (.idx (.v 3) (.c (.int 0))) (.c (.int 4)))))
  (.cons (.app 4 (.call 15 (.cons (.idx (.v 3) (.op .Add (.c (.int 1)) (.v 5))) (.cons (.v 1) (.cons (.v 2) .nil)))))
  (.cons (.iff (.an (.cmp .Gt (.bi .len (.cons (.v 4) .nil)) (.c (.int 1))) (.cmp .Gt (.op .Mod (.idx (.v 3) (.op .Add (.c (.int 5)) (.v 5))) (.c (.int 3))) (.c (.int 0))))
   (.cons (.pop (some (.n 6)) 4 none)
   (.cons (.appCall 4 16 [.e (.op .FloorDiv (.idx (.v 3) (.op .Add (.c (.int 5)) (.v 5))) (.c (.int 3))),.pop 4,.e (.v 6)])
   .nil))
   .nil)
  .nil)))
 (.cons (.whl (.cmp .Gt (.bi .len (.cons (.v 4) .nil)) (.c (.int 1)))
  (.cons (.pop (some (.n 6)) 4 none)
  (.cons (.appCall 4 16 [.e (.op .Add (.idx (.v 3) (.c (.int 9))) (.bi .len (.cons (.v 4) .nil))),.pop 4,.e (.v 6)])
  .nil)))
 (.cons (.ret (.idx (.v 4) (.c (.int 0))))
 .nil)))))⟩
def f18:Hp.Fn:=⟨1,2,
 (.cons (.iff (.cmp .Eq (.idx (.v 0) (.c (.int 0))) (.c (.str "after")))
  (.cons (.ret (.c (.bl true)))
  .nil)
  .nil)
 (.cons (.set (.n 1) (.comp 1 [] (.n 0) (.seq (.sli (.v 0) (.cons (.c (.int 1)) .nil) .nil)) (.cons (.isi (.v 0) [.tTuple]) .nil) (.v 0)))
 (.cons (.ret (.cmp .Gt (.bi .len (.cons (.comp 1 [] (.n 0) (.seq (.v 1)) (.cons (.call 18 (.cons (.v 0) .nil)) .nil) (.v 0)) .nil)) (.c (.int 0))))
 .nil)))⟩
def f19:Hp.Fn:=⟨2,4,
 (.cons (.set (.n 2) (.c .non))
 (.cons (.tryAs (.cons (.ex (.call 3 (.cons (.v 0) (.cons (.v 1) (.cons (.c (.bl true)) .nil)))))
  .nil) "NoCond" 2 3)
 (.cons (.ret (.isx (.v 2) [.tValueError]))
 .nil)))⟩
def f20:Hp.Fn:=⟨1,3,
 (.cons (.iff (.nt (.isi (.v 0) [.tList]))
  (.cons (.ret (.c (.bl false)))
  .nil)
  .nil)
 (.cons (.for (.n 1) (.seq (.v 0))
  (.cons (.iff (.orr (.nt (.isi (.v 1) [.tTuple])) (.cmp .NotEq (.bi .len (.cons (.v 1) .nil)) (.c (.int 2))))
   (.cons (.ret (.c (.bl false)))
   .nil)
   .nil)
  (.cons (.iff (.orr (.nt (.isi (.idx (.v 1) (.c (.int 0))) [.tTuple])) (.nt (.isi (.idx (.v 1) (.c (.int 1))) [.tTuple])))
   (.cons (.ret (.c (.bl false)))
   .nil)
   .nil)
  (.cons (.for (.n 2) (.seq (.op .Add (.idx (.v 1) (.c (.int 0))) (.idx (.v 1) (.c (.int 1)))))
   (.cons (.iff (.orr (.nt (.isi (.v 2) [.tInt])) (.isi (.v 2) [.tBool]))
    (.cons (.ret (.c (.bl false)))
    .nil)
    .nil)
   .nil))
  .nil))))
 (.cons (.ret (.c (.bl true)))
 .nil)))⟩
def f21:Hp.Fn:=⟨4,8,
 (.cons (.iff (.cmp .NotEq (.call 3 (.cons (.v 0) (.cons (.v 1) (.cons (.c (.bl false)) .nil)))) (.v 1))
  (.cons (.ret (.c (.bl false)))
  .nil)
  .nil)
 (.cons (.iff (.cmp .NotEq (.call 19 (.cons (.v 0) (.cons (.v 1) .nil))) (.call 18 (.cons (.v 1) .nil)))
  (.cons (.ret (.c (.bl false)))
  .nil)
  .nil)
 (.cons (.set (.n 4) (.lst .nil))
 (.cons (.for (.t [5,6]) (.zip (.v 3) (.v 2))
  (.cons (.set (.n 7) (.call 8 (.cons (.v 1) (.cons (.idx (.v 5) (.c (.int 0))) (.cons (.idx (.v 5) (.c (.int 1))) .nil)))))
  (.cons (.iff (.orr (.nt (.isi (.v 7) [.tBool])) (.cmp .NotEq (.v 7) (.v 6)))
   (.cons (.ret (.c (.bl false)))
   .nil)
   .nil)
  (.cons (.iff (.an (.v 6) (.cmp .NotEq (.idx (.v 5) (.c (.int 0))) (.idx (.v 5) (.c (.int 1)))))
   (.cons (.app 4 (.v 5))
   .nil)
   .nil)
  .nil))))
 (.cons (.set (.n 7) (.call 9 (.cons (.v 0) (.cons (.v 1) .nil))))
 (.cons (.iff (.orr (.nt (.call 20 (.cons (.v 7) .nil))) (.cmp .NotEq (.v 7) (.v 4)))
  (.cons (.ret (.c (.bl false)))
  .nil)
  .nil)
 (.cons (.rev 7)
 (.cons (.app 7 (.c .non))
 (.cons (.ret (.cmp .Eq (.call 9 (.cons (.v 0) (.cons (.v 1) .nil))) (.v 4)))
 .nil)))))))))⟩
def f22:Hp.Fn:=⟨1,9,
 (.cons (.set (.n 1) (.call 10 (.cons (.idx (.op .Add (.v 0) (.lst (.cons (.c (.int 0)) .nil))) (.c (.int 0))) (.cons (.c (.int 10)) .nil))))
 (.cons (.set (.n 2) (.call 11 (.cons (.v 1) .nil)))
 (.cons (.set (.n 3) (.bi .list (.cons (.v 2) .nil)))
 (.cons (.set (.n 4) (.lst .nil))
 (.cons (.for (.n 5) (.seq (.call 2 (.cons (.v 2) .nil)))
  (.cons (.ext 4 (.comp 1 [5] (.n 0) (.seq (.call 2 (.cons (.v 2) .nil))) .nil (.tup (.cons (.v 1) (.cons (.v 0) .nil)))))
  .nil))
 (.cons (.for (.n 6) (.seq (.op .Add (.sli (.v 0) (.cons (.c (.int 1)) .nil) (.cons (.c (.int 5)) .nil)) (.lst (.cons (.idx (.v 1) (.c (.int 9))) .nil))))
  (.cons (.set (.t [7,8]) (.call 17 (.cons (.v 6) (.cons (.bi .len (.cons (.v 2) .nil)) (.cons (.v 4) .nil)))))
  (.cons (.iff (.nt (.call 21 (.cons (.v 3) (.cons (.v 7) (.cons (.v 8) (.cons (.v 4) .nil))))))
   (.cons (.ret (.c (.bl false)))
   .nil)
   .nil)
  .nil)))
 (.cons (.ret (.cmp .Eq (.v 3) (.v 2)))
 .nil)))))))⟩
def pg:Hp.Pg:=⟨[f0,f1,f2,f3,f4,f5,f6,f7,f8,f9,f10,f11,f12,f13,f14,f15,f16,f17,f18,f19,f20,f21,f22],[("TooMany",[.own "TooMany",.own "PromiseError",.tValueError]),("NoCond",[.own "NoCond",.own "PromiseError",.tValueError])],[[("number",.tup [.str "number"]),("box",.tup [.str "box"]),("after",.tup [.str "box"]),("plus",.tup [.str "sum",.str "sum"]),("minus",.tup [.str "sum",.str "sum"])],[("yes",.tup []),("is",.tup [.str "sum",.str "sum"]),("less",.tup [.str "sum",.str "sum"]),("not",.tup [.str "cond"]),("both",.tup [.str "cond",.str "cond"]),("either",.tup [.str "cond",.str "cond"])]]⟩
end K07
end
noncomputable section
namespace K07
open Hp HpS PySem
def oU(x:Int):Int:=([0,1,1,2,7]:List Int).getD (x / 5 % 5).toNat 0
def bD(x:Int)(c:Nat):Sm:=if x % 5<2 then .aft (x / 5 % c).toNat else if x % 5<4 then .box (x / 5 % c).toNat else .num (oU x)
theorem aAj(x:Int):0<=oU x/\oU x<=99:=by
 have h0:0<=x / 5 % 5:=Int.emod_nonneg _ (by decide)
 have h1:x / 5 % 5<5:=Int.emod_lt_of_pos _ (by decide)
 unfold oU
 obtain⟨k,hk⟩:∃k:Nat,(x / 5 % 5).toNat=k:=⟨_,rfl⟩
 rw[hk]
 have hk5:k<5:=by omega
 match k,hk5 with
 | 0,_=>decide
 | 1,_=>decide
 | 2,_=>decide
 | 3,_=>decide
 | 4,_=>decide
theorem aCu(x:Int){c:Nat}(h:1<=c):(x / 5 % c).toNat<c:=by
 have h0:0<=x / 5 % (c:Int):=Int.emod_nonneg _ (by omega)
 have h1:x / 5 % (c:Int)<c:=Int.emod_lt_of_pos _ (by omega)
 omega
theorem oV(x:Int){c:Nat}(h:1<=c):(bD x c).wf c false:=by
 unfold bD
 split
 . exact⟨aCu x h,rfl⟩
 . split
   . exact aCu x h
   . exact aAj x
theorem oW(x:Int)(c:Nat):(bD x c).sz=1:=by
 unfold bD
 split
 . rfl
 . split <;> rfl
theorem aEA{P:Pg}{cl:Caller}{σ:Sg}{a:E}{i j:Int}(h:ev P cl σ a=.ok (.cl (.int i))):tst P cl σ (.cmp .Lt a (.c (.int j)))=.ok (decide (i<j)):=by
 rw[aR,h,aB,bL,aB,aS,aS,sD]
theorem aCv(n:Nat)(x:Int){c:Nat}(h:1<=c):call pg (n+1) 12 [.int x,.int c]=.ok ((bD x c).d,false,false):=by
 have m5:∀i:Int,opD .Mod (.cl (.int i)) (.cl (.int 5))=.ok (.cl (.int (i % 5))):=λi=>cY (by decide)
 have mc:∀i:Int,opD .Mod (.cl (.int i)) (.cl (.int (c:Int)))=.ok (.cl (.int (i % c))):=λi=>cY (by omega)
 have d5:∀i:Int,opD .FloorDiv (.cl (.int i)) (.cl (.int 5))=.ok (.cl (.int (i / 5))):=λi=>sF (by decide)
 have h0:0<=x / 5 % 5:=Int.emod_nonneg _ (by decide)
 have h1:x / 5 % 5<5:=Int.emod_lt_of_pos _ (by decide)
 have c0:0<=x / 5 % (c:Int):=Int.emod_nonneg _ (by omega)
 have il:bW ⟨.lst [.int 0,.int 1,.int 1,.int 2,.int 7],true,false,[]⟩ (.cl (.int (x / 5 % 5)))=.ok (.cl (.int (oU x))):=by
  have:=cB (v:=⟨.lst [.int 0,.int 1,.int 1,.int 2,.int 7],true,false,[]⟩) (is:=[0,1,1,2,7]) (k:=(x / 5 % 5).toNat) rfl (by show _<5;omega)
  rwa [Int.toNat_of_nonneg h0] at this
 have e0:∀s,ev pg (call pg n) [.sh true (.int x),.sh true (.int c),s] (.op .Mod (.v 0) (.c (.int 5)))=.ok (.cl (.int (x % 5))):=λs=>oM rfl rfl (m5 x)
 have e1:∀s,ev pg (call pg n) [.sh true (.int x),.sh true (.int c),s] (.op .FloorDiv (.v 0) (.c (.int 5)))=.ok (.cl (.int (x / 5))):=λs=>oM rfl rfl (d5 x)
 have ec:((x / 5 % (c:Int)).toNat:Int)=x / 5 % (c:Int):=Int.toNat_of_nonneg c0
 refine bB (F:=f12) rfl rfl (v:=.cl (bD x c).d) ?_
 refine cs (eH (oM (e1 _) rfl (mc _))) ?_
 unfold bD
 by_cases q1:x % 5<2
 . rw[if_pos q1]
   refine iJ ((aEA (e0 _)).trans (by rw[decide_eq_true q1])) (dM ?_)
   show R.ok (Vl.cl (.tup [.str "after",.int (x / 5 % (c:Int))]))=R.ok (Vl.cl (.tup [.str "after",.int ((x / 5 % (c:Int)).toNat:Int)]))
   rw[ec]
 . rw[if_neg q1]
   refine cs (eI ((aEA (e0 _)).trans (by rw[decide_eq_false q1]))) ?_
   by_cases q2:x % 5<4
   . rw[if_pos q2]
     refine iJ ((aEA (e0 _)).trans (by rw[decide_eq_true q2])) (dM ?_)
     show R.ok (Vl.cl (.tup [.str "box",.int (x / 5 % (c:Int))]))=R.ok (Vl.cl (.tup [.str "box",.int ((x / 5 % (c:Int)).toNat:Int)]))
     rw[ec]
   . rw[if_neg q2]
     refine cs (eI ((aEA (e0 _)).trans (by rw[decide_eq_false q2]))) (dM ?_)
     have e2:ev pg (call pg n) [.sh true (.int x),.sh true (.int c),.sh false (.int (x / 5 % (c:Int)))] (.idx (.lst (.cons (.c (.int 0)) (.cons (.c (.int 1)) (.cons (.c (.int 1)) (.cons (.c (.int 2)) (.cons (.c (.int 7)) .nil)))))) (.op .Mod (.op .FloorDiv (.v 0) (.c (.int 5))) (.c (.int 5))))=.ok (.cl (.int (oU x))):=cA rfl (oM (e1 _) rfl (m5 _)) il
     show(evs pg (call pg n) [.sh true (.int x),.sh true (.int c),.sh false (.int (x / 5 % (c:Int)))] (.cons (.c (.str "number")) (.cons (.idx _ _) .nil)) >>= λvs=>R.ok (cW vs))=_
     rw[aC,bL,aB,aC,e2]
     rfl
abbrev Pr2:=List Int×List Int
def prD(p:Pr2):D:=.tup [aL p.1,aL p.2]
theorem jR(p:Pr2):noL (prD p)=true:=yA (bC _) (bC _)
theorem qL(n:Nat)(x:Int){c:Nat}(h:1<=c){p:Pr2}(h1:p.1.length=c)(h2:p.2.length=c):call pg (n+1) 13 [(bD x c).d,prD p]=.ok (.int ((bD x c).val p.1 p.2),false,false):=by
 have hl:=aCu x h
 refine bB (F:=f13) rfl rfl (v:=.cl (.int ((bD x c).val p.1 p.2))) ?_
 unfold bD
 split
 . have z:=v0_ (P:=pg) (cl:=call pg n) (r:=[.sh true (prD p)]) (Sm.noL (.aft (x / 5 % c).toNat))
   refine cs (eI (cK (cA z rfl (fR _ _ rfl)) aJD)) (dM (cA (cA (v1_ (jR p)) (aCp (aFd (cA z rfl (fR _ _ rfl)) aHc) rfl) (kN _ _ _ (bC _))) (cA z rfl (kN _ _ _ rfl)) (nA (by omega))))
 . split
   . have q_ba:(("box" : Str) == "after")=false:=by decide +kernel
     have z:=v0_ (P:=pg) (cl:=call pg n) (r:=[.sh true (prD p)]) (Sm.noL (.box (x / 5 % c).toNat))
     refine cs (eI (cK (cA z rfl (fR _ _ rfl)) aEx)) (dM (cA (cA (v1_ (jR p)) (aCp (aFd (cA z rfl (fR _ _ rfl)) q_ba) rfl) (fR _ _ (bC _))) (cA z rfl (kN _ _ _ rfl)) (nA (by omega))))
   . have z:=v0_ (P:=pg) (cl:=call pg n) (r:=[.sh true (prD p)]) (Sm.noL (.num (oU x)))
     exact iJ (cK (cA z rfl (fR _ _ rfl)) aHb) (dM (cA z rfl (kN _ _ _ rfl)))
structure St (c:Nat) (ss:List Pr2):Prop where
 len:∀t∈ss,t.1.length=c/\t.2.length=c
 few:ss.length<=576
theorem jH{c:Nat}{ss:List Pr2}(h:St c ss):ss.length<=lim:=by have:=h.few;unfold lim;omega
theorem nB{P:Pg}{cl:Caller}{σ:Sg}{i:Nat}{pa:Bool}{ss:List Pr2}(h:σ[i]? = some (.sh pa (.lst (ss.map prD)))):walk P cl σ (.seq (.v i))=.ok (ss.map λs=>Vl.cl (prD s),[]):=by
 have hi:∀v:Vl,items v (ss.map prD)=ss.map λs=>Vl.cl (prD s):=λv=>bV jR ss
 cases pa with
 | true=>simp only[cU,aX,aO,h,bI,aB,hi]
 | false=>simp only[cU,aX,aO,h,aN,aB,aS,hi,cH]
def dC(s:Sm)(ss:List Pr2):List D:=ss.map λst=>.int (s.val st.1 st.2)
def uU(s:Sm)(ss:List Pr2):D:=.tup [s.d,.lst (dC s ss)]
theorem aAk(n:Nat){c:Nat}(h:1<=c){ss:List Pr2}(hS:St c ss)(x:Int){s0 s1 s4 s5 s6 s7:Sl} :
 ev pg (call pg (n+1)) [s0,s1,.sh true (.lst (ss.map prD)),.sh false (bD x c).d,s4,s5,s6,s7] (.comp 1 [3] (.n 0) (.seq (.v 2)) .nil (.call 13 (.cons (.v 1) (.cons (.v 0) .nil))))=.ok ⟨.lst (dC (bD x c) ss),true,false,[]⟩:=by
 refine iL (ts:=ss) (λs=>Vl.cl (prD s)) (λst=>.int ((bD x c).val st.1 st.2)) (λ_=>rfl) (nB rfl) (jH hS) λst hst=>?_
 have c1:=qL n x h (hS.len st hst).1 (hS.len st hst).2
 refine⟨[.sh false (prD st),.sh false (bD x c).d],by simp[bO],?_⟩
 simp only[aZ,aC,aF,aX,aO,gS,gZ,aN,aB,mC,mN,aS,c1,cN]
def sgn(x:Int):Int:=1-2*(x / 3 % 2)
theorem aAl(n:Nat){c:Nat}(h:1<=c){ss:List Pr2}(hS:St c ss)(x y:Int){s0 s1 s3 s4 s7:Sl} :
 ev pg (call pg (n+1)) [s0,s1,.sh true (.lst (ss.map prD)),s3,s4,.sh false (bD x c).d,.sh false (.int (sgn y)),s7] (.comp 1 [5,6] (.n 0) (.seq (.v 2)) .nil (.op .Mult (.v 2) (.call 13 (.cons (.v 1) (.cons (.v 0) .nil)))))=.ok ⟨.lst (ss.map λst=>.int (sgn y*(bD x c).val st.1 st.2)),true,false,[]⟩:=by
 refine iL (ts:=ss) (λs=>Vl.cl (prD s)) (λst=>.int (sgn y*(bD x c).val st.1 st.2)) (λ_=>rfl) (nB rfl) (jH hS) λst hst=>?_
 have c1:=qL n x h (hS.len st hst).1 (hS.len st hst).2
 have h0:0<=y / 3 % 2:=Int.emod_nonneg _ (by decide)
 have h1:y / 3 % 2<2:=Int.emod_lt_of_pos _ (by decide)
 have m1:opD .Mult (.cl (.int (sgn y))) (.cl (.int ((bD x c).val st.1 st.2)))=.ok (.cl (.int (sgn y*(bD x c).val st.1 st.2))):=mul_int (by
  unfold sgn
  simp only[jX,Bool.or_eq_true,bA,decide_eq_true_eq];left;omega)
 refine⟨[.sh false (prD st),.sh false (bD x c).d,.sh false (.int (sgn y))],by simp[bO],?_⟩
 simp only[cP,aZ,aC,aF,aX,aO,gS,gZ,aN,aB,mC,mN,aS,c1,cN,m1]
theorem aCw(n:Nat){ss:List Pr2}(hl:ss.length<=lim)(f g:Pr2->Int){s0 s1 s2 s3 s5 s6:Sl} :
 ev pg (call pg n) [s0,s1,s2,s3,.own false (ss.map λst=>.int (f st)),s5,s6,.own false (ss.map λst=>.int (g st))] (.comp 2 [] (.t [0,1]) (.zip (.v 4) (.v 7)) .nil (.op .Add (.v 0) (.v 1)))=.ok ⟨.lst (ss.map λst=>.int (f st+g st)),true,false,[]⟩:=by
 have hz:=iM (λst=>D.int (f st)) (λst=>D.int (g st)) ss
 have hi:∀v:Vl,items v (ss.map λst=>.tup [.int (f st),.int (g st)])=ss.map λst=>Vl.cl (.tup [.int (f st),.int (g st)]):=λv=>bV (g:=λst=>.tup [.int (f st),.int (g st)]) (λ_=>rfl) ss
 refine iL (ts:=ss) (al:=[4,7]) (λst=>Vl.cl (.tup [.int (f st),.int (g st)])) (λst=>.int (f st+g st)) (λ_=>rfl) ?_ hl λst hst=>?_
 . simp only[iE,aX,aO,gS,gZ,bE,aB,eY,hz,hi]
   rfl
 . refine⟨[.sh false (.int (f st)),.sh false (.int (g st))],sG rfl rfl,?_⟩
   simp only[cP,aX,aO,gS,gZ,aN,aB,add_int]
def lW(xs:List Int)(c:Nat):Sm:=if xs.getD 1 0 % 3==0 then .two (xs.getD 1 0 / 3 % 2==0) (bD (xs.getD 0 0) c) (bD (xs.getD 2 0) c) else bD (xs.getD 0 0) c
theorem yD(xs:List Int){c:Nat}(h:1<=c):(lW xs c).wf c false:=by
 unfold lW
 cases xs.getD 1 0 % 3==0 with
 | true=>exact⟨oV _ h,oV _ h⟩
 | false=>exact oV _ h
theorem yE(xs:List Int)(c:Nat):(lW xs c).sz<=3:=by
 unfold lW
 cases xs.getD 1 0 % 3==0 with
 | true=>show 1+(bD _ c).sz+(bD _ c).sz<=3;rw[oW,oW];omega
 | false=>show(bD _ c).sz<=3;rw[oW];omega
theorem yF(n:Nat){c:Nat}(h:1<=c){ss:List Pr2}(hS:St c ss){xs:List Int}(hx:xs.length=3) :
 call pg (n+2) 14 [.lst (xs.map D.int),.int c,.lst (ss.map prD)]=.ok (uU (lW xs c) ss,false,false):=by
 have i0:bW ⟨.lst (xs.map D.int),false,true,[]⟩ (.cl (.int 0))=.ok (.cl (.int (xs.getD 0 0))):=cB (k:=0) rfl (by omega)
 have i1:bW ⟨.lst (xs.map D.int),false,true,[]⟩ (.cl (.int 1))=.ok (.cl (.int (xs.getD 1 0))):=cB (k:=1) rfl (by omega)
 have i2:bW ⟨.lst (xs.map D.int),false,true,[]⟩ (.cl (.int 2))=.ok (.cl (.int (xs.getD 2 0))):=cB (k:=2) rfl (by omega)
 have m2:∀i:Int,opD .Mod (.cl (.int i)) (.cl (.int 2))=.ok (.cl (.int (i % 2))):=λi=>cY (by decide)
 have m3:∀i:Int,opD .Mod (.cl (.int i)) (.cl (.int 3))=.ok (.cl (.int (i % 3))):=λi=>cY (by decide)
 have d3:∀i:Int,opD .FloorDiv (.cl (.int i)) (.cl (.int 3))=.ok (.cl (.int (i / 3))):=λi=>sF (by decide)
 have c1:=λx=>aCv n x h
 have v1:=λx=>@aAk n c h ss hS x
 have v2:=λx y=>@aAl n c h ss hS x y
 refine bB (F:=f14) rfl rfl (v:=⟨uU (lW xs c) ss,false,false,[4]⟩) ?_
 show exs pg (call pg (n+1)) [.sh true (.lst (xs.map D.int)),.sh true (.int c),.sh true (.lst (ss.map prD)),.dead,.dead,.dead,.dead,.dead] f14.body=_
 unfold f14 lW
 generalize xs.getD 0 0=x0 at *
 generalize xs.getD 1 0=x1 at *
 generalize xs.getD 2 0=x2 at *
 have g0:0<=x1 / 3 % 2:=Int.emod_nonneg _ (by decide)
 have g1:x1 / 3 % 2<2:=Int.emod_lt_of_pos _ (by decide)
 cases q:x1 % 3==0 with
 | false=>
  have ht:cW [.cl (bD x0 c).d,⟨.lst (dC (bD x0 c) ss),false,false,[4]⟩]=⟨uU (bD x0 c) ss,false,false,[4]⟩:=rfl
  simp only[aG,aK,bT,aZ,aC,aF,bX,aX,bL,aO,gS,gZ,bI,cI,aB,i0,mC,mN,aS,c1,cN,aE,cH,aQ,bO,bU,lS,lZ,dP,v1,dN,bJ,aR,cP,i1,m3,bK,bY,q,bF,if_false,iF,fM,aN,bE,ht,fP]
 | true=>
  have mm:opD .Mult (.cl (.int 2)) (.cl (.int (x1 / 3 % 2)))=.ok (.cl (.int (2*(x1 / 3 % 2)))):=mul_int (by
   simp only[jX,Bool.or_eq_true,bA,decide_eq_true_eq];left;omega)
  have es:(1:Int)-2*(x1 / 3 % 2)=sgn x1:=rfl
  have ac:=@aCw (n+1) ss (jH hS) (λst=>(bD x0 c).val st.1 st.2) (λst=>sgn x1*(bD x2 c).val st.1 st.2)
  have ev1:dC (bD x0 c) ss=ss.map λst=>.int ((bD x0 c).val st.1 st.2):=rfl
  rw[<-ev1] at ac
  have il:bW ⟨.lst [.str "plus",.str "minus"],true,false,[]⟩ (.cl (.int (x1 / 3 % 2)))=.ok (.cl (.str (oP (x1 / 3 % 2==0)))):=by
   obtain h|h:x1 / 3 % 2=0\/x1 / 3 % 2=1:=by omega
   . rw[h];rfl
   . rw[h];rfl
  have hm:gM [.cl (.str "plus"),.cl (.str "minus")]=⟨.lst [.str "plus",.str "minus"],true,false,[]⟩:=rfl
  have hv:(ss.map λst=>D.int ((bD x0 c).val st.1 st.2+sgn x1*(bD x2 c).val st.1 st.2))=dC (.two (x1 / 3 % 2==0) (bD x0 c) (bD x2 c)) ss:=by
   unfold dC
   refine List.map_congr_left λst _=>?_
   congr 1
   show _=if (x1 / 3 % 2==0)=true then _ else _
   unfold sgn
   obtain h|h:x1 / 3 % 2=0\/x1 / 3 % 2=1:=by omega
   . rw[h,if_pos (by decide)];omega
   . rw[h,if_neg (by decide)];omega
  have ht1:cW [.cl (.str (oP (x1 / 3 % 2==0))),.cl (bD x0 c).d,.cl (bD x2 c).d]=.cl (Sm.d (.two (x1 / 3 % 2==0) (bD x0 c) (bD x2 c))):=rfl
  have ht:cW [.cl (Sm.d (.two (x1 / 3 % 2==0) (bD x0 c) (bD x2 c))),⟨.lst (dC (.two (x1 / 3 % 2==0) (bD x0 c) (bD x2 c)) ss),false,false,[4]⟩]=⟨uU (.two (x1 / 3 % 2==0) (bD x0 c) (bD x2 c)) ss,false,false,[4]⟩:=rfl
  simp only[aG,aK,bT,aZ,aC,aF,bX,aX,bL,aO,gS,gZ,bI,cI,aB,i0,mC,mN,aS,c1,cN,aE,cH,aQ,bO,bU,lS,lZ,dP,v1,v2,dN,bJ,aR,cP,i1,i2,m3,d3,m2,mm,sub_int,es,bK,bY,q,if_true,ac,hv,rV,hm,il,ht1,iF,fM,aN,bE,ht,fP]
def cD(q:Cn)(ss:List Pr2):List D:=ss.map λ(st:Pr2)=>.bl (q.hold st.1 st.2)
def cp(ss:List Pr2)(q:Cn):D:=.tup [q.d,.lst (cD q ss)]
theorem aCx(ss:List Pr2)(q:Cn):Hp.noL (cp ss q)=false:=by simp[cp,Hp.noL,noLs]
theorem aCy(i:Nat)(ss:List Pr2)(q:Cn):Sl.val i (.sh true (cp ss q))=.ok ⟨cp ss q,false,true,[]⟩:=by
 show R.ok (⟨cp ss q,false,true&&!Hp.noL (cp ss q),[]⟩:Vl)=_
 rw[aCx]
 rfl
theorem aCz{v:Vl}(ss:List Pr2)(q:Cn):Vl.sub v (cp ss q)=⟨cp ss q,false,v.pa,v.al⟩:=by
 unfold Vl.sub
 rw[aCx]
 rfl
theorem cp0{ss:List Pr2}{q:Cn}{v:Vl}(hv:v.d=cp ss q):bW v (.cl (.int 0))=.ok (.cl q.d):=by
 unfold bW
 rw[hv]
 have:ixN ([q.d,.lst (cD q ss)]:List D).length 0=some 0:=fH (k:=0) (by simp)
 simp only[cp,aS,this,gZ,cL q.noL]
theorem cp1{ss:List Pr2}{q:Cn}{v:Vl}(hv:v.d=cp ss q):bW v (.cl (.int 1))=.ok ⟨.lst (cD q ss),false,v.pa,v.al⟩:=by
 unfold bW
 rw[hv]
 have:ixN ([q.d,.lst (cD q ss)]:List D).length 1=some 1:=fH (k:=1) (by simp)
 simp only[cp,aS,this,gZ,gS]
 rfl
theorem aCA{P:Pg}{cl:Caller}{σ:Sg}{e:E}{v:Vl}{ss:List Pr2}(hl:ss.length<=lim)(q:Cn)(he:ev P cl σ e=.ok v)(hv:v.d=.lst (cD q ss)) :
 ev P cl σ (.comp 1 [] (.n 0) (.seq e) .nil (.nt (.v 0)))=.ok ⟨.lst (cD (.nt q) ss),true,false,[]⟩:=by
 have hi:∀v:Vl,items v (cD q ss)=ss.map λ(st:Pr2)=>Vl.cl (.bl (q.hold st.1 st.2)):=λv=>bV (g:=λ(st:Pr2)=>D.bl (q.hold st.1 st.2)) (λ_=>rfl) ss
 refine iL (ts:=ss) (al:=v.al) (λ(st:Pr2)=>Vl.cl (.bl (q.hold st.1 st.2))) (λ(st:Pr2)=>.bl (Cn.hold st.1 st.2 (.nt q))) (λ_=>rfl) ?_ hl λst hst=>?_
 . simp only[cU,he,aB,hv,hi]
 . refine⟨[.sh false (.bl (q.hold st.1 st.2))],by simp[bO],?_⟩
   simp only[aFa,aX,aO,gZ,aN,aB,jQ]
   rfl
theorem uV{P:Pg}{cl:Caller}{σ:Sg}{i:Nat}{ss:List Pr2}(hl:ss.length<=lim)(a b:Cn)(p:Bool)(he:σ[i]? = some (.own false (ss.map λ(st:Pr2)=>.tup [.bl (a.hold st.1 st.2),.bl (b.hold st.1 st.2)]))) :
 ev P cl σ (.comp 2 [] (.t [0,1]) (.seq (.v i)) .nil (if p then .an (.v 0) (.v 1) else .orr (.v 0) (.v 1)))=.ok ⟨.lst (cD (.two p a b) ss),true,false,[]⟩:=by
 have hi:∀v:Vl,items v (ss.map λ(st:Pr2)=>.tup [.bl (a.hold st.1 st.2),.bl (b.hold st.1 st.2)])=ss.map λ(st:Pr2)=>Vl.cl (.tup [.bl (a.hold st.1 st.2),.bl (b.hold st.1 st.2)]):=λv=>bV (g:=λ(st:Pr2)=>D.tup [.bl (a.hold st.1 st.2),.bl (b.hold st.1 st.2)]) (λ_=>rfl) ss
 refine iL (ts:=ss) (al:=[i]) (λ(st:Pr2)=>Vl.cl (.tup [.bl (a.hold st.1 st.2),.bl (b.hold st.1 st.2)])) (λ(st:Pr2)=>.bl (Cn.hold st.1 st.2 (.two p a b))) (λ_=>rfl) ?_ hl λst hst=>?_
 . simp only[cU,aX,aO,he,bE,aB,hi]
 . refine⟨[.sh false (.bl (a.hold st.1 st.2)),.sh false (.bl (b.hold st.1 st.2))],sG rfl rfl,?_⟩
   have eh:Cn.hold st.1 st.2 (.two p a b)=if p then a.hold st.1 st.2&&b.hold st.1 st.2 else a.hold st.1 st.2||b.hold st.1 st.2:=rfl
   rw[eh]
   cases p with
   | true=>cases ha:a.hold st.1 st.2 <;> simp only[if_true,aFb,aX,aO,gZ,gS,aN,aB,aS,Bool.true_and,Bool.false_and]
   | false=>cases ha:a.hold st.1 st.2 <;> simp only[bF,if_false,aCi,aX,aO,gZ,gS,aN,aB,aS,Bool.true_or,Bool.false_or]
theorem yG(n:Nat)(x:Int){ss:List Pr2}(hl:ss.length<=lim)(a b:Cn):call pg (n+1) 16 [.int x,cp ss a,cp ss b]=.ok (cp ss (.two (x % 2==0) a b),false,false):=by
 have m2:∀i:Int,opD .Mod (.cl (.int i)) (.cl (.int 2))=.ok (.cl (.int (i % 2))):=λi=>cY (by decide)
 have a0:=cp0 (ss:=ss) (q:=a) (v:=⟨cp ss a,false,true,[]⟩) rfl
 have b0:=cp0 (ss:=ss) (q:=b) (v:=⟨cp ss b,false,true,[]⟩) rfl
 have a1:=cp1 (ss:=ss) (q:=a) (v:=⟨cp ss a,false,true,[]⟩) rfl
 have b1:=cp1 (ss:=ss) (q:=b) (v:=⟨cp ss b,false,true,[]⟩) rfl
 have hz:dR (cD a ss) (cD b ss)=ss.map λ(st:Pr2)=>.tup [.bl (a.hold st.1 st.2),.bl (b.hold st.1 st.2)]:=iM _ _ ss
 have hnl:noLs (ss.map λ(st:Pr2)=>D.tup [.bl (a.hold st.1 st.2),.bl (b.hold st.1 st.2)])=true:=iK (λ_=>rfl) ss
 have hlt:decide ((cD a ss).length<=lim)=true:=decide_eq_true (by unfold cD;rw[lM];exact hl)
 have hzv:nK ⟨.lst (cD a ss),false,true,[]⟩ ⟨.lst (cD b ss),false,true,[]⟩ (dR (cD a ss) (cD b ss))=⟨.lst (ss.map λ(st:Pr2)=>.tup [.bl (a.hold st.1 st.2),.bl (b.hold st.1 st.2)]),true,false,[]⟩:=by
  unfold nK
  rw[hz,if_pos hnl]
 refine bB (F:=f16) rfl rfl (v:=.cl (cp ss (.two (x % 2==0) a b))) ?_
 show exs pg (call pg n) [.sh true (.int x),.sh true (cp ss a),.sh true (cp ss b),.dead] f16.body=_
 unfold f16
 cases q:x % 2==0 with
 | true=>
  have tc:=uV (P:=pg) (cl:=call pg n) (σ:=[.sh true (.int x),.sh true (cp ss a),.sh true (cp ss b),.own false (ss.map λ(st:Pr2)=>.tup [.bl (a.hold st.1 st.2),.bl (b.hold st.1 st.2)])]) (i:=3) hl a b true rfl
  rw[if_pos rfl] at tc
  have h1:cW [.cl (.str "both"),.cl a.d,.cl b.d]=.cl (Cn.d (.two true a b)):=rfl
  have h2:cW [.cl (Cn.d (.two true a b)),⟨.lst (cD (.two true a b) ss),true,false,[]⟩]=.cl (cp ss (.two true a b)):=rfl
  simp only[aG,aK,bT,yB,bX,aX,bL,aO,gS,gZ,aCy,aB,a1,b1,eY,hlt,fO,hzv,aE,aQ,bO,dN,lS,lZ,dP,bJ,aR,cP,cI,m2,aS,bK,bY,q,if_true,iF,fM,aC,aF,a0,b0,h1,tc,h2,fP]
 | false=>
  have tc:=uV (P:=pg) (cl:=call pg n) (σ:=[.sh true (.int x),.sh true (cp ss a),.sh true (cp ss b),.own false (ss.map λ(st:Pr2)=>.tup [.bl (a.hold st.1 st.2),.bl (b.hold st.1 st.2)])]) (i:=3) hl a b false rfl
  rw[if_neg bN] at tc
  have h1:cW [.cl (.str "either"),.cl a.d,.cl b.d]=.cl (Cn.d (.two false a b)):=rfl
  have h2:cW [.cl (Cn.d (.two false a b)),⟨.lst (cD (.two false a b) ss),true,false,[]⟩]=.cl (cp ss (.two false a b)):=rfl
  simp only[aG,aK,bT,yB,bX,aX,bL,aO,gS,gZ,aCy,aB,a1,b1,eY,hlt,fO,hzv,aE,aQ,bO,dN,lS,lZ,dP,bJ,aR,cP,cI,m2,aS,bK,bY,q,bF,if_false,iF,fM,aC,aF,a0,b0,h1,tc,h2,fP]
theorem aFf{s:Sm}{ss:List Pr2}{s0 s1 s2 s3 s4 s5 s6 s7 s8 s9:Sl}:bR [s0,s1,s2,s3,s4,s5,s6,s7,s8,s9] (.cl (uU s ss)) (.t [4,5])=.ok [s0,s1,s2,s3,.sh false s.d,.sh false (.lst (dC s ss)),s6,s7,s8,s9]:=by
 unfold bR
 rw[aS,uU]
 simp only[lC,lN,if_true,List.zip_cons_cons,List.zip_nil_left,List.foldl_cons,List.foldl_nil,cL s.noL,bU,lS,lZ]
 rfl
theorem aCB{s:Sm}{ss:List Pr2}{s0 s1 s2 s3 s4 s5 s6 s7 s8 s9:Sl}:bR [s0,s1,s2,s3,s4,s5,s6,s7,s8,s9] (.cl (uU s ss)) (.t [6,7])=.ok [s0,s1,s2,s3,s4,s5,.sh false s.d,.sh false (.lst (dC s ss)),s8,s9]:=by
 unfold bR
 rw[aS,uU]
 simp only[lC,lN,if_true,List.zip_cons_cons,List.zip_nil_left,List.foldl_cons,List.foldl_nil,cL s.noL,bU,lS,lZ]
 rfl
def aCC(p:Bool):CmpOp:=if p then .Eq else .Lt
theorem uW{P:Pg}{cl:Caller}{ss:List Pr2}(hl:ss.length<=lim)(a b:Sm)(p:Bool){s0 s1 s2 s3 s4 s6 s8 s9:Sl} :
 ev P cl [s0,s1,s2,s3,s4,.sh false (.lst (dC a ss)),s6,.sh false (.lst (dC b ss)),s8,s9] (.comp 2 [] (.t [0,1]) (.zip (.v 5) (.v 7)) .nil (.cmp (aCC p) (.v 0) (.v 1)))=.ok ⟨.lst (cD (.cmp p a b) ss),true,false,[]⟩:=by
 have hz:dR (dC a ss) (dC b ss)=ss.map λ(st:Pr2)=>.tup [.int (a.val st.1 st.2),.int (b.val st.1 st.2)]:=iM _ _ ss
 have hi:∀v:Vl,items v (ss.map λ(st:Pr2)=>.tup [.int (a.val st.1 st.2),.int (b.val st.1 st.2)])=ss.map λ(st:Pr2)=>Vl.cl (.tup [.int (a.val st.1 st.2),.int (b.val st.1 st.2)]):=λv=>bV (g:=λ(st:Pr2)=>D.tup [.int (a.val st.1 st.2),.int (b.val st.1 st.2)]) (λ_=>rfl) ss
 refine iL (ts:=ss) (al:=[]) (λ(st:Pr2)=>Vl.cl (.tup [.int (a.val st.1 st.2),.int (b.val st.1 st.2)])) (λ(st:Pr2)=>.bl (Cn.hold st.1 st.2 (.cmp p a b))) (λ_=>rfl) ?_ hl λst hst=>?_
 . simp only[iE,aX,aO,gS,gZ,aN,aB,aS,eY,hz,hi,cH,List.append_nil]
 . refine⟨[.sh false (.int (a.val st.1 st.2)),.sh false (.int (b.val st.1 st.2))],sG rfl rfl,?_⟩
   cases p with
   | true=>simp only[aCC,if_true,lR,aX,aO,gZ,gS,aN,aB,aS,bK,bY,Cn.hold]
   | false=>simp only[aCC,bF,if_false,lR,aX,aO,gZ,gS,aN,aB,aS,sD,Cn.hold]
theorem aCD{P:Pg}{cl:Caller}{ss:List Pr2}(hl:ss.length<=lim){s0 s1 s3 s4 s5 s6 s7 s8 s9:Sl} :
 ev P cl [s0,s1,.sh true (.lst (ss.map prD)),s3,s4,s5,s6,s7,s8,s9] (.comp 1 [] (.n 0) (.seq (.v 2)) .nil (.c (.bl true)))=.ok ⟨.lst (cD .yes ss),true,false,[]⟩:=by
 refine iL (ts:=ss) (λs=>Vl.cl (prD s)) (λ(st:Pr2)=>.bl (Cn.hold st.1 st.2 .yes)) (λ_=>rfl) (nB rfl) hl λst hst=>?_
 exact⟨[.sh false (prD st)],by simp[bO],rfl⟩
def dD(xs:List Int)(c:Nat):Cn:=
 if xs.getD 6 0 % 9==0 then .yes else .cmp (decide (xs.getD 6 0 % 9<5)) (lW (cut xs none (some 3)) c) (lW (cut xs (some 3) (some 6)) c)
def oX(xs:List Int)(c:Nat):Cn:=if xs.getD 7 0 % 4==0 then .nt (dD xs c) else dD xs c
theorem uX(xs:List Int){c:Nat}(h:1<=c):(dD xs c).wf c false:=by
 unfold dD
 cases xs.getD 6 0 % 9==0 with
 | true=>exact trivial
 | false=>exact⟨yD _ h,yD _ h⟩
theorem aCE(xs:List Int)(c:Nat):(dD xs c).sz<=7:=by
 unfold dD
 have h1:=yE (cut xs none (some 3)) c
 have h2:=yE (cut xs (some 3) (some 6)) c
 cases xs.getD 6 0 % 9==0 with
 | true=>show 1<=7;omega
 | false=>show 1+(lW _ c).sz+(lW _ c).sz<=7;omega
theorem aCF(xs:List Int){c:Nat}(h:1<=c):(oX xs c).wf c false:=by
 unfold oX
 cases xs.getD 7 0 % 4==0 with
 | true=>exact uX xs h
 | false=>exact uX xs h
theorem aCG(xs:List Int)(c:Nat):(oX xs c).sz<=8:=by
 unfold oX
 have h1:=aCE xs c
 cases xs.getD 7 0 % 4==0 with
 | true=>show 1+(dD xs c).sz<=8;omega
 | false=>show(dD xs c).sz<=8;omega
theorem yH(ns:List Int)(lo hi:Option Int):cut (ns.map D.int) lo hi=(cut ns lo hi).map D.int:=by
 unfold cut
 rw[lM,List.map_take,List.map_drop]
theorem yI(i:Nat)(xs:List Int)(lo hi:Option Int):dH ⟨.lst (xs.map D.int),false,false,[i]⟩ lo hi=.ok ⟨.lst ((cut xs lo hi).map D.int),true,false,[]⟩:=by
 unfold dH
 simp[eU,yH]
theorem aLy{xs:List Int}(h:xs.length=8):(cut xs none (some 3)).length=3/\(cut xs (some 3) (some 6)).length=3:=by
 unfold cut
 rw[List.length_take,List.length_drop,List.length_take,List.length_drop,h]
 exact⟨by decide,by decide⟩
theorem aCH(n:Nat)(cell:Int){c:Nat}(h:1<=c){ss:List Pr2}(hS:St c ss):∃q:Cn,q.wf c false/\q.sz<=8/\call pg (n+3) 15 [.int cell,.int c,.lst (ss.map prD)]=.ok (cp ss q,false,false):=by
 have cs:=lU (P:=pg) (f:=10) rfl (n+1) cell (m:=8) (by omega)
 have hx:=oO cell 8
 generalize strm cell 8=xs at cs hx
 refine⟨oX xs c,aCF xs h,aCG xs c,?_⟩
 have hl:=jH hS
 obtain⟨l1,l2⟩:=aLy hx
 have c1:=yF n h hS l1
 have c2:=yF n h hS l2
 have i6:bW ⟨.lst (xs.map D.int),false,false,[3]⟩ (.cl (.int 6))=.ok (.cl (.int (xs.getD 6 0))):=cB (k:=6) rfl (by omega)
 have i7:bW ⟨.lst (xs.map D.int),false,false,[3]⟩ (.cl (.int 7))=.ok (.cl (.int (xs.getD 7 0))):=cB (k:=7) rfl (by omega)
 have m9:∀i:Int,opD .Mod (.cl (.int i)) (.cl (.int 9))=.ok (.cl (.int (i % 9))):=λi=>cY (by decide)
 have m4:∀i:Int,opD .Mod (.cl (.int i)) (.cl (.int 4))=.ok (.cl (.int (i % 4))):=λi=>cY (by decide)
 have k3:aI 3=true:=by decide
 have k6:aI 6=true:=by decide
 have cs':call pg (n+2) 10 [.int cell,.int 8]=.ok (.lst (xs.map D.int),true,false):=cs
 generalize ea:lW (cut xs none (some 3)) c=a at c1
 generalize eb:lW (cut xs (some 3) (some 6)) c=b at c2
 have first:∃s9,exs pg (call pg (n+2)) [.sh true (.int cell),.sh true (.int c),.sh true (.lst (ss.map prD)),.own false (xs.map D.int),.sh false a.d,.sh false (.lst (dC a ss)),.sh false b.d,.sh false (.lst (dC b ss)),.dead,.dead]
  (.cons (.iff (.cmp .Eq (.op .Mod (.idx (.v 3) (.c (.int 6))) (.c (.int 9))) (.c (.int 0)))
  (.cons (.set (.n 8) (.tup (.cons (.tup (.cons (.c (.str "yes")) .nil)) (.cons (.comp 1 [] (.n 0) (.seq (.v 2)) .nil (.c (.bl true))) .nil))))
  .nil)
  (.cons (.iff (.cmp .Lt (.op .Mod (.idx (.v 3) (.c (.int 6))) (.c (.int 9))) (.c (.int 5)))
   (.cons (.set (.n 9) (.comp 2 [] (.t [0,1]) (.zip (.v 5) (.v 7)) .nil (.cmp .Eq (.v 0) (.v 1))))
   (.cons (.set (.n 8) (.tup (.cons (.tup (.cons (.c (.str "is")) (.cons (.v 4) (.cons (.v 6) .nil)))) (.cons (.v 9) .nil))))
   .nil))
   (.cons (.set (.n 9) (.comp 2 [] (.t [0,1]) (.zip (.v 5) (.v 7)) .nil (.cmp .Lt (.v 0) (.v 1))))
   (.cons (.set (.n 8) (.tup (.cons (.tup (.cons (.c (.str "less")) (.cons (.v 4) (.cons (.v 6) .nil)))) (.cons (.v 9) .nil))))
   .nil)))
  .nil)) .nil) =
   .next [.sh true (.int cell),.sh true (.int c),.sh true (.lst (ss.map prD)),.own false (xs.map D.int),.sh false a.d,.sh false (.lst (dC a ss)),.sh false b.d,.sh false (.lst (dC b ss)),.sh false (cp ss (dD xs c)),s9]:=by
   have frz:∀{s0 s1 s2 s3 s4 s5 s6 s7 s8:Sl} {pa:Bool} {ds:List D},freeze [s0,s1,s2,s3,s4,s5,s6,s7,s8,.own pa ds] [9]=[s0,s1,s2,s3,s4,s5,s6,s7,s8,.sh pa (.lst ds)]:=rfl
   unfold dD
   rw[ea,eb]
   cases q:xs.getD 6 0 % 9==0 with
   | true=>
    have yc:=@aCD pg (call pg (n+2)) ss hl
    have h1:cW [.cl (.str "yes")]=.cl (Cn.d .yes):=rfl
    have h2:cW [.cl (Cn.d .yes),⟨.lst (cD .yes ss),true,false,[]⟩]=.cl (cp ss .yes):=rfl
    refine⟨.dead,?_⟩
    simp only[aG,aK,bJ,aR,cP,bX,aX,bL,aO,gS,gZ,bE,aB,i6,m9,aS,bK,bY,q,aE,if_true,bT,fM,aC,aF,h1,yc,h2,cH,aQ,bO,bU,lS,lZ,dP]
   | false=>
    cases q2:decide (xs.getD 6 0 % 9<5) with
    | true=>
     have cc:=@uW pg (call pg (n+2)) ss hl a b true
     rw[show aCC true=.Eq from rfl] at cc
     have h1:cW [.cl (.str "is"),.cl a.d,.cl b.d]=.cl (Cn.d (.cmp true a b)):=rfl
     have h2:cW [.cl (Cn.d (.cmp true a b)),⟨.lst (cD (.cmp true a b) ss),false,false,[9]⟩]=⟨cp ss (.cmp true a b),false,false,[9]⟩:=rfl
     have h3:(⟨cp ss (.cmp true a b),false,false,[9]⟩:Vl).slot=.sh false (cp ss (.cmp true a b)):=rfl
     refine⟨.sh false (.lst (cD (.cmp true a b) ss)),?_⟩
     simp only[aG,aK,bJ,aR,cP,bX,aX,bL,aO,gS,gZ,bE,aN,aB,i6,m9,aS,bK,bY,q,aE,bF,if_false,sD,q2,if_true,bT,cc,aQ,bO,dN,lS,lZ,dP,fM,aC,aF,h1,h2,frz,h3]
    | false=>
     have cc:=@uW pg (call pg (n+2)) ss hl a b false
     rw[show aCC false=.Lt from rfl] at cc
     have h1:cW [.cl (.str "less"),.cl a.d,.cl b.d]=.cl (Cn.d (.cmp false a b)):=rfl
     have h2:cW [.cl (Cn.d (.cmp false a b)),⟨.lst (cD (.cmp false a b) ss),false,false,[9]⟩]=⟨cp ss (.cmp false a b),false,false,[9]⟩:=rfl
     have h3:(⟨cp ss (.cmp false a b),false,false,[9]⟩:Vl).slot=.sh false (cp ss (.cmp false a b)):=rfl
     refine⟨.sh false (.lst (cD (.cmp false a b) ss)),?_⟩
     simp only[aG,aK,bJ,aR,cP,bX,aX,bL,aO,gS,gZ,bE,aN,aB,i6,m9,aS,bK,bY,q,aE,bF,if_false,sD,q2,bT,cc,aQ,bO,dN,lS,lZ,dP,fM,aC,aF,h1,h2,frz,h3]
 obtain⟨s9,first⟩:=first
 rw[aG] at first
 generalize hif:ex pg (call pg (n+2)) [.sh true (.int cell),.sh true (.int c),.sh true (.lst (ss.map prD)),.own false (xs.map D.int),.sh false a.d,.sh false (.lst (dC a ss)),.sh false b.d,.sh false (.lst (dC b ss)),.dead,.dead] _=oif at first
 have hoif:oif=.next [.sh true (.int cell),.sh true (.int c),.sh true (.lst (ss.map prD)),.own false (xs.map D.int),.sh false a.d,.sh false (.lst (dC a ss)),.sh false b.d,.sh false (.lst (dC b ss)),.sh false (cp ss (dD xs c)),s9]:=by
  cases oif with
  | next σ=>simpa using first
  | _=>cases first
 rw[hoif] at hif
 have nc:=aCA (P:=pg) (cl:=call pg (n+2)) (σ:=[.sh true (.int cell),.sh true (.int c),.sh true (.lst (ss.map prD)),.own false (xs.map D.int),.sh false a.d,.sh false (.lst (dC a ss)),.sh false b.d,.sh false (.lst (dC b ss)),.sh false (cp ss (dD xs c)),s9]) (e:=.idx (.v 8) (.c (.int 1))) (v:=.cl (.lst (cD (dD xs c) ss))) hl (dD xs c) (by
  have b1:=cp1 (ss:=ss) (q:=dD xs c) (v:=.cl (cp ss (dD xs c))) rfl
  simp only[bX,aX,bL,aO,gS,gZ,aN,aB,b1]
  rfl) rfl
 have b0:=cp0 (ss:=ss) (q:=dD xs c) (v:=.cl (cp ss (dD xs c))) rfl
 refine bB (F:=f15) rfl rfl (v:=.cl (cp ss (oX xs c))) ?_
 show exs pg (call pg (n+2)) [.sh true (.int cell),.sh true (.int c),.sh true (.lst (ss.map prD)),.dead,.dead,.dead,.dead,.dead,.dead,.dead] f15.body=_
 unfold f15 oX
 cases q:xs.getD 7 0 % 4==0 with
 | true=>
  have h1:cW [.cl (.str "not"),.cl (dD xs c).d]=.cl (Cn.d (.nt (dD xs c))):=rfl
  have h2:cW [.cl (Cn.d (.nt (dD xs c))),⟨.lst (cD (.nt (dD xs c)) ss),true,false,[]⟩]=.cl (cp ss (.nt (dD xs c))):=rfl
  simp only[aG,aK,bT,aZ,aC,aF,aX,bL,aO,gS,gZ,cI,aB,mC,mN,aS,cs',gG,aE,aQ,bO,dN,lS,lZ,dP,xW,mZ,bE,k3,k6,Bool.and_self,fO,yI,bI,c1,c2,cN,cH,aFf,aCB]
  rw[hif]
  simp only[dP,bJ,aR,cP,bX,aX,bL,aO,gS,gZ,bE,aB,i7,m4,aS,bK,bY,q,aE,if_true,aG,iF,fM,aC,aF,aN,b0,h1,nc,h2,fP]
 | false=>
  simp only[aG,aK,bT,aZ,aC,aF,aX,bL,aO,gS,gZ,cI,aB,mC,mN,aS,cs',gG,aE,aQ,bO,dN,lS,lZ,dP,xW,mZ,bE,k3,k6,Bool.and_self,fO,yI,bI,c1,c2,cN,cH,aFf,aCB]
  rw[hif]
  simp only[dP,bJ,aR,cP,bX,aX,bL,aO,gS,gZ,bE,aB,i7,m4,aS,bK,bY,q,aE,bF,if_false,aG,aK,jC,aN,fP]
theorem yJ{P:Pg}{cl:Caller}{σ:Sg}(t:T)(i:Nat):ex P cl σ (.pop (some t) i none)=O.from σ (dW σ i none) λr=>O.from r.2 (bR r.2 r.1 t) .next:=rfl
theorem yK{P:Pg}{cl:Caller}{σ:Sg}(i f:Nat)(as:List Hp.Arg):ex P cl σ (.appCall i f as)=O.from σ (cQ (λσ a=>ev P cl σ a) σ [] as).calm λr=>O.from r.2 (cl f (r.1.map (·.d))).calm λq=>put r.2 i (fB r.1 q) λds=>some (ds++[(fB r.1 q).d]):=rfl
theorem aCI{e:Sg->E->R Vl}{σ:Sg}{acc:List Vl}{a:E}{as:List Hp.Arg}:cQ e σ acc (.e a::as)=(e σ a >>= λx=>cQ e σ (acc++[x]) as):=rfl
theorem aCJ{e:Sg->E->R Vl}{σ:Sg}{acc:List Vl}{j:Nat}{as:List Hp.Arg}:cQ e σ acc (.pop j::as)=(dW σ j none >>= λp=>if (bH acc).contains j then R.bad else cQ e p.2 (acc++[p.1]) as):=rfl
theorem aCK{e:Sg->E->R Vl}{σ:Sg}{acc:List Vl}:cQ e σ acc []=.ok (acc,σ):=rfl
def stk(ss:List Pr2)(st:List Cn):List D:=st.map (cp ss)
theorem kR(ss:List Pr2)(st:List Cn)(s:Cn):stk ss (st++[s])=stk ss st++[cp ss s]:=by simp[stk]
theorem fJ(ss:List Pr2)(st:List Cn):(stk ss st).length=st.length:=by simp[stk]
def tot(st:List Cn):Nat:=(st.map λq=>q.sz+1).sum
theorem kT(st:List Cn)(q:Cn):tot (st++[q])=tot st+(q.sz+1):=by simp[tot]
structure Stk (c B:Nat) (st:List Cn):Prop where
 wf:∀s∈st,s.wf c false
 sz:tot st<=B
theorem Stk.push{c B:Nat}{st:List Cn}(h:Stk c B st){q:Cn}(w:q.wf c false)(z:q.sz<=8):Stk c (B+9) (st++[q]):=by
 refine⟨λt ht=>?_,by rw[kT];have:=h.sz;omega⟩
 rcases List.mem_append.mp ht with ht|ht
 . exact h.wf t ht
 . have:t=q:=by simpa using ht
   subst this;exact w
theorem Stk.join{c B:Nat}{r:List Cn}{a b:Cn}(h:Stk c B (r++[a]++[b]))(p:Bool):Stk c B (r++[.two p a b]):=by
 refine⟨λt ht=>?_,?_⟩
 . rcases List.mem_append.mp ht with ht|ht
   . exact h.wf t (by simp[ht])
   . have:t=.two p a b:=by simpa using ht
     subst this
     exact⟨h.wf a (by simp),h.wf b (by simp)⟩
 . have:=h.sz
   rw[kT,kT] at this
   rw[kT]
   show tot r+(1+a.sz+b.sz+1)<=B
   omega
theorem Stk.more{c B B':Nat}{st:List Cn}(h:Stk c B st)(hB:B<=B'):Stk c B' st:=⟨h.wf,Nat.le_trans h.sz hB⟩
theorem kU:∀st:List Cn,st.length<=tot st
 | []=>Nat.le_refl _
 | q::st=>by
  have:=kU st
  show st.length+1<=((q::st).map λq=>q.sz+1).sum
  rw[mC,List.sum_cons]
  show st.length+1<=q.sz+1+tot st
  omega
theorem aCL(m:Nat):ixN (m+1) (-1)=some m:=by
 unfold ixN
 rw[if_neg (by decide),if_pos (by omega)]
 congr 1
 omega
theorem yL{ss:List Pr2}{st:List Cn}{s:Cn}{s0 s1 s2 s3 s5 s6:Sl}:dW [s0,s1,s2,s3,.own false (stk ss (st++[s])),s5,s6] 4 none=.ok (.cl (cp ss s),[s0,s1,s2,s3,.own false (stk ss st),s5,s6]):=by
 have hl:(stk ss st++[cp ss s]).length=st.length+1:=by simp[stk]
 have hg:(stk ss st++[cp ss s])[st.length]? = some (cp ss s):=by
  rw[<-fJ ss st,List.getElem?_append_right (by omega)]
  simp
 have he:(stk ss st++[cp ss s]).eraseIdx st.length=stk ss st:=by
  rw[<-fJ ss st,List.eraseIdx_append_of_length_le (by omega)]
  simp
 unfold dW
 simp only[eF,gS,gZ,kR,hl,aCL,hg,he,aCz,lS,lZ]
 rfl
def yM:Ss:=(.cons (.pop (some (.n 6)) 4 none)
 (.cons (.appCall 4 16 [.e (.op .FloorDiv (.idx (.v 3) (.op .Add (.c (.int 5)) (.v 5))) (.c (.int 3))),.pop 4,.e (.v 6)])
 .nil))
theorem aCM(n:Nat){ss:List Pr2}(hl:ss.length<=lim){xs:List Int}{k:Nat}(hk:5+k<xs.length){r:List Cn}{a b:Cn}(hr:r.length<=100){s0 s1 s2 s6:Sl} :
 ∃p,exs pg (call pg (n+1)) [s0,s1,s2,.own false (xs.map D.int),.own false (stk ss (r++[a]++[b])),.sh false (.int k),s6] yM =
  .next [s0,s1,s2,.own false (xs.map D.int),.own false (stk ss (r++[.two p a b])),.sh false (.int k),.sh false (cp ss b)]:=by
 have i2:bW ⟨.lst (xs.map D.int),false,false,[3]⟩ (.cl (.int (5+(k:Int))))=.ok (.cl (.int (xs.getD (5+k) 0))):=by
  have:=cB (v:=⟨.lst (xs.map D.int),false,false,[3]⟩) (k:=5+k) rfl hk
  rwa [show((5+k:Nat):Int)=5+(k:Int) by omega] at this
 have d3:∀i:Int,opD .FloorDiv (.cl (.int i)) (.cl (.int 3))=.ok (.cl (.int (i / 3))):=λi=>sF (by decide)
 have hlim:(stk ss r).length+1<=lim:=by rw[fJ];unfold lim;omega
 have c1:=yG n (xs.getD (5+k) 0 / 3) hl a b
 have hu:(bH [Vl.cl (.int (xs.getD (5+k) 0 / 3))]).contains 4=false:=rfl
 refine⟨xs.getD (5+k) 0 / 3 % 2==0,?_⟩
 rw[kR ss r (.two (xs.getD (5+k) 0 / 3 % 2==0) a b)]
 simp only[yM,aG,aK,yJ,yL,aE,bO,bU,lS,lZ,dP,yK,dL,aCI,aCJ,aCK,cP,bX,aX,bL,aO,gS,gZ,bE,aN,cI,aB,add_int,i2,d3,List.nil_append,List.cons_append,hu,bF,if_false,mC,mN,aS,c1,cN,put,cH,aQ,eF,lA,lC,lN,hlim,if_true,fQ,Bool.or_false]
theorem yN{α:Type}{st:List α}(h:0<st.length):∃r a,st=r++[a]:=⟨st.dropLast,st.getLast (by intro z;subst z;simp at h),(List.dropLast_concat_getLast _).symm⟩
theorem aCN{α:Type}{st:List α}(h:1<st.length):∃r a b,st=r++[a]++[b]:=by
 obtain⟨r1,b,rfl⟩:=yN (st:=st) (by omega)
 obtain⟨r,a,rfl⟩:=yN (st:=r1) (by simp at h;omega)
 exact⟨r,a,b,rfl⟩
def aCO:Ss:=(.cons (.app 4 (.call 15 (.cons (.idx (.v 3) (.op .Add (.c (.int 1)) (.v 5))) (.cons (.v 1) (.cons (.v 2) .nil)))))
 (.cons (.iff (.an (.cmp .Gt (.bi .len (.cons (.v 4) .nil)) (.c (.int 1))) (.cmp .Gt (.op .Mod (.idx (.v 3) (.op .Add (.c (.int 5)) (.v 5))) (.c (.int 3))) (.c (.int 0))))
  yM
  .nil)
 .nil))
theorem aAm(n:Nat){cell:Int}{c:Nat}(h1:1<=c){ss:List Pr2}(hS:St c ss){xs:List Int}(hx:xs.length=10){k:Nat}(hk:k<4){st:List Cn}(hT:Stk c (10*k) st){s6:Sl} :
 ∃st' s6',Stk c (10*(k+1)) st'/\1<=st'.length/\exs pg (call pg (n+3)) [.sh true (.int cell),.sh true (.int c),.sh true (.lst (ss.map prD)),.own false (xs.map D.int),.own false (stk ss st),.sh false (.int k),s6] aCO =
  .next [.sh true (.int cell),.sh true (.int c),.sh true (.lst (ss.map prD)),.own false (xs.map D.int),.own false (stk ss st'),.sh false (.int k),s6']:=by
 have hl:=jH hS
 have i1:bW ⟨.lst (xs.map D.int),false,false,[3]⟩ (.cl (.int (1+(k:Int))))=.ok (.cl (.int (xs.getD (1+k) 0))):=by
  have:=cB (v:=⟨.lst (xs.map D.int),false,false,[3]⟩) (k:=1+k) rfl (by omega)
  rwa [show((1+k:Nat):Int)=1+(k:Int) by omega] at this
 have i2:bW ⟨.lst (xs.map D.int),false,false,[3]⟩ (.cl (.int (5+(k:Int))))=.ok (.cl (.int (xs.getD (5+k) 0))):=by
  have:=cB (v:=⟨.lst (xs.map D.int),false,false,[3]⟩) (k:=5+k) rfl (by omega)
  rwa [show((5+k:Nat):Int)=5+(k:Int) by omega] at this
 have m3:∀i:Int,opD .Mod (.cl (.int i)) (.cl (.int 3))=.ok (.cl (.int (i % 3))):=λi=>cY (by decide)
 obtain⟨q,qw,qz,c1⟩:=aCH n (xs.getD (1+k) 0) h1 hS
 have hlen:st.length<=40:=by have:=kU st;have:=hT.sz;omega
 have hT1:=hT.push qw qz
 have hlim:(stk ss st).length+1<=lim:=by rw[fJ];unfold lim;omega
 have step1:ex pg (call pg (n+3)) [.sh true (.int cell),.sh true (.int c),.sh true (.lst (ss.map prD)),.own false (xs.map D.int),.own false (stk ss st),.sh false (.int k),s6] (.app 4 (.call 15 (.cons (.idx (.v 3) (.op .Add (.c (.int 1)) (.v 5))) (.cons (.v 1) (.cons (.v 2) .nil))))) =
  .next [.sh true (.int cell),.sh true (.int c),.sh true (.lst (ss.map prD)),.own false (xs.map D.int),.own false (stk ss (st++[q])),.sh false (.int k),s6]:=by
  rw[kR]
  simp only[oH,dL,aZ,aC,aF,bX,aX,cP,bL,aO,gS,gZ,bE,cI,bI,aB,add_int,i1,aS,mC,mN,c1,cN,aE,put,cH,aQ,eF,lA,lC,lN,hlim,if_true,fQ,Bool.or_false,lS,lZ]
 have hp1:1<=(st++[q]).length:=by simp
 generalize st++[q]=st1 at step1 hT1 hp1
 have hl1:(stk ss st1).length=st1.length:=fJ ss st1
 have tst1:∀{s6:Sl},tst pg (call pg (n+3)) [.sh true (.int cell),.sh true (.int c),.sh true (.lst (ss.map prD)),.own false (xs.map D.int),.own false (stk ss st1),.sh false (.int k),s6] (.an (.cmp .Gt (.bi .len (.cons (.v 4) .nil)) (.c (.int 1))) (.cmp .Gt (.op .Mod (.idx (.v 3) (.op .Add (.c (.int 5)) (.v 5))) (.c (.int 3))) (.c (.int 0)))) =
  .ok (decide ((1:Int)<(st1.length:Int))&&decide (0<xs.getD (5+k) 0 % 3)):=by
  intro s6
  simp only[lT,aR,iD,aC,aF,aX,bL,cP,bX,aO,gS,gZ,bE,cI,aB,jE,hl1,aS,oK,add_int,i2,m3]
  cases decide ((1:Int)<(st1.length:Int)) <;> rfl
 have step2:∃st2 s6',Stk c (10*k+9) st2/\1<=st2.length/\ex pg (call pg (n+3)) [.sh true (.int cell),.sh true (.int c),.sh true (.lst (ss.map prD)),.own false (xs.map D.int),.own false (stk ss st1),.sh false (.int k),s6] (.iff (.an (.cmp .Gt (.bi .len (.cons (.v 4) .nil)) (.c (.int 1))) (.cmp .Gt (.op .Mod (.idx (.v 3) (.op .Add (.c (.int 5)) (.v 5))) (.c (.int 3))) (.c (.int 0))))
  yM .nil)=.next [.sh true (.int cell),.sh true (.int c),.sh true (.lst (ss.map prD)),.own false (xs.map D.int),.own false (stk ss st2),.sh false (.int k),s6']:=by
  cases hq:(decide ((1:Int)<(st1.length:Int))&&decide (0<xs.getD (5+k) 0 % 3)) with
  | false=>
   refine⟨st1,s6,hT1,hp1,?_⟩
   simp only[bJ,tst1,hq,aE,bF,if_false,aK]
  | true=>
   have hlt:1<st1.length:=by
    have:=(bA _ _▸hq:_/\_).1
    have:=of_decide_eq_true this
    omega
   obtain⟨r,a,b,rfl⟩:=aCN hlt
   have hrl:r.length<=100:=by
    have h1:=kU (r++[a]++[b])
    have h2:=hT1.sz
    rw[lA,lA] at h1
    omega
   obtain⟨p,e⟩:=aCM (n+2) hl (xs:=xs) (k:=k) (by omega) (r:=r) (a:=a) (b:=b) hrl (s0:=.sh true (.int cell)) (s1:=.sh true (.int c)) (s2:=.sh true (.lst (ss.map prD))) (s6:=s6)
   refine⟨r++[.two p a b],.sh false (cp ss b),hT1.join p,by simp,?_⟩
   simp only[bJ,tst1,hq,aE,if_true]
   exact e
 obtain⟨st2,s6',hT2,hp2,step2⟩:=step2
 exact⟨st2,s6',hT2.more (by omega),hp2,HpS.cs step1 (HpS.cs step2 (aK ..))⟩
def wN:E:=.cmp .Gt (.bi .len (.cons (.v 4) .nil)) (.c (.int 1))
def aCP:Ss:=(.cons (.pop (some (.n 6)) 4 none)
 (.cons (.appCall 4 16 [.e (.op .Add (.idx (.v 3) (.c (.int 9))) (.bi .len (.cons (.v 4) .nil))),.pop 4,.e (.v 6)])
 .nil))
theorem aCQ(n:Nat){ss:List Pr2}(hl:ss.length<=lim){xs:List Int}(hx:xs.length=10){r:List Cn}{a b:Cn}(hr:r.length<=100){s0 s1 s2 s5 s6:Sl} :
 ∃p,exs pg (call pg (n+1)) [s0,s1,s2,.own false (xs.map D.int),.own false (stk ss (r++[a]++[b])),s5,s6] aCP =
  .next [s0,s1,s2,.own false (xs.map D.int),.own false (stk ss (r++[.two p a b])),s5,.sh false (cp ss b)]:=by
 have i2:bW ⟨.lst (xs.map D.int),false,false,[3]⟩ (.cl (.int 9))=.ok (.cl (.int (xs.getD 9 0))):=cB (v:=⟨.lst (xs.map D.int),false,false,[3]⟩) (k:=9) rfl (by omega)
 have hlim:(stk ss r).length+1<=lim:=by rw[fJ];unfold lim;omega
 have c1:=yG n (xs.getD 9 0+((stk ss (r++[a])).length:Int)) hl a b
 refine⟨(xs.getD 9 0+((stk ss (r++[a])).length:Int)) % 2==0,?_⟩
 have hu:(bH [Vl.cl (.int (xs.getD 9 0+((stk ss (r++[a])).length:Int)))]).contains 4=false:=rfl
 rw[kR ss r (.two ((xs.getD 9 0+((stk ss (r++[a])).length:Int)) % 2==0) a b)]
 simp only[aCP,aG,aK,yJ,yL,aE,bO,bU,lS,lZ,dP,yK,dL,aCI,aCJ,aCK,cP,bX,aX,bL,iD,aC,aF,aO,gS,gZ,bE,aN,aB,i2,jE,add_int,List.nil_append,List.cons_append,hu,bF,if_false,mC,mN,aS,c1,cN,put,cH,aQ,eF,lA,lC,lN,hlim,if_true,fQ,Bool.or_false]
theorem yO(n:Nat){c B:Nat}(hB:B<=40){ss:List Pr2}(hl:ss.length<=lim){xs:List Int}(hx:xs.length=10){s0 s1 s2 s5:Sl}:∀(m fuel:Nat) (st:List Cn) (s6:Sl),st.length=m+1->m<fuel->Stk c B st ->
 ∃s s6',Stk c B [s]/\gN (λσ=>tst pg (call pg (n+1)) σ wN) (λσ=>exs pg (call pg (n+1)) σ aCP) fuel [s0,s1,s2,.own false (xs.map D.int),.own false (stk ss st),s5,s6] =
  .next [s0,s1,s2,.own false (xs.map D.int),.own false (stk ss [s]),s5,s6']
 | m,0,_,_,_,hf,_=>by omega
 | 0,fuel+1,st,s6,hl0,_,hS=>by
  obtain⟨s,rfl⟩:∃s,st=[s]:=List.length_eq_one_iff.mp (by omega)
  refine⟨s,s6,hS,?_⟩
  unfold gN
  have ht:tst pg (call pg (n+1)) [s0,s1,s2,.own false (xs.map D.int),.own false (stk ss [s]),s5,s6] wN=.ok false:=by
   simp only[wN,aR,iD,aC,aF,aX,bL,aO,gS,gZ,bE,aB,jE,aS,oK,fJ]
   rfl
  simp only[ht,aE,bF,if_false]
 | m+1,fuel+1,st,s6,hl0,hf,hS=>by
  obtain⟨r,a,b,rfl⟩:=aCN (st:=st) (by omega)
  have hr:r.length<=100:=by
   have h1:=kU (r++[a]++[b])
   have h2:=hS.sz
   rw[lA,lA] at h1
   omega
  obtain⟨p,e⟩:=aCQ n hl hx (r:=r) (a:=a) (b:=b) hr (s0:=s0) (s1:=s1) (s2:=s2) (s5:=s5) (s6:=s6)
  obtain⟨s,s6',hS',e'⟩:=yO n hB hl hx (s0:=s0) (s1:=s1) (s2:=s2) (s5:=s5) m fuel (r++[.two p a b]) (.sh false (cp ss b)) (by simp at hl0 ⊢;omega) (by omega) (hS.join p)
  refine⟨s,s6',hS',?_⟩
  unfold gN
  have ht:tst pg (call pg (n+1)) [s0,s1,s2,.own false (xs.map D.int),.own false (stk ss (r++[a]++[b])),s5,s6] wN=.ok true:=by
   have:decide ((1:Int)<((r++[a]++[b]).length:Int))=true:=decide_eq_true (by omega)
   simp only[wN,aR,iD,aC,aF,aX,bL,aO,gS,gZ,bE,aB,jE,aS,oK,fJ,this]
  simp only[ht,aE,if_true,e,e']
theorem aCR(n:Nat)(cell:Int){c:Nat}(h1:1<=c){ss:List Pr2}(hS:St c ss):∃q:Cn,q.wf c false/\q.sz<=39/\call pg (n+4) 17 [.int cell,.int c,.lst (ss.map prD)]=.ok (cp ss q,false,false):=by
 have hl:=jH hS
 have cs:=lU (P:=pg) (f:=10) rfl (n+2) cell (m:=10) (by omega)
 have hx:=oO cell 10
 generalize strm cell 10=xs at cs hx
 have i0:bW ⟨.lst (xs.map D.int),false,false,[3]⟩ (.cl (.int 0))=.ok (.cl (.int (xs.getD 0 0))):=cB (v:=⟨.lst (xs.map D.int),false,false,[3]⟩) (k:=0) rfl (by omega)
 have m4:∀i:Int,opD .Mod (.cl (.int i)) (.cl (.int 4))=.ok (.cl (.int (i % 4))):=λi=>cY (by decide)
 have g0:0<=xs.getD 0 0 % 4:=Int.emod_nonneg _ (by decide)
 have g1:xs.getD 0 0 % 4<4:=Int.emod_lt_of_pos _ (by decide)
 have hw:walk pg (call pg (n+3)) [.sh true (.int cell),.sh true (.int c),.sh true (.lst (ss.map prD)),.own false (xs.map D.int),.own false [],.dead,.dead] (.rng (.c (.int 0)) (.op .Add (.c (.int 1)) (.op .Mod (.idx (.v 3) (.c (.int 0))) (.c (.int 4)))))=.ok ((List.range (1+xs.getD 0 0 % 4).toNat).map λ(k:Nat)=>Vl.cl (.int (k:Int)),[]):=by
  refine gE (v:=.cl (.int (1+xs.getD 0 0 % 4))) ?_ ?_ (by omega)
  . simp only[cP,bL,bX,aX,aO,gS,gZ,bE,aB,i0,m4,add_int]
  . rw[Int.toNat_of_nonneg (by omega)];rfl
 obtain⟨σ',e,hI⟩:=eM (t:=.n 5) (b:=aCO)
  (λk σ=>∃st s5 s6,Stk c (10*k) st/\(1<=k->1<=st.length)/\σ=[.sh true (.int cell),.sh true (.int c),.sh true (.lst (ss.map prD)),.own false (xs.map D.int),.own false (stk ss st),s5,s6]) hw ⟨[],_,_,⟨by simp,by simp[tot]⟩,by omega,rfl⟩ (λk hk σ hσ=>by
   obtain⟨st,s5,s6,hT,_,rfl⟩:=hσ
   have hk':k<(1+xs.getD 0 0 % 4).toNat:=by simpa using hk
   obtain⟨st',s6',hT',hp,e⟩:=aAm n (cell:=cell) h1 hS hx (k:=k) (by omega) hT (s6:=s6)
   refine⟨[.sh true (.int cell),.sh true (.int c),.sh true (.lst (ss.map prD)),.own false (xs.map D.int),.own false (stk ss st),.sh false (.int k),s6],_,?_,e,⟨st',_,_,hT',λ_=>hp,rfl⟩⟩
   simp)
 obtain⟨st,s5,s6,hT,hp,rfl⟩:=hI
 have et:((List.range (1+xs.getD 0 0 % 4).toNat).map λ(k:Nat)=>Vl.cl (.int (k:Int))).length=(1+xs.getD 0 0 % 4).toNat:=by simp
 rw[et] at hT hp
 have hp:=hp (by omega)
 have hT:Stk c 40 st:=hT.more (by omega)
 have hlen:st.length<=40:=by have:=kU st;have:=hT.sz;omega
 obtain⟨s,s6',hS',ew⟩:=yO (n+2) (B:=40) (by omega) hl hx (s0:=.sh true (.int cell)) (s1:=.sh true (.int c)) (s2:=.sh true (.lst (ss.map prD))) (s5:=s5) (st.length-1) tF st s6 (by omega) (by unfold tF;omega) hT
 have hsz:=hS'.sz
 refine⟨s,hS'.wf s (by simp),by simp[tot] at hsz;omega,?_⟩
 have ew':ex pg (call pg (n+3)) [.sh true (.int cell),.sh true (.int c),.sh true (.lst (ss.map prD)),.own false (xs.map D.int),.own false (stk ss st),s5,s6] (.whl wN aCP)=.next [.sh true (.int cell),.sh true (.int c),.sh true (.lst (ss.map prD)),.own false (xs.map D.int),.own false (stk ss [s]),s5,s6']:=ew
 have il:bW ⟨.lst (stk ss [s]),false,false,[4]⟩ (.cl (.int 0))=.ok ⟨cp ss s,false,false,[4]⟩:=by
  unfold bW
  have:ixN ([cp ss s]:List D).length 0=some 0:=fH (k:=0) (by simp)
  simp only[stk,mC,mN,aS,this,gZ,aCz]
 refine bB (F:=f17) rfl rfl (v:=⟨cp ss s,false,false,[4]⟩) ?_
 show exs pg (call pg (n+3)) [.sh true (.int cell),.sh true (.int c),.sh true (.lst (ss.map prD)),.dead,.dead,.dead,.dead] (.cons (.set (.n 3) (.call 10 (.cons (.v 0) (.cons (.c (.int 10)) .nil))))
  (.cons (.set (.n 4) (.lst .nil))
  (.cons (.for (.n 5) (.rng (.c (.int 0)) (.op .Add (.c (.int 1)) (.op .Mod (.idx (.v 3) (.c (.int 0))) (.c (.int 4))))) aCO)
  (.cons (.whl wN aCP)
  (.cons (.ret (.idx (.v 4) (.c (.int 0)))) .nil)))))=_
 have hml:gM []=⟨.lst [],true,false,[]⟩:=rfl
 have cs':call pg (n+3) 10 [.int cell,.int 10]=.ok (.lst (xs.map D.int),true,false):=cs
 simp only[aG,aK,bT,aZ,aC,aF,aX,bL,aO,gS,gZ,cI,aB,mC,mN,aS,cs',gG,aE,aQ,bO,dN,lS,lZ,dP,rV,hml,e,ew',iF,bX,bE,il,fP]
theorem Bx.push{bs:List (Str×Int)}{m:Int}(b:Bx bs m)(nm:Str){t:Int}(t1:1<=t)(t2:t<=7)(hm:m*(t+1)<=24)(hl:bs.length<=4):Bx (bs++[(nm,t)]) (m*(t+1)):=by
 have hlo:1<=m*(t+1):=by
  have:=Int.mul_le_mul_of_nonneg_left (show 1<=t+1 by omega) (show 0<=m by have:=b.lo;omega)
  have:=b.lo
  omega
 refine⟨?_,λx hx=>?_,?_,hlo,hm⟩
 . rw[lA];exact Nat.succ_le_succ hl
 . rcases List.mem_append.mp hx with z|z
   . exact b.one x z
   . rw[List.mem_singleton.mp z];exact⟨t1,t2⟩
 . rw[List.map_append,List.foldl_append,<-b.prod];rfl
abbrev bxB:Ss:=match f11.body with|.cons _ (.cons _ (.cons _ (.cons (.for _ _ b) _)))=>b|_=>.nil
theorem aCS(n:Nat){xs:List Int}(hl:xs.length=10){R:Int}(hR:R<=24){k:Nat}(hk:k<4){bs:List (Str×Int)}{m:Int}(b:Bx bs m)(hb:bs.length<=k)(hk0:k=0->m=1)(s5:Sl):∃bs' m' s5',Bx bs' m'/\bs'.length<=k+1/\1<=bs'.length+(if bs=[]/\k≠0 then 1 else 0)/\(bs≠[]->bs'≠[]) /\
 exs pg (call pg n) [.sh true (.lst (xs.map D.int)),.own false (aD bs),.sh false (.int m),.sh false (.int R),.sh false (.int (k:Int)),s5] bxB=.next [.sh true (.lst (xs.map D.int)),.own false (aD bs'),.sh false (.int m'),.sh false (.int R),.sh false (.int (k:Int)),s5']:=by
 have m7:∀i:Int,opD .Mod (.cl (.int i)) (.cl (.int 7))=.ok (.cl (.int (i % 7))):=λi=>cY (by decide)
 have m4:∀i:Int,opD .Mod (.cl (.int i)) (.cl (.int 4))=.ok (.cl (.int (i % 4))):=λi=>cY (by decide)
 have m5:∀i:Int,opD .Mod (.cl (.int i)) (.cl (.int 5))=.ok (.cl (.int (i % 5))):=λi=>cY (by decide)
 have i1:bW ⟨.lst (xs.map D.int),false,true,[]⟩ (.cl (.int (k:Int)))=.ok (.cl (.int (xs.getD k 0))):=cB rfl (by omega)
 have i2:bW ⟨.lst (xs.map D.int),false,true,[]⟩ (.cl (.int (4+(k:Int))))=.ok (.cl (.int (xs.getD (4+k) 0))):=by
  have:=cB (v:=⟨.lst (xs.map D.int),false,true,[]⟩) (k:=4+k) rfl (by omega)
  rwa [show((4+k:Nat):Int)=4+(k:Int) by omega] at this
 have i3:bW ⟨.lst (xs.map D.int),false,true,[]⟩ (.cl (.int 4))=.ok (.cl (.int (xs.getD 4 0))):=cB (k:=4) rfl (by omega)
 have t0:0<=xs.getD k 0 % 7:=Int.emod_nonneg _ (by decide)
 have t1:xs.getD k 0 % 7<7:=Int.emod_lt_of_pos _ (by decide)
 have q0:0<=xs.getD 4 0 % 5:=Int.emod_nonneg _ (by decide)
 have q1:xs.getD 4 0 % 5<5:=Int.emod_lt_of_pos _ (by decide)
 have sk1:aI (k:Int)=true:=rX (by omega)
 have sk2:aI ((k:Int)+1+xs.getD 4 0 % 5)=true:=aEt (by omega) (by omega)
 have hlo:=b.lo
 have hhi:=b.hi
 generalize hT:1+xs.getD k 0 % 7=T
 have hmul:opD .Mult (.cl (.int m)) (.cl (.int (T+1)))=.ok (.cl (.int (m*(T+1)))):=mul_int (by
  simp only[jX,Bool.or_eq_true,bA,decide_eq_true_eq];left;omega)
 have hsl:dH (.cl (.str "abcdefgh")) (some (k:Int)) (some ((k:Int)+1+xs.getD 4 0 % 5))=.ok (.cl (.str (mI xs k))):=rfl
 have hmk:cW [.cl (.str (mI xs k)),.cl (.int T)]=.cl (sK (mI xs k,T)):=rfl
 have ek:((k:Int)==0)=decide (k=0):=by
  by_cases h:k=0
  . subst h;rfl
  . rw[decide_eq_false h]
    exact beq_eq_false_iff_ne.mpr (by omega)
 let σ1:Sg:=[.sh true (.lst (xs.map D.int)),.own false (aD bs),.sh false (.int m),.sh false (.int R),.sh false (.int (k:Int)),.sh false (.int T)]
 have e1:ex pg (call pg n) [.sh true (.lst (xs.map D.int)),.own false (aD bs),.sh false (.int m),.sh false (.int R),.sh false (.int (k:Int)),s5] (.set (.n 5) (.op .Add (.c (.int 1)) (.op .Mod (.idx (.v 0) (.v 4)) (.c (.int 7)))))=.next σ1:=by
  refine(eH (oM rfl (oM (cA rfl rfl i1) rfl (m7 _)) (add_int _ _))).trans ?_
  rw[hT];rfl
 have et:∀c:Bool,(decide (k=0)||(decide (m*(T+1)<=R)&&decide (0<xs.getD (4+k) 0 % 4)))=c->tst pg (call pg n) σ1 (.orr (.cmp .Eq (.v 4) (.c (.int 0))) (.an (.cmp .LtE (.op .Mult (.v 2) (.op .Add (.v 5) (.c (.int 1)))) (.v 3)) (.cmp .Gt (.op .Mod (.idx (.v 0) (.op .Add (.c (.int 4)) (.v 4))) (.c (.int 4))) (.c (.int 0)))))=.ok c:=λc hc=>by
  simp only[σ1,dF,lT,aR,aX,bL,cP,bX,aO,gS,gZ,cI,bI,aB,aS,bK,bY,ek,hmul,add_int,aGZ,oK,i2,m4]
  rw[<-hc]
  cases decide (k=0) with
  | true=>rfl
  | false=>cases decide (m*(T+1)<=R) <;> rfl
 cases hc:(decide (k=0)||(decide (m*(T+1)<=R)&&decide (0<xs.getD (4+k) 0 % 4))) with
 | false=>
  refine⟨bs,m,.sh false (.int T),b,by omega,?_,id,HpS.cs e1 (HpS.cs (eI (et _ hc)) (aK ..))⟩
  by_cases hbn:bs=[]
  . have hk':k≠0:=λz=>by rw[z] at hc;cases hc
    rw[if_pos ⟨hbn,hk'⟩];omega
  . have:=List.length_pos_iff.mpr hbn
    omega
 | true=>
  have h24:m*(T+1)<=24:=by
   simp only[Bool.or_eq_true,bA,decide_eq_true_eq] at hc
   rcases hc with hc|hc
   . rw[hk0 hc];omega
   . omega
  have ll:(aD bs++[sK (mI xs k,T)]).length<=lim:=by
   unfold aD;rw[lA,lM];unfold lim;show bs.length+1<=_;omega
  have e2:ex pg (call pg n) σ1 (.app 1 (.tup (.cons (.sli (.c (.str "abcdefgh")) (.cons (.v 4) .nil) (.cons (.op .Add (.op .Add (.v 4) (.c (.int 1))) (.op .Mod (.idx (.v 0) (.c (.int 4))) (.c (.int 5)))) .nil)) (.cons (.v 5) .nil))))=.next [.sh true (.lst (xs.map D.int)),.own false (aD (bs++[(mI xs k,T)])),.sh false (.int m),.sh false (.int R),.sh false (.int (k:Int)),.sh false (.int T)]:=by
   have eb:aD (bs++[(mI xs k,T)])=aD bs++[sK (mI xs k,T)]:=by unfold aD;rw[List.map_append];rfl
   rw[eb]
   simp only[σ1,oH,dL,fM,aC,aF,mZ,cP,bX,aX,bL,aO,gS,gZ,cI,bI,aB,add_int,i3,m5,aS,sk1,sk2,Bool.and_self,fO,hsl,hmk,aE,put,cH,aQ,eF,ll,if_true,fQ,Bool.or_false,lS,lZ]
  refine⟨bs++[(mI xs k,T)],m*(T+1),.sh false (.int T),Bx.push b _ (by omega) (by omega) h24 (by omega),by rw[lA];exact Nat.succ_le_succ hb,by rw[lA];show 1<=bs.length+1+_;omega,λ_ z=>by simp at z,HpS.cs e1 ?_⟩
  rw[aG,bJ,et _ hc,aE,if_pos rfl]
  rw[HpS.cs e2 (HpS.cs (eH (oM rfl (oM rfl rfl (add_int _ _)) hmul)) (aK ..))]
  rfl
theorem aAn(n:Nat){xs:List Int}(hl:xs.length=10):∃bs m,Bx bs m/\1<=bs.length/\bs.length<=4/\call pg (n+1) 11 [.lst (xs.map D.int)]=.ok (.lst (aD bs),true,false):=by
 have m4:∀i:Int,opD .Mod (.cl (.int i)) (.cl (.int 4))=.ok (.cl (.int (i % 4))):=λi=>cY (by decide)
 have i8:bW ⟨.lst (xs.map D.int),false,true,[]⟩ (.cl (.int 8))=.ok (.cl (.int (xs.getD 8 0))):=cB (k:=8) rfl (by omega)
 have r0:0<=xs.getD 8 0 % 4:=Int.emod_nonneg _ (by decide)
 have r1:xs.getD 8 0 % 4<4:=Int.emod_lt_of_pos _ (by decide)
 obtain⟨R,hR,eR⟩:∃R:Int,R<=24/\bW ⟨.lst [.int 12,.int 12,.int 12,.int 24],true,false,[]⟩ (.cl (.int (xs.getD 8 0 % 4)))=.ok (.cl (.int R)):=by
  have:=cB (v:=⟨.lst [.int 12,.int 12,.int 12,.int 24],true,false,[]⟩) (is:=[12,12,12,24]) (k:=(xs.getD 8 0 % 4).toNat) rfl (by show _<4;omega)
  rw[Int.toNat_of_nonneg r0] at this
  refine⟨_,?_,this⟩
  obtain⟨k,hk⟩:∃k:Nat,(xs.getD 8 0 % 4).toNat=k:=⟨_,rfl⟩
  rw[hk]
  have hk4:k<4:=by omega
  match k,hk4 with
  | 0,_=>decide
  | 1,_=>decide
  | 2,_=>decide
  | 3,_=>decide
 have hw:walk pg (call pg n) [.sh true (.lst (xs.map D.int)),.own false [],.sh false (.int 1),.sh false (.int R),.dead,.dead] (.rng (.c (.int 0)) (.c (.int 4)))=.ok ((List.range 4).map λ(k:Nat)=>Vl.cl (.int (k:Int)),[]):=gE (v:=.cl (.int 4)) (bL ..) rfl (by omega)
 obtain⟨σ',e,hI⟩:=eM (t:=.n 4) (b:=bxB) (λk σ=>∃bs m s4 s5,Bx bs m/\bs.length<=k/\(k=0->m=1)/\(1<=k->bs≠[])/\σ=[.sh true (.lst (xs.map D.int)),.own false (aD bs),.sh false (.int m),.sh false (.int R),s4,s5]) hw ⟨[],1,_,_,⟨by decide,(λb hb=>by cases hb),rfl,by decide,by decide⟩,Nat.le_refl _,λ_=>rfl,(λh=>absurd h (by decide)),rfl⟩ (λk hk σ hσ=>by
  obtain⟨bs,m,s4,s5,b,hb,h0,h1,rfl⟩:=hσ
  have hk:k<4:=by simpa using hk
  obtain⟨bs',m',s5',b',hb',hp,hn,e⟩:=aCS n hl hR hk b hb h0 s5
  refine⟨_,_,by simp,e,bs',m',_,_,b',hb',λz=>by omega,λ_ z=>?_,rfl⟩
  subst z
  by_cases hbn:bs=[]
  . by_cases hk0:k=0
    . rw[if_neg (λz=>z.2 hk0)] at hp
      simp at hp
    . exact h1 (by omega) hbn
  . exact hn hbn rfl)
 obtain⟨bs,m,s4,s5,b,hb,_,h1,rfl⟩:=hI
 rw[lM,List.length_range] at hb h1
 refine⟨bs,m,b,List.length_pos_iff.mpr (h1 (by decide)),hb,?_⟩
 refine bB (F:=f11) rfl rfl (v:=⟨.lst (aD bs),true,false,[]⟩) ?_
 show exs pg (call pg n) [.sh true (.lst (xs.map D.int)),.dead,.dead,.dead,.dead,.dead] _=_
 refine HpS.cs (σ':=[.sh true (.lst (xs.map D.int)),.own false [],.dead,.dead,.dead,.dead]) rfl (HpS.cs (σ':=[.sh true (.lst (xs.map D.int)),.own false [],.sh false (.int 1),.dead,.dead,.dead]) rfl (HpS.cs (σ':=[.sh true (.lst (xs.map D.int)),.own false [],.sh false (.int 1),.sh false (.int R),.dead,.dead]) ?_ (HpS.cs e rfl)))
 exact eH (cA rfl (oM (cA rfl rfl i8) rfl (m4 _)) eR)
def hasS:Sm->Bool
 | .num _=>false|.box _=>false|.aft _=>true|.two _ a b=>hasS a||hasS b
def hasC:Cn->Bool
 | .yes=>false|.cmp _ a b=>hasS a||hasS b|.nt x=>hasC x|.two _ a b=>hasC a||hasC b
theorem lX{c:Nat}:∀{s:Sm},s.wf c false->hasS s=false->s.wf c true
 | .num _,w,_=>w
 | .box _,w,_=>w
 | .aft _,_,h=>by cases h
 | .two _ a b,w,h=>by
  obtain⟨h1,h2⟩:=Bool.or_eq_false_iff.mp h
  exact⟨lX w.1 h1,lX w.2 h2⟩
theorem oY{c:Nat}:∀{s:Cn},s.wf c false->hasC s=false->s.wf c true
 | .yes,_,_=>trivial
 | .cmp _ a b,w,h=>by
  obtain⟨h1,h2⟩:=Bool.or_eq_false_iff.mp h
  exact⟨lX w.1 h1,lX w.2 h2⟩
 | .nt x,w,h=>oY (s:=x) w h
 | .two _ a b,w,h=>by
  obtain⟨h1,h2⟩:=Bool.or_eq_false_iff.mp h
  exact⟨oY w.1 h1,oY w.2 h2⟩
inductive Pt where
 | i (k:Int)|s (x:Sm)|c (x:Cn)
def Pt.d:Pt->D
 | .i k=>.int k|.s x=>x.d|.c x=>x.d
def Pt.isT:Pt->Bool
 | .i _=>false|_=>true
def Pt.has:Pt->Bool
 | .i _=>false|.s x=>hasS x|.c x=>hasC x
theorem Pt.noL:∀p:Pt,Hp.noL p.d=true
 | .i _=>rfl|.s x=>x.noL|.c x=>x.noL
theorem Pt.isi:∀p:Pt,isI [.tTuple] pg p.d=some p.isT
 | .i _=>rfl|.s x=>by show isI _ _ x.d=_;rw[x.d_eq];rfl|.c x=>by show isI _ _ x.d=_;rw[x.d_eq];rfl
theorem aEB(ps:List Pt):noLs (ps.map Pt.d)=true:=iK Pt.noL ps
theorem jS(n:Nat){w:Str}(hw:(w == "after")=false){ps:List Pt}(hl:ps.length<=100)(hc:∀p∈ps,p.isT=true->call pg n 18 [p.d]=.ok (.bl p.has,false,false)) :
 call pg (n+1) 18 [.tup (.str w::ps.map Pt.d)]=.ok (.bl (decide ((0:Int)<(((ps.filter Pt.isT).filter Pt.has).length:Int))),false,false):=by
 have hno:Hp.noL (.tup (.str w::ps.map Pt.d))=true:=by
  show(Hp.noL (.str w)&&noLs (ps.map Pt.d))=true
  rw[aEB];rfl
 have hs:dH (.cl (.tup (.str w::ps.map Pt.d))) (some 1) none=.ok (.cl (.tup (ps.map Pt.d))):=by
  have hcut:cut (.str w::ps.map Pt.d) (some 1) none=ps.map Pt.d:=by
   unfold cut;simp[sIx];exact List.take_of_length_le (by simp)
  unfold dH
  simp only[aS,hcut,fQ,Bool.false_and]
  rw[show noLs (.str w::ps.map Pt.d)=true from hno,if_pos rfl];rfl
 have k1:aI 1=true:=by decide
 have e1:ev pg (call pg n) [.sh true (.tup (.str w::ps.map Pt.d)),.dead] (.comp 1 [] (.n 0) (.seq (.sli (.v 0) (.cons (.c (.int 1)) .nil) .nil)) (.cons (.isi (.v 0) [.tTuple]) .nil) (.v 0))=.ok ⟨.lst ((ps.filter Pt.isT).map Pt.d),true,false,[]⟩:=by
  refine aCq (ts:=ps) (al:=[]) (λp=>Vl.cl p.d) Pt.d Pt.isT Pt.noL ?_ (by unfold lim;omega) λp hp=>?_
  . have hi:∀v:Vl,items v (ps.map Pt.d)=ps.map λp=>Vl.cl p.d:=λv=>bV Pt.noL ps
    simp only[cU,sH,v0_ hno,bL,aB,aS,k1,fO,hs,hi,cH]
  . refine⟨[.sh false p.d],by simp[bO],?_,rfl⟩
    simp only[jB,aX,aO,gZ,aN,aB,aS,p.isi]
 have e2:ev pg (call pg n) [.sh true (.tup (.str w::ps.map Pt.d)),.own false ((ps.filter Pt.isT).map Pt.d)] (.comp 1 [] (.n 0) (.seq (.v 1)) (.cons (.call 18 (.cons (.v 0) .nil)) .nil) (.v 0))=.ok ⟨.lst (((ps.filter Pt.isT).filter Pt.has).map Pt.d),true,false,[]⟩:=by
  have hle:=List.length_filter_le Pt.isT ps
  refine aCq (ts:=ps.filter Pt.isT) (al:=[1]) (λp=>Vl.cl p.d) Pt.d Pt.has Pt.noL ?_ (by unfold lim;omega) λp hp=>?_
  . have hi:∀v:Vl,items v ((ps.filter Pt.isT).map Pt.d)=(ps.filter Pt.isT).map λp=>Vl.cl p.d:=λv=>bV Pt.noL _
    simp only[cU,aX,aO,gS,gZ,bE,aB,hi]
  . obtain⟨h1,h2⟩:=List.mem_filter.mp hp
    refine⟨[.sh false p.d],by simp[bO],?_,rfl⟩
    simp only[kI,aC,aF,aX,aO,gZ,aN,aB,mC,mN,aS,hc p h1 h2,cN,jQ]
 refine bB (F:=f18) rfl rfl (v:=.cl (.bl _)) ?_
 refine cs (eI (cK (cA (v0_ hno) rfl (fR _ _ rfl)) hw)) (cs (σ':=[.sh true (.tup (.str w::ps.map Pt.d)),.own false ((ps.filter Pt.isT).map Pt.d)]) ?_ (dM ?_))
 . refine(bT ..).trans ?_
   refine(congrArg (λz=>O.from _ z _) e1).trans ?_
   rfl
 . rw[aJB (aCp e2 (jE ..)) (bL ..) (oK ..),lM]
theorem kW:∀(s:Sm) (n:Nat),call pg (n+s.sz) 18 [s.d]=.ok (.bl (hasS s),false,false)
 | .num k,n=>jS n (w:= "number") (by decide +kernel) (ps:=[.i k]) (show 1<=100 by decide) (λp hp h=>by
  rw[List.mem_singleton.mp hp] at h;cases h)
 | .box k,n=>jS n (w:= "box") (by decide +kernel) (ps:=[.i k]) (show 1<=100 by decide) (λp hp h=>by
  rw[List.mem_singleton.mp hp] at h;cases h)
 | .aft k,n=>by
  refine bB (F:=f18) rfl rfl (v:=.cl (.bl true)) ?_
  exact iJ (cK (cA (v0_ (Sm.noL (.aft k))) rfl (fR _ _ rfl)) aHc) (dM rfl)
 | .two p a b,n=>by
  have c1:=kW a (n+b.sz)
  have c2:=kW b (n+a.sz)
  rw[show n+b.sz+a.sz=n+a.sz+b.sz by omega] at c1
  rw[show n+Sm.sz (.two p a b)=n+a.sz+b.sz+1 by show n+(1+a.sz+b.sz)=_;omega]
  refine(jS (n+a.sz+b.sz) (w:=oP p) (aEy p) (ps:=[.s a,.s b]) (show 2<=100 by decide) λx hx _=>?_).trans ?_
  . rcases List.mem_cons.mp hx with rfl|hx
    . exact c1
    . rw[List.mem_singleton.mp hx];exact c2
  . show R.ok (D.bl (decide ((0:Int)<((([Pt.s a,.s b]:List Pt).filter Pt.has).length:Int))),false,false)=R.ok (D.bl (hasS a||hasS b),false,false)
    have ha:Pt.has (.s a)=hasS a:=rfl
    have hb:Pt.has (.s b)=hasS b:=rfl
    rw[List.filter_cons,List.filter_cons,ha,hb]
    cases hasS a <;> cases hasS b <;> rfl
theorem kX:∀(s:Cn) (n:Nat),call pg (n+s.sz) 18 [s.d]=.ok (.bl (hasC s),false,false)
 | .yes,n=>jS n (w:= "yes") (Cn.notAfter .yes) (ps:=[]) (by decide) (λp hp h=>by cases hp)
 | .cmp i a b,n=>by
  have c1:=kW a (n+b.sz)
  have c2:=kW b (n+a.sz)
  rw[show n+b.sz+a.sz=n+a.sz+b.sz by omega] at c1
  rw[show n+Cn.sz (.cmp i a b)=n+a.sz+b.sz+1 by show n+(1+a.sz+b.sz)=_;omega]
  refine(jS (n+a.sz+b.sz) (w:=mQ i) (Cn.notAfter (.cmp i a b)) (ps:=[.s a,.s b]) (show 2<=100 by decide) λx hx _=>?_).trans ?_
  . rcases List.mem_cons.mp hx with rfl|hx
    . exact c1
    . rw[List.mem_singleton.mp hx];exact c2
  . show R.ok (D.bl (decide ((0:Int)<((([Pt.s a,.s b]:List Pt).filter Pt.has).length:Int))),false,false)=R.ok (D.bl (hasS a||hasS b),false,false)
    have ha:Pt.has (.s a)=hasS a:=rfl
    have hb:Pt.has (.s b)=hasS b:=rfl
    rw[List.filter_cons,List.filter_cons,ha,hb]
    cases hasS a <;> cases hasS b <;> rfl
 | .nt x,n=>by
  have c1:=kX x n
  rw[show n+Cn.sz (.nt x)=n+x.sz+1 by show n+(1+x.sz)=_;omega]
  refine(jS (n+x.sz) (w:= "not") (Cn.notAfter (.nt x)) (ps:=[.c x]) (show 1<=100 by decide) λy hy _=>?_).trans ?_
  . rw[List.mem_singleton.mp hy];exact c1
  . show R.ok (D.bl (decide ((0:Int)<((([Pt.c x]:List Pt).filter Pt.has).length:Int))),false,false)=R.ok (D.bl (hasC x),false,false)
    have ha:Pt.has (.c x)=hasC x:=rfl
    rw[List.filter_cons,ha]
    cases hasC x <;> rfl
 | .two p a b,n=>by
  have c1:=kX a (n+b.sz)
  have c2:=kX b (n+a.sz)
  rw[show n+b.sz+a.sz=n+a.sz+b.sz by omega] at c1
  rw[show n+Cn.sz (.two p a b)=n+a.sz+b.sz+1 by show n+(1+a.sz+b.sz)=_;omega]
  refine(jS (n+a.sz+b.sz) (w:=iO p) (Cn.notAfter (.two p a b)) (ps:=[.c a,.c b]) (show 2<=100 by decide) λx hx _=>?_).trans ?_
  . rcases List.mem_cons.mp hx with rfl|hx
    . exact c1
    . rw[List.mem_singleton.mp hx];exact c2
  . show R.ok (D.bl (decide ((0:Int)<((([Pt.c a,.c b]:List Pt).filter Pt.has).length:Int))),false,false)=R.ok (D.bl (hasC a||hasC b),false,false)
    have ha:Pt.has (.c a)=hasC a:=rfl
    have hb:Pt.has (.c b)=hasC b:=rfl
    rw[List.filter_cons,List.filter_cons,ha,hb]
    cases hasC a <;> cases hasC b <;> rfl
abbrev noC:D:=.err "NoCond" []
theorem aHd(n:Nat)(k:Nat):call pg (n+1) 5 [.str "sum",(Sm.aft k).d,.bl true]=.exc noC:=by
 refine kM (F:=f5) rfl rfl (σ:=[.sh true (.str "sum"),.sh true (Sm.aft k).d,.sh true (.bl true),.sh false (.str "after"),.sh false (.tup [.str "box"])]) ?_
 rfl
theorem nC{f:Sg->Vl->O}{x:Vl}{xs:List Vl}{σ σ':Sg}{e:D}(h:f σ x=.exc e σ'):cZ f (x::xs) σ=.exc e σ':=by
 rw[cZ,h]
theorem yP{f:Sg->Vl->O}{x:Vl}{xs:List Vl}{σ σ':Sg}{o:O}(h:f σ x=.next σ')(r:cZ f xs σ'=o):cZ f (x::xs) σ=o:=by
 rw[cZ,h];exact r
theorem sM{M:Nat}{bs:List D}{s1 s2 s5:Sl}{pl:Bool}{m:Int}{w:Str}{d:D}(hw:w = "sum" \/ w = "cond")(c1:call pg M 4 [.lst bs,.str w,d,.bl pl,.int m]=.exc noC) :
 exs pg (call pg M) [.sh true (.lst bs),s1,s2,.sh true (.bl pl),.sh false (.int m),s5,.sh false (.str w),.sh false d] (bP 6 4)=.exc noC [.sh true (.lst bs),s1,s2,.sh true (.bl pl),.sh false (.int m),s5,.sh false (.str w),.sh false d]:=by
 rcases hw with rfl|rfl
 . simp only[bP,aG,aK,bJ,dF,aR,aX,bL,aO,gS,gZ,aN,aB,aS,bK,dU,aJE,if_true,aE,bT,aZ,aC,aF,bI,eO,mC,mN,c1,kK,kL,qJ]
 . simp only[bP,aG,aK,bJ,dF,aR,aX,bL,aO,gS,gZ,aN,aB,aS,bK,dU,aJI,aJJ,bF,if_false,if_true,aE,bT,aZ,aC,aF,bI,eO,mC,mN,c1,kK,kL,qJ]
theorem sN{m:Nat}{bs:List D}{w:Str}{d:D}{fm:List Str}(hn:noL d=true){seen:Int}(hs:seen<40)(c1:call pg (m+1) 5 [.str w,d,.bl true]=.ok (.tup (fm.map D.str),false,false)){σ:Sg}
 (hfor:ex pg (call pg (m+1)) [.sh true (.lst bs),.sh true (.str w),.sh true d,.sh true (.bl true),.sh false (.int (seen+1)),.sh false (.tup (fm.map D.str)),.dead,.dead] (.for (.t [6,7]) (.zip (.v 5) (.sli (.v 2) (.cons (.c (.int 1)) .nil) .nil)) (bP 6 4))=.exc noC σ) :
 call pg (m+2) 4 [.lst bs,.str w,d,.bl true,.int seen]=.exc noC:=by
 have v2:=cJ 2 true hn
 have q40:(seen==40)=false:=beq_eq_false_iff_ne.mpr (by omega)
 refine kM (F:=f4) rfl rfl (σ:=σ) ?_
 show exs pg (call pg (m+1)) [.sh true (.lst bs),.sh true (.str w),.sh true d,.sh true (.bl true),.sh true (.int seen),.dead,.dead,.dead] (.cons (.iff (.cmp .Eq (.v 4) (.c (.int 40)))
  (.cons (.rse "TooMany" false (.cons (.c (.str "a condition or sum has at most forty parts")) .nil))
  .nil)
  .nil)
 (.cons (.set (.n 4) (.op .Add (.v 4) (.c (.int 1))))
 (.cons (.set (.n 5) (.call 5 (.cons (.v 1) (.cons (.v 2) (.cons (.v 3) .nil)))))
 (.cons (.for (.t [6,7]) (.zip (.v 5) (.sli (.v 2) (.cons (.c (.int 1)) .nil) .nil)) (bP 6 4))
 (.cons (.retv 4)
 .nil)))))=_
 simp only[aG,aK,bJ,aR,aX,bL,aO,gS,gZ,cI,aB,aS,bK,bY,q40,bF,if_false,aE,dP,bT,cP,add_int,cH,aQ,bO,bU,lS,lZ,aZ,aC,aF,jD,v2,eO,mC,mN,c1,cN,hfor,qJ]
theorem aCT{M:Nat}{bs:List D}{w w':Str}(hw:w' = "sum" \/ w' = "cond"){d a b:D}{m m':Int}(na:noL a=true)(nb:noL b=true){s4 s5 s6 s7:Sl}
 (hwk:walk pg (call pg M) [.sh true (.lst bs),.sh true (.str w),.sh true d,.sh true (.bl true),.sh false (.int m),s5,s6,s7] (.zip (.v 5) (.sli (.v 2) (.cons (.c (.int 1)) .nil) .nil))=.ok ([eQ w' a,eQ w' b],[]))
 (h:call pg M 4 [.lst bs,.str w',a,.bl true,.int m]=.exc noC\/(call pg M 4 [.lst bs,.str w',a,.bl true,.int m]=.ok (.int m',false,false)/\call pg M 4 [.lst bs,.str w',b,.bl true,.int m']=.exc noC)) :
 ∃σ,ex pg (call pg M) [.sh true (.lst bs),.sh true (.str w),.sh true d,.sh true (.bl true),.sh false (.int m),s5,s6,s7] (.for (.t [6,7]) (.zip (.v 5) (.sli (.v 2) (.cons (.c (.int 1)) .nil) .nil)) (bP 6 4))=.exc noC σ:=by
 rw[gD,hwk,aE,aQ]
 rcases h with h|⟨h1,h2⟩
 . exact⟨_,nC (by rw[fI na,aE];exact sM hw h)⟩
 . rcases hw with rfl|rfl
   . exact⟨_,yP (by rw[fI na,aE];exact iN h1) (nC (by rw[fI nb,aE];exact sM (.inl rfl) h2))⟩
   . exact⟨_,yP (by rw[fI na,aE];exact jG h1) (nC (by rw[fI nb,aE];exact sM (.inr rfl) h2))⟩
theorem aJK{M:Nat}{bs:List D}{w w':Str}(hw:w' = "sum" \/ w' = "cond"){d a:D}{m:Int}(na:noL a=true){s4 s5 s6 s7:Sl}
 (hwk:walk pg (call pg M) [.sh true (.lst bs),.sh true (.str w),.sh true d,.sh true (.bl true),.sh false (.int m),s5,s6,s7] (.zip (.v 5) (.sli (.v 2) (.cons (.c (.int 1)) .nil) .nil))=.ok ([eQ w' a],[]))
 (h:call pg M 4 [.lst bs,.str w',a,.bl true,.int m]=.exc noC) :
 ∃σ,ex pg (call pg M) [.sh true (.lst bs),.sh true (.str w),.sh true d,.sh true (.bl true),.sh false (.int m),s5,s6,s7] (.for (.t [6,7]) (.zip (.v 5) (.sli (.v 2) (.cons (.c (.int 1)) .nil) .nil)) (bP 6 4))=.exc noC σ:=by
 rw[gD,hwk,aE,aQ]
 exact⟨_,nC (by rw[fI na,aE];exact sM hw h)⟩
theorem nD{bs:List D}{c:Nat}(hc:bs.length=c):∀(s:Sm) (n:Nat) (seen:Int),s.wf c false->hasS s=true->seen+s.sz<=40->call pg (n+3+s.sz) 4 [.lst bs,.str "sum",s.d,.bl true,.int seen]=.exc noC
 | .num _,_,_,_,h,_=>by cases h
 | .box _,_,_,_,h,_=>by cases h
 | .aft k,n,seen,w,_,h=>by
  have h:seen+1<=40:=h
  have c1:=aHd (n+2) k
  have v2:=cJ 2 true (Sm.noL (.aft k))
  have q40:(seen==40)=false:=beq_eq_false_iff_ne.mpr (by omega)
  refine kM (F:=f4) rfl rfl (σ:=[.sh true (.lst bs),.sh true (.str "sum"),.sh true (Sm.aft k).d,.sh true (.bl true),.sh false (.int (seen+1)),.dead,.dead,.dead]) ?_
  show exs pg (call pg (n+3)) [.sh true (.lst bs),.sh true (.str "sum"),.sh true (Sm.aft k).d,.sh true (.bl true),.sh true (.int seen),.dead,.dead,.dead] f4.body=_
  unfold f4
  simp only[aG,aK,bJ,aR,aX,bL,aO,gS,gZ,cI,aB,aS,bK,bY,q40,bF,if_false,aE,dP,bT,cP,add_int,cH,aQ,bO,bU,lS,lZ,aZ,aC,aF,jD,v2,eO,mC,mN,c1,kK,kL,qJ]
 | .two p a b,n,seen,w,hh,h=>by
  have h:seen+((1+a.sz+b.sz:Nat):Int)<=40:=h
  obtain⟨w1,w2⟩:a.wf c false/\b.wf c false:=w
  have pa:=a.sz_pos
  have e1:n+b.sz+3+a.sz=n+2+a.sz+b.sz+1:=by omega
  have e2:n+a.sz+3+b.sz=n+2+a.sz+b.sz+1:=by omega
  have e3:n+3+Sm.sz (.two p a b)=n+2+a.sz+b.sz+2:=by show n+3+(1+a.sz+b.sz)=_;omega
  rw[e3]
  have hx:call pg (n+2+a.sz+b.sz+1) 4 [.lst bs,.str "sum",a.d,.bl true,.int (seen+1)]=.exc noC\/(call pg (n+2+a.sz+b.sz+1) 4 [.lst bs,.str "sum",a.d,.bl true,.int (seen+1)]=.ok (.int (seen+1+a.sz),false,false)/\call pg (n+2+a.sz+b.sz+1) 4 [.lst bs,.str "sum",b.d,.bl true,.int (seen+1+a.sz)]=.exc noC):=by
   cases ha:hasS a with
   | true=>
    have c1:=nD hc a (n+b.sz) (seen+1) w1 ha (by omega)
    rw[e1] at c1
    exact .inl c1
   | false=>
    have hb:hasS b=true:=by
     have hh:(hasS a||hasS b)=true:=hh
     rwa [ha,Bool.false_or] at hh
    have c1:=jF (P:=pg) (wh:=0) (wi:=1) (ch:=6) (fo:=5) (lo:=4) rfl rfl rfl rfl rfl rfl hc a (n+b.sz) (seen+1) (lX w1 ha) (by omega)
    have c2:=nD hc b (n+a.sz) (seen+1+a.sz) w2 hb (by omega)
    rw[e1] at c1
    rw[e2] at c2
    exact .inr ⟨c1,c2⟩
  obtain⟨σ,e⟩:=aCT (.inl rfl) a.noL b.noL (s4:=.dead) (oQ (s6:=.dead) (s7:=.dead) (.two p a b)) hx
  exact sN (m:=n+2+a.sz+b.sz) (Sm.noL (.two p a b)) (by omega) (uS (P:=pg) (fo:=5) rfl rfl _ (.two p a b) (λ_=>aEy p)) e
theorem nE{bs:List D}{c:Nat}(hc:bs.length=c):∀(s:Cn) (n:Nat) (seen:Int),s.wf c false->hasC s=true->seen+s.sz<=40->call pg (n+3+s.sz) 4 [.lst bs,.str "cond",s.d,.bl true,.int seen]=.exc noC
 | .yes,_,_,_,h,_=>by cases h
 | .cmp p a b,n,seen,w,hh,h=>by
  have h:seen+((1+a.sz+b.sz:Nat):Int)<=40:=h
  obtain⟨w1,w2⟩:a.wf c false/\b.wf c false:=w
  have pa:=a.sz_pos
  have e1:n+b.sz+3+a.sz=n+2+a.sz+b.sz+1:=by omega
  have e2:n+a.sz+3+b.sz=n+2+a.sz+b.sz+1:=by omega
  have e3:n+3+Cn.sz (.cmp p a b)=n+2+a.sz+b.sz+2:=by show n+3+(1+a.sz+b.sz)=_;omega
  rw[e3]
  have hx:call pg (n+2+a.sz+b.sz+1) 4 [.lst bs,.str "sum",a.d,.bl true,.int (seen+1)]=.exc noC\/(call pg (n+2+a.sz+b.sz+1) 4 [.lst bs,.str "sum",a.d,.bl true,.int (seen+1)]=.ok (.int (seen+1+a.sz),false,false)/\call pg (n+2+a.sz+b.sz+1) 4 [.lst bs,.str "sum",b.d,.bl true,.int (seen+1+a.sz)]=.exc noC):=by
   cases ha:hasS a with
   | true=>
    have c1:=nD hc a (n+b.sz) (seen+1) w1 ha (by omega)
    rw[e1] at c1
    exact .inl c1
   | false=>
    have hb:hasS b=true:=by
     have hh:(hasS a||hasS b)=true:=hh
     rwa [ha,Bool.false_or] at hh
    have c1:=jF (P:=pg) (wh:=0) (wi:=1) (ch:=6) (fo:=5) (lo:=4) rfl rfl rfl rfl rfl rfl hc a (n+b.sz) (seen+1) (lX w1 ha) (by omega)
    have c2:=nD hc b (n+a.sz) (seen+1+a.sz) w2 hb (by omega)
    rw[e1] at c1
    rw[e2] at c2
    exact .inr ⟨c1,c2⟩
  obtain⟨σ,e⟩:=aCT (.inl rfl) a.noL b.noL (s4:=.dead) (eB (s6:=.dead) (s7:=.dead) (.cmp p a b)) hx
  exact sN (m:=n+2+a.sz+b.sz) (Cn.noL (.cmp p a b)) (by omega) (kP (P:=pg) (fo:=5) rfl rfl _ (.cmp p a b)) e
 | .nt x,n,seen,w,hh,h=>by
  have h:seen+((1+x.sz:Nat):Int)<=40:=h
  have pa:=x.sz_pos
  have c1:=nE hc x n (seen+1) w hh (by omega)
  have e1:n+3+x.sz=n+2+x.sz+1:=by omega
  rw[e1] at c1
  have e3:n+3+Cn.sz (.nt x)=n+2+x.sz+2:=by show n+3+(1+x.sz)=_;omega
  rw[e3]
  obtain⟨σ,e⟩:=aJK (.inr rfl) x.noL (s4:=.dead) (eB (s6:=.dead) (s7:=.dead) (.nt x)) c1
  exact sN (m:=n+2+x.sz) (Cn.noL (.nt x)) (by omega) (kP (P:=pg) (fo:=5) rfl rfl _ (.nt x)) e
 | .two p a b,n,seen,w,hh,h=>by
  have h:seen+((1+a.sz+b.sz:Nat):Int)<=40:=h
  obtain⟨w1,w2⟩:a.wf c false/\b.wf c false:=w
  have pa:=a.sz_pos
  have e1:n+b.sz+3+a.sz=n+2+a.sz+b.sz+1:=by omega
  have e2:n+a.sz+3+b.sz=n+2+a.sz+b.sz+1:=by omega
  have e3:n+3+Cn.sz (.two p a b)=n+2+a.sz+b.sz+2:=by show n+3+(1+a.sz+b.sz)=_;omega
  rw[e3]
  have hx:call pg (n+2+a.sz+b.sz+1) 4 [.lst bs,.str "cond",a.d,.bl true,.int (seen+1)]=.exc noC\/(call pg (n+2+a.sz+b.sz+1) 4 [.lst bs,.str "cond",a.d,.bl true,.int (seen+1)]=.ok (.int (seen+1+a.sz),false,false)/\call pg (n+2+a.sz+b.sz+1) 4 [.lst bs,.str "cond",b.d,.bl true,.int (seen+1+a.sz)]=.exc noC):=by
   cases ha:hasC a with
   | true=>
    have c1:=nE hc a (n+b.sz) (seen+1) w1 ha (by omega)
    rw[e1] at c1
    exact .inl c1
   | false=>
    have hb:hasC b=true:=by
     have hh:(hasC a||hasC b)=true:=hh
     rwa [ha,Bool.false_or] at hh
    have c1:=iQ (P:=pg) (wh:=0) (wi:=1) (ch:=6) (fo:=5) (lo:=4) rfl rfl rfl rfl rfl rfl rfl hc a (n+b.sz) (seen+1) (oY w1 ha) (by omega)
    have c2:=nE hc b (n+a.sz) (seen+1+a.sz) w2 hb (by omega)
    rw[e1] at c1
    rw[e2] at c2
    exact .inr ⟨c1,c2⟩
  obtain⟨σ,e⟩:=aCT (.inr rfl) a.noL b.noL (s4:=.dead) (eB (s6:=.dead) (s7:=.dead) (.two p a b)) hx
  exact sN (m:=n+2+a.sz+b.sz) (Cn.noL (.two p a b)) (by omega) (kP (P:=pg) (fo:=5) rfl rfl _ (.two p a b)) e
theorem oZ(n:Nat){bs:List D}{c:Nat}(hb:bs.length=c){pl:Bool}{s:Cn}(w:s.wf c pl)(hz:s.sz<=40):call pg (n+3+s.sz+1) 3 [.lst bs,s.d,.bl pl]=.ok (s.d,false,false):=by
 have c1:=iQ (P:=pg) (wh:=0) (wi:=1) (ch:=6) (fo:=5) (lo:=4) rfl rfl rfl rfl rfl rfl rfl hb s n 0 w (by omega)
 have v1:=cJ 1 true s.noL
 refine bB (F:=f3) rfl rfl (v:=.cl s.d) ?_
 show exs pg (call pg (n+3+s.sz)) [.sh true (.lst bs),.sh true s.d,.sh true (.bl pl)] f3.body=_
 unfold f3
 simp only[aG,aK,uT,aZ,aC,aF,aX,bL,aO,gS,gZ,bI,v1,eO,aB,mC,mN,aS,c1,aE,dP,jC,fP]
theorem aCU(n:Nat){bs:List D}{c:Nat}(hb:bs.length=c){s:Cn}(w:s.wf c false)(hh:hasC s=true)(hz:s.sz<=40):call pg (n+3+s.sz+1) 3 [.lst bs,s.d,.bl true]=.exc noC:=by
 have c1:=nE hb s n 0 w hh (by omega)
 have v1:=cJ 1 true s.noL
 refine kM (F:=f3) rfl rfl (σ:=[.sh true (.lst bs),.sh true s.d,.sh true (.bl true)]) ?_
 show exs pg (call pg (n+3+s.sz)) [.sh true (.lst bs),.sh true s.d,.sh true (.bl true)] f3.body=_
 unfold f3
 simp only[aG,aK,uT,aZ,aC,aF,aX,bL,aO,gS,gZ,bI,v1,eO,aB,mC,mN,aS,c1,kK,kL,qJ]
theorem uY(n:Nat){bs:List D}{c:Nat}(hb:bs.length=c){s:Cn}(w:s.wf c false)(hz:s.sz<=40):call pg (n+4+s.sz+1) 19 [.lst bs,s.d]=.ok (.bl (hasC s),false,false):=by
 have v1:=cJ 1 true s.noL
 refine bB (F:=f19) rfl rfl (v:=.cl (.bl (hasC s))) ?_
 refine cs (σ':=[.sh true (.lst bs),.sh true s.d,.sh false .non,.dead]) rfl ?_
 cases hh:hasC s with
 | true=>
  have c1:=aCU n hb w hh hz
  rw[show n+3+s.sz+1=n+4+s.sz by omega] at c1
  refine cs (σ':=[.sh true (.lst bs),.sh true s.d,.sh true noC,.dead]) ?_ (dM ?_)
  . rw[aCr]
    simp only[aG,aK,uT,aZ,aC,aF,aX,bL,aO,gS,gZ,bI,v1,aB,mC,mN,aS,c1,kK,kL,qJ]
    rfl
  . rfl
 | false=>
  have c1:=oZ n hb (oY w hh) hz
  rw[show n+3+s.sz+1=n+4+s.sz by omega] at c1
  refine cs (σ':=[.sh true (.lst bs),.sh true s.d,.sh false .non,.dead]) ?_ (dM ?_)
  . rw[aCr]
    simp only[aG,aK,uT,aZ,aC,aF,aX,bL,aO,gS,gZ,bI,v1,aB,mC,mN,aS,c1,aE,dP]
  . rfl
theorem qM(n:Nat):∀as bs:List Int,cV (n+1) (as.map D.int) (bs.map D.int)=some (as==bs)
 | [],[]=>rfl
 | [],_::_=>rfl
 | _::_,[]=>rfl
 | a::as,b::bs=>by
  rw[mC,mC,cV,kJ,qM n as bs]
  rfl
theorem uZ(n:Nat)(a b:List Int):eqF (n+2) (aL a) (aL b)=some (a==b):=by
 unfold aL
 rw[dS]
 exact qM n a b
theorem vA(a b:List Int):eqD (aL a) (aL b)=some (a==b):=uZ 118 a b
theorem sO:∀(s:Sm) (n:Nat),eqF (n+s.sz+1) s.d s.d=some true
 | .num k,n=>by
  show eqF (n+2) (.tup [.str "number",.int k]) (.tup [.str "number",.int k])=_
  rw[dS]
  simp[cV,kJ,eT]
 | .box k,n=>by
  show eqF (n+2) (.tup [.str "box",.int k]) (.tup [.str "box",.int k])=_
  rw[dS]
  simp[cV,kJ,eT]
 | .aft k,n=>by
  show eqF (n+2) (.tup [.str "after",.int k]) (.tup [.str "after",.int k])=_
  rw[dS]
  simp[cV,kJ,eT]
 | .two p a b,n=>by
  have e1:=sO a (n+b.sz)
  have e2:=sO b (n+a.sz)
  rw[show n+b.sz+a.sz+1=n+a.sz+b.sz+1 by omega] at e1
  show eqF (n+(1+a.sz+b.sz)+1) (.tup [.str (oP p),a.d,b.d]) (.tup [.str (oP p),a.d,b.d])=_
  rw[show n+(1+a.sz+b.sz)+1=n+a.sz+b.sz+1+1 by omega,dS]
  simp[cV,eT,e1,e2]
theorem sP:∀(s:Cn) (n:Nat),eqF (n+s.sz+1) s.d s.d=some true
 | .yes,n=>by
  show eqF (n+2) (.tup [.str "yes"]) (.tup [.str "yes"])=_
  rw[dS]
  simp[cV,eT]
 | .cmp i a b,n=>by
  have e1:=sO a (n+b.sz)
  have e2:=sO b (n+a.sz)
  rw[show n+b.sz+a.sz+1=n+a.sz+b.sz+1 by omega] at e1
  show eqF (n+(1+a.sz+b.sz)+1) (.tup [.str (mQ i),a.d,b.d]) (.tup [.str (mQ i),a.d,b.d])=_
  rw[show n+(1+a.sz+b.sz)+1=n+a.sz+b.sz+1+1 by omega,dS]
  simp[cV,eT,e1,e2]
 | .nt x,n=>by
  have e1:=sP x n
  show eqF (n+(1+x.sz)+1) (.tup [.str "not",x.d]) (.tup [.str "not",x.d])=_
  rw[show n+(1+x.sz)+1=n+x.sz+1+1 by omega,dS]
  simp[cV,eT,e1]
 | .two p a b,n=>by
  have e1:=sP a (n+b.sz)
  have e2:=sP b (n+a.sz)
  rw[show n+b.sz+a.sz+1=n+a.sz+b.sz+1 by omega] at e1
  show eqF (n+(1+a.sz+b.sz)+1) (.tup [.str (iO p),a.d,b.d]) (.tup [.str (iO p),a.d,b.d])=_
  rw[show n+(1+a.sz+b.sz)+1=n+a.sz+b.sz+1+1 by omega,dS]
  simp[cV,eT,e1,e2]
theorem aHe{s:Cn}(h:s.sz<=100):eqD s.d s.d=some true:=by
 have:=sP s (119-s.sz)
 rwa [show 119-s.sz+s.sz+1=120 by omega] at this
theorem yQ(m:Nat):∀bs:List (Str×Int),cV (m+2) (aD bs) (aD bs)=some true
 | []=>by simp[aD,cV]
 | b::bs=>by
  have ih:=yQ m bs
  have e:eqF (m+2) (sK b) (sK b)=some true:=by
   unfold sK
   rw[dS]
   simp[cV,kJ,eT]
  unfold aD at ih ⊢
  rw[mC,cV,e,ih]
  rfl
theorem aHf(bs:List (Str×Int)):eqD (.lst (aD bs)) (.lst (aD bs))=some true:=by
 show(if (aD bs).length=(aD bs).length then eqL (eqF 119) (aD bs) (aD bs) else some false)=some true
 rw[if_pos rfl,rC]
 exact yQ 117 bs
theorem aHg{α:Type}(xs:List α)(lo hi:Option Int):(cut xs lo hi).length<=xs.length:=by
 unfold cut
 rw[List.length_take,List.length_drop]
 omega
theorem aCV(a b:List Int)(h:a.length+b.length<=100):opD .Add (.cl (aL a)) (.cl (aL b))=.ok (.cl (aL (a++b))):=by
 show R.iff (decide ((a.map D.int).length+(b.map D.int).length<=lim)) (R.ok (Vl.mk (.tup (a.map D.int++b.map D.int)) false false []))=_
 rw[lM,lM,decide_eq_true (show a.length+b.length<=lim by unfold lim;omega),fO,<-List.map_append]
 rfl
theorem aHh(n:Nat)(p:Pr2):eqF (n+3) (prD p) (prD p)=some true:=by
 unfold prD
 rw[dS]
 simp[cV,uZ]
theorem vB(n:Nat):∀ts:List Pr2,cV (n+3) (ts.map prD) (ts.map prD)=some true
 | []=>rfl
 | t::ts=>by
  rw[mC,cV,aHh,vB n ts]
  simp
theorem aEC(ts:List Pr2):eqD (.lst (ts.map prD)) (.lst (ts.map prD))=some true:=by
 show(if (ts.map prD).length=(ts.map prD).length then eqL (eqF 119) (ts.map prD) (ts.map prD) else some false)=some true
 rw[if_pos rfl,rC]
 exact vB 116 ts
def kB2:Ss:=(.cons (.iff (.orr (.nt (.isi (.v 2) [.tInt])) (.isi (.v 2) [.tBool]))
 (.cons (.ret (.c (.bl false)))
 .nil)
 .nil)
 .nil)
def kB:Ss:=(.cons (.iff (.orr (.nt (.isi (.v 1) [.tTuple])) (.cmp .NotEq (.bi .len (.cons (.v 1) .nil)) (.c (.int 2))))
 (.cons (.ret (.c (.bl false)))
 .nil)
 .nil)
 (.cons (.iff (.orr (.nt (.isi (.idx (.v 1) (.c (.int 0))) [.tTuple])) (.nt (.isi (.idx (.v 1) (.c (.int 1))) [.tTuple])))
  (.cons (.ret (.c (.bl false)))
  .nil)
  .nil)
 (.cons (.for (.n 2) (.seq (.op .Add (.idx (.v 1) (.c (.int 0))) (.idx (.v 1) (.c (.int 1))))) kB2)
 .nil)))
theorem wP(n:Nat){p:Pr2}(h:p.1.length+p.2.length<=100){s0 s2:Sl}:∃s2',exs pg (call pg n) [s0,.sh false (prD p),s2] kB=.next [s0,.sh false (prD p),s2']:=by
 have i0:bW (.cl (prD p)) (.cl (.int 0))=.ok (.cl (aL p.1)):=fR _ _ (bC _)
 have i1:bW (.cl (prD p)) (.cl (.int 1))=.ok (.cl (aL p.2)):=kN _ _ _ (bC _)
 have v1:∀s2:Sl,ev pg (call pg n) [s0,.sh false (prD p),s2] (.v 1)=.ok (.cl (prD p)):=λ_=>rfl
 have e0:∀s2:Sl,ev pg (call pg n) [s0,.sh false (prD p),s2] (.idx (.v 1) (.c (.int 0)))=.ok (.cl (aL p.1)):=λ_=>cA rfl rfl i0
 have e1:∀s2:Sl,ev pg (call pg n) [s0,.sh false (prD p),s2] (.idx (.v 1) (.c (.int 1)))=.ok (.cl (aL p.2)):=λ_=>cA rfl rfl i1
 have hi:∀v:Vl,items v ((p.1++p.2).map D.int)=(p.1++p.2).map λi=>Vl.cl (.int i):=λv=>bV (g:=D.int) (λ_=>rfl) _
 have hw:walk pg (call pg n) [s0,.sh false (prD p),s2] (.seq (.op .Add (.idx (.v 1) (.c (.int 0))) (.idx (.v 1) (.c (.int 1)))))=.ok ((p.1++p.2).map λi=>Vl.cl (.int i),[]):=by
  rw[cU,oM (e0 _) (e1 _) (aCV _ _ h),aB]
  show R.ok (items _ ((p.1++p.2).map D.int),[])=_
  rw[hi]
 obtain⟨σ',e,hI⟩:=eM (t:=.n 2) (b:=kB2) (λ_ σ=>∃s2,σ=[s0,.sh false (prD p),s2]) hw ⟨_,rfl⟩ (λk hk σ hσ=>by
  obtain⟨s2,rfl⟩:=hσ
  refine⟨_,[s0,.sh false (prD p),.sh false (.int ((p.1++p.2)[k]'(by simpa using hk)))],by rw[List.getElem_map,bO],?_,_,rfl⟩
  rfl)
 obtain⟨s2',rfl⟩:=hI
 refine⟨s2',cs (eI ?_) (cs (eI ?_) (cs e (aK ..)))⟩
 . rfl
 . rw[dF,jP,jB,e0,aB,jP,jB,e1,aB];rfl
theorem aAo(n:Nat){ps:List Pr2}(h:∀p∈ps,p.1.length+p.2.length<=100):call pg (n+1) 20 [.lst (ps.map prD)]=.ok (.bl true,false,false):=by
 obtain⟨σ',e,hI⟩:=eM (P:=pg) (cl:=call pg n) (t:=.n 1) (b:=kB) (it:=.seq (.v 0)) (σ:=[.sh true (.lst (ps.map prD)),.dead,.dead]) (λ_ σ=>∃s1 s2,σ=[.sh true (.lst (ps.map prD)),s1,s2]) (nB rfl) ⟨_,_,rfl⟩ (λk hk σ hσ=>by
  obtain⟨s1,s2,rfl⟩:=hσ
  have hk':k<ps.length:=by simpa using hk
  obtain⟨s2',e⟩:=wP n (h ps[k] (List.getElem_mem hk')) (s0:=.sh true (.lst (ps.map prD))) (s2:=s2)
  exact⟨_,_,by rw[List.getElem_map,bO];rfl,e,_,_,rfl⟩)
 obtain⟨s1,s2,rfl⟩:=hI
 refine bB (F:=f20) rfl rfl (v:=.cl (.bl true)) ?_
 exact cs (σ':=[.sh true (.lst (ps.map prD)),.dead,.dead]) rfl (cs e (dM rfl))
def good(q:Cn)(p:Pr2):Bool:=p.1 != p.2&&q.hold p.1 p.2
def row(ts:List (List Int))(a:List Int):List Pr2:=ts.map λb=>(a,b)
def prs(ts:List (List Int)):List Pr2:=ts.flatMap (row ts)
theorem aED{P:Pg}{cl:Caller}{σ:Sg}{i:Nat}{ts:List (List Int)}(h:σ[i]? = some (.sh false (.lst (ts.map aL)))):walk P cl σ (.seq (.v i))=.ok (ts.map λs=>Vl.cl (aL s),[]):=by
 have hi:∀v:Vl,items v (ts.map aL)=ts.map λs=>Vl.cl (aL s):=λv=>bV bC ts
 simp only[cU,aX,aO,h,aN,aB,aS,hi,cH]
def inB:Ss:=(.cons (.iff (.an (.cmp .NotEq (.v 4) (.v 5)) (.call 8 (.cons (.v 1) (.cons (.v 4) (.cons (.v 5) .nil)))))
 (.cons (.app 3 (.tup (.cons (.v 4) (.cons (.v 5) .nil))))
 .nil)
 .nil)
 .nil)
theorem aEE(n:Nat){c:Nat}{q:Cn}(w:q.wf c false){a b:List Int}(ha:a.length=c)(hb:b.length=c){acc:List Pr2}(hl:acc.length<=600){s0 s2:Sl} :
 exs pg (call pg (n+q.sz)) [s0,.sh true q.d,s2,.own false (acc.map prD),.sh false (aL a),.sh false (aL b)] inB=.next [s0,.sh true q.d,s2,.own false ((acc++[(a,b)].filter (good q)).map prD),.sh false (aL a),.sh false (aL b)]:=by
 have c1:=iP (P:=pg) (v:=7) (f:=8) rfl rfl (bd:=aL b) ha hb (bC _) (λ_=>rfl) q n w
 have v1:=cJ 1 true q.noL
 have t1:tst pg (call pg (n+q.sz)) [s0,.sh true q.d,s2,.own false (acc.map prD),.sh false (aL a),.sh false (aL b)] (.an (.cmp .NotEq (.v 4) (.v 5)) (.call 8 (.cons (.v 1) (.cons (.v 4) (.cons (.v 5) .nil)))))=.ok (good q (a,b)):=by
  have e1:tst pg (call pg (n+q.sz)) [s0,.sh true q.d,s2,.own false (acc.map prD),.sh false (aL a),.sh false (aL b)] (.cmp .NotEq (.v 4) (.v 5))=.ok (a != b):=by
   simp only[aR,aX,aO,gS,gZ,aN,aB,aS,iI,vA,Option.map_some]
   rfl
  have e2:tst pg (call pg (n+q.sz)) [s0,.sh true q.d,s2,.own false (acc.map prD),.sh false (aL a),.sh false (aL b)] (.call 8 (.cons (.v 1) (.cons (.v 4) (.cons (.v 5) .nil))))=.ok (q.hold a b):=by
   simp only[kI,aC,aF,aX,aO,gS,gZ,v1,aN,aB,mC,mN,aS,c1,cN,jQ]
  rw[lT,e1,aB,e2,good]
  cases a != b <;> rfl
 cases hg:good q (a,b) with
 | false=>
  rw[hg] at t1
  rw[List.filter_cons,hg,if_neg bN,List.filter_nil,List.append_nil]
  exact cs (eI t1) (aK ..)
 | true=>
  rw[hg] at t1
  rw[List.filter_cons,hg,if_pos rfl,List.filter_nil]
  have hm:cW [.cl (aL a),.cl (aL b)]=.cl (prD (a,b)):=rfl
  have ll:(acc.map prD++[prD (a,b)]).length<=lim:=by
   rw[lA,lM];unfold lim;show acc.length+1<=_;omega
  have em:(acc++[(a,b)]).map prD=acc.map prD++[prD (a,b)]:=by rw[List.map_append];rfl
  rw[em]
  simp only[inB,aG,aK,bJ,t1,aE,if_true,oH,dL,fM,aC,aF,aX,aO,gS,gZ,aN,aB,hm,put,cH,aQ,eF,aS,ll,fQ,Bool.or_false,lS,lZ,dP]
theorem aHi(n:Nat){c:Nat}{q:Cn}(w:q.wf c false){a:List Int}(ha:a.length=c){ts:List (List Int)}(hts:∀b∈ts,b.length=c){acc:List Pr2}(hl:acc.length+ts.length<=600){s0 s5:Sl} :
 ∃s5',ex pg (call pg (n+q.sz)) [s0,.sh true q.d,.sh false (.lst (ts.map aL)),.own false (acc.map prD),.sh false (aL a),s5] (.for (.n 5) (.seq (.v 2)) inB)=.next [s0,.sh true q.d,.sh false (.lst (ts.map aL)),.own false ((acc++(row ts a).filter (good q)).map prD),.sh false (aL a),s5']:=by
 obtain⟨σ',e,hI⟩:=eM (P:=pg) (cl:=call pg (n+q.sz)) (t:=.n 5) (b:=inB) (it:=.seq (.v 2)) (σ:=[s0,.sh true q.d,.sh false (.lst (ts.map aL)),.own false (acc.map prD),.sh false (aL a),s5])
  (λk σ=>∃s5,σ=[s0,.sh true q.d,.sh false (.lst (ts.map aL)),.own false ((acc++(row (ts.take k) a).filter (good q)).map prD),.sh false (aL a),s5]) (aED rfl) ⟨s5,by simp[row]⟩ (λk hk σ hσ=>by
   obtain⟨s5,rfl⟩:=hσ
   have hk':k<ts.length:=by simpa using hk
   have hle:(acc++(row (ts.take k) a).filter (good q)).length<=600:=by
    have h1:=List.length_filter_le (good q) (row (ts.take k) a)
    have h2:(row (ts.take k) a).length<=ts.length:=by unfold row;rw[lM,List.length_take];omega
    rw[lA];omega
   have e:=aEE n w ha (hts ts[k] (List.getElem_mem hk')) hle (s0:=s0) (s2:=.sh false (.lst (ts.map aL)))
   refine⟨_,_,by rw[List.getElem_map,bO];rfl,e,.sh false (aL ts[k]),?_⟩
   have er:row (ts.take (k+1)) a=row (ts.take k) a++[(a,ts[k])]:=by
    rw[List.take_succ_eq_append_getElem hk'];unfold row;rw[List.map_append];rfl
   rw[er,List.filter_append,List.append_assoc])
 obtain⟨s5',rfl⟩:=hI
 refine⟨s5',?_⟩
 rw[e,lM,List.take_length]
theorem aAp(n:Nat){bs:List (Str×Int)}(hT:uP bs){ts:List (List Int)}(hts:∀b∈ts,b.length=bs.length)(hl:ts.length<=24)(est:standsL bs=ts){q:Cn}(w:q.wf bs.length false) :
 call pg (n+1+q.sz+1) 9 [.lst (aD bs),q.d]=.ok (.lst (((prs ts).filter (good q)).map prD),true,false):=by
 have cst:=qH (P:=pg) (f:=2) rfl (n+q.sz) hT
 rw[est] at cst
 have cst:call pg (n+1+q.sz) 2 [.lst (aD bs)]=.ok (.lst (ts.map aL),true,false):=by rw[show n+1+q.sz=n+q.sz+1 by omega];exact cst
 have hw:walk pg (call pg (n+1+q.sz)) [.sh true (.lst (aD bs)),.sh true q.d,.own false (ts.map aL),.own false [],.dead,.dead] (.seq (.v 2))=.ok (ts.map λs=>Vl.cl (aL s),[2]):=by
  have hi:∀v:Vl,items v (ts.map aL)=ts.map λs=>Vl.cl (aL s):=λv=>bV bC ts
  simp only[cU,aX,aO,gS,gZ,bE,aB,hi]
 obtain⟨σ',e,hI⟩:=eM (t:=.n 4) (b:=.cons (.for (.n 5) (.seq (.v 2)) inB) .nil)
  (λk σ=>∃s4 s5,σ=[.sh true (.lst (aD bs)),.sh true q.d,.sh false (.lst (ts.map aL)),.own false (((ts.take k).flatMap λa=>(row ts a).filter (good q)).map prD),s4,s5]) hw ⟨_,_,rfl⟩ (λk hk σ hσ=>by
   obtain⟨s4,s5,rfl⟩:=hσ
   have hk':k<ts.length:=by simpa using hk
   have hle:∀k,k<=ts.length->((ts.take k).flatMap λa=>(row ts a).filter (good q)).length<=k*ts.length:=by
    intro k
    induction k with
    | zero=>intro _;simp
    | succ k ih=>
     intro hk
     rw[List.take_succ_eq_append_getElem (by omega),List.flatMap_append,lA,Nat.succ_mul]
     have h1:=ih (by omega)
     have h2:=List.length_filter_le (good q) (row ts ts[k])
     have h3:(row ts ts[k]).length=ts.length:=lM _
     have h4:([ts[k]].flatMap λa=>(row ts a).filter (good q))=(row ts ts[k]).filter (good q):=by simp
     rw[h4]
     omega
   have h1:=hle k (by omega)
   have h2:k*ts.length<=23*24:=Nat.mul_le_mul (by omega) hl
   obtain⟨s5',e⟩:=aHi (n+1) w (hts ts[k] (List.getElem_mem hk')) hts (acc:=(ts.take k).flatMap λa=>(row ts a).filter (good q)) (by omega) (s0:=.sh true (.lst (aD bs))) (s5:=s5)
   refine⟨_,_,by rw[List.getElem_map,bO];rfl,cs e (aK ..),.sh false (aL ts[k]),s5',?_⟩
   rw[List.take_succ_eq_append_getElem hk',List.flatMap_append]
   have h4:([ts[k]].flatMap λa=>(row ts a).filter (good q))=(row ts ts[k]).filter (good q):=by simp
   rw[h4])
 obtain⟨s4,s5,rfl⟩:=hI
 rw[lM,List.take_length] at e
 have ef:(ts.flatMap λa=>(row ts a).filter (good q))=(prs ts).filter (good q):=by
  unfold prs;rw[List.filter_flatMap]
 rw[ef] at e
 refine bB (F:=f9) rfl rfl (v:=⟨.lst (((prs ts).filter (good q)).map prD),true,false,[]⟩) ?_
 show exs pg (call pg (n+1+q.sz)) [.sh true (.lst (aD bs)),.sh true q.d,.dead,.dead,.dead,.dead] (.cons (.set (.n 2) (.call 2 (.cons (.v 0) .nil)))
  (.cons (.set (.n 3) (.lst .nil)) (.cons (.for (.n 4) (.seq (.v 2)) (.cons (.for (.n 5) (.seq (.v 2)) inB) .nil)) (.cons (.retv 3) .nil))))=_
 have e2:ex pg (call pg (n+1+q.sz)) [.sh true (.lst (aD bs)),.sh true q.d,.dead,.dead,.dead,.dead] (.set (.n 2) (.call 2 (.cons (.v 0) .nil)))=.next [.sh true (.lst (aD bs)),.sh true q.d,.own false (ts.map aL),.dead,.dead,.dead]:=by
  simp only[bT,aZ,aC,aF,aX,aO,gZ,bI,aB,mC,mN,cst,gG,aE,aQ,bO,dN,lS,lZ]
 exact cs e2 (cs (σ':=[.sh true (.lst (aD bs)),.sh true q.d,.own false (ts.map aL),.own false [],.dead,.dead]) rfl (cs e rfl))
theorem aEF{P:Pg}{cl:Caller}{σ:Sg}(i:Nat):ex P cl σ (.rev i)=put σ i (.cl .non) λds=>some ds.reverse:=id rfl
def rB:Ss:=(.cons (.set (.n 7) (.call 8 (.cons (.v 1) (.cons (.idx (.v 5) (.c (.int 0))) (.cons (.idx (.v 5) (.c (.int 1))) .nil)))))
 (.cons (.iff (.orr (.nt (.isi (.v 7) [.tBool])) (.cmp .NotEq (.v 7) (.v 6)))
  (.cons (.ret (.c (.bl false)))
  .nil)
  .nil)
 (.cons (.iff (.an (.v 6) (.cmp .NotEq (.idx (.v 5) (.c (.int 0))) (.idx (.v 5) (.c (.int 1)))))
  (.cons (.app 4 (.v 5))
  .nil)
  .nil)
 .nil)))
theorem aHj(n:Nat){c:Nat}{q:Cn}(w:q.wf c false){p:Pr2}(ha:p.1.length=c)(hb:p.2.length=c){acc:List Pr2}(hl:acc.length<=600){s0 s2 s3 s7:Sl} :
 exs pg (call pg (n+q.sz)) [s0,.sh true q.d,s2,s3,.own false (acc.map prD),.sh false (prD p),.sh false (.bl (q.hold p.1 p.2)),s7] rB =
  .next [s0,.sh true q.d,s2,s3,.own false ((acc++[p].filter (good q)).map prD),.sh false (prD p),.sh false (.bl (q.hold p.1 p.2)),.sh false (.bl (q.hold p.1 p.2))]:=by
 have c1:=iP (P:=pg) (v:=7) (f:=8) rfl rfl (bd:=aL p.2) ha hb (bC _) (λ_=>rfl) q n w
 have i0:bW (.cl (prD p)) (.cl (.int 0))=.ok (.cl (aL p.1)):=fR _ _ (bC _)
 have i1:bW (.cl (prD p)) (.cl (.int 1))=.ok (.cl (aL p.2)):=kN _ _ _ (bC _)
 have v5:∀{s0 s1 s2 s3 s4 s6 s7:Sl},ev pg (call pg (n+q.sz)) [s0,s1,s2,s3,s4,.sh false (prD p),s6,s7] (.v 5)=.ok (.cl (prD p)):=rfl
 have v1:ev pg (call pg (n+q.sz)) [s0,.sh true q.d,s2,s3,.own false (acc.map prD),.sh false (prD p),.sh false (.bl (q.hold p.1 p.2)),s7] (.v 1)=.ok (.cl q.d):=cJ 1 true q.noL
 have hq:(q.hold p.1 p.2==q.hold p.1 p.2)=true:=beq_self_eq_true _
 refine cs (eH (eE v1 (cA v5 rfl i0) (cA v5 rfl i1) c1)) (cs (σ':=[s0,.sh true q.d,s2,s3,.own false (acc.map prD),.sh false (prD p),.sh false (.bl (q.hold p.1 p.2)),.sh false (.bl (q.hold p.1 p.2))]) ?_ ?_)
 . refine eI ?_
   simp only[dF,jP,jB,aR,aX,aO,lS,lZ,gS,gZ,aN,aB,aS,aHa,Bool.not_true,bF,if_false,iI,aCo,hq,Option.map_some]
 . have t1:tst pg (call pg (n+q.sz)) [s0,.sh true q.d,s2,s3,.own false (acc.map prD),.sh false (prD p),.sh false (.bl (q.hold p.1 p.2)),.sh false (.bl (q.hold p.1 p.2))] (.an (.v 6) (.cmp .NotEq (.idx (.v 5) (.c (.int 0))) (.idx (.v 5) (.c (.int 1)))))=.ok (good q p):=by
    have e1:tst pg (call pg (n+q.sz)) [s0,.sh true q.d,s2,s3,.own false (acc.map prD),.sh false (prD p),.sh false (.bl (q.hold p.1 p.2)),.sh false (.bl (q.hold p.1 p.2))] (.cmp .NotEq (.idx (.v 5) (.c (.int 0))) (.idx (.v 5) (.c (.int 1))))=.ok (p.1 != p.2):=by
     rw[aR,cA v5 rfl i0,aB,cA v5 rfl i1,aB,aS,aS,iI,vA]
     rfl
    rw[lT,aCj,e1,good]
    show(if q.hold p.1 p.2 then R.ok (p.1 != p.2) else R.ok false)=_
    cases q.hold p.1 p.2 <;> cases p.1 != p.2 <;> rfl
   cases hg:good q p with
   | false=>
    rw[hg] at t1
    rw[List.filter_cons,hg,if_neg bN,List.filter_nil,List.append_nil]
    exact cs (eI t1) (aK ..)
   | true=>
    rw[hg] at t1
    rw[List.filter_cons,hg,if_pos rfl,List.filter_nil]
    have ll:(acc.map prD++[prD p]).length<=lim:=by
     rw[lA,lM];unfold lim;show acc.length+1<=_;omega
    have em:(acc++[p]).map prD=acc.map prD++[prD p]:=by rw[List.map_append];rfl
    rw[em]
    simp only[aG,aK,bJ,t1,aE,if_true,oH,dL,aX,aO,gS,gZ,aN,aB,put,cH,aQ,eF,aS,ll,fQ,Bool.or_false,lS,lZ,dP]
theorem aJL(n:Nat){c:Nat}{q:Cn}(w:q.wf c false){ss:List Pr2}(hS:St c ss){s0 s5 s6 s7:Sl} :
 ∃s5' s6' s7',ex pg (call pg (n+q.sz)) [s0,.sh true q.d,.sh true (.lst (cD q ss)),.sh true (.lst (ss.map prD)),.own false [],s5,s6,s7] (.for (.t [5,6]) (.zip (.v 3) (.v 2)) rB) =
  .next [s0,.sh true q.d,.sh true (.lst (cD q ss)),.sh true (.lst (ss.map prD)),.own false ((ss.filter (good q)).map prD),s5',s6',s7']:=by
 have hz:dR (ss.map prD) (cD q ss)=ss.map λp=>.tup [prD p,.bl (q.hold p.1 p.2)]:=iM prD (λp=>.bl (q.hold p.1 p.2)) ss
 have hno:∀p:Pr2,noL (.tup [prD p,.bl (q.hold p.1 p.2)])=true:=λp=>yA (jR p) rfl
 have hi:∀v:Vl,items v (ss.map λp=>.tup [prD p,.bl (q.hold p.1 p.2)])=ss.map λp=>Vl.cl (.tup [prD p,.bl (q.hold p.1 p.2)]):=λv=>bV (g:=λp=>.tup [prD p,.bl (q.hold p.1 p.2)]) hno ss
 have hw:walk pg (call pg (n+q.sz)) [s0,.sh true q.d,.sh true (.lst (cD q ss)),.sh true (.lst (ss.map prD)),.own false [],s5,s6,s7] (.zip (.v 3) (.v 2))=.ok (ss.map λp=>Vl.cl (.tup [prD p,.bl (q.hold p.1 p.2)]),[]):=by
  simp only[iE,aX,aO,gS,gZ,bI,aB,eY,hz,hi,List.append_nil]
 obtain⟨σ',e,hI⟩:=eM (t:=.t [5,6]) (b:=rB)
  (λk σ=>∃s5 s6 s7,σ=[s0,.sh true q.d,.sh true (.lst (cD q ss)),.sh true (.lst (ss.map prD)),.own false (((ss.take k).filter (good q)).map prD),s5,s6,s7]) hw ⟨_,_,_,rfl⟩ (λk hk σ hσ=>by
   obtain⟨s5,s6,s7,rfl⟩:=hσ
   have hk':k<ss.length:=by simpa using hk
   obtain⟨h1,h2⟩:=hS.len ss[k] (List.getElem_mem hk')
   have hle:((ss.take k).filter (good q)).length<=600:=by
    have h1:=List.length_filter_le (good q) (ss.take k)
    have h2:=hS.few
    rw[List.length_take] at h1
    omega
   have e:=aHj n w h1 h2 hle (s0:=s0) (s2:=.sh true (.lst (cD q ss))) (s3:=.sh true (.lst (ss.map prD))) (s7:=s7)
   refine⟨_,_,?_,e,_,_,_,by rw[List.take_succ_eq_append_getElem hk',List.filter_append]⟩
   rw[List.getElem_map]
   unfold bR
   simp only[aS,lC,lN,if_true,List.zip_cons_cons,List.zip_nil_left,List.foldl_cons,List.foldl_nil,cL (jR _),cL (show Hp.noL (.bl _)=true from rfl),bU,lS,lZ])
 obtain⟨s5',s6',s7',rfl⟩:=hI
 rw[lM,List.take_length] at e
 exact⟨_,_,_,e⟩
theorem aAq(n:Nat){bs:List (Str×Int)}(hT:uP bs){ts:List (List Int)}(hts:∀b∈ts,b.length=bs.length)(hl:ts.length<=24)(est:standsL bs=ts)(hS:St bs.length (prs ts)){q:Cn}(w:q.wf bs.length false)(hz:q.sz<=40) :
 call pg (n+5+q.sz+1) 21 [.lst (aD bs),q.d,.lst (cD q (prs ts)),.lst ((prs ts).map prD)]=.ok (.bl true,false,false):=by
 have hbl:(aD bs).length=bs.length:=by simp[aD]
 have v1:=cJ 1 true q.noL
 have c3:=oZ (n+1) hbl w hz
 rw[show n+1+3+q.sz+1=n+5+q.sz by omega] at c3
 have c19:=uY n hbl w hz
 rw[show n+4+q.sz+1=n+5+q.sz by omega] at c19
 have c18:=kX q (n+5)
 have c9:=aAp (n+3) hT hts hl est w
 rw[show n+3+1+q.sz+1=n+5+q.sz by omega] at c9
 have hfew:=hS.few
 have hfl:=List.length_filter_le (good q) (prs ts)
 have c20:=aAo (n+4+q.sz) (ps:=(prs ts).filter (good q)) (λp hp=>by
  obtain⟨h1,h2⟩:=hS.len p (List.mem_filter.mp hp).1
  have:=hT.few
  omega)
 rw[show n+4+q.sz+1=n+5+q.sz by omega] at c20
 obtain⟨s5,s6,s7,er⟩:=aJL (n+5) w hS (s0:=.sh true (.lst (aD bs))) (s5:=.dead) (s6:=.dead) (s7:=.dead)
 have hqc:=aHe (s:=q) (by omega)
 have hqp:=aEC ((prs ts).filter (good q))
 have hqb:(hasC q==hasC q)=true:=beq_self_eq_true _
 generalize (prs ts).filter (good q)=gs at *
 have l1:(gs.map prD).reverse.length<=lim:=by rw[List.length_reverse,lM];unfold lim;omega
 have l2:((gs.map prD).reverse++[D.non]).length<=lim:=by rw[lA,List.length_reverse,lM];unfold lim;show gs.length+1<=_;omega
 refine bB (F:=f21) rfl rfl (v:=.cl (.bl true)) ?_
 have e1:ex pg (call pg (n+5+q.sz)) [.sh true (.lst (aD bs)),.sh true q.d,.sh true (.lst (cD q (prs ts))),.sh true (.lst ((prs ts).map prD)),.dead,.dead,.dead,.dead] (.iff (.cmp .NotEq (.call 3 (.cons (.v 0) (.cons (.v 1) (.cons (.c (.bl false)) .nil)))) (.v 1)) (.cons (.ret (.c (.bl false))) .nil) .nil)=.next [.sh true (.lst (aD bs)),.sh true q.d,.sh true (.lst (cD q (prs ts))),.sh true (.lst ((prs ts).map prD)),.dead,.dead,.dead,.dead]:=by
  simp only[bJ,aR,aZ,aC,aF,aX,bL,aO,gS,gZ,bI,v1,aB,mC,mN,aS,c3,cN,iI,hqc,Option.map_some,Bool.not_true,aE,bF,if_false,aK]
 have e2:ex pg (call pg (n+5+q.sz)) [.sh true (.lst (aD bs)),.sh true q.d,.sh true (.lst (cD q (prs ts))),.sh true (.lst ((prs ts).map prD)),.dead,.dead,.dead,.dead] (.iff (.cmp .NotEq (.call 19 (.cons (.v 0) (.cons (.v 1) .nil))) (.call 18 (.cons (.v 1) .nil))) (.cons (.ret (.c (.bl false))) .nil) .nil)=.next [.sh true (.lst (aD bs)),.sh true q.d,.sh true (.lst (cD q (prs ts))),.sh true (.lst ((prs ts).map prD)),.dead,.dead,.dead,.dead]:=by
  simp only[bJ,aR,aZ,aC,aF,aX,bL,aO,gS,gZ,bI,v1,aB,mC,mN,aS,c19,c18,cN,iI,aCo,hqb,Option.map_some,Bool.not_true,aE,bF,if_false,aK]
 refine cs e1 (cs e2 (cs (σ':=[.sh true (.lst (aD bs)),.sh true q.d,.sh true (.lst (cD q (prs ts))),.sh true (.lst ((prs ts).map prD)),.own false [],.dead,.dead,.dead]) rfl (cs er ?_)))
 have e3:ex pg (call pg (n+5+q.sz)) [.sh true (.lst (aD bs)),.sh true q.d,.sh true (.lst (cD q (prs ts))),.sh true (.lst ((prs ts).map prD)),.own false (gs.map prD),s5,s6,s7] (.set (.n 7) (.call 9 (.cons (.v 0) (.cons (.v 1) .nil))))=.next [.sh true (.lst (aD bs)),.sh true q.d,.sh true (.lst (cD q (prs ts))),.sh true (.lst ((prs ts).map prD)),.own false (gs.map prD),s5,s6,.own false (gs.map prD)]:=by
  simp only[bT,aZ,aC,aF,aX,aO,gS,gZ,bI,v1,aB,mC,mN,aS,c9,gG,aE,aQ,bO,dN,lS,lZ]
 refine cs e3 (cs (eI ?_) (cs (σ':=[.sh true (.lst (aD bs)),.sh true q.d,.sh true (.lst (cD q (prs ts))),.sh true (.lst ((prs ts).map prD)),.own false (gs.map prD),s5,s6,.own false (gs.map prD).reverse]) ?_ (cs (σ':=[.sh true (.lst (aD bs)),.sh true q.d,.sh true (.lst (cD q (prs ts))),.sh true (.lst ((prs ts).map prD)),.own false (gs.map prD),s5,s6,.own false ((gs.map prD).reverse++[D.non])]) ?_ (dM ?_))))
 . simp only[dF,jP,kI,aR,aC,aF,aX,aO,gS,gZ,bE,aB,mC,mN,c20,cN,jQ,Bool.not_true,bF,if_false,iI,hqp,Option.map_some]
 . simp only[aEF,put,cH,aQ,eF,gS,gZ,l1,if_true,fQ,Bool.or_false,lS,lZ]
 . simp only[oH,dL,bL,aE,put,cH,aQ,eF,gS,gZ,aS,l2,if_true,fQ,Bool.or_false,lS,lZ]
 . simp only[lR,aZ,aC,aF,aX,aO,gS,gZ,bI,v1,bE,aB,mC,mN,aS,c9,gG,bK,hqp]
def aEG:Ss:=(.cons (.set (.t [7,8]) (.call 17 (.cons (.v 6) (.cons (.bi .len (.cons (.v 2) .nil)) (.cons (.v 4) .nil)))))
 (.cons (.iff (.nt (.call 21 (.cons (.v 3) (.cons (.v 7) (.cons (.v 8) (.cons (.v 4) .nil))))))
  (.cons (.ret (.c (.bl false)))
  .nil)
  .nil)
 .nil))
theorem aLz{ss:List Pr2}{q:Cn}{s0 s1 s2 s3 s4 s5 s6 s7 s8:Sl}:bR [s0,s1,s2,s3,s4,s5,s6,s7,s8] (.cl (cp ss q)) (.t [7,8])=.ok [s0,s1,s2,s3,s4,s5,s6,.sh false q.d,.sh false (.lst (cD q ss))]:=by
 unfold bR
 rw[aS,cp]
 simp only[lC,lN,if_true,List.zip_cons_cons,List.zip_nil_left,List.foldl_cons,List.foldl_nil,cL q.noL,bU,lS,lZ]
 rfl
theorem aHk{bs:List (Str×Int)}(h:uP bs):(∀t∈standsL bs,t.length=bs.length)/\(standsL bs).length<=24:=by
 have e:bs.take bs.length=bs:=List.take_length
 refine⟨λt ht=>(sB h bs.length (Nat.le_refl _)).2 t (by rw[e];exact ht),?_⟩
 have:=aFc h bs.length (Nat.le_refl _)
 rwa [e] at this
theorem sQ(us:List (List Int)):∀ts:List (List Int),(ts.flatMap (row us)).length=ts.length*us.length
 | []=>by simp
 | t::ts=>by
  rw[List.flatMap_cons,lA,sQ us ts,lC,Nat.succ_mul]
  have:(row us t).length=us.length:=lM _
  omega
theorem aCW{c:Nat}{ts:List (List Int)}(h:∀t∈ts,t.length=c)(hl:ts.length<=24):St c (prs ts):=by
 refine⟨λp hp=>?_,?_⟩
 . obtain⟨a,ha,hp⟩:=List.mem_flatMap.mp hp
   obtain⟨b,hb,rfl⟩:=List.mem_map.mp hp
   exact⟨h a ha,h b hb⟩
 . show(ts.flatMap (row ts)).length<=576
   rw[sQ]
   exact Nat.mul_le_mul hl hl
theorem aCX{bs:List (Str×Int)}(hT:uP bs)(h1:1<=bs.length){ts:List (List Int)}(hts:∀b∈ts,b.length=bs.length)(hl:ts.length<=24)(est:standsL bs=ts){s0 s1 s5 s7 s8:Sl}{i:Int} :
 ∃s7' s8',exs pg (call pg 59) [s0,s1,.own false (aD bs),.own false (aD bs),.own false ((prs ts).map prD),s5,.sh false (.int i),s7,s8] aEG =
  .next [s0,s1,.own false (aD bs),.own false (aD bs),.own false ((prs ts).map prD),s5,.sh false (.int i),s7',s8']:=by
 have hbl:(aD bs).length=bs.length:=by simp[aD]
 obtain⟨q,w,hz,c1⟩:=aCR 55 i h1 (aCW hts hl)
 have c2:=aAq (53-q.sz) hT hts hl est (aCW hts hl) w (by omega)
 rw[show 53-q.sz+5+q.sz+1=59 by omega] at c2
 have c1:call pg 59 17 [.int i,.int (bs.length:Int),.lst ((prs ts).map prD)]=.ok (cp (prs ts) q,false,false):=c1
 refine⟨.sh false q.d,.sh false (.lst (cD q (prs ts))),?_⟩
 simp only[aEG,aG,aK,bT,aZ,iD,aC,aF,aX,aO,gS,gZ,cI,bE,aN,aB,jE,hbl,mC,mN,aS,c1,cN,aE,cH,aQ,aLz,dP,bJ,jP,kI,c2,jQ,Bool.not_true,bF,if_false]
def pB:Ss:=(.cons (.ext 4 (.comp 1 [5] (.n 0) (.seq (.call 2 (.cons (.v 2) .nil))) .nil (.tup (.cons (.v 1) (.cons (.v 0) .nil)))))
 .nil)
theorem aHl{bs:List (Str×Int)}{ts:List (List Int)}(hl:ts.length<=24)(cst:call pg 59 2 [.lst (aD bs)]=.ok (.lst (ts.map aL),true,false)){acc:List Pr2}(ha:acc.length<=600){a:List Int}{s0 s1 s3 s6 s7 s8:Sl} :
 exs pg (call pg 59) [s0,s1,.own false (aD bs),s3,.own false (acc.map prD),.sh false (aL a),s6,s7,s8] pB=.next [s0,s1,.own false (aD bs),s3,.own false ((acc++row ts a).map prD),.sh false (aL a),s6,s7,s8]:=by
 have hc:ev pg (call pg 59) [s0,s1,.own false (aD bs),s3,.own false (acc.map prD),.sh false (aL a),s6,s7,s8] (.comp 1 [5] (.n 0) (.seq (.call 2 (.cons (.v 2) .nil))) .nil (.tup (.cons (.v 1) (.cons (.v 0) .nil))))=.ok ⟨.lst (ts.map λb=>prD (a,b)),true,false,[]⟩:=by
  have hi:∀v:Vl,items v (ts.map aL)=ts.map λs=>Vl.cl (aL s):=λv=>bV bC ts
  refine iL (ts:=ts) (al:=[]) (λs=>Vl.cl (aL s)) (λb=>prD (a,b)) (λ_=>jR _) ?_ (by unfold lim;omega) λb hb=>?_
  . simp only[cU,aZ,aC,aF,aX,aO,gS,gZ,bE,aB,mC,mN,cst,gG,hi]
  . refine⟨[.sh false (aL b),.sh false (aL a)],by simp[bO],rfl⟩
 have er:(row ts a).map prD=ts.map λb=>prD (a,b):=by unfold row;rw[List.map_map];rfl
 have hno:noLs (ts.map λb=>prD (a,b))=true:=iK (λ_=>jR _) ts
 have ll:(acc.map prD++ts.map λb=>prD (a,b)).length<=lim:=by
  rw[lA,lM,lM];unfold lim;omega
 rw[List.map_append,er]
 simp only[pB,aG,aK,aCm,hc,dL,aE,nL,hno,Bool.not_true,Bool.and_false,if_true,put,aQ,eF,gS,gZ,ll,Bool.or_false,lS,lZ,dP]
theorem aJM{bs:List (Str×Int)}{ts:List (List Int)}(hl:ts.length<=24)(cst:call pg 59 2 [.lst (aD bs)]=.ok (.lst (ts.map aL),true,false)){s0 s1 s3 s5 s6 s7 s8:Sl} :
 ∃s5',ex pg (call pg 59) [s0,s1,.own false (aD bs),s3,.own false [],s5,s6,s7,s8] (.for (.n 5) (.seq (.call 2 (.cons (.v 2) .nil))) pB)=.next [s0,s1,.own false (aD bs),s3,.own false ((prs ts).map prD),s5',s6,s7,s8]:=by
 have hw:walk pg (call pg 59) [s0,s1,.own false (aD bs),s3,.own false [],s5,s6,s7,s8] (.seq (.call 2 (.cons (.v 2) .nil)))=.ok (ts.map λs=>Vl.cl (aL s),[]):=by
  have hi:∀v:Vl,items v (ts.map aL)=ts.map λs=>Vl.cl (aL s):=λv=>bV bC ts
  simp only[cU,aZ,aC,aF,aX,aO,gS,gZ,bE,aB,mC,mN,cst,gG,hi]
 obtain⟨σ',e,hI⟩:=eM (t:=.n 5) (b:=pB) (λk σ=>∃s5,σ=[s0,s1,.own false (aD bs),s3,.own false (((ts.take k).flatMap (row ts)).map prD),s5,s6,s7,s8]) hw ⟨_,rfl⟩ (λk hk σ hσ=>by
  obtain⟨s5,rfl⟩:=hσ
  have hk':k<ts.length:=by simpa using hk
  have hle:((ts.take k).flatMap (row ts)).length<=600:=by
   rw[sQ,List.length_take]
   have:min k ts.length*ts.length<=24*24:=Nat.mul_le_mul (by omega) hl
   omega
  refine⟨_,_,by rw[List.getElem_map,bO];rfl,aHl hl cst hle,.sh false (aL ts[k]),?_⟩
  rw[List.take_succ_eq_append_getElem hk',List.flatMap_append,List.flatMap_singleton])
 obtain⟨s5',rfl⟩:=hI
 rw[lM,List.take_length] at e
 exact⟨_,e⟩
theorem pure(ns:List Int)(hn:ns.length<=63):∃fr pa,call pg 60 22 [.lst (ns.map D.int)]=.ok (.bl true,fr,pa):=by
 have cs':=lU (P:=pg) (f:=10) rfl 58 ((ns++[0]).getD 0 0) (m:=10) (by omega)
 have hx:=oO ((ns++[0]).getD 0 0) 10
 generalize hcell:(ns++[0]).getD 0 0=cell at cs' hx
 generalize strm cell 10=xs at cs' hx
 obtain⟨bs,many,hB,hp,hp4,cb⟩:=aAn 58 hx
 have hT:uP bs:=⟨hB.few,hB.one,by have:=hB.prod;have:=hB.hi;omega⟩
 have cst:=qH (P:=pg) (f:=2) rfl 58 hT
 obtain⟨hts,hl⟩:=aHk hT
 have hlaw:=λ{s0 s1 s5 s7 s8:Sl} {i:Int}=>aCX hT hp hts hl rfl (s0:=s0) (s1:=s1) (s5:=s5) (s7:=s7) (s8:=s8) (i:=i)
 generalize standsL bs=ts at cst hts hl hlaw
 have cst:call pg 59 2 [.lst (aD bs)]=.ok (.lst (ts.map aL),true,false):=cst
 have cb:call pg 59 11 [.lst (xs.map D.int)]=.ok (.lst (aD bs),true,false):=cb
 have a0:ev pg (call pg 59) [.sh true (.lst (ns.map D.int)),.dead,.dead,.dead,.dead,.dead,.dead,.dead,.dead] (.idx (.op .Add (.v 0) (.lst (.cons (.c (.int 0)) .nil))) (.c (.int 0)))=.ok (.cl (.int cell)):=by
  have hl:ns.length+1<=lim:=by unfold lim;omega
  have e:opD .Add ⟨.lst (ns.map D.int),false,true,[]⟩ ⟨.lst [.int 0],true,false,[]⟩=.ok ⟨.lst ((ns++[0]).map D.int),true,false,[]⟩:=by
   have hd:decide ((ns.map D.int).length+[D.int 0].length<=lim)=true:=decide_eq_true (by simpa using hl)
   show R.iff (decide ((ns.map D.int).length+[D.int 0].length<=lim)) (R.ok (⟨.lst (ns.map D.int++[D.int 0]),true,(true&&!noLs (ns.map D.int))||(false&&!noLs [D.int 0]),(if noLs (ns.map D.int)=true then [] else [])++(if noLs [D.int 0]=true then [] else [])⟩:Vl))=_
   rw[hd,eU]
   simp[noLs,Hp.noL]
  have i0:=cB (v:=⟨.lst ((ns++[0]).map D.int),true,false,[]⟩) (is:=ns++[0]) (k:=0) rfl (by simp)
  rw[hcell] at i0
  exact cA (oM rfl rfl e) rfl i0
 obtain⟨s5,ep⟩:=aJM hl cst (s0:=.sh true (.lst (ns.map D.int))) (s1:=.own false (xs.map D.int)) (s3:=.own false (aD bs)) (s5:=.dead) (s6:=.dead) (s7:=.dead) (s8:=.dead)
 have hw:walk pg (call pg 59) [.sh true (.lst (ns.map D.int)),.own false (xs.map D.int),.own false (aD bs),.own false (aD bs),.own false ((prs ts).map prD),s5,.dead,.dead,.dead] (.seq (.op .Add (.sli (.v 0) (.cons (.c (.int 1)) .nil) (.cons (.c (.int 5)) .nil)) (.lst (.cons (.idx (.v 1) (.c (.int 9))) .nil)))) =
  .ok ((cut ns (some 1) (some 5)++[xs.getD 9 0]).map λi=>Vl.cl (.int i),[]):=by
  have i8:bW ⟨.lst (xs.map D.int),false,false,[1]⟩ (.cl (.int 9))=.ok (.cl (.int (xs.getD 9 0))):=cB (k:=9) rfl (by omega)
  have k1:aI 1=true:=by decide
  have k13:aI 5=true:=by decide
  have hs:dH ⟨.lst (ns.map D.int),false,true,[]⟩ (some 1) (some 5)=.ok ⟨.lst ((cut ns (some 1) (some 5)).map D.int),true,false,[]⟩:=by
   unfold dH
   simp[eU,yH]
  have hm:gM [.cl (.int (xs.getD 9 0))]=⟨.lst [.int (xs.getD 9 0)],true,false,[]⟩:=rfl
  have hcl:=aHg ns (some 1) (some 5)
  generalize cut ns (some 1) (some 5)=cc at hs hcl
  have e:opD .Add ⟨.lst (cc.map D.int),true,false,[]⟩ ⟨.lst [.int (xs.getD 9 0)],true,false,[]⟩=.ok ⟨.lst ((cc++[xs.getD 9 0]).map D.int),true,false,[]⟩:=by
   have hd:decide ((cc.map D.int).length+[D.int (xs.getD 9 0)].length<=lim)=true:=decide_eq_true (by simp;unfold lim;omega)
   show R.iff (decide ((cc.map D.int).length+[D.int (xs.getD 9 0)].length<=lim)) (R.ok (⟨.lst (cc.map D.int++[D.int (xs.getD 9 0)]),true,(false&&!noLs (cc.map D.int))||(false&&!noLs [D.int (xs.getD 9 0)]),(if noLs (cc.map D.int)=true then [] else [])++(if noLs [D.int (xs.getD 9 0)]=true then [] else [])⟩:Vl))=_
   rw[hd,eU]
   simp[noLs,Hp.noL]
  have hit:∀(v:Vl) (is:List Int),items v (is.map D.int)=is.map λi=>Vl.cl (.int i):=λv is=>bV (g:=D.int) (λ_=>rfl) is
  simp only[cU,cP,mZ,aX,bL,rV,aC,aF,bX,aO,gS,gZ,bI,bE,aB,aS,k1,k13,Bool.and_self,fO,hs,i8,hm,e,hit]
 obtain⟨σ',e,hI⟩:=eM (t:=.n 6) (b:=aEG)
  (λk σ=>∃s6 s7 s8,σ=[.sh true (.lst (ns.map D.int)),.own false (xs.map D.int),.own false (aD bs),.own false (aD bs),.own false ((prs ts).map prD),s5,s6,s7,s8]) hw ⟨_,_,_,rfl⟩ (λk hk σ hσ=>by
   obtain⟨s6,s7,s8,rfl⟩:=hσ
   obtain⟨i,hi⟩:∃i,((cut ns (some 1) (some 5)++[xs.getD 9 0]).map λi=>Vl.cl (.int i))[k]=Vl.cl (.int i):=⟨_,by rw[List.getElem_map]⟩
   obtain⟨s7',s8',e⟩:=hlaw (s0:=.sh true (.lst (ns.map D.int))) (s1:=.own false (xs.map D.int)) (s5:=s5) (s7:=s7) (s8:=s8) (i:=i)
   exact⟨_,_,by rw[hi,bO];rfl,e,_,_,_,rfl⟩)
 obtain⟨s6,s7,s8,rfl⟩:=hI
 have cs':call pg 59 10 [.int cell,.int 10]=.ok (.lst (xs.map D.int),true,false):=cs'
 have hlist:biD .list [⟨.lst (aD bs),false,false,[2]⟩]=.ok ⟨.lst (aD bs),true,false,[]⟩:=by
  show R.ok (⟨.lst (aD bs),true,false&&!noLs (aD bs),if noLs (aD bs)=true then [] else [2]⟩:Vl)=_
  rw[mH]
  rfl
 have hq:=aHf bs
 refine⟨false,false,bB (F:=f22) rfl rfl (v:=.cl (.bl true)) ?_⟩
 show exs pg (call pg 59) [.sh true (.lst (ns.map D.int)),.dead,.dead,.dead,.dead,.dead,.dead,.dead,.dead] (.cons (.set (.n 1) (.call 10 (.cons (.idx (.op .Add (.v 0) (.lst (.cons (.c (.int 0)) .nil))) (.c (.int 0))) (.cons (.c (.int 10)) .nil))))
  (.cons (.set (.n 2) (.call 11 (.cons (.v 1) .nil)))
  (.cons (.set (.n 3) (.bi .list (.cons (.v 2) .nil)))
  (.cons (.set (.n 4) (.lst .nil))
  (.cons (.for (.n 5) (.seq (.call 2 (.cons (.v 2) .nil))) pB)
  (.cons (.for (.n 6) (.seq (.op .Add (.sli (.v 0) (.cons (.c (.int 1)) .nil) (.cons (.c (.int 5)) .nil)) (.lst (.cons (.idx (.v 1) (.c (.int 9))) .nil)))) aEG)
  (.cons (.ret (.cmp .Eq (.v 3) (.v 2))) .nil)))))))=_
 have hml:gM []=⟨.lst [],true,false,[]⟩:=rfl
 simp only[aG,aK,bT,aZ,aC,aF,a0,bL,aB,mC,mN,aS,cs',gG,aE,aQ,bO,dN,lS,lZ,dP,aX,aO,gS,gZ,bE,cb,iD,hlist,rV,hml,ep,e,iF,lR,bK,hq,fP]
end K07
end
noncomputable section
set_option maxRecDepth 100000
set_option maxHeartbeats 0
namespace K07
open PySem PySem.W L2 Hp Hh
def ix:List (Nat×List Str):=(5,["thing"]) ::
 (6,["thing", "least", "most"]) ::
 (8,["boxes", "found", "name", "top", "longer", "begun"]) ::
 (14,["boxes", "thing", "plain"]) ::
 (15,["boxes", "kind", "thing", "plain", "seen", "form", "due", "inner"]) ::
 (16,["kind", "thing", "plain", "word", "form"]) ::
 (17,["boxes", "due", "thing", "most"]) ::
 (18,["one", "ahead", "behind", "word", "left", "right"]) ::
 (19,["cond", "ahead", "behind", "word", "left", "right"]) ::
 (20,["boxes", "cond", "every", "found", "ahead", "behind"]) ::
 (22,["_law_cell", "_law_many", "_law_found", "_law_number", "_law_k"]) ::
 (23,["_law_xs", "_law_boxes_here", "_law_many", "_law_room", "_law_k", "_law_top"]) ::
 (24,["_law_x", "_law_count", "_law_at"]) ::
 (25,["_law_leaf_here", "_law_pair"]) ::
 (26,["_law_xs", "_law_count", "_law_pairs", "_law_one", "_law_values", "_law_other", "_law_sign", "_law_more"]) ::
 (27,["_law_cell", "_law_count", "_law_pairs", "_law_xs", "_law_one", "_law_ones", "_law_other", "_law_others", "_law_found", "_law_truths"]) ::
 (28,["_law_x", "_law_one", "_law_other", "_law_pairs"]) ::
 (29,["_law_cell", "_law_count", "_law_pairs", "_law_xs", "_law_stack", "_law_k", "_law_other"]) ::
 (30,["_law_part_here", "_law_inner"]) ::
 (31,["_law_boxes_here", "_law_promise_here", "_law_caught", "error"]) ::
 (32,["_law_found", "_law_step", "_law_number"]) ::
 (33,["_law_boxes_here", "_law_promise_here", "_law_truths", "_law_pairs", "_law_due", "_law_pair", "_law_truth", "_law_found"]) ::
 (34,["_law_script", "_law_xs", "_law_boxes_here", "_law_handed", "_law_pairs", "_law_ahead", "_law_cell", "_law_promise_here", "_law_truths"])::[]
def sn:Sn:=⟨[("MOST_PARTS",(.int 40)),("MOST_NUMBER",(.int 99))],[("SUM_FORMS",[("number",["number"]),("box",["box"]),("after",["box"]),("plus",["sum", "sum"]),("minus",["sum", "sum"])]),("COND_FORMS",[("yes",[]),("is",["sum", "sum"]),("less",["sum", "sum"]),("not",["cond"]),("both",["cond", "cond"]),("either",["cond", "cond"])])],[("TooMany",[.own "TooMany",.own "PromiseError",.tValueError]),("NoCond",[.own "NoCond",.own "PromiseError",.tValueError])],["NoCond", "TooMany"]⟩
def rsd:List Str:=["TooMany", "NoCond"]
abbrev pw:=PySem.Challenge.pw_handpromise_k07_steps_of_a_promise
theorem chk:iA ⟨[],[],(ix.map (mP pw)).map (·.x),sn.cns,sn.cls,true,sn.tbs.map (·.1),rsd⟩ pg.fns (ix.map (mP pw))=true:=by decide +kernel
theorem tw0:(pw.main.body.length != 0)=true:=by k_qdec
theorem lft:LeftO pw (qF pw) (rU pw) (λ_=>true) (λs=>jA pw sn s.heap) (λw=>lQ pw sn w) 100000:=aGS (by kernel_rfl) rfl (λ_=>by kernel_rfl) λw os=>byRow2 "special-get-raises" (P:=λw=>aJu pw (qF pw) (rU pw) (λs=>jA pw sn s.heap) 100000 w os=some (true,openGood (qF pw) (rU pw),lQ pw sn w)) (λw=>by
 have _:=tw0;unfold pw;rw[PySem.W.Fast.te10135428704474673334];kernel_rfl) (λw=>by
 have _:=tw0;unfold pw;rw[PySem.W.Fast.te10135428704474673334];kernel_rfl) w
end K07
end
noncomputable section
open PySem PySem.W PyProof.Rows Hh
set_option maxRecDepth 100000 in
set_option maxHeartbeats 0 in
theorem PySem.Challenge.cw_handpromise_k07_steps_of_a_promise_holds : PySem.Challenge.rw_handpromise_k07_steps_of_a_promise.Holds := by
 w_on; o_law; rename_i said
 refine aGX (l := PySem.Challenge.rw_handpromise_k07_steps_of_a_promise) (k := 59) (f := 22) (x := "_law_script") (sl := ["_law_xs", "_law_boxes_here", "_law_handed", "_law_pairs", "_law_ahead", "_law_cell", "_law_promise_here", "_law_truths"]) said K07.lft (by kernel_rfl) (by kernel_rfl) rfl rfl (by decide +kernel) ⟨rfl, rfl, rfl, rfl, rfl, by decide +kernel⟩ ?hw rfl rfl (by decide +kernel) (by decide +kernel) K07.chk rfl (by decide +kernel) rfl (by decide +kernel) ⟨rfl, rfl, by decide, by decide⟩ (by kernel_rfl) rfl K07.pure
 w_witness2
end
