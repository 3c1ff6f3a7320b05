import PyProof.Rows.All
import Wide.All
import OpenK.AllK
import Wide.FinOn
import Lean
import PyProof.EqAt
import PyProof.EqKinds
import PyProof.TupleCall
import PyProof.NeKinds
import PySem.Syntax
import PySem.Builtin.Str.Common
import PyProof.ReprReads
import PyProof.StrLaws
import PyProof.ReprRoads
import PyProof.FitsInt
import KE.KIsAll
import PyProof.DictTable
import PyProof.Rows.SetFrom
import PyProof.SetRoads
import PyProof.ZipIter
import PyProof.StrWalks
import PyProof.EnumFor
import PyProof.EnumStmt
import PyProof.ListNew
import PyProof.Rows.Range3
import PySem.Challenge.RW_handpromise_k12_ways_at_a_place
set_option genSizeOf false
set_option genInjectivity false
set_option bootstrap.genMatcherCode false
set_option Elab.async false
set_option linter.all false
theorem nf{p:Prop}(h:false=true):p:=absurd h Bool.false_ne_true
def gS:=@List.getElem?_cons_succ.{0}
def gZ:=@List.getElem?_cons_zero.{0}
def lS:=@List.set_cons_succ.{0}
def lZ:=@List.set_cons_zero.{0}
def bF:=@Bool.false_eq_true
def lC:=@List.length_cons.{0}
def lN:=@List.length_nil.{0}
def lA:=@List.length_append.{0}
def mC:=@List.map_cons.{0,0}
def mN:=@List.map_nil.{0,0}
def lM:=@List.length_map.{0,0}
def mG:=@List.mem_of_getElem?.{0}
def bN:=@Bool.false_ne_true
def bA:=@Bool.and_eq_true
noncomputable section
set_option maxRecDepth 100000
namespace L2
open PySem PySem.Spec PyProof.Rows
abbrev Key:=Sum Int Str
def sR:Key->Value->Bool
 | .inl k,v=>Value.isInt k v
 | .inr x,v=>Value.isStrOf x v
def aKn(w:World):Key->Int
 | .inl k=>hashInt k
 | .inr x=>hashStr w x
theorem keyIs_shape:∀{k:Key} {v:Value},sR k v=true->(∃i t,k=Sum.inl i/\v=Value.int i t)\/(∃x t,k=Sum.inr x/\v=Value.str x t)
 | .inl i,v,h=>by
  obtain⟨t,e⟩:=Value.isInt_shape (k:=i) (v:=v) h
  exact .inl ⟨i,t,rfl,e⟩
 | .inr x,v,h=>by
  obtain⟨t,e⟩:=Value.isStrOf_shape (x:=x) (v:=v) h
  exact .inr ⟨x,t,rfl,e⟩
theorem pK(x:Str)(t:Tok):sR (.inr x) (.str x t)=true:=by simp[sR,Value.isStrOf]
theorem aEU(a b:Int):decide ((Sum.inl a:Key)=Sum.inl b)=(a==b):=by
 by_cases e:a=b
 . subst e;simp
 . have h:¬ (Sum.inl a:Key)=Sum.inl b:=λq=>e (Sum.inl.inj q)
   rw[decide_eq_false h]
   exact(beq_eq_false_iff_ne.mpr e).symm
theorem aEV(a b:Str):decide ((Sum.inr a:Key)=Sum.inr b)=decide (a=b):=by
 by_cases e:a=b
 . subst e;simp
 . have h:¬ (Sum.inr a:Key)=Sum.inr b:=λq=>e (Sum.inr.inj q)
   rw[decide_eq_false h,decide_eq_false e]
theorem aEW(a:Int)(b:Str):decide ((Sum.inl a:Key)=Sum.inr b)=false:=decide_eq_false (λq=>nomatch q)
theorem aEX(a:Str)(b:Int):decide ((Sum.inr a:Key)=Sum.inl b)=false:=decide_eq_false (λq=>nomatch q)
def dX(prog:Program)(w:World):PySem.KeyKind prog w Key where
 is:=sR
 hash:=aKn w
 inj:=λv a b ha hb=>by
  rcases keyIs_shape ha with⟨i,t,rfl,rfl⟩|⟨x,t,rfl,rfl⟩
  . rcases keyIs_shape hb with⟨j,u,rfl,e⟩|⟨y,u,rfl,e⟩
    . injection e with e1 _;rw[e1]
    . exact nomatch e
  . rcases keyIs_shape hb with⟨j,u,rfl,e⟩|⟨y,u,rfl,e⟩
    . exact nomatch e
    . injection e with e1 _;rw[e1]
 byValue:=λk v h=>by
  rcases keyIs_shape h with⟨i,t,rfl,rfl⟩|⟨x,t,rfl,rfl⟩ <;> rfl
 pyHash:=λhv h=>by
  rcases keyIs_shape hv with⟨i,t,rfl,rfl⟩|⟨x,t,rfl,rfl⟩
  . exact wpAny_pyHash_int h
  . exact wpAny_pyHash_str h
 eqBool:=λhu hv h=>by
  rcases keyIs_shape hu with⟨i,t,rfl,rfl⟩|⟨x,t,rfl,rfl⟩
  . rcases keyIs_shape hv with⟨j,u,rfl,rfl⟩|⟨y,u,rfl,rfl⟩
    . rw[aEU] at h;exact wpAny_eqBool_int h
    . rw[aEW] at h;exact SeqAt.EqAt.int_str i t y u _ _ _ _ h
  . rcases keyIs_shape hv with⟨j,u,rfl,rfl⟩|⟨y,u,rfl,rfl⟩
    . rw[aEX] at h;exact SeqAt.EqAt.str_int x t j u _ _ _ _ h
    . rw[aEV] at h;exact wpAny_eqBool_str h
 «strs»:=λk x t v h=>by
  rcases keyIs_shape h with⟨i,u,rfl,e⟩|⟨y,u,rfl,e⟩
  . exact nomatch e
  . injection e with e1 _
    subst e1
    cases v <;> rfl
end L2
namespace L2
open PySem PySem.Spec PyProof.Rows
set_option genInjectivity true in
inductive V where
 | non|bl (b:Bool)|int (i:Int)|str (x:Str)|byt (b:Array UInt8)|flt (b:UInt64)|ref (a:Addr)|ty (n:String)
 deriving DecidableEq
def bP:V->Value->Prop
 | .non,u=>u=Value.none
 | .bl b,u=>u=Value.bool b
 | .int i,u=>∃t,u=Value.int i t
 | .str x,u=>∃t,u=Value.str x t
 | .byt b,u=>∃t,u=Value.bytes b t
 | .flt b,u=>∃t,u=Value.float b t
 | .ref a,u=>u=Value.ref a
 | .ty n,u=>u=Value.type n
abbrev aU:List V->List Value->Prop:=Paired bP
theorem aU.length{xs:List V}{us:List Value}(r:aU xs us):xs.length=us.length:=Paired.length r
theorem aU.get:∀{xs:List V} {us:List Value} {i:Nat} {x:V},aU xs us->xs[i]? = some x->∃u,us[i]? = some u/\bP x u
 | _,_,_,_,.nil,e=>by simp at e
 | _,_,0,_,.cons r _,e=>by simp at e;subst e;exact⟨_,rfl,r⟩
 | _,_,i+1,x,.cons _ t,e=>by
  obtain⟨u,h1,h2⟩:=aU.get (i:=i) (x:=x) t (by simpa using e)
  exact⟨u,by simpa using h1,h2⟩
theorem aU.set{x:V}{u:Value}(r:bP x u):∀{xs:List V} {us:List Value} (i:Nat),aU xs us->aU (xs.set i x) (us.set i u)
 | _,_,_,.nil=>.nil
 | _,_,0,.cons _ t=>.cons r t
 | _,_,i+1,.cons q t=>.cons q (aU.set r i t)
theorem aU.append:∀{xs ys:List V} {us ws:List Value},aU xs us->aU ys ws->aU (xs++ys) (us++ws)
 | _,_,_,_,.nil,s=>s
 | _,_,_,_,.cons r t,s=>.cons r (aU.append t s)
theorem aU.take:∀{xs:List V} {us:List Value} (n:Nat),aU xs us->aU (xs.take n) (us.take n)
 | _,_,0,_=>.nil
 | _,_,_+1,.nil=>.nil
 | _,_,n+1,.cons r t=>.cons r (aU.take n t)
theorem aU.drop:∀{xs:List V} {us:List Value} (n:Nat),aU xs us->aU (xs.drop n) (us.drop n)
 | _,_,0,r=>r
 | _,_,_+1,.nil=>.nil
 | _,_,n+1,.cons _ t=>aU.drop n t
theorem aU.none_of:∀{xs:List V} {us:List Value} {i:Nat},aU xs us->xs[i]? = none->us[i]? = none:=λ{xs us i} r e=>by
 have h1:=r.length
 have h2:xs.length<=i:=List.getElem?_eq_none_iff.mp e
 exact List.getElem?_eq_none_iff.mpr (by omega)
def aHx:Option V->Option Value->Prop
 | some v,some u=>bP v u
 | none,none=>True
 | _,_=>False
def KV{κ:Type}:List (κ×V)->List (κ×Value)->Prop:=Paired λ(p:κ×V) (q:κ×Value)=>p.1=q.1/\bP p.2 q.2
def kV:Key->V
 | .inl i=>.int i
 | .inr x=>.str x
inductive HO where
 | lst (xs:List V)
 | tup (xs:List V)
 | dK (kvs:List (Key×V))|dT (kvs:List (List Key×V))
 | set (S:Int->Bool) (n:Nat)
 | ins (C dx:Addr) (fs:List (Str×V))
 | own (x:Addr)
 | xd (fs:List (Str×V))
 | met (f x:Addr)
 | rng (lo hi:Int)
 | frz (o:Obj) (u:HO)
 | tbl (ps:Array Value)
 | ext (φ:Heap->Prop)
abbrev Hp:=Addr->Option HO
def upd(H:Hp)(a:Addr)(o:HO):Hp:=λb=>if b=a then some o else H b
theorem aY{H:Hp}{a:Addr}{o:HO}:upd H a o a=some o:=by unfold upd;rw[if_pos rfl]
theorem aJ{H:Hp}{a b:Addr}{o:HO}(h:b≠a):upd H a o b=H b:=by unfold upd;rw[if_neg h]
theorem bK{H:Hp}{a b:Addr}{o:HO}(h:H a=some o)(h':H b=none):a≠b:=by
 intro e;subst e;rw[h] at h';cases h'
section
variable (P:Program) (w:World)
def eA(H:Hp)(h:Heap)(a:Addr):HO->Prop
 | .lst xs=>xs.length<=sizeLine/\∃(its:List Value) (n:Nat),aU xs its/\h.get? a=some { cls:=.type "list",data:=.seq its.toArray n }
 | .tup xs=>xs.length<=sizeLine/\∃its:List Value,aU xs its/\IsTup h a its.toArray
 | .dK kvs=>kvs.length<=sizeLine/\(a==sysModules)=false/\∃vs,KV kvs vs/\h.DictOf (dX P w) a vs
 | .dT kvs=>kvs.length<=sizeLine/\(a==sysModules)=false/\∃xs:List (List Key×Addr×Value),
  Paired (λ(p:List Key×V) (q:List Key×Addr×Value)=>p.1=q.1/\H q.2.1=some (.tup (p.1.map kV))/\bP p.2 q.2.2) kvs xs /\
  ∃o es ep,h.get? a=some o/\o.ExactDict/\o.data=.dict es ep/\es.toList=xs.map (entryOfKey (tupleKind (dX P w)))/\(xs.map (·.1)).Nodup
 | .set S n=>h.SetOf (intKind P w) a S n
 | .ins C dx fs=>H dx=some (.own a)/\fs.length<=1000/\dx≠a/\h.get? a=some (PySem.W.instObj C dx) /\
  ∃mA,h.Ns1 dx mA/\(∀f,aHx (fs.lookup f) (mA f))/\PySem.Within mA (fs.map (·.1))
 | .own _=>∃o,h.get? a=some o
 | .xd fs=>∃mA,h.Ns1 a mA/\∀f,aHx (fs.lookup f) (mA f)
 | .rng lo hi=>∃t u v,h.get? a=some { cls:=.type "range",data:=.fields #[.int lo t,.int hi u,.int 1 v] }
 | .frz o u=>h.get? a=some o/\eA H h a u
 | .tbl ps=>h.get? a=some { cls:=.none,data:=.fields ps }
 | .met f x=>h.get? a=some (PySem.W.methodObj (.ref f) (.ref x))
 | .ext φ=>φ h/\(∃o,h.get? a=some o)/\∀h1 h2:Heap,φ h1->(∀o,h1.get? a=some o->h2.get? a=some o)->φ h2
def HOk(H:Hp)(h:Heap):Prop:=∀a o,H a=some o->eA P w H h a o
end
section
variable {P:Program} {w:World} {H H':Hp} {h h':Heap} {a:Addr} {o:HO}
theorem eA.lt(x:eA P w H h a o):a<h.objs.size:=by
 cases o with
 | lst xs=>obtain⟨_,_,_,_,e⟩:=x;exact Heap.lt_size e
 | tup xs=>obtain⟨_,_,_,p⟩:=x;exact p.lt
 | dK kvs=>obtain⟨_,_,_,_,o,_,_,e,_⟩:=x;exact Heap.lt_size e
 | dT kvs=>obtain⟨_,_,_,_,o,_,_,e,_⟩:=x;exact Heap.lt_size e
 | set S n=>obtain⟨o,_,_,_,e,_⟩:=x;exact Heap.lt_size e
 | ins C dx fs=>obtain⟨_,_,_,e,_⟩:=x;exact Heap.lt_size e
 | own y=>obtain⟨_,e⟩:=x;exact Heap.lt_size e
 | xd fs=>obtain⟨_,⟨_,_,_,e,_⟩,_⟩:=x;exact Heap.lt_size e
 | rng lo hi=>obtain⟨_,_,_,e⟩:=x;exact Heap.lt_size e
 | frz ob u=>obtain⟨e,_⟩:=x;exact Heap.lt_size e
 | tbl ps=>exact Heap.lt_size (show h.get? a=some _ from x)
 | met f y=>exact Heap.lt_size (show h.get? a=some _ from x)
 | ext φ=>obtain⟨_,⟨_,e⟩,_⟩:=x;exact Heap.lt_size e
theorem Paired.mapP{α β:Type}{F G:α->β->Prop}:∀{l₁:List α} {l₂:List β},Paired F l₁ l₂->(∀a b,F a b->G a b)->Paired G l₁ l₂
 | _,_,.nil,_=>.nil
 | _,_,.cons r t,f=>.cons (f _ _ r) (Paired.mapP t f)
theorem eA.stay(x:eA P w H h a o)(k:∀b u,(b=a\/H b=some (.own a))->h.get? b=some u->h'.get? b=some u)
 (ho:∀b,H b=some (.own a)->H' b=some (.own a)) (ht:∀b xs,H b=some (.tup xs)->H' b=some (.tup xs)):eA P w H' h' a o:=by
 induction o with
 | lst xs=>obtain⟨z,its,n,r,e⟩:=x;exact⟨z,its,n,r,k _ _ (.inl rfl) e⟩
 | tup xs=>obtain⟨z,its,r,ob,e,c⟩:=x;exact⟨z,its,r,ob,k _ _ (.inl rfl) e,c⟩
 | dK kvs=>obtain⟨z,y,vs,r,ob,es,ep,e,c⟩:=x;exact⟨z,y,vs,r,ob,es,ep,k _ _ (.inl rfl) e,c⟩
 | dT kvs=>
  obtain⟨z,y,xs,r,ob,es,ep,e,c⟩:=x
  exact⟨z,y,xs,Paired.mapP r λp q z=>⟨z.1,ht _ _ z.2.1,z.2.2⟩,ob,es,ep,k _ _ (.inl rfl) e,c⟩
 | set S n=>obtain⟨ob,es,ep,t,e,c⟩:=x;exact⟨ob,es,ep,t,k _ _ (.inl rfl) e,c⟩
 | ins C dx fs=>
  obtain⟨d,z,ne,e,mA,⟨od,es,ep,e2,c⟩,r⟩:=x
  exact⟨ho _ d,z,ne,k _ _ (.inl rfl) e,mA,⟨od,es,ep,k _ _ (.inr d) e2,c⟩,r⟩
 | own y=>obtain⟨ob,e⟩:=x;exact⟨ob,k _ _ (.inl rfl) e⟩
 | xd fs=>obtain⟨mA,⟨od,es,ep,e,c⟩,r⟩:=x;exact⟨mA,⟨od,es,ep,k _ _ (.inl rfl) e,c⟩,r⟩
 | rng lo hi=>obtain⟨t,u,v,e⟩:=x;exact⟨t,u,v,k _ _ (.inl rfl) e⟩
 | frz ob u ih=>obtain⟨e,q⟩:=x;exact⟨k _ _ (.inl rfl) e,ih q⟩
 | tbl ps=>
  have e:h.get? a=some { cls:=.none,data:=.fields ps }:=x
  show h'.get? a=some { cls:=.none,data:=.fields ps }
  exact k a _ (.inl rfl) e
 | met f y=>
  have e:h.get? a=some (PySem.W.methodObj (.ref f) (.ref y)):=x
  show h'.get? a=some (PySem.W.methodObj (.ref f) (.ref y))
  exact k a _ (.inl rfl) e
 | ext φ=>obtain⟨p,⟨o,e⟩,st⟩:=x;exact⟨st _ _ p λo q=>k _ _ (.inl rfl) q,⟨o,k _ _ (.inl rfl) e⟩,st⟩
theorem HOk.lt(x:HOk P w H h)(e:H a=some o):a<h.objs.size:=(x a o e).lt
theorem HOk.fresh(x:HOk P w H h)(e:h.objs.size<=a):H a=none:=by
 cases q:H a with
 | none=>rfl
 | some u=>exact absurd (Nat.lt_of_lt_of_le (x.lt q) e) (Nat.lt_irrefl _)
theorem HOk.kept(x:HOk P w H h)(k:∀b u,h.get? b=some u->h'.get? b=some u):HOk P w H h':=λa o e=>
 (x a o e).stay (λb u _ q=>k b u q) (λ_ q=>q) λ_ _ q=>q
theorem HOk.laid(x:HOk P w H h)(k:∀b u,h.get? b=some u->h'.get? b=some u)(hp:h.objs.size<=a)(new:eA P w (upd H a o) h' a o):HOk P w (upd H a o) h':=λb u e=>by
 have hn:=x.fresh hp
 by_cases hb:b=a
 . subst hb;rw[aY] at e;cases e;exact new
 . rw[aJ hb] at e
   exact(x b u e).stay (λc v _ q=>k c v q) (λc q=>by rw[aJ (bK q hn)];exact q) λc xs q=>by rw[aJ (bK q hn)];exact q
end
def Rd(H:Hp)(a:Addr)(u:HO):Prop:=H a=some u\/∃o,H a=some (.frz o u)
theorem Rd.ok{P:Program}{w:World}{H:Hp}{h:Heap}{a:Addr}{u:HO}(r:Rd H a u)(x:HOk P w H h):eA P w H h a u:=by
 rcases r with r|⟨o,r⟩
 . exact x a u r
 . obtain⟨_,q⟩:=x a _ r
   exact q
def Mut:Option HO->Prop
 | some (.lst _)=>True
 | some (.dK _)=>True
 | some (.dT _)=>True
 | some (.set _ _)=>True
 | some (.ins _ _ _)=>True
 | some (.ext _)=>True
 | _=>False
section
variable {P:Program} {w:World} {H:Hp} {h h':Heap} {x e:Addr} {o':HO}
theorem HOk.write(ok:HOk P w H h)(mu:Mut (H x))(he:e=x\/H e=some (.own x))(k:∀b u,b≠e->h.get? b=some u->h'.get? b=some u)(heo:∃u,h'.get? e=some u)
 (new:eA P w (upd H x o') h' x o'):HOk P w (upd H x o') h':=λb u q=>by
 have nown:∀c y,H c=some (.own y)->c≠x:=λc y r z=>by subst z;rw[r] at mu;exact mu
 have ntup:∀c xs,H c=some (.tup xs)->c≠x:=λc xs r z=>by subst z;rw[r] at mu;exact mu
 by_cases hb:b=x
 . subst hb;rw[aY] at q;cases q;exact new
 . rw[aJ hb] at q
   by_cases hbe:b=e
   . have q':H b=some (.own x):=by
      rcases he with z|z
      . exact absurd (hbe.trans z) hb
      . rw[hbe];exact z
     rw[q] at q';cases q'
     obtain⟨v,hv⟩:=heo
     exact⟨v,by rw[hbe];exact hv⟩
   . refine(ok b u q).stay (λc v hc r=>k c v ?_ r) (λc r=>by rw[aJ (nown c b r)];exact r) λc xs r=>by rw[aJ (ntup c xs r)];exact r
     rcases hc with rfl|hc
     . exact hbe
     . rintro rfl
       rcases he with z|z
       . exact nown c b hc z
       . rw[hc] at z;cases z;exact hb rfl
end
structure Un (fs ex:List Addr) (H H':Hp) (h h':Heap):Prop where
 keep:∀b o,h.get? b=some o->H b=none->b∉fs->b∉ex->h'.get? b=some o
 slot:∀b o,h.get? b=some o->H b=none->b∈fs->b∉ex->∃sl,h'.get? b=some { o with slots:=sl }
 free:∀b o,h.get? b=some o->H b=none->b∉ex->H' b=none
 there:∀b o,h.get? b=some o->b∉ex->∃o',h'.get? b=some o'
 tups:∀b xs,H b=some (.tup xs)->H' b=some (.tup xs)
 frzs:∀b o u,H b=some (.frz o u)->H' b=some (.frz o u)
 tbls:∀b ps,H b=some (.tbl ps)->∃more,H' b=some (.tbl (ps++more))
section
variable {fs fs' ex ex':List Addr} {H H1 H2:Hp} {h h1 h2 h':Heap} {a x e:Addr} {o:HO}
theorem Un.any(u:Un fs ex H H1 h h1){b:Addr}{ob:Obj}(q:h.get? b=some ob)(n:H b=none)(hx:b∉ex):∃sl,h1.get? b=some { ob with slots:=sl }:=by
 by_cases hb:b∈fs
 . exact u.slot b ob q n hb hx
 . exact⟨ob.slots,u.keep b ob q n hb hx⟩
theorem Un.kept(k:∀b u,h.get? b=some u->h'.get? b=some u):Un fs ex H H h h':=
 ⟨λb ob q _ _ _=>k b ob q,λb ob q _ _ _=>⟨ob.slots,k b ob q⟩,λ_ _ _ n _=>n,λb ob q _=>⟨ob,k b ob q⟩,λ_ _ q=>q,λ_ _ _ q=>q,λ_ ps q=>⟨#[],by rw[q];simp⟩⟩
theorem Un.refl:Un fs ex H H h h:=Un.kept λ_ _ q=>q
theorem Un.laid(k:∀b u,h.get? b=some u->h'.get? b=some u)(hp:h.objs.size<=a)(hn:H a=none):Un fs ex H (upd H a o) h h' where
 keep:=λb u q _ _ _=>k b u q
 slot:=λb u q _ _ _=>⟨u.slots,k b u q⟩
 free:=λb u q n _=>by rw[aJ (Nat.ne_of_lt (Nat.lt_of_lt_of_le (Heap.lt_size q) hp))];exact n
 there:=λb u q _=>⟨u,k b u q⟩
 tups:=λb xs q=>by rw[aJ (bK q hn)];exact q
 frzs:=λb u xs q=>by rw[aJ (bK q hn)];exact q
 tbls:=λb ps q=>⟨#[],by rw[aJ (bK q hn),q];simp⟩
theorem Un.write(mu:Mut (H x))(he:e=x\/H e=some (.own x))(k:∀b u,b≠e->h.get? b=some u->h'.get? b=some u)(heo:∃u,h'.get? e=some u):Un fs ex H (upd H x o) h h':=by
 have hx:∀b,H b=none->b≠x:=λb n z=>by subst z;rw[n] at mu;exact mu
 have hb:∀b,H b=none->b≠e:=λb n z=>by
  subst z
  rcases he with r|r
  . exact hx b n r
  . rw[n] at r;cases r
 have hm:∀b u,H b=some u->¬ Mut (some u)->b≠x:=λb u q nm z=>by subst z;rw[q] at mu;exact nm mu
 refine⟨λb u q n _ _=>k b u (hb b n) q,λb u q n _ _=>⟨u.slots,k b u (hb b n) q⟩,λb u q n _=>by rw[aJ (hx b n)];exact n,λb u q _=>?_,
  λb xs q=>by rw[aJ (hm b _ q λz=>z)];exact q,λb u xs q=>by rw[aJ (hm b _ q λz=>z)];exact q,λb ps q=>⟨#[],by rw[aJ (hm b _ q λz=>z),q];simp⟩⟩
 by_cases hbe:b=e
 . subst hbe;exact heo
 . exact⟨u,k b u hbe q⟩
end
def trk(h:Heap)(H:Hp):List Addr:=(List.range h.objs.size).filter λa=>(H a).isSome
def qT(h:Heap)(H:Hp):Heap:=PySem.W.hideAll h (trk h H)
theorem zU(h:Heap)(H:Hp):(qT h H).objs.size=h.objs.size:=PySem.W.hideAll_size _ _
theorem aAL{h:Heap}{H:Hp}{b:Addr}{o:Obj}(e:h.get? b=some o)(n:H b=none):(qT h H).get? b=some o:=
 PySem.W.hideAll_get _ e λhm=>by
  have q:(H b).isSome=true:=(List.mem_filter.mp hm).2
  rw[n] at q;simp at q
theorem aCM{h:Heap}{H:Hp}{b:Addr}{o:Obj}(e:(qT h H).get? b=some o):h.get? b=some o/\H b=none:=by
 have e':h.get? b=some o:=PySem.W.of_hideAll (trk h H) e
 refine⟨e',?_⟩
 cases q:H b with
 | none=>rfl
 | some x=>
  have hm:b∈trk h H:=List.mem_filter.mpr ⟨List.mem_range.mpr (Heap.lt_size e'),by simp[q]⟩
  have z:(qT h H).get? b=none:=PySem.W.hideAll_none (trk h H) hm
  rw[z] at e;cases e
def aCN(g h:Heap)(L:Addr):List (Addr×Obj):=(List.range h.objs.size).filterMap λa=>if a=L\/(g.get? a).isSome=true then none else (h.get? a).map λo=>(a,o)
def rest(g h:Heap)(L d:Addr):List (Addr×Obj):=(aCN g h L).filter λp=>decide (p.1≠d)
end L2
namespace L2
open PySem PySem.Spec PyProof.Rows
structure Mod (K:PySem.W.Frag) (mg:Str->Option Value) (base:Heap):Prop where
 kin:K.In base
 glob:base.Ns mainGlobals mg
 blt:∃mb,base.Ns builtinsNs mb/\∀x:Str,x ≠ "__name__" -> mb x=bootBuiltins x
 nolimit:base.NoLimit
set_option genInjectivity true in
structure Cx where
 prog:Program
 w:World
 K:PySem.W.Frag
 mg:Str->Option Value
 base:Heap
 A:Around
 N:List Str
 s₀:Shared
 H₀:Hp
 env:Env
 outer:List Env
 stack:List Env
 ex:List Addr
 fn:Str->Bool
 calm:Bool
 pn:List (Addr×Obj)
 xe:Value->Shared->Prop
def frs(l:List Env):List Addr:=l.filterMap (·.frame)
abbrev Cx.fs(X:Cx):List Addr:=frs X.outer
def Vis(sc:Scope)(x:Str):Prop:=sc.names.lookup x=some .local\/sc.names.lookup x=some .cell\/sc.names.lookup x=some .free
def Loc(sc:Scope)(x:Str):Prop:=sc.names.lookup x=some .local\/sc.names.lookup x=some .cell
def aKo(env:Env)(h:Heap)(m:Str->Option Value)(x:Str)(u:Value):Prop:=
 (env.kindOf x=some .local/\m x=some u)\/((env.kindOf x=some .cell\/env.kindOf x=some .free)/\∃c,env.cells.lookup x=some c/\h.IsCell c (some u))
structure Cx.Ok (X:Cx):Prop where
 mod:Mod X.K X.mg X.base
 kind:X.env.scope.kind=.function
 glob:X.env.globals=mainGlobals
 blt:X.env.builtins=builtinsNs
 above:X.s₀.heap.objs.size<=X.env.locals
 inj:∀x y c,X.env.cells.lookup x=some c->X.env.cells.lookup y=some c->x=y
 has:∀x,(X.env.kindOf x=some .cell\/X.env.kindOf x=some .free)->∃c,X.env.cells.lookup x=some c
 cab:∀x c,X.fn x=true->X.env.cells.lookup x=some c->X.s₀.heap.objs.size<=c
 hd:X.calm=true->X.A.handled=none
 frames:X.A.frames=some X.stack
 stk:X.stack=X.outer\/(X.stack=X.env::X.outer/\X.env.frame=some X.env.locals)
 exf:∀b∈X.ex,b≠X.env.locals/\∀x c,X.env.cells.lookup x=some c->c≠b
 bs:∀b o,X.base.get? b=some o->X.s₀.heap.get? b=some o/\X.H₀ b=none
 bsz:X.base.objs.size<=X.s₀.heap.objs.size
 noex:∀b o,X.base.get? b=some o->b∉X.ex
 exfs:∀b∈X.ex,b∉X.fs
 funs:X.s₀.heap.FunFrames X.base X.outer
 frf:∀b∈X.fs,X.H₀ b=none
structure Inv (X:Cx) (pins:List (Addr×Obj)) (σ:List (Option V)) (H:Hp) (s:Shared):Prop where
 ok:X.Ok
 os:s.os=X.s₀.os
 bare:AllBare s.gens
 base:Un X.fs X.ex X.H₀ H X.s₀.heap s.heap
 loc:∃m,s.heap.Ns X.env.locals m/\∀(i:Nat) (x:Str) (v:V),X.N[i]? = some x->σ[i]? = some (some v)->Vis X.env.scope x->∃u,bP v u/\aKo X.env s.heap m x u
 cell:∀x c,X.env.cells.lookup x=some c->∃v,s.heap.IsCell c v
 free:H X.env.locals=none
 freeC:∀x c,X.env.cells.lookup x=some c->H c=none
 pin:∀p∈X.pn++pins,s.heap.get? p.1=some p.2/\H p.1=none/\p.1≠X.env.locals/\p.1∉X.fs/\∀v,p.2.data≠.cell v
 hok:HOk X.prog X.w H s.heap
 len:σ.length=X.N.length
section
variable {X:Cx} {pins:List (Addr×Obj)} {σ:List (Option V)} {H H':Hp} {s:Shared} {h':Heap}
theorem Cx.Ok.nofr(ok:X.Ok){b:Addr}{o:Obj}(e:X.base.get? b=some o):b∉X.fs:=λhb=>by
 have:=(ok.funs.mem hb).1
 rw[e] at this;cases this
theorem Inv.bs(I:Inv X pins σ H s):∀b o,X.base.get? b=some o->s.heap.get? b=some o/\H b=none:=λb o e=>
 ⟨I.base.keep b o (I.ok.bs b o e).1 (I.ok.bs b o e).2 (I.ok.nofr e) (I.ok.noex b o e),I.base.free b o (I.ok.bs b o e).1 (I.ok.bs b o e).2 (I.ok.noex b o e)⟩
theorem Inv.bk(I:Inv X pins σ H s):∀b o,X.base.get? b=some o->s.heap.get? b=some o:=λb o e=>(I.bs b o e).1
theorem Inv.mod(I:Inv X pins σ H s):Mod X.K X.mg X.base:=I.ok.mod
theorem Inv.kIn(I:Inv X pins σ H s):X.K.In s.heap:=I.ok.mod.kin.keeps I.bk
theorem Inv.lt(I:Inv X pins σ H s):X.env.locals<s.heap.objs.size:=let ⟨_,hn,_⟩:=I.loc;hn.lt
theorem Inv.sz(I:Inv X pins σ H s):X.s₀.heap.objs.size<=s.heap.objs.size:=Nat.le_trans I.ok.above (Nat.le_of_lt I.lt)
theorem Inv.nofs(I:Inv X pins σ H s){a:Addr}(h:s.heap.objs.size<=a):a∉X.fs:=λhb=>by
 obtain⟨_,o,ho,_⟩:=I.ok.funs.mem hb
 exact absurd (Nat.lt_of_lt_of_le (Heap.lt_size ho) (Nat.le_trans I.sz h)) (Nat.lt_irrefl _)
theorem Inv.cne(I:Inv X pins σ H s):∀x c,X.env.cells.lookup x=some c->c≠X.env.locals:=λx c e z=>by
 obtain⟨v,o,ho,hd⟩:=I.cell x c e
 obtain⟨m,⟨o',es,ep,ho',hd',_⟩,_⟩:=I.loc
 rw[z,ho'] at ho;cases ho;rw[hd'] at hd;cases hd
theorem Inv.funs(I:Inv X pins σ H s):s.heap.FunFrames X.base X.outer:=by
 have all:∀(l:List Env),(∀b∈frs l,b∈X.fs)->X.s₀.heap.FunFrames X.base l->s.heap.FunFrames X.base l:=by
  intro l
  induction l with
  | nil=>intro _ _;trivial
  | cons env r ih=>
   intro hs hl
   obtain⟨hk,⟨L,o,hf,hn,ho,hd⟩,hr⟩:=hl
   have hL:L∈X.fs:=hs L (by unfold frs;rw[List.filterMap_cons,hf];exact List.mem_cons_self)
   obtain⟨sl,e⟩:=I.base.slot L o ho (I.ok.frf L hL) hL λz=>I.ok.exfs L z hL
   exact⟨hk,⟨L,_,hf,hn,e,hd⟩,ih (λb hb=>hs b (by unfold frs;rw[List.filterMap_cons,hf];exact List.mem_cons_of_mem _ hb)) hr⟩
 exact all X.outer (λ_ hb=>hb) I.ok.funs
theorem Inv.stack(I:Inv X pins σ H s):s.heap.FunFrames X.base X.stack:=by
 rcases I.ok.stk with e|⟨e,hf⟩
 . rw[e];exact I.funs
 . rw[e]
   obtain⟨m,hn,_⟩:=I.loc
   refine .cons (by rw[I.ok.kind];decide) hf hn ?_ I.funs
   exact Heap.get?_none_of_le (Nat.le_trans I.ok.bsz I.ok.above)
theorem Inv.stkSub(I:Inv X pins σ H s):∀b∈frs X.stack,b∈X.env.locals::X.fs:=λb hb=>by
 rcases I.ok.stk with e|⟨e,hf⟩
 . rw[e] at hb;exact List.mem_cons_of_mem _ hb
 . rw[e] at hb
   unfold frs at hb
   rw[List.filterMap_cons,hf] at hb
   exact hb
theorem Inv.stkFree(I:Inv X pins σ H s):∀b∈frs X.stack,H b=none:=λb hb=>by
 rcases List.mem_cons.mp (I.stkSub b hb) with e|hb
 . rw[e];exact I.free
 . obtain⟨_,o,ho,_⟩:=I.ok.funs.mem hb
   exact I.base.free b o ho (I.ok.frf b hb) λz=>I.ok.exfs b z hb
theorem Inv.step{g':Array GenState}{t':Nat}{d':Drawn}{ch:List Addr}(I:Inv X pins σ H s)
 (hch:∀b∈ch,(b∈X.ex\/X.s₀.heap.objs.size<=b)/\b≠X.env.locals/\(∀x c,X.env.cells.lookup x=some c->c≠b)/\∀p∈X.pn++pins,p.1≠b)
 (keep:∀b o,b≠X.env.locals->b∉X.fs->b∉ch->s.heap.get? b=some o->H b=none->h'.get? b=some o)
 (slot:∀b o,b≠X.env.locals->b∈X.fs->b∉ch->s.heap.get? b=some o->H b=none->∃sl,h'.get? b=some { o with slots:=sl }) (free:∀b o,b∉ch->s.heap.get? b=some o->H b=none->H' b=none)
 (there:∀b o,b∉ch->s.heap.get? b=some o->∃o',h'.get? b=some o')
 (tups:∀b xs,H b=some (.tup xs)->H' b=some (.tup xs)) (frzs:∀b o u,H b=some (.frz o u)->H' b=some (.frz o u)) (tbls:∀b ps,H b=some (.tbl ps)->∃more,H' b=some (.tbl (ps++more)))
 (ns:∀m,s.heap.Ns X.env.locals m->h'.Ns X.env.locals m) (hok:HOk X.prog X.w H' h') (hg:AllBare g') :
 Inv X pins σ H' { s with heap:=h',gens:=g',drawn:=d',toks:=t' }:=by
 have neL:∀b o,X.s₀.heap.get? b=some o->b≠X.env.locals:=λb o e=>Nat.ne_of_lt (Nat.lt_of_lt_of_le (Heap.lt_size e) I.ok.above)
 have neC:∀b o,X.s₀.heap.get? b=some o->b∉X.ex->b∉ch:=λb o e hx hb=>by
  rcases(hch b hb).1 with z|z
  . exact hx z
  . exact absurd (Nat.lt_of_lt_of_le (Heap.lt_size e) z) (Nat.lt_irrefl _)
 have cellK:∀x c,X.env.cells.lookup x=some c->∀v,s.heap.IsCell c v->h'.IsCell c v:=λx c e v ⟨o,ho,hd⟩=>by
  have nch:c∉ch:=λz=>(hch c z).2.2.1 x c e rfl
  by_cases hc:c∈X.fs
  . obtain⟨sl,q⟩:=slot c o (I.cne x c e) hc nch ho (I.freeC x c e)
    exact⟨_,q,hd⟩
  . exact⟨o,keep c o (I.cne x c e) hc nch ho (I.freeC x c e),hd⟩
 refine⟨I.ok,I.os,hg,⟨λb o e n hb hx=>?_,λb o e n hb hx=>?_,λb o e n hx=>?_,λb o e hx=>?_,λb xs e=>tups b xs (I.base.tups b xs e),λb o xs e=>frzs b o xs (I.base.frzs b o xs e),λb ps e=>?_⟩,?_,λx c e=>?_,?_,λx c e=>?_,λp hp=>?_,hok,I.len⟩
 . exact keep b o (neL b o e) hb (neC b o e hx) (I.base.keep b o e n hb hx) (I.base.free b o e n hx)
 . obtain⟨sl,e1⟩:=I.base.slot b o e n hb hx
   obtain⟨sl',e2⟩:=slot b _ (neL b o e) hb (neC b o e hx) e1 (I.base.free b o e n hx)
   exact⟨sl',e2⟩
 . obtain⟨o',e1⟩:=I.base.there b o e hx
   exact free b o' (neC b o e hx) e1 (I.base.free b o e n hx)
 . obtain⟨o',e1⟩:=I.base.there b o e hx
   exact there b o' (neC b o e hx) e1
 . obtain⟨m1,e1⟩:=I.base.tbls b ps e
   obtain⟨m2,e2⟩:=tbls b _ e1
   exact⟨m1++m2,by rw[e2,Array.append_assoc]⟩
 . obtain⟨m,hn,hl⟩:=I.loc
   refine⟨m,ns m hn,λi x v e1 e2 e3=>?_⟩
   obtain⟨u,r,l⟩:=hl i x v e1 e2 e3
   refine⟨u,r,?_⟩
   rcases l with l|⟨k,c,e,z⟩
   . exact .inl l
   . exact .inr ⟨k,c,e,cellK x c e _ z⟩
 . obtain⟨v,z⟩:=I.cell x c e
   exact⟨v,cellK x c e v z⟩
 . obtain⟨m,⟨o,_,_,ho,_⟩,_⟩:=I.loc
   exact free _ o (λz=>(hch _ z).2.1 rfl) ho I.free
 . obtain⟨v,o,ho,hd⟩:=I.cell x c e
   exact free c o (λz=>(hch c z).2.2.1 x c e rfl) ho (I.freeC x c e)
 . obtain⟨e,n,ne,nf,d⟩:=I.pin p hp
   have nch:p.1∉ch:=λz=>(hch p.1 z).2.2.2 p hp rfl
   exact⟨keep p.1 p.2 ne nf nch e n,free p.1 p.2 nch e n,ne,nf,d⟩
theorem Inv.un{t':Nat}(I:Inv X pins σ H s)(u:Un X.fs [] H H' s.heap h')(hok:HOk X.prog X.w H' h'):Inv X pins σ H' { s with heap:=h',toks:=t' }:=by
 obtain⟨m,⟨o,es,ep,ho,r⟩,_⟩:=id I.loc
 obtain⟨sl,hL⟩:=u.any ho I.free (by simp)
 exact I.step (g':=s.gens) (d':=s.drawn) (ch:=[]) (λ_ z=>nomatch z) (λb o _ hb _ e n=>u.keep b o e n hb (by simp)) (λb o _ hb _ e n=>u.slot b o e n hb (by simp)) (λb o _ e n=>u.free b o e n (by simp)) (λb o _ e=>u.there b o e (by simp)) u.tups u.frzs u.tbls (λm' hm=>by
  obtain⟨o',es',ep',ho',r'⟩:=hm
  rw[ho] at ho';cases ho'
  exact⟨_,es',ep',hL,r'⟩) hok I.bare
theorem Inv.call{g':Array GenState}{t':Nat}{d':Drawn}{ch:List Addr}(I:Inv X pins σ H s)(u:Un (frs X.stack) ch H H' s.heap h')(hok:HOk X.prog X.w H' h')(hg:AllBare g')
 (hch:∀b∈ch,(b∈X.ex\/X.s₀.heap.objs.size<=b)/\b≠X.env.locals/\(∀x c,X.env.cells.lookup x=some c->c≠b)/\∀p∈X.pn++pins,p.1≠b) :
 Inv X pins σ H' { s with heap:=h',gens:=g',drawn:=d',toks:=t' }:=by
 obtain⟨m,⟨o,es,ep,ho,r⟩,_⟩:=id I.loc
 obtain⟨sl,hL⟩:=u.any ho I.free λz=>(hch _ z).2.1 rfl
 exact I.step (ch:=ch) hch (λb o hL hb hc e n=>u.keep b o e n (λz=>(List.mem_cons.mp (I.stkSub b z)).elim hL hb) hc) (λb o _ _ hc e n=>u.any e n hc) (λb o hc e n=>u.free b o e n hc) (λb o hc e=>u.there b o e hc) u.tups u.frzs u.tbls (λm' hm=>by
  obtain⟨o',es',ep',ho',r'⟩:=hm
  rw[ho] at ho';cases ho'
  exact⟨_,es',ep',hL,r'⟩) hok hg
theorem Inv.turned{t':Nat}{it:Addr}(I:Inv X pins σ H s)(k:∀b o,b≠it->s.heap.get? b=some o->h'.get? b=some o)(hn:H it=none)(hL:it≠X.env.locals)
 (h1:it∈X.ex\/X.s₀.heap.objs.size<=it) (h2:∀x c,X.env.cells.lookup x=some c->c≠it) (h3:∀p∈X.pn++pins,p.1≠it):Inv X pins σ H { s with heap:=h',toks:=t' }:=by
 have nit:∀b u,H b=some u->b≠it:=λb u e z=>by rw[z,hn] at e;cases e
 refine I.step (g':=s.gens) (d':=s.drawn) (ch:=[it]) (λb hb=>?_) (λb o _ _ hc e _=>k b o (λz=>hc (by simp[z])) e) (λb o _ _ hc e _=>⟨o.slots,k b o (λz=>hc (by simp[z])) e⟩) (λ_ _ _ _ n=>n)
  (λb o hc e=>⟨o,k b o (λz=>hc (by simp[z])) e⟩) (λ_ _ e=>e) (λ_ _ _ e=>e) (λb ps e=>⟨#[],by rw[e];simp⟩) (λm hm=>?_) (λb u e=>?_) I.bare
 . have e:b=it:=by simpa using hb
   subst e
   exact⟨h1,hL,h2,h3⟩
 . obtain⟨o,es,ep,ho,r⟩:=hm
   exact⟨o,es,ep,k _ o (Ne.symm hL) ho,r⟩
 . refine(I.hok b u e).stay (λc v hc q=>k c v ?_ q) (λ_ q=>q) λ_ _ q=>q
   rcases hc with z|z
   . rw[z];exact nit b u e
   . exact nit c _ z
theorem Inv.tok(I:Inv X pins σ H s)(t:Nat):Inv X pins σ H { s with toks:=t }:=I.un (h':=s.heap) (t':=t) Un.refl I.hok
theorem Inv.kept{t':Nat}(I:Inv X pins σ H s)(k:∀b u,s.heap.get? b=some u->h'.get? b=some u):Inv X pins σ H { s with heap:=h',toks:=t' }:=I.un (Un.kept k) (I.hok.kept k)
theorem Inv.laid{a:Addr}{o:HO}{t':Nat}(I:Inv X pins σ H s)(k:∀b u,s.heap.get? b=some u->h'.get? b=some u)(hp:s.heap.objs.size<=a)(new:eA X.prog X.w (upd H a o) h' a o) :
 Inv X pins σ (upd H a o) { s with heap:=h',toks:=t' }:=I.un (Un.laid k hp (I.hok.fresh hp)) (I.hok.laid k hp new)
theorem Inv.write{x e:Addr}{o:HO}{t':Nat}(I:Inv X pins σ H s)(mu:Mut (H x))(he:e=x\/H e=some (.own x))(k:∀b u,b≠e->s.heap.get? b=some u->h'.get? b=some u)(heo:∃u,h'.get? e=some u)
 (new:eA X.prog X.w (upd H x o) h' x o):Inv X pins σ (upd H x o) { s with heap:=h',toks:=t' }:=I.un (Un.write mu he k heo) (I.hok.write mu he k heo new)
theorem Inv.pins_of{pins':List (Addr×Obj)}(I:Inv X pins σ H s)(h:∀p∈pins',s.heap.get? p.1=some p.2/\H p.1=none/\p.1≠X.env.locals/\p.1∉X.fs/\∀v,p.2.data≠.cell v):Inv X pins' σ H s:=
 ⟨I.ok,I.os,I.bare,I.base,I.loc,I.cell,I.free,I.freeC,λp hp=>(List.mem_append.mp hp).elim (λz=>I.pin p (List.mem_append_left _ z)) (h p),I.hok,I.len⟩
theorem sU{N:List Str}(hN:N.Nodup){i j:Nat}{x:Str}(a:N[i]? = some x)(b:N[j]? = some x):i=j:=by
 obtain⟨h1,e1⟩:=List.getElem?_eq_some_iff.mp a
 obtain⟨h2,e2⟩:=List.getElem?_eq_some_iff.mp b
 exact(List.getElem_inj hN).mp (e1.trans e2.symm)
theorem pL{M:Model}{A:Around}{E:Value->Shared->Prop}{i:Nat}{x:Str}{v:V}{u:Value}{Q:Unit->Shared->Prop}(I:Inv X pins σ H s)(hN:X.N.Nodup)(hi:X.N[i]? = some x)(hx:Loc X.env.scope x)(r:bP v u)
 (h:∀s',Inv X pins (σ.set i (some v)) H s'->(∃a,Heap.SameBut a s.heap s'.heap/\(a=X.env.locals\/X.env.cells.lookup x=some a))->Q () s') (hf:X.fn x=true\/X.env.scope.names.lookup x=some .local:=by first|exact .inl rfl|exact .inr rfl|assumption):wpAny M A (storeName X.env x u) Q E s:=by
 obtain⟨m,hn,hl⟩:=id I.loc
 have hcls:(X.env.scope.kind==.class||(X.env.scope.kind==.module&&X.env.locals != X.env.globals))=false:=by rw[I.ok.kind];rfl
 have hiσ:i<σ.length:=by rw[I.len];exact(List.getElem?_eq_some_iff.mp hi).1
 have cne:=I.cne
 have tracked:∀{a:Addr} {h':Heap},(∃o,s.heap.get? a=some o/\H a=none)->Heap.SameBut a s.heap h'->HOk X.prog X.w H h':=λ{a h'} ha hs b ob e=>by
  obtain⟨_,_,hfree⟩:=ha
  refine(I.hok b ob e).stay (λc w' hc q=>(hs.2 c ?_).trans q) (λ_ q=>q) λ_ _ q=>q
  rintro rfl
  rcases hc with rfl|hc
  . rw[hfree] at e;cases e
  . rw[hfree] at hc;cases hc
 rcases hx with hk|hk
 . refine wpAny_storeName_local hk hn (λh' hn' hs=>?_) hcls
   obtain⟨oL,_,_,hoL,_⟩:=id hn
   refine h _ ⟨I.ok,I.os,I.bare,⟨λb o e n hb hx=>?_,λb o e n hb hx=>?_,I.base.free,λb o e hx=>?_,I.base.tups,I.base.frzs,I.base.tbls⟩,⟨_,hn',λj y v' e1 e2 e3=>?_⟩,λy c e=>?_,I.free,I.freeC,λp hp=>?_,tracked ⟨oL,hoL,I.free⟩ hs,by simpa using I.len⟩ ⟨_,hs,.inl rfl⟩
   . exact(hs.2 b (Nat.ne_of_lt (Nat.lt_of_lt_of_le (Heap.lt_size e) I.ok.above))).trans (I.base.keep b o e n hb hx)
   . obtain⟨sl,e1⟩:=I.base.slot b o e n hb hx
     exact⟨sl,(hs.2 b (Nat.ne_of_lt (Nat.lt_of_lt_of_le (Heap.lt_size e) I.ok.above))).trans e1⟩
   . obtain⟨o',e1⟩:=I.base.there b o e hx
     exact⟨o',(hs.2 b (Nat.ne_of_lt (Nat.lt_of_lt_of_le (Heap.lt_size e) I.ok.above))).trans e1⟩
   . by_cases hj:j=i
     . subst hj
       rw[hi] at e1;cases e1
       rw[List.getElem?_set_self hiσ] at e2
       cases e2
       exact⟨u,r,.inl ⟨hk,by simp⟩⟩
     . rw[List.getElem?_set_ne (Ne.symm hj)] at e2
       obtain⟨u',r',q⟩:=hl j y v' e1 e2 e3
       refine⟨u',r',?_⟩
       rcases q with⟨k,e⟩|⟨k,c,e,z⟩
       . refine .inl ⟨k,?_⟩
         have:y≠x:=λe=>hj (sU hN e1 (e▸hi))
         simp[this,e]
       . exact .inr ⟨k,c,e,z.sameBut hs (cne y c e)⟩
   . obtain⟨w',z⟩:=I.cell y c e
     exact⟨w',z.sameBut hs (cne y c e)⟩
   . obtain⟨e,n,ne,nf,d⟩:=I.pin p hp
     exact⟨(hs.2 p.1 ne).trans e,n,ne,nf,d⟩
 . have hfn:X.fn x=true:=by
    rcases hf with z|z
    . exact z
    . rw[z] at hk;cases hk
   obtain⟨c,hc⟩:=I.ok.has x (.inl hk)
   obtain⟨w',z⟩:=I.cell x c hc
   refine wpAny_storeName_cell I.ok.kind hk hc z (λh' hc' hs=>?_)
   obtain⟨oc,hoc,hocd⟩:=id z
   refine h { s with heap:=h' } ⟨I.ok,I.os,I.bare,⟨λb o e n hb hx=>?_,λb o e n hb hx=>?_,I.base.free,λb o e hx=>?_,I.base.tups,I.base.frzs,I.base.tbls⟩,⟨m,hn.sameBut hs (Ne.symm (cne x c hc)),λj y v' e1 e2 e3=>?_⟩,λy c' e=>?_,I.free,I.freeC,λp hp=>?_,tracked ⟨oc,hoc,I.freeC x c hc⟩ hs,by simpa using I.len⟩ ⟨c,hs,.inr hc⟩
   . exact(hs.2 b (Nat.ne_of_lt (Nat.lt_of_lt_of_le (Heap.lt_size e) (I.ok.cab x c hfn hc)))).trans (I.base.keep b o e n hb hx)
   . obtain⟨sl,e1⟩:=I.base.slot b o e n hb hx
     exact⟨sl,(hs.2 b (Nat.ne_of_lt (Nat.lt_of_lt_of_le (Heap.lt_size e) (I.ok.cab x c hfn hc)))).trans e1⟩
   . obtain⟨o',e1⟩:=I.base.there b o e hx
     exact⟨o',(hs.2 b (Nat.ne_of_lt (Nat.lt_of_lt_of_le (Heap.lt_size e) (I.ok.cab x c hfn hc)))).trans e1⟩
   . by_cases hj:j=i
     . subst hj
       rw[hi] at e1;cases e1
       rw[List.getElem?_set_self hiσ] at e2
       cases e2
       exact⟨u,r,.inr ⟨.inl hk,c,hc,hc'⟩⟩
     . rw[List.getElem?_set_ne (Ne.symm hj)] at e2
       obtain⟨u',r',q⟩:=hl j y v' e1 e2 e3
       refine⟨u',r',?_⟩
       rcases q with q|⟨k,c',e,z'⟩
       . exact .inl q
       . refine .inr ⟨k,c',e,z'.sameBut hs ?_⟩
         rintro rfl
         exact hj (sU hN e1 (I.ok.inj _ _ _ e hc▸hi))
   . by_cases hcc:c'=c
     . subst hcc;exact⟨_,hc'⟩
     . obtain⟨w2,z2⟩:=I.cell y c' e
       exact⟨w2,z2.sameBut hs hcc⟩
   . obtain⟨e,n,ne,nf,d⟩:=I.pin p hp
     refine⟨(hs.2 p.1 ?_).trans e,n,ne,nf,d⟩
     intro q
     rw[q,hoc] at e
     have q':oc=p.2:=Option.some.inj e
     exact d w' (by rw[<-q'];exact hocd)
theorem sV{M:Model}{A:Around}{E:Value->Shared->Prop}{i:Nat}{x:Str}{v:V}{u:Value}{Q:Unit->Shared->Prop}(I:Inv X pins σ H s)(hN:X.N.Nodup)(hi:X.N[i]? = some x)(hx:Loc X.env.scope x)(r:bP v u)
 (h:∀s',Inv X pins (σ.set i (some v)) H s'->Q () s') (hf:X.fn x=true\/X.env.scope.names.lookup x=some .local:=by first|exact .inl rfl|exact .inr rfl|assumption):wpAny M A (storeName X.env x u) Q E s:=
 pL I hN hi hx r (λs' I' _=>h s' I') hf
theorem Inv.call'{s':Shared}{ch:List Addr}(I:Inv X pins σ H s)(ho:s'.os=s.os)(u:Un (frs X.stack) ch H H' s.heap s'.heap)(hok:HOk X.prog X.w H' s'.heap)(hg:AllBare s'.gens)
 (hch:∀b∈ch,(b∈X.ex\/X.s₀.heap.objs.size<=b)/\b≠X.env.locals/\(∀x c,X.env.cells.lookup x=some c->c≠b)/\∀p∈X.pn++pins,p.1≠b):Inv X pins σ H' s':=by
 obtain⟨h',g',d',t',o'⟩:=s'
 have e:o'=s.os:=ho
 subst e
 exact I.call (g':=g') (t':=t') (d':=d') u hok hg hch
end
abbrev XK:=Value->Option Addr->Hp->Prop
abbrev St:=List (Option V)
abbrev VK:=V->Hp->Prop
abbrev TE:=St->Hp->VK->Prop
abbrev TT:=St->Hp->(Bool->Hp->Prop)->Prop
abbrev TA:=St->Hp->(List V->Hp->Prop)->Prop
structure Ends where
 nx:St->Hp->Prop
 rt:VK
 bk:St->Hp->Prop:=λ_ _=>False
 ct:St->Hp->Prop:=λ_ _=>False
abbrev TS:=Ends->St->Hp->Prop
def EP(X:Cx)(pins:List (Addr×Obj))(σ:St)(Q:VK)(u:Value)(s':Shared):Prop:=∃v H',Inv X pins σ H' s'/\bP v u/\Q v H'
def TP(X:Cx)(pins:List (Addr×Obj))(σ:St)(Q:Bool->Hp->Prop)(b:Bool)(s':Shared):Prop:=∃H',Inv X pins σ H' s'/\Q b H'
def AP(X:Cx)(pins:List (Addr×Obj))(σ:St)(Q:List V->Hp->Prop)(us:List Value)(s':Shared):Prop:=∃vs H',Inv X pins σ H' s'/\aU vs us/\Q vs H'
def SP(X:Cx)(pins:List (Addr×Obj))(D:Ends)(f:Flow)(s':Shared):Prop:=
 match f with
 | .next=>∃σ' H',Inv X pins σ' H' s'/\D.nx σ' H'
 | .brk=>∃σ' H',Inv X pins σ' H' s'/\D.bk σ' H'
 | .cont=>∃σ' H',Inv X pins σ' H' s'/\D.ct σ' H'
 | .ret u=>∃v σ' H',Inv X pins σ' H' s'/\bP v u/\D.rt v H'
def PE(X:Cx)(e:Expr)(t:TE):Prop:=
 ∀(pins:List (Addr×Obj)) (s:Shared) (σ:St) (H:Hp) (Q:VK),Inv X pins σ H s->t σ H Q->wpAny (model X.prog X.w) X.A (eval e X.env) (EP X pins σ Q) X.xe s
def PT(X:Cx)(e:Expr)(t:TT):Prop:=
 ∀(pins:List (Addr×Obj)) (s:Shared) (σ:St) (H:Hp) (Q:Bool->Hp->Prop),Inv X pins σ H s->t σ H Q->wpAny (model X.prog X.w) X.A (isTrue e X.env (eval e X.env)) (TP X pins σ Q) X.xe s
def PW(X:Cx)(e:Expr)(t:TT):Prop:=
 ∀(whole:Sem Value) (pins:List (Addr×Obj)) (s:Shared) (σ:St) (H:Hp) (Q:Bool->Hp->Prop),Inv X pins σ H s->t σ H Q->wpAny (model X.prog X.w) X.A (isTrue e X.env whole) (TP X pins σ Q) X.xe s
theorem PW.pt{X:Cx}{e:Expr}{t:TT}(h:PW X e t):PT X e t:=h _
def PA(X:Cx)(es:List Expr)(t:TA):Prop:=
 ∀(pos:Pos) (pins:List (Addr×Obj)) (s:Shared) (σ:St) (H:Hp) (Q:List V->Hp->Prop),Inv X pins σ H s->t σ H Q->wpAny (model X.prog X.w) X.A (spliced (backTo pos (starEach es X.env))) (AP X pins σ Q) X.xe s
def PS(X:Cx)(st:Stmt)(t:TS):Prop:=
 ∀(pins:List (Addr×Obj)) (s:Shared) (σ:St) (H:Hp) (D:Ends),Inv X pins σ H s->t D σ H->wpAny (model X.prog X.w) X.A (exec st X.env) (SP X pins D) X.xe s
def PSs(X:Cx)(st:List Stmt)(t:TS):Prop:=
 ∀(pins:List (Addr×Obj)) (s:Shared) (σ:St) (H:Hp) (D:Ends),Inv X pins σ H s->t D σ H->wpAny (model X.prog X.w) X.A (execs st X.env) (SP X pins D) X.xe s
theorem thn{α:Type}{t:Sem α}{Q Q':α->Shared->Prop}{M:Model}{A:Around}{E:Value->Shared->Prop}{s:Shared}(h:wpAny M A t Q E s)(hQ:∀a s,Q a s->Q' a s):wpAny M A t Q' E s:=wpAny_mono h hQ λ_ _ x=>x
end L2
namespace L2
open PySem PySem.Spec PyProof.Rows
section
variable {X:Cx}
def aCO(i:Nat):TE:=λσ H Q=>∃v,σ[i]? = some (some v)/\Q v H
def tC(v:V):TE:=λ_ H Q=>Q v H
theorem lH{i:Nat}{x:Str}{pos:Pos}(hN:X.N[i]? = some x)(hv:Vis X.env.scope x)(hd:(x==("__debug__" : Str))=false:=by decide)(hcd:(x==("__classdict__" : Str))=false:=by decide):PE X (.Name x pos) (aCO i):=by
 intro pins s σ H Q I h
 obtain⟨v,e,h⟩:=h
 obtain⟨m,hn,hl⟩:=I.loc
 obtain⟨u,r,l⟩:=hl i x v hN e hv
 have fin:EP X pins σ Q u s:=⟨v,H,I,r,h⟩
 rcases l with⟨hk,hm⟩|⟨hk,c,hc,hcell⟩
 . exact wpAny_Name (wpAny_loadName_local I.ok.kind hk hn hm fin) hd
 . rcases hk with hk|hk
   . exact wpAny_Name (wpAny_loadName_cell I.ok.kind hk hc hcell fin) hd
   . exact wpAny_Name (wpAny_loadName_free I.ok.kind hk hc hcell fin hcd) hd
theorem aAM{i j pos}:PE X (.Constant (.int i) j pos) (tC (.int i)):=λ_ _ _ H _ I h=>wpAny_Constant_int ⟨.int i,H,I.tok _,⟨_,rfl⟩,h⟩
theorem aHy{b j pos}:PE X (.Constant (.bool b) j pos) (tC (.bl b)):=λ_ _ _ H _ I h=>Constant_bool ⟨.bl b,H,I,rfl,h⟩
theorem aEY{j pos}:PE X (.Constant .none j pos) (tC .non):=λ_ _ _ H _ I h=>Constant_none ⟨.non,H,I,rfl,h⟩
theorem aEZ{x j pos}:PE X (.Constant (.str x) j pos) (tC (.str x)):=λ_ _ _ H _ I h=>Calls.Constant_str ⟨.str x,H,I.tok _,⟨_,rfl⟩,h⟩
def Gl(X:Cx)(x:Str):Prop:=X.env.kindOf x=some .globalImplicit
theorem qU{E:Value->Shared->Prop}{pins:List (Addr×Obj)}{s:Shared}{σ:St}{H:Hp}{x:Str}{u:Value}{pos:Pos}{Q:Value->Shared->Prop}(I:Inv X pins σ H s)(hg:Gl X x)(hm:X.mg x=some u)(h:Q u s)
 (hd:(x==("__debug__" : Str))=false:=by decide):wpAny (model X.prog X.w) X.A (eval (.Name x pos) X.env) Q E s:=
 Calls.Name_function_global I.ok.kind hg (Calls.loadGlobal_global (by rw[I.ok.glob];exact I.mod.glob.keeps I.bk) hm h) hd
theorem hX{E:Value->Shared->Prop}{pins:List (Addr×Obj)}{s:Shared}{σ:St}{H:Hp}{x:Str}{u:Value}{pos:Pos}{Q:Value->Shared->Prop}(I:Inv X pins σ H s)(hg:Gl X x)(hm:X.mg x=none)(hv:bootBuiltins x=some u)(h:Q u s)
 (hn:x ≠ "__name__" := by decide) (hd:(x==("__debug__" : Str))=false:=by decide):wpAny (model X.prog X.w) X.A (eval (.Name x pos) X.env) Q E s:=by
 obtain⟨mb,h1,h2⟩:=I.mod.blt
 exact Calls.Name_function_global I.ok.kind hg (Calls.loadGlobal_builtin (by rw[I.ok.glob];exact I.mod.glob.keeps I.bk) hm (by rw[I.ok.blt];exact h1.keeps I.bk) ((h2 x hn).trans hv) h) hd
theorem xR{x:Str}{v:V}{u:Value}{pos:Pos}(hg:Gl X x)(hm:X.mg x=some u)(r:bP v u)(hd:(x==("__debug__" : Str))=false:=by decide):PE X (.Name x pos) (tC v):=
 λ_ _ _ H _ I h=>qU I hg hm ⟨v,H,I,r,h⟩ hd
variable {a b:Expr} {ta tb:TE} {pos:Pos}
variable {tA tB':TT} {rest:List Expr}
def aKp(t u:TT):TT:=λσ H Q=>t σ H λc H1=>if c=true then u σ H1 Q else Q false H1
def tOr(t u:TT):TT:=λσ H Q=>t σ H λc H1=>if c=true then Q true H1 else u σ H1 Q
def aKq(t:TT):TT:=λσ H Q=>t σ H λc H1=>Q (!c) H1
theorem aCP(ha:PT X a tA):PW X (.BoolOp .And [a] pos) tA:=by
 intro wh pins s σ H Q I h
 refine isTrue_and (thn (ha pins s σ H Q I h) λc s1 e=>?_)
 cases c with
 | true=>exact isTrue_and_nil e
 | false=>exact e
theorem aFa(ha:PT X a tA):PW X (.BoolOp .Or [a] pos) tA:=by
 intro wh pins s σ H Q I h
 refine isTrue_or (thn (ha pins s σ H Q I h) λc s1 e=>?_)
 cases c with
 | false=>exact isTrue_or_nil e
 | true=>exact e
theorem aFb(ha:PT X a tA)(hb:PW X (.BoolOp .And (b::rest) pos) tB'):PW X (.BoolOp .And (a::b::rest) pos) (aKp tA tB'):=by
 intro wh pins s σ H Q I h
 refine isTrue_and (thn (ha pins s σ H _ I h) λc s1 ⟨H1,I1,q1⟩=>?_)
 cases c with
 | true=>exact hb wh pins s1 σ H1 Q I1 q1
 | false=>exact⟨H1,I1,q1⟩
theorem aHz(ha:PT X a tA)(hb:PW X (.BoolOp .Or (b::rest) pos) tB'):PW X (.BoolOp .Or (a::b::rest) pos) (tOr tA tB'):=by
 intro wh pins s σ H Q I h
 refine isTrue_or (thn (ha pins s σ H _ I h) λc s1 ⟨H1,I1,q1⟩=>?_)
 cases c with
 | true=>exact⟨H1,I1,q1⟩
 | false=>exact hb wh pins s1 σ H1 Q I1 q1
theorem aFc(ha:PT X a tA):PT X (.UnaryOp .Not a pos) (aKq tA):=by
 intro pins s σ H Q I h
 exact isTrue_not (ha pins s σ H (λc H1=>Q (!c) H1) I h)
def aHA(ta tb:TE):TE:=λσ H Q=>ta σ H λx H1=>∃c,x=.bl c/\if c=true then tb σ H1 Q else Q (.bl false) H1
def aKr(ta tb:TE):TE:=λσ H Q=>ta σ H λx H1=>∃c,x=.bl c/\if c=true then Q (.bl true) H1 else tb σ H1 Q
theorem aAN{op}{t:TE}(h:PE X a t):PE X (.BoolOp op [a] pos) t:=λpins s σ H Q I hw=>BoolOp_one (h pins s σ H Q I hw)
theorem aFd(ha:PE X a ta)(hb:PE X (.BoolOp .And (b::rest) pos) tb):PE X (.BoolOp .And (a::b::rest) pos) (aHA ta tb):=by
 intro pins s σ H Q I h
 refine BoolOp_and (thn (ha pins s σ H _ I h) λv s1 ⟨x,H1,I1,r1,q1⟩=>?_)
 obtain⟨c,rfl,q1⟩:=q1
 cases r1
 refine wpAny_truthy_bool ?_
 cases c with
 | true=>exact hb pins s1 σ H1 Q I1 q1
 | false=>exact⟨.bl false,H1,I1,rfl,q1⟩
theorem aHB(ha:PE X a ta)(hb:PE X (.BoolOp .Or (b::rest) pos) tb):PE X (.BoolOp .Or (a::b::rest) pos) (aKr ta tb):=by
 intro pins s σ H Q I h
 refine BoolOp_or (thn (ha pins s σ H _ I h) λv s1 ⟨x,H1,I1,r1,q1⟩=>?_)
 obtain⟨c,rfl,q1⟩:=q1
 cases r1
 refine wpAny_truthy_bool ?_
 cases c with
 | false=>exact hb pins s1 σ H1 Q I1 q1
 | true=>exact⟨.bl true,H1,I1,rfl,q1⟩
def tIf(t:TT)(ta tb:TE):TE:=λσ H Q=>t σ H λc H1=>if c=true then ta σ H1 Q else tb σ H1 Q
theorem aAO{c:Expr}(hc:PT X c tA)(ha:PE X a ta)(hb:PE X b tb):PE X (.IfExp c a b pos) (tIf tA ta tb):=by
 intro pins s σ H Q I h
 refine wpAny_IfExp (thn (hc pins s σ H _ I h) λd s1 ⟨H1,I1,q1⟩=>?_)
 cases d with
 | true=>exact ha pins s1 σ H1 Q I1 q1
 | false=>exact hb pins s1 σ H1 Q I1 q1
end
end L2
namespace L2
open PySem PySem.Spec PyProof.Rows
def SqL(K:PySem.W.Frag)(H:Hp)(a:Addr)(xs:List V):Prop:=
 Rd H a (.lst xs) \/
  ∃(o:Obj) (its:Array Value) (n:Nat),K.lookup a=some o/\o.cls=.type "list" /\ o.dict=none/\o.data=.seq its n/\its.size<=sizeLine/\aU xs its.toList
def SqT(K:PySem.W.Frag)(H:Hp)(a:Addr)(xs:List V):Prop:=
 Rd H a (.tup xs) \/
  ∃(o:Obj) (its:Array Value) (n:Nat),K.lookup a=some o/\o.cls=.type "tuple" /\ o.data=.seq its n/\its.size<=sizeLine/\aU xs its.toList
def aKs:Value->Option V
 | .none=>some .non
 | .bool b=>some (.bl b)
 | .int i _=>some (.int i)
 | .str x _=>some (.str x)
 | .bytes b _=>some (.byt b)
 | .float b _=>some (.flt b)
 | .ref a=>some (.ref a)
 | .type n=>some (.ty n)
 | _=>none
theorem bP.abs{x:V}{u:Value}(r:bP x u):aKs u=some x:=by
 cases x with
 | non=>cases r;rfl
 | bl _=>cases r;rfl
 | int _=>obtain⟨t,rfl⟩:=r;rfl
 | str _=>obtain⟨t,rfl⟩:=r;rfl
 | byt _=>obtain⟨t,rfl⟩:=r;rfl
 | flt _=>obtain⟨t,rfl⟩:=r;rfl
 | ref _=>cases r;rfl
 | ty _=>cases r;rfl
theorem bP.inj{x y:V}{u:Value}(r:bP x u)(q:bP y u):x=y:=Option.some.inj (r.abs.symm.trans q.abs)
theorem aU.inj:∀{xs ys:List V} {us:List Value},aU xs us->aU ys us->xs=ys
 | _,_,_,.nil,.nil=>rfl
 | _,_,_,.cons r t,.cons r' t'=>by rw[r.inj r',aU.inj t t']
section
variable {X:Cx} {pins:List (Addr×Obj)} {σ:St} {H:Hp} {s:Shared} {a:Addr} {xs ys:List V}
theorem SqL.of{K:PySem.W.Frag}(h:H a=some (.lst xs)):SqL K H a xs:=.inl (.inl h)
theorem SqT.of{K:PySem.W.Frag}(h:H a=some (.tup xs)):SqT K H a xs:=.inl (.inl h)
theorem Inv.list(I:Inv X pins σ H s)(h:SqL X.K H a xs):∃its:List Value,aU xs its/\PlainL s.heap a its.toArray/\xs.length<=sizeLine:=by
 rcases h with h|⟨o,its,n,hk,hc,hd,hs,hz,r⟩
 . obtain⟨z,its,n,r,e⟩:=h.ok I.hok
   exact⟨its,r,⟨_,n,e,rfl,rfl,rfl⟩,z⟩
 . refine⟨its.toList,r,⟨o,n,I.kIn a o hk,hc,hd,by simpa using hs⟩,?_⟩
   have e:=r.length
   simp only[Array.length_toList] at e
   omega
theorem Inv.tuple(I:Inv X pins σ H s)(h:SqT X.K H a xs):∃its:List Value,aU xs its/\IsTup s.heap a its.toArray/\xs.length<=sizeLine:=by
 rcases h with h|⟨o,its,n,hk,hc,hs,hz,r⟩
 . obtain⟨z,its,r,p⟩:=h.ok I.hok
   exact⟨its,r,p,z⟩
 . refine⟨its.toList,r,⟨o,I.kIn a o hk,hc,n,by simpa using hs⟩,?_⟩
   have e:=r.length
   simp only[Array.length_toList] at e
   omega
theorem Inv.list_inj(I:Inv X pins σ H s)(h:SqL X.K H a xs)(h':SqL X.K H a ys):xs=ys:=by
 obtain⟨its,r,⟨o,n,e,_,_,d⟩,_⟩:=I.list h
 obtain⟨its',r',⟨o',n',e',_,_,d'⟩,_⟩:=I.list h'
 rw[e] at e';cases e'
 rw[d] at d'
 injection d' with d1 _
 have:its=its':=by simpa using congrArg Array.toList d1
 subst this
 exact r.inj r'
theorem Inv.tuple_inj(I:Inv X pins σ H s)(h:SqT X.K H a xs)(h':SqT X.K H a ys):xs=ys:=by
 obtain⟨its,r,⟨o,e,_,n,d⟩,_⟩:=I.tuple h
 obtain⟨its',r',⟨o',e',_,n',d'⟩,_⟩:=I.tuple h'
 rw[e] at e';cases e'
 rw[d] at d'
 injection d' with d1 _
 have:its=its':=by simpa using congrArg Array.toList d1
 subst this
 exact r.inj r'
end
abbrev Cx.wish(X:Cx)(E:Value->Shared->Prop):Cx:={ X with xe:=E }
abbrev Cx.nox(X:Cx):Cx:=X.wish λ_ _=>False
theorem Cx.Ok.wish{X:Cx}(ok:X.Ok)(E:Value->Shared->Prop):(X.wish E).Ok:=
 ⟨ok.mod,ok.kind,ok.glob,ok.blt,ok.above,ok.inj,ok.has,ok.cab,ok.hd,ok.frames,ok.stk,ok.exf,ok.bs,ok.bsz,ok.noex,ok.exfs,ok.funs,ok.frf⟩
theorem Cx.Ok.unwish{X:Cx}{E:Value->Shared->Prop}(ok:(X.wish E).Ok):X.Ok:=
 ⟨ok.mod,ok.kind,ok.glob,ok.blt,ok.above,ok.inj,ok.has,ok.cab,ok.hd,ok.frames,ok.stk,ok.exf,ok.bs,ok.bsz,ok.noex,ok.exfs,ok.funs,ok.frf⟩
section
variable {X:Cx} {pins:List (Addr×Obj)} {σ:St} {H:Hp} {s:Shared} {E:Value->Shared->Prop}
theorem Inv.wish(I:Inv X pins σ H s)(E:Value->Shared->Prop):Inv (X.wish E) pins σ H s:=⟨I.ok.wish E,I.os,I.bare,I.base,I.loc,I.cell,I.free,I.freeC,I.pin,I.hok,I.len⟩
theorem Inv.unwish(I:Inv (X.wish E) pins σ H s):Inv X pins σ H s:=⟨I.ok.unwish,I.os,I.bare,I.base,I.loc,I.cell,I.free,I.freeC,I.pin,I.hok,I.len⟩
theorem SP.unwish{D:Ends}{f:Flow}{s':Shared}(h:SP (X.wish E) pins D f s'):SP X pins D f s':=by
 cases f with
 | next=>obtain⟨σ',H',I,q⟩:=h;exact⟨σ',H',I.unwish,q⟩
 | brk=>obtain⟨σ',H',I,q⟩:=h;exact⟨σ',H',I.unwish,q⟩
 | cont=>obtain⟨σ',H',I,q⟩:=h;exact⟨σ',H',I.unwish,q⟩
 | ret u=>obtain⟨v,σ',H',I,r,q⟩:=h;exact⟨v,σ',H',I.unwish,r,q⟩
theorem PSs.nox{st:List Stmt}{t:TS}(h:PSs X.nox st t):PSs X st t:=λpins s σ H D I hw=>
 wpAny_mono (h pins s σ H D (I.wish _) hw) (λ_ _ q=>q.unwish) λ_ _ z=>False.elim z
end
section
variable {X:Cx} {st:Stmt} {rest:List Stmt} {t u:TS} {e:Expr} {te:TE} {pos:Pos}
def aEq:TS:=λD σ H=>D.nx σ H
def aKt(t u:TS):TS:=λD σ H=>t { D with nx:=u D } σ H
theorem xS:PSs X [] aEq:=λ_ _ σ H _ I h=>wpAny_execs_nil ⟨σ,H,I,h⟩
theorem aAP(h1:PS X st t)(h2:PSs X rest u):PSs X (st::rest) (aKt t u):=by
 intro pins s σ H D I h
 refine wpAny_execs_cons (thn (h1 pins s σ H { D with nx:=u D } I h) λf s1 q=>?_)
 cases f with
 | next=>
  obtain⟨σ',H',I',q⟩:=q
  exact h2 pins s1 σ' H' D I' q
 | ret v=>exact q
 | brk=>exact q
 | cont=>exact q
theorem xT(h1:PS X st t):PSs X [st] t:=by
 intro pins s σ H D I h
 refine wpAny_execs_cons (thn (h1 pins s σ H D I h) λf s1 q=>?_)
 cases f with
 | next=>exact wpAny_execs_nil q
 | ret v=>exact q
 | brk=>exact q
 | cont=>exact q
def aFe:TS:=λD σ H=>D.bk σ H
def aHC:TS:=λD σ H=>D.ct σ H
theorem aCQ:PS X (.Pass pos) aEq:=λ_ _ σ H _ I h=>wpAny_Pass ⟨σ,H,I,h⟩
theorem aAQ:PS X (.Break pos) aFe:=λ_ _ σ H _ I h=>wpAny_Break ⟨σ,H,I,h⟩
theorem sW:PS X (.Continue pos) aHC:=λ_ _ σ H _ I h=>wpAny_Continue ⟨σ,H,I,h⟩
theorem Inv.quiet{pins:List (Addr×Obj)}{σ:St}{H:Hp}{s:Shared}(I:Inv X pins σ H s):interactive X.env=false:=by simp[interactive,I.ok.kind]
def aHD(te:TE):TS:=λD σ H=>te σ H λ_ H1=>D.nx σ H1
theorem iN(he:PE X e te)(hs:swapsWith e none pos.line X.env=pure false:=by rfl):PS X (.Expr e pos) (aHD te):=by
 intro pins s σ H D I h
 exact wpAny_Expr_any (thn (he pins s σ H _ I h) λv s1 ⟨x,H1,I1,r1,q1⟩=>⟨σ,H1,I1,q1⟩) I.quiet hs
def aKu(te:TE):TS:=λD σ H=>te σ H D.rt
theorem qV(he:PE X e te):PS X (.Return (some e) pos) (aKu te):=by
 intro pins s σ H D I h
 exact wpAny_Return_some (thn (he pins s σ H _ I h) λv s1 ⟨x,H1,I1,r1,q1⟩=>⟨x,σ,H1,I1,r1,q1⟩)
def aHE:TS:=λD _ H=>D.rt .non H
theorem aCR:PS X (.Return none pos) aHE:=λ_ _ σ H _ I h=>wpAny_Return_none ⟨.non,σ,H,I,rfl,h⟩
def aKv(c:TT)(t u:TS):TS:=λD σ H=>c σ H λb H1=>if b=true then t D σ H1 else u D σ H1
theorem aAR{c:Expr}{a b:List Stmt}{tc:TT}(hc:PT X c tc)(ha:PSs X a t)(hb:PSs X b u):PS X (.If c a b pos) (aKv tc t u):=by
 intro pins s σ H D I h
 refine wpAny_If (thn (hc pins s σ H _ I h) λd s1 ⟨H1,I1,q1⟩=>?_)
 cases d with
 | true=>exact ha pins s1 σ H1 D I1 q1
 | false=>exact hb pins s1 σ H1 D I1 q1
def aFf:TS:=λ_ _ _=>False
theorem aAS:PS X st aFf:=λ_ _ _ _ _ _ h=>h.elim
end
abbrev TG:=V->St->Hp->(St->Hp->Prop)->Prop
abbrev TGs:=List V->St->Hp->(St->Hp->Prop)->Prop
def PG(X:Cx)(target:Expr)(t:TG):Prop:=
 ∀(pins:List (Addr×Obj)) (s:Shared) (σ:St) (H:Hp) (v:V) (u:Value) (Q:St->Hp->Prop),Inv X pins σ H s->bP v u->t v σ H Q ->
  wpAny (model X.prog X.w) X.A (assign target X.env u) (λ_ s'=>∃σ' H',Inv X pins σ' H' s'/\Q σ' H') X.xe s
def PGs(X:Cx)(ts:List Expr)(t:TGs):Prop:=
 ∀(pins:List (Addr×Obj)) (s:Shared) (σ:St) (H:Hp) (vs:List V) (us:List Value) (Q:St->Hp->Prop),Inv X pins σ H s->aU vs us->t vs σ H Q ->
  wpAny (model X.prog X.w) X.A (assignInOrder ((assignEach ts X.env).map (·.2)) us) (λ_ s'=>∃σ' H',Inv X pins σ' H' s'/\Q σ' H') X.xe s
abbrev aFg:=V->V->V->Hp->(Hp->Prop)->Prop
def aHF(X:Cx)(t:aFg):Prop:=
 ∀(pins:List (Addr×Obj)) (s:Shared) (σ:St) (H:Hp) (o i v:V) (ov iv u:Value) (Q:Hp->Prop),Inv X pins σ H s->bP o ov->bP i iv->bP v u->t o i v H Q ->
  wpAny (model X.prog X.w) X.A (setItem ov iv u) (λ_ s'=>∃H',Inv X pins σ H' s'/\Q H') X.xe s
section
variable {X:Cx} {pos:Pos}
def pM(i:Nat):TG:=λv σ H Q=>Q (σ.set i (some v)) H
theorem nA{i:Nat}{x:Str}(hN:X.N.Nodup)(hi:X.N[i]? = some x)(hx:Loc X.env.scope x)(hf:X.fn x=true\/X.env.scope.names.lookup x=some .local:=by first|exact .inl rfl|exact .inr rfl|assumption):PG X (.Name x pos) (pM i):=by
 intro pins s σ H v u Q I r h
 exact wpAny_assign_Name (sV I hN hi hx r (λs' I'=>⟨_,H,I',h⟩) hf)
def aHG:TGs:=λvs σ H Q=>vs=[]/\Q σ H
def aEr(t:TG)(u:TGs):TGs:=λvs σ H Q=>∃v r,vs=v::r/\t v σ H λσ' H'=>u r σ' H' Q
theorem aCS:PGs X [] aHG:=by
 intro pins s σ H vs us Q I r h
 obtain⟨e,h⟩:=h
 subst e
 cases r
 exact assignInOrder_nil ⟨σ,H,I,h⟩
theorem aAT{e:Expr}{es:List Expr}{t:TG}{u:TGs}(h1:PG X e t)(h2:PGs X es u)
 (hs:(assignEach (e::es) X.env).map (·.2)=assign e X.env::(assignEach es X.env).map (·.2):=by rfl):PGs X (e::es) (aEr t u):=by
 intro pins s σ H vs us Q I r h
 obtain⟨v,vr,e1,h⟩:=h
 subst e1
 cases r with
 | cons r rr=>
  rw[hs]
  refine assignInOrder_cons (thn (h1 pins s σ H _ _ _ I r h) λ_ s1 ⟨σ1,H1,I1,q1⟩=>?_)
  exact h2 pins s1 σ1 H1 _ _ Q I1 rr q1
def aHH(K:PySem.W.Frag)(n:Nat)(t:TGs):TG:=λv σ H Q=>∃a xs,v=.ref a/\SqT K H a xs/\xs.length=n/\t xs σ H Q
theorem aFh{es:List Expr}{k:Nat}{t:TGs}{n:Nat}(hc:X.calm=true)(h:PGs X es t)
 (hn:(assignEach es X.env).length=n:=by rfl) (hst:(assignEach es X.env).findIdx? (·.1)=none:=by rfl):PG X (.Tuple es k pos) (aHH X.K n t):=by
 intro pins s σ H v u Q I r hw
 obtain⟨a,xs,e1,hq,hl,hw⟩:=hw
 subst e1
 cases r
 obtain⟨its,rv,ht,hz⟩:=I.tuple hq
 refine assign_Tuple_tuple (I.ok.hd hc) ht (by simp[hn,<-hl,rv.length]) hst λh' hx=>?_
 have I1:Inv X pins σ H { s with heap:=h' }:=I.kept (t':=s.toks) λb o e=>hx b o (Nat.ne_of_lt (Heap.lt_size e)) e
 exact h pins _ σ H xs _ Q I1 (by simpa using rv) hw
def aKw(to ti:TE)(t:aFg):TG:=λv σ H Q=>to σ H λo H1=>ti σ H1 λi H2=>t o i v H2 λH3=>Q σ H3
theorem aAU{o i:Expr}{to ti:TE}{t:aFg}(ho:PE X o to)(hi:PE X i ti)(hs:aHF X t)
 (ha:∀v,assign (.Subscript o i pos) X.env v=(do
  let ov<-holding [v] (eval o X.env)
  let iv<-holding [v,ov] (eval i X.env)
  standAt pos
  holding [v,ov,iv] (setItem ov iv v)
  release [v,ov,iv] []):=by intro _;rfl):PG X (.Subscript o i pos) (aKw to ti t):=by
 intro pins s σ H v u Q I r h
 rw[ha]
 refine wpAny_bind (wpAny_holding (thn (ho pins s σ H _ I h) λov s1 ⟨x,H1,I1,r1,q1⟩=>?_))
 refine wpAny_bind (wpAny_holding (thn (hi pins s1 σ H1 _ I1 q1) λiv s2 ⟨y,H2,I2,r2,q2⟩=>?_))
 refine wpAny_bind (wpAny_standAt (wpAny_bind (wpAny_holding (thn (hs pins s2 σ H2 x y v ov iv u _ I2 r1 r2 r q2) λ_ s3 ⟨H3,I3,q3⟩=>?_))))
 exact wpAny_release ⟨σ,H3,I3,q3⟩
def aFi(te:TE)(g:TG):TS:=λD σ H=>te σ H λx H1=>g x σ H1 D.nx
theorem vP{tg e:Expr}{te:TE}{g:TG}(he:PE X e te)(hg:PG X tg g)(hs:swapsWithSole [tg] e pos.line X.env=pure false:=by rfl)(hw:swappedStores [tg] e X.env=pure none:=by rfl)
 (h1:(assignEach [tg] X.env).map (·.2)=[assign tg X.env]:=by rfl):PS X (.Assign [tg] e pos) (aFi te g):=by
 intro pins s σ H D I h
 refine wpAny_Assign_stores (thn (he pins s σ H _ I h) λv s1 ⟨x,H1,I1,r1,q1⟩=>?_) hs hw
 rw[h1]
 exact thn (hg pins s1 σ H1 x v _ I1 r1 q1) λ_ s2 q=>q
theorem qW{i:Nat}{x:Str}{e:Expr}{te:TE}{pos':Pos}(hN:X.N.Nodup)(hi:X.N[i]? = some x)(hx:Loc X.env.scope x)(he:PE X e te)(hs:swapsWith e (some (.Name x pos')) pos.line X.env=pure false:=by rfl)(hf:X.fn x=true\/X.env.scope.names.lookup x=some .local:=by first|exact .inl rfl|exact .inr rfl|assumption) :
 PS X (.Assign [.Name x pos'] e pos) (aFi te (pM i)):=by
 intro pins s σ H D I h
 refine wpAny_Assign_Name (thn (he pins s σ H _ I h) λv s1 ⟨y,H1,I1,r1,q1⟩=>?_) hs
 exact sV I1 hN hi hx r1 (λs2 I2=>⟨_,H1,I2,q1⟩) hf
end
section
variable {X:Cx} {pos:Pos}
end
structure It where
 go:Nat->Hp->Prop
 yld:Nat->Hp->V->Hp->Prop
 stop:Nat->Hp->Prop
def jU(X:Cx)(pins:List (Addr×Obj))(H:Hp)(b:Addr):Prop:=
 H b=none/\b≠X.env.locals/\b∉X.fs/\(b∈X.ex\/X.s₀.heap.objs.size<=b)/\(∀x c,X.env.cells.lookup x=some c->c≠b)/\∀p∈X.pn++pins,p.1≠b
theorem Inv.fpOk{X:Cx}{pins:List (Addr×Obj)}{σ:St}{H H':Hp}{s:Shared}{b:Addr}(I:Inv X pins σ H s)(hb:s.heap.objs.size<=b)(hn:H' b=none):jU X pins H' b:=by
 refine⟨hn,Nat.ne_of_gt (Nat.lt_of_lt_of_le I.lt hb),I.nofs hb,.inr (Nat.le_trans I.sz hb),λx c e z=>?_,λp hp z=>?_⟩
 . obtain⟨v,q⟩:=I.cell x c e
   exact absurd (Nat.lt_of_lt_of_le q.lt (by rw[z];exact hb)) (Nat.lt_irrefl _)
 . exact absurd (Nat.lt_of_lt_of_le (Heap.lt_size (I.pin p hp).1) (by rw[z];exact hb)) (Nat.lt_irrefl _)
structure sX (P:Program) (w:World) (K:PySem.W.Frag) (tg:Expr) (J:It) (fp:List Addr) (it:Addr) (tn:Nat->Heap->Prop):Prop where
 mem:it∈fp
 obj:∀i h,tn i h->∀b∈fp,∃o,h.get? b=some o/\∀v,o.data≠.cell v
 keep:∀i h h',tn i h->(∀b∈fp,∀o,h.get? b=some o->h'.get? b=some o)->tn i h'
 item:∀(X:Cx),X.prog=P->X.w=w->X.K=K->X.calm=true->∀(i:Nat) (pins:List (Addr×Obj)) (s:Shared) (σ:St) (H:Hp) (E:Value->Shared->Prop),Inv X pins σ H s->(∀b∈fp,jU X pins H b)->tn i s.heap->J.go i H ->
  wpAny (model P w) X.A (pyNext (.ref it)) (λr s1=>∃u,r=some u /\
   wpAny (model P w) X.A (letOwnedTupleGo tg (.ref it) u) (λ_ s2=>∃x H',Inv X pins σ H' s2/\bP x u/\J.yld i H x H'/\tn (i+1) s2.heap/\∀b∈fp,H' b=none) E s1) E s
 done:∀(X:Cx),X.prog=P->X.w=w->X.K=K->X.calm=true->∀(i:Nat) (pins:List (Addr×Obj)) (s:Shared) (σ:St) (H:Hp) (E:Value->Shared->Prop),Inv X pins σ H s->(∀b∈fp,jU X pins H b)->tn i s.heap->J.stop i H ->
  wpAny (model P w) X.A (pyNext (.ref it)) (λr s1=>r=none/\Inv X pins σ H s1) E s
 self:∀(A:Around) (i:Nat) (s:Shared) (Q:Value->Shared->Prop) (E:Value->Shared->Prop),tn i s.heap->Q (.ref it) s->wpAny (model P w) A (pyIter (.ref it)) Q E s
abbrev TI:=St->Hp->(It->Hp->Prop)->Prop
def PIE(X:Cx)(pins:List (Addr×Obj))(σ:St)(tg:Expr)(R:It->Hp->Prop)(itv:Value)(s2:Shared):Prop:=
 ∃(it:Addr) (fp:List Addr) (tn:Nat->Heap->Prop) (J:It) (H':Hp),itv=.ref it/\Inv X pins σ H' s2/\sX X.prog X.w X.K tg J fp it tn/\tn 0 s2.heap/\(∀b∈fp,jU X pins H' b)/\R J H'
def PI(X:Cx)(tg iter:Expr)(wi:TI):Prop:=
 ∀(pins:List (Addr×Obj)) (s:Shared) (σ:St) (H:Hp) (R:It->Hp->Prop),Inv X pins σ H s->wi σ H R ->
  wpAny (model X.prog X.w) X.A (eval iter X.env) (λv s1=>wpAny (model X.prog X.w) X.A (pyIter v) (PIE X pins σ tg R) X.xe s1) X.xe s
theorem nO{M:Model}{A:Around}{E:Value->Shared->Prop}{s:Shared}{tg:Expr}{it:Addr}{u:Value}{o:Obj}{n:String}{vs:Array Value}{Q:Unit->Shared->Prop}(ho:s.heap.get? it=some o)(hc:o.cls=.type n)(hd:o.data=.fields vs)
 (hn:["enumerate", "zip", "dict_itemiterator", "dict_reverseitemiterator", "odict_iterator", "itertools.zip_longest", "itertools.pairwise"].contains n=false) (hQ:Q () s):wpAny M A (letOwnedTupleGo tg (.ref it) u) Q E s:=by
 unfold letOwnedTupleGo
 cases tg <;> first
  | exact wpAny_pure hQ
  | (cases u <;> first
   | exact wpAny_pure hQ
   | (refine wpAny_bind (wpAny_load ho ?_)
      rw[hc,hd]
      show wpAny M A (if (["enumerate", "zip", "dict_itemiterator", "dict_reverseitemiterator", "odict_iterator", "itertools.zip_longest", "itertools.pairwise"].contains n&&vs[0]?==some (rawInt _))=true then _ else _) Q E s
      rw[if_neg (by intro h;rw[hn,Bool.false_and] at h;cases h)]
      exact wpAny_pure hQ))
def Itl(K:PySem.W.Frag)(a:Addr):It:=
 ⟨λi H=>∃xs x,SqL K H a xs/\xs[i]? = some x,λi H x H'=>H'=H/\∀xs,SqL K H a xs->xs[i]? = some x,λi H=>∃xs,SqL K H a xs/\xs.length<=i⟩
def Itt(K:PySem.W.Frag)(a:Addr):It:=
 ⟨λi H=>∃xs x,SqT K H a xs/\xs[i]? = some x,λi H x H'=>H'=H/\∀xs,SqT K H a xs->xs[i]? = some x,λi H=>∃xs,SqT K H a xs/\xs.length<=i⟩
def Itr(lo:Int)(n:Nat):It:=⟨λi _=>i<n,λi H x H'=>H'=H/\x=.int (lo+i),λi _=>n<=i⟩
theorem pN{P:Program}{w:World}{K:PySem.W.Frag}{tg:Expr}(a it:Addr):sX P w K tg (Itl K a) [it] it (λi h=>h.IsListIter it a i) where
 mem:=by simp
 obj:=λi h st b hb=>by
  have e:b=it:=by simpa using hb
  subst e
  obtain⟨o,e,c,d⟩:=st
  exact⟨o,e,λv z=>by rw[d] at z;cases z⟩
 keep:=λi h h' st k=>st.at λo e=>k it (by simp) o e
 item:=by
  intro X hP hw hK hc i pins s σ H E I hf st hg
  subst hP hw hK
  obtain⟨xs,x,hq,hx⟩:=hg
  obtain⟨its,rv,p,hz⟩:=I.list hq
  obtain⟨u,hu,ru⟩:=rv.get hx
  obtain⟨f0,f1,f2,f3,f4,f5⟩:=hf it (by simp)
  refine wpAny_pyNext_list_item st p.isList (x:=u) (by simpa using hu) λh' st' sb=>?_
  have I1:Inv X pins σ H { s with heap:=h' }:=I.turned (t':=s.toks) (λb o hb e=>(sb.2 b hb).trans e) f0 f1 f3 f4 f5
  obtain⟨o,e,c,d⟩:=id st'
  exact⟨u,rfl,nO (s:={ s with heap:=h' }) e c d (by decide) ⟨x,H,I1,ru,⟨rfl,λys hy=>by rw[I.list_inj hy hq];exact hx⟩,st',λb hb=>(hf b hb).1⟩⟩
 done:=by
  intro X hP hw hK hc i pins s σ H E I hf st hg
  subst hP hw hK
  obtain⟨xs,hq,hx⟩:=hg
  obtain⟨its,rv,p,hz⟩:=I.list hq
  obtain⟨f0,f1,f2,f3,f4,f5⟩:=hf it (by simp)
  have hl:=rv.length
  exact wpAny_pyNext_list_end (I.ok.hd hc) st p.isList (by simp;omega) λh' eb=>⟨rfl,I.turned (t':=s.toks) (λb o hb e=>eb b o hb e) f0 f1 f3 f4 f5⟩
 self:=λ_ _ _ _ _ st h=>wpAny_pyIter_listiter st h
theorem vQ{P:Program}{w:World}{K:PySem.W.Frag}{tg:Expr}(a it:Addr):sX P w K tg (Itt K a) [it] it (λi h=>h.IsTupleIter it a i) where
 mem:=by simp
 obj:=λi h st b hb=>by
  have e:b=it:=by simpa using hb
  subst e
  obtain⟨o,e,c,d⟩:=st
  exact⟨o,e,λv z=>by rw[d] at z;cases z⟩
 keep:=λi h h' st k=>st.at λo e=>k it (by simp) o e
 item:=by
  intro X hP hw hK hc i pins s σ H E I hf st hg
  subst hP hw hK
  obtain⟨xs,x,hq,hx⟩:=hg
  obtain⟨its,rv,p,hz⟩:=I.tuple hq
  obtain⟨u,hu,ru⟩:=rv.get hx
  obtain⟨f0,f1,f2,f3,f4,f5⟩:=hf it (by simp)
  refine wpAny_pyNext_tuple_item st (show s.heap.IsTuple a its.toArray from p) (x:=u) (by simpa using hu) λh' st' sb=>?_
  have I1:Inv X pins σ H { s with heap:=h' }:=I.turned (t':=s.toks) (λb o hb e=>(sb.2 b hb).trans e) f0 f1 f3 f4 f5
  obtain⟨o,e,c,d⟩:=id st'
  exact⟨u,rfl,nO (s:={ s with heap:=h' }) e c d (by decide) ⟨x,H,I1,ru,⟨rfl,λys hy=>by rw[I.tuple_inj hy hq];exact hx⟩,st',λb hb=>(hf b hb).1⟩⟩
 done:=by
  intro X hP hw hK hc i pins s σ H E I hf st hg
  subst hP hw hK
  obtain⟨xs,hq,hx⟩:=hg
  obtain⟨its,rv,p,hz⟩:=I.tuple hq
  obtain⟨f0,f1,f2,f3,f4,f5⟩:=hf it (by simp)
  have hl:=rv.length
  exact wpAny_pyNext_tuple_end (I.ok.hd hc) st (show s.heap.IsTuple a its.toArray from p) (by simp;omega) λh' eb=>⟨rfl,I.turned (t':=s.toks) (λb o hb e=>eb b o hb e) f0 f1 f3 f4 f5⟩
 self:=λ_ _ _ _ _ st h=>wpAny_pyIter_tupleiter st h
theorem vR{P:Program}{w:World}{K:PySem.W.Frag}{tg:Expr}(it:Addr)(lo:Int)(n:Nat):sX P w K tg (Itr lo n) [it] it (λi h=>IsRangeIter h it (lo+(i:Nat)*1) ((n:Int)-(i:Nat)) 1) where
 mem:=by simp
 obj:=λi h st b hb=>by
  have e:b=it:=by simpa using hb
  subst e
  exact⟨_,st,λv z=>by
   have z':Data.fields _=Data.cell v:=z
   cases z'⟩
 keep:=λi h h' st k=>k it (by simp) _ st
 item:=by
  intro X hP hw hK hc i pins s σ H E I hf st hg
  subst hP hw hK
  obtain⟨f0,f1,f2,f3,f4,f5⟩:=hf it (by simp)
  have W:=Walks.range (prog:=X.prog) (w:=X.w) (I.ok.hd hc) it lo 1 n
  refine W.item i s _ _ hg st λv h' tk hv st' kk=>?_
  obtain⟨t,rfl⟩:=hv
  have I1:Inv X pins σ H { s with heap:=h',toks:=tk }:=I.turned (λb o hb e=>kk b o (by simpa using hb) e) f0 f1 f3 f4 f5
  refine⟨_,rfl,nO (s:={ s with heap:=h',toks:=tk }) (n:= "range_iterator") st' rfl rfl (by decide) ⟨.int (lo+i),H,I1,⟨t,?_⟩,⟨rfl,rfl⟩,st',λb hb=>(hf b hb).1⟩⟩
  rw[Int.mul_one]
 done:=by
  intro X hP hw hK hc i pins s σ H E I hf st hg
  subst hP hw hK
  obtain⟨f0,f1,f2,f3,f4,f5⟩:=hf it (by simp)
  exact wpAny_pyNext_range_end (I.ok.hd hc) st (by have:n<=i:=hg;omega) λh' eb=>⟨rfl,I.turned (t':=s.toks) (λb o hb e=>eb b o hb e) f0 f1 f3 f4 f5⟩
 self:=λ_ _ _ _ _ st h=>wpAny_pyIter_rangeiter st h
end L2
namespace L2
open PySem PySem.Spec PyProof.Rows
section
variable {X:Cx} {tg:Expr}
def aHI(K:PySem.W.Frag)(tl:TE):TI:=λσ H R=>tl σ H λx H1=>∃a,x=.ref a/\(∃xs,SqL K H1 a xs)/\R (Itl K a) H1
theorem xU{l:Expr}{tl:TE}(hl:PE X l tl):PI X tg l (aHI X.K tl):=by
 intro pins s σ H R I h
 refine thn (hl pins s σ H _ I h) λv s1 ⟨x,H1,I1,r1,q1⟩=>?_
 obtain⟨a,e,⟨xs,hq⟩,q⟩:=q1
 subst e
 cases r1
 obtain⟨its,rv,p,hz⟩:=I1.list hq
 refine wpAny_pyIter_list p.isList ?_
 refine⟨s1.heap.objs.size,[s1.heap.objs.size],_,_,H1,rfl,I1.kept (t':=s1.toks) λb o e=>Heap.get?_push_of_some _ e,pN a _,⟨_,Heap.get?_push_size _ rfl,rfl,rfl⟩,λb hb=>?_,q⟩
 have e:b=s1.heap.objs.size:=by simpa using hb
 subst e
 exact I1.fpOk (Nat.le_refl _) (I1.hok.fresh (Nat.le_refl _))
theorem sY{pins:List (Addr×Obj)}{σ:St}{H:Hp}{s:Shared}{R:It->Hp->Prop}{E:Value->Shared->Prop}{lo hi:Int}{t u v:Tok}{tk:Nat}(I:Inv X pins σ H s)(h1:-(2 ^ 62)<=lo)(h2:lo<2 ^ 62)(h3:-(2 ^ 62)<=hi)(h4:hi<2 ^ 62)
 (q:R (Itr lo (hi-lo).toNat) H):wpAny (model X.prog X.w) X.A (pyIter (.ref s.heap.objs.size)) (PIE X pins σ tg R) E { s with heap:=s.heap.push { cls:=.type "range",data:=.fields #[.int lo t,.int hi u,.int 1 v] },toks:=tk }:=by
 refine wpAny_pyIter_range (IsRange.new ..) (small_one h1 h2 h3 h4) ?_
 have I1:Inv X pins σ H { s with heap:=s.heap.push { cls:=.type "range",data:=.fields #[.int lo t,.int hi u,.int 1 v] },toks:=tk }:=I.kept λb o e=>Heap.get?_push_of_some _ e
 refine⟨(s.heap.push { cls:=.type "range",data:=.fields #[.int lo t,.int hi u,.int 1 v] }).objs.size,[(s.heap.push { cls:=.type "range",data:=.fields #[.int lo t,.int hi u,.int 1 v] }).objs.size],_,_,H,rfl,
  I1.kept (t':=tk) λb o e=>Heap.get?_push_of_some _ e,vR _ lo (hi-lo).toNat,?_,λb hb=>?_,q⟩
 . have e1:lo+((0:Nat):Int)*1=lo:=by simp
   have e2:(((hi-lo).toNat:Nat):Int)-((0:Nat):Int)=Builtin.Range.rangeSize lo hi 1:=by rw[rangeSize_one];split <;> omega
   show IsRangeIter _ _ (lo+((0:Nat):Int)*1) ((((hi-lo).toNat:Nat):Int)-((0:Nat):Int)) 1
   rw[e1,e2]
   exact Heap.get?_push_size _ rfl
 . have e:b=(s.heap.push { cls:=.type "range",data:=.fields #[.int lo t,.int hi u,.int 1 v] }).objs.size:=by simpa using hb
   subst e
   exact I1.fpOk (Nat.le_refl _) (I1.hok.fresh (Nat.le_refl _))
def aHJ(ta:TA):TI:=λσ H R=>ta σ H λvs H1=>∃j:Int,vs=[.int j]/\-(2 ^ 62)<=j/\j<2 ^ 62/\R (Itr 0 j.toNat) H1
def aHK(ta:TA):TI:=λσ H R=>ta σ H λvs H1=>∃i j:Int,vs=[.int i,.int j]/\(-(2 ^ 62)<=i/\i<2 ^ 62/\-(2 ^ 62)<=j/\j<2 ^ 62)/\R (Itr i (j-i).toNat) H1
theorem lI{a:Expr}{ta:TA}{p pos:Pos}(hg:Gl X "range")(hm:X.mg "range" = none)(ha:PA X [a] ta)(hs:starEach [a] X.env=[(false,eval a X.env)]:=by rfl):PI X tg (.Call (.Name "range" p) [a] [] pos) (aHJ ta):=by
 intro pins s σ H R I h
 refine Call_ (hX I hg hm boot_range (PyProof.Rows.callWith_type1 (thn (ha pos pins s σ H _ I h) λus s1 ⟨vs,H1,I1,r1,q1⟩=>?_) hs rfl))
 obtain⟨j,e,q1,q2,q⟩:=q1
 subst e
 cases r1 with
 | cons r rr=>
  cases rr
  obtain⟨t,rfl⟩:=r
  exact call_range_1 (sY I1 (by omega) (by omega) q1 q2 (by simpa using q))
theorem zV{a b:Expr}{ta:TA}{p pos:Pos}(hg:Gl X "range")(hm:X.mg "range" = none)(ha:PA X [a,b] ta)(hs:starEach [a,b] X.env=[(false,eval a X.env),(false,eval b X.env)]:=by rfl)(hs2:starEach [b] X.env=[(false,eval b X.env)]:=by rfl) :
 PI X tg (.Call (.Name "range" p) [a,b] [] pos) (aHK ta):=by
 intro pins s σ H R I h
 refine Call_ (hX I hg hm boot_range (PyProof.Rows.callWith_type1 (thn (ha pos pins s σ H _ I h) λus s1 ⟨vs,H1,I1,r1,q1⟩=>?_) (by rw[hs,hs2]) (by rw[hs2];rfl)))
 obtain⟨i,j,e,⟨q1,q2,q3,q4⟩,q⟩:=q1
 subst e
 cases r1 with
 | cons r rr=>
  cases rr with
  | cons r' rr=>
   cases rr
   obtain⟨t,rfl⟩:=r
   obtain⟨t',rfl⟩:=r'
   exact call_range_2 (sY I1 q1 q2 q3 q4 q)
def aKx(wi:TI)(g:TG)(tb:TS):TS:=λD σ H=>wi σ H λJ H1=>∃W:Nat->Nat->St->Hp->Prop,(∃m,W 0 m σ H1)/\∀i m σ H,W i m σ H ->
 (J.stop i H/\D.nx σ H)\/(J.go i H/\∃N:St->Hp->Prop,(∀σ' H',N σ' H'->∃m',m'<m/\W (i+1) m' σ' H')/\∀x H',J.yld i H x H'->g x σ H' λσ2 H2=>tb { D with nx:=N,ct:=N,bk:=D.nx } σ2 H2)
def nP(fp:List Addr)(h:Heap):List (Addr×Obj):=fp.filterMap λb=>(h.get? b).map λo=>(b,o)
theorem gC{fp:List Addr}{h:Heap}{b:Addr}{o:Obj}(hb:b∈fp)(e:h.get? b=some o):(b,o)∈nP fp h:=List.mem_filterMap.mpr ⟨b,hb,by rw[e];rfl⟩
theorem zW{fp:List Addr}{h:Heap}{p:Addr×Obj}(hp:p∈nP fp h):p.1∈fp/\h.get? p.1=some p.2:=by
 obtain⟨b,hb,e⟩:=List.mem_filterMap.mp hp
 cases q:h.get? b with
 | none=>rw[q] at e;cases e
 | some o=>
  rw[q] at e
  have e':(b,o)=p:=Option.some.inj e
  subst e'
  exact⟨hb,q⟩
theorem Inv.pinned{pins:List (Addr×Obj)}{σ:St}{H:Hp}{s:Shared}{fp:List Addr}(I:Inv X pins σ H s)(hf:∀b∈fp,jU X pins H b)(ho:∀b∈fp,∃o,s.heap.get? b=some o/\∀v,o.data≠.cell v):Inv X (pins++nP fp s.heap) σ H s:=
 I.pins_of λp hp=>(List.mem_append.mp hp).elim (λz=>I.pin p (List.mem_append_right _ z)) λz=>by
  obtain⟨hb,e⟩:=zW z
  obtain⟨f0,f1,f2,_⟩:=hf p.1 hb
  obtain⟨o,e',d⟩:=ho p.1 hb
  rw[e] at e';cases e'
  exact⟨e,f0,f1,f2,d⟩
theorem Inv.unpinned{pins pl:List (Addr×Obj)}{σ:St}{H:Hp}{s:Shared}(I:Inv X (pins++pl) σ H s):Inv X pins σ H s:=I.pins_of λp hp=>I.pin p (List.mem_append_right _ (List.mem_append_left _ hp))
theorem qX{iter:Expr}{body:List Stmt}{wi:TI}{g:TG}{tb:TS}{pos:Pos}(hp:PassesOwn (model X.prog X.w) X.A X.env X.xe)(hc:X.calm=true)(hi:PI X tg iter wi)(hg:PG X tg g)(hb:PSs X body tb)
 (hs:∀x,foldedSetIterable iter X.env x=pure x:=by intro _;rfl):PS X (.For tg iter body [] pos) (aKx wi g tb):=by
 intro pins s σ H D I h
 refine wpAny_For (thn (hi pins s σ H _ I h) λv s1 h1=>thn h1 λitv s2 h2=>?_) hs
 obtain⟨it,fp,tn,J,H2,e,I2,T,st2,f2,W,⟨m0,w0⟩,turn⟩:=h2
 subst e
 have stat:∀{H':Hp},(∀b∈fp,H' b=none)->∀b∈fp,jU X pins H' b:=λhn b hb=>⟨hn b hb,(f2 b hb).2⟩
 refine codeAny_forLoop_any (λn s'=>∃i σ' H',Inv X pins σ' H' s'/\tn i s'.heap/\(∀b∈fp,H' b=none)/\W i n σ' H') ?_ m0 ⟨0,σ,H2,I2,st2,λb hb=>(f2 b hb).1,w0⟩
 rintro n s3 ⟨i,σ3,H3,I3,st3,fr3,w3⟩
 rcases turn i n σ3 H3 w3 with⟨stop,qn⟩|⟨go,N,hN,step⟩
 . refine wpAny_passesOwn hp (thn (T.done X rfl rfl rfl hc i pins s3 σ3 H3 X.xe I3 (stat fr3) st3 stop) λr s4 ⟨hr,I4⟩=>?_)
   subst hr
   exact wpAny_execs_nil ⟨σ3,H3,I4,qn⟩
 . refine wpAny_passesOwn hp (thn (T.item X rfl rfl rfl hc i pins s3 σ3 H3 X.xe I3 (stat fr3) st3 go) λr s4 ⟨u,hr,h4⟩=>?_)
   subst hr
   refine wpAny_passesOwn hp (thn h4 λ_ s5 ⟨x,H5,I5,r5,y5,st5,fr5⟩=>?_)
   have I5':=I5.pinned (stat fr5) (T.obj _ _ st5)
   refine wpAny_passesOwn hp (thn (hg _ s5 σ3 H5 x u _ I5' r5 (step x H5 y5)) λ_ s6 ⟨σ6,H6,I6,q6⟩=>?_)
   refine wpAny_passesOwn hp (thn (hb _ s6 σ6 H6 _ I6 q6) λf s7 q7=>?_)
   have again:∀{σ7:St} {H7:Hp},Inv X (pins++nP fp s5.heap) σ7 H7 s7->N σ7 H7->∃m,m<n/\∃i σ' H',Inv X pins σ' H' s7/\tn i s7.heap/\(∀b∈fp,H' b=none)/\W i m σ' H':=λ{σ7 H7} I7 n7=>by
    obtain⟨m',hm,w7⟩:=hN σ7 H7 n7
    refine⟨m',hm,i+1,σ7,H7,I7.unpinned,T.keep _ _ _ st5 λb hb o e=>(I7.pin (b,o) (List.mem_append_right _ (List.mem_append_right _ (gC hb e)))).1,λb hb=>?_,w7⟩
    obtain⟨o,e,d⟩:=T.obj _ _ st5 b hb
    exact(I7.pin (b,o) (List.mem_append_right _ (List.mem_append_right _ (gC hb e)))).2.1
   cases f with
   | next=>obtain⟨σ7,H7,I7,n7⟩:=q7;exact again I7 n7
   | cont=>obtain⟨σ7,H7,I7,n7⟩:=q7;exact again I7 n7
   | brk=>obtain⟨σ7,H7,I7,q7⟩:=q7;exact⟨σ7,H7,I7.unpinned,q7⟩
   | ret v=>obtain⟨x7,σ7,H7,I7,r7,q7⟩:=q7;exact⟨x7,σ7,H7,I7.unpinned,r7,q7⟩
end
theorem sZ{K:PySem.W.Frag}{a:Addr}{xs:List V}{g:TG}{tb:TS}{D:Ends}{σ:St}{H:Hp}(Pv:Nat->St->Hp->Prop)(h0:Pv 0 σ H)(hl:∀i σ H,i<=xs.length->Pv i σ H->SqL K H a xs)
 (hs:∀i x σ H,xs[i]? = some x->Pv i σ H->g x σ H λσ2 H2=>tb { D with nx:=Pv (i+1),ct:=Pv (i+1),bk:=D.nx } σ2 H2) (hd:∀σ H,Pv xs.length σ H->D.nx σ H) :
 ∃W:Nat->Nat->St->Hp->Prop,(∃m,W 0 m σ H)/\∀i m σ H,W i m σ H ->
  ((Itl K a).stop i H/\D.nx σ H)\/((Itl K a).go i H/\∃N:St->Hp->Prop,(∀σ' H',N σ' H'->∃m',m'<m/\W (i+1) m' σ' H')/\∀x H',(Itl K a).yld i H x H'->g x σ H' λσ2 H2=>tb { D with nx:=N,ct:=N,bk:=D.nx } σ2 H2):=by
 refine⟨λi m σ H=>m=xs.length-i/\i<=xs.length/\Pv i σ H,⟨xs.length,by simp,Nat.zero_le _,h0⟩,?_⟩
 rintro i m σ H ⟨rfl,hi,p⟩
 have q:=hl i σ H hi p
 by_cases hlt:i<xs.length
 . refine .inr ⟨⟨xs,xs[i],q,by simp[hlt]⟩,Pv (i+1),λσ' H' p'=>⟨xs.length-(i+1),by omega,rfl,hlt,p'⟩,λx H' y=>?_⟩
   obtain⟨e,y⟩:=y
   subst e
   exact hs i x σ _ (y xs q) p
 . have e:i=xs.length:=by omega
   subst e
   exact .inl ⟨⟨xs,q,Nat.le_refl _⟩,hd σ H p⟩
end L2
namespace L2
open PySem PySem.Spec PyProof.Rows
abbrev R2:=V->V->Hp->VK->Prop
def OpR(X:Cx)(f:Value->Value->Sem Value)(r:R2):Prop:=
 ∀(pins:List (Addr×Obj)) (s:Shared) (σ:St) (H:Hp) (x y:V) (v u:Value) (Q:VK),Inv X pins σ H s->bP x v->bP y u->r x y H Q ->
  wpAny (model X.prog X.w) X.A (f v u) (EP X pins σ Q) X.xe s
def fP(X:Cx)(f:Value)(r:List V->Hp->VK->Prop):Prop:=
 ∀(pins:List (Addr×Obj)) (s:Shared) (σ:St) (H:Hp) (xs:List V) (us:List Value) (Q:VK),Inv X pins σ H s->aU xs us->r xs H Q ->
  wpAny (model X.prog X.w) X.A (call f us) (EP X pins σ Q) X.xe s
def aKy(X:Cx)(r:V->Hp->(Bool->Hp->Prop)->Prop):Prop:=
 ∀(pins:List (Addr×Obj)) (s:Shared) (σ:St) (H:Hp) (x:V) (v:Value) (Q:Bool->Hp->Prop),Inv X pins σ H s->bP x v->r x H Q ->
  wpAny (model X.prog X.w) X.A (truthy v) (TP X pins σ Q) X.xe s
def tOp(r:R2)(ta tb:TE):TE:=λσ H Q=>ta σ H λx H1=>tb σ H1 λy H2=>r x y H2 Q
def rI(C:Int->Int->Prop)(g:Int->Int->V):R2:=λx y H Q=>∃i j,x=.int i/\y=.int j/\C i j/\Q (g i j) H
def rI0(g:Int->Int->V):R2:=λx y H Q=>∃i j,x=.int i/\y=.int j/\Q (g i j) H
section
variable {X:Cx} {a b c:Expr} {ta tb tc:TE} {pos:Pos}
theorem aHL(ha:PE X a ta)(hb:PE X b tb){pins:List (Addr×Obj)}{s:Shared}{σ:St}{H:Hp}{R:V->V->Hp->Prop}(I:Inv X pins σ H s)
 (h:ta σ H λx H1=>tb σ H1 λy H2=>R x y H2) {Q:Value->Shared->Prop} {f:Value->Value->Sem Value}
 (hf:∀v u s2 x y H2,Inv X pins σ H2 s2->bP x v->bP y u->R x y H2->wpAny (model X.prog X.w) X.A (f v u) Q X.xe s2) :
 wpAny (model X.prog X.w) X.A (eval a X.env) (λv s₁=>wpAny (model X.prog X.w) X.A (eval b X.env) (λu s₂=>wpAny (model X.prog X.w) X.A (f v u) Q X.xe s₂) X.xe s₁) X.xe s:=by
 refine thn (ha pins s σ H _ I h) λv s1 ⟨x,H1,I1,r1,q1⟩=>?_
 refine thn (hb pins s1 σ H1 _ I1 q1) λu s2 ⟨y,H2,I2,r2,q2⟩=>?_
 exact hf v u s2 x y H2 I2 r1 r2 q2
theorem opI{f:Value->Value->Sem Value}{C:Int->Int->Prop}{g:Int->Int->Int}
 (rule:∀(i j:Int) (t u:Tok) (s:Shared) (Q:Value->Shared->Prop) (E:Value->Shared->Prop),C i j->Q (.int (g i j) s.toks) { s with toks:=s.toks+1 }->wpAny (model X.prog X.w) X.A (f (.int i t) (.int j u)) Q E s) :
 OpR X f (rI C λi j=>.int (g i j)):=by
 intro pins s σ H x y v u Q I rx ry h
 obtain⟨i,j,rfl,rfl,hc,q⟩:=h
 obtain⟨t,rfl⟩:=rx
 obtain⟨t',rfl⟩:=ry
 exact rule i j t t' s _ _ hc ⟨.int (g i j),H,I.tok _,⟨_,rfl⟩,q⟩
theorem aHM{f:Value->Value->Sem Value}{g:Int->Int->Int}
 (rule:∀(i j:Int) (t u:Tok) (s:Shared) (Q:Value->Shared->Prop) (E:Value->Shared->Prop),Q (.int (g i j) s.toks) { s with toks:=s.toks+1 }->wpAny (model X.prog X.w) X.A (f (.int i t) (.int j u)) Q E s) :
 OpR X f (rI0 λi j=>.int (g i j)):=by
 intro pins s σ H x y v u Q I rx ry h
 obtain⟨i,j,rfl,rfl,q⟩:=h
 obtain⟨t,rfl⟩:=rx
 obtain⟨t',rfl⟩:=ry
 exact rule i j t t' s _ _ ⟨.int (g i j),H,I.tok _,⟨_,rfl⟩,q⟩
theorem aCT{f:Value->Value->Sem Value}{g:Int->Int->Bool}
 (rule:∀(i j:Int) (t u:Tok) (s:Shared) (Q:Value->Shared->Prop) (E:Value->Shared->Prop),Q (.bool (g i j)) s->wpAny (model X.prog X.w) X.A (f (.int i t) (.int j u)) Q E s) :
 OpR X f (rI0 λi j=>.bl (g i j)):=by
 intro pins s σ H x y v u Q I rx ry h
 obtain⟨i,j,rfl,rfl,q⟩:=h
 obtain⟨t,rfl⟩:=rx
 obtain⟨t',rfl⟩:=ry
 exact rule i j t t' s _ _ ⟨.bl (g i j),H,I,rfl,q⟩
def aKz(i j:Int):Prop:=0<j/\j<1073741824
def aKA(i j:Int):Prop:=0<=j/\j<=1000000/\i.natAbs<2 ^ 64
def aFj(i j:Int):Prop:=(-(2 ^ 64)<i/\i<2 ^ 64)\/(-(2 ^ 64)<j/\j<2 ^ 64)
theorem aFj.ok{i j:Int}(h:aFj i j):IntMulOk i j:=by
 rcases h with⟨h1,h2⟩|⟨h1,h2⟩
 . exact .of_left (intBits_le_64 h1 h2)
 . exact .of_right (intBits_le_64 h1 h2)
theorem aFk:OpR X (binaryOp .Add) (rI0 λi j=>.int (i+j)):=aHM λ_ _ _ _ _ _ _ q=>add_int q
theorem aFl:OpR X (binaryOp .Sub) (rI0 λi j=>.int (i-j)):=aHM λ_ _ _ _ _ _ _ q=>sub_int q
theorem aFm:OpR X (binaryOp .Mult) (rI aFj λi j=>.int (i*j)):=opI λ_ _ _ _ _ _ _ hc q=>mul_int q hc.ok
theorem aCU:OpR X (binaryOp .FloorDiv) (rI aKz λi j=>.int (i / j)):=opI λi j _ _ _ _ _ hc q=>by
 have h1:(0:Int)<j:=hc.1
 have h2:j<1073741824:=hc.2
 exact floordiv_int (by omega) (by rw[Int.fdiv_eq_ediv_of_nonneg i (by omega)];exact q) (.inl (PyProof.noPylong_small (by omega)))
theorem aFn:OpR X (binaryOp .Mod) (rI (λ_ j=>0<j) λi j=>.int (i % j)):=opI λi j _ _ _ _ _ hc q=>by
 have h1:(0:Int)<j:=hc
 exact mod_int' (by omega) (by rw[Int.fmod_eq_emod_of_nonneg i (by omega)];exact q)
theorem aFo:OpR X (binaryOp .Pow) (rI aKA λi j=>.int (i ^ j.toNat)):=opI λ_ _ _ _ _ _ _ hc q=>pow_int_small hc.1 hc.2.1 hc.2.2 q
end
section
variable {X:Cx} {a b c:Expr} {ta tb tc:TE} {pos:Pos}
theorem vS{pins:List (Addr×Obj)}{σ:St}{H:Hp}{s:Shared}{Q:VK}{k k':Bool}(I:Inv X pins σ H s)(q:Q (.bl k) H)(e:k=k'):EP X pins σ Q (.bool k') s:=by
 subst e
 exact⟨.bl k,H,I,rfl,q⟩
theorem aHN:OpR X (compareOp .Lt) (rI0 λi j=>.bl (decide (i<j))):=aCT λ_ _ _ _ _ _ _ q=>lt_int q
theorem aHO:OpR X (compareOp .LtE) (rI0 λi j=>.bl (decide (i<=j))):=aCT λ_ _ _ _ _ _ _ q=>le_int q
theorem aHP:OpR X (compareOp .Gt) (rI0 λi j=>.bl (decide (j<i))):=aCT λ_ _ _ _ _ _ _ q=>gt_int q
theorem aHQ:OpR X (compareOp .GtE) (rI0 λi j=>.bl (decide (j<=i))):=aCT λ_ _ _ _ _ _ _ q=>ge_int q
theorem zX:OpR X (compareOp .In) (λx y H Q=>∃i j,x=.str i/\y=.str j/\Q (.bl (!(Builtin.Str.occurrences j i 0 j.length 1).isEmpty)) H):=by
 intro pins s σ H x y v u Q I rx ry h
 obtain⟨i,j,rfl,rfl,q⟩:=h
 obtain⟨t,rfl⟩:=rx
 obtain⟨t',rfl⟩:=ry
 exact in_str (vS I q rfl)
theorem aFp:OpR X (compareOp .Is) (λx y H Q=>y=.non/\Q (.bl (decide (x=.non))) H):=by
 intro pins s σ H x y v u Q I rx ry h
 obtain⟨rfl,q⟩:=h
 cases ry
 refine is_none_gen (vS I q ?_)
 cases x <;> first
  | (cases rx;rfl)
  | (obtain⟨t,rfl⟩:=rx;rfl)
theorem aCV:OpR X (compareOp .IsNot) (λx y H Q=>y=.non/\Q (.bl (!decide (x=.non))) H):=by
 intro pins s σ H x y v u Q I rx ry h
 obtain⟨rfl,q⟩:=h
 cases ry
 refine isnot_none_gen (vS I q ?_)
 cases x <;> first
  | (cases rx;rfl)
  | (obtain⟨t,rfl⟩:=rx;rfl)
theorem xV{op:CmpOp}{r:R2}(ho:OpR X (compareOp op) r)(ha:PE X a ta)(hb:PE X b tb)(hm:behindInMarks op b=false):PE X (.Compare a [op] [b] pos) (tOp r ta tb):=by
 intro pins s σ H Q I h
 exact wpAny_Compare1 (aHL ha hb I h λv u s2 x y H2 I2 rx ry q=>ho pins s2 σ H2 x y v u Q I2 rx ry q) hm
def aEs(t:TE):TT:=λσ H Q=>t σ H λx H'=>∃k,x=.bl k/\Q k H'
theorem qY{op:CmpOp}{r:R2}(ho:OpR X (compareOp op) r)(ha:PE X a ta)(hb:PE X b tb)(hm:behindInMarks op b=false):PT X (.Compare a [op] [b] pos) (aEs (tOp r ta tb)):=by
 intro pins s σ H Q I h
 refine wpAny_isTrue_Compare1 (thn (ha pins s σ H _ I h) λv s1 ⟨x,H1,I1,r1,q1⟩=>thn (hb pins s1 σ H1 _ I1 q1) λu s2 ⟨y,H2,I2,r2,q2⟩=>
  thn (ho pins s2 σ H2 x y v u _ I2 r1 r2 q2) λc s3 ⟨z,H3,I3,r3,k,e,q3⟩=>?_) hm
 subst e
 cases r3
 exact wpAny_truthy_bool ⟨H3,I3,q3⟩
def aAV(r r':R2)(ta tb tc:TE):TE:=λσ H Q=>ta σ H λx H1=>tb σ H1 λy H2=>r x y H2 λz H3=>∃k,z=.bl k /\
 (if k=true then tc σ H3 λw' H4=>r' y w' H4 Q else Q (.bl false) H3)
theorem aAW{op op':CmpOp}{r r':R2}(ho:OpR X (compareOp op) r)(ho':OpR X (compareOp op') r')(ha:PE X a ta)(hb:PE X b tb)(hc:PE X c tc)
 (hm:lastMarks [op,op'] [b,c]=false:=by with_unfolding_all rfl):PE X (.Compare a [op,op'] [b,c] pos) (aAV r r' ta tb tc):=by
 intro pins s σ H Q I h
 refine Compare_chain (thn (ha pins s σ H _ I h) λv s1 ⟨x,H1,I1,r1,q1⟩=>chain_link (thn (hb pins s1 σ H1 _ I1 q1) λu s2 ⟨y,H2,I2,r2,q2⟩=>
  thn (ho pins s2 σ H2 x y v u _ I2 r1 r2 q2) λd s3 ⟨z,H3,I3,r3,k,e,q3⟩=>?_)) hm
 subst e
 cases r3
 refine wpAny_truthy_bool ?_
 cases k with
 | false=>exact ite_ff ⟨.bl false,H3,I3,rfl,q3⟩
 | true=>exact ite_tt (chain_last (thn (hc pins s3 σ H3 _ I3 q3) λw' s4 ⟨z',H4,I4,r4,q4⟩=>ho' pins s4 σ H4 y z' u w' Q I4 r2 r4 q4))
theorem aAX{op op':CmpOp}{r r':R2}(ho:OpR X (compareOp op) r)(ho':OpR X (compareOp op') r')(ha:PE X a ta)(hb:PE X b tb)(hc:PE X c tc)
 (hm:lastMarks [op,op'] [b,c]=false:=by with_unfolding_all rfl):PT X (.Compare a [op,op'] [b,c] pos) (aEs (aAV r r' ta tb tc)):=by
 intro pins s σ H Q I h
 refine isTrue_chain (thn (ha pins s σ H _ I h) λv s1 ⟨x,H1,I1,r1,q1⟩=>test_link (thn (hb pins s1 σ H1 _ I1 q1) λu s2 ⟨y,H2,I2,r2,q2⟩=>
  thn (ho pins s2 σ H2 x y v u _ I2 r1 r2 q2) λd s3 ⟨z,H3,I3,r3,k,e,q3⟩=>?_)) hm
 subst e
 cases r3
 refine wpAny_truthy_bool ?_
 cases k with
 | false=>
  obtain⟨k',e',q'⟩:=q3
  cases e'
  exact ite_ff ⟨H3,I3,q'⟩
 | true=>
  refine ite_tt (test_last (thn (hc pins s3 σ H3 _ I3 q3) λw' s4 ⟨z',H4,I4,r4,q4⟩=>thn (ho' pins s4 σ H4 y z' u w' _ I4 r2 r4 q4) λd' s5 ⟨z2,H5,I5,r5,k2,e2,q5⟩=>?_))
  subst e2
  cases r5
  exact wpAny_truthy_bool ⟨H5,I5,q5⟩
def aCW(K:PySem.W.Frag)(x:V)(H:Hp)(k:Bool):Prop:=
 match x with
 | .non=>k=false
 | .bl b=>k=b
 | .int i=>k=(i != 0)
 | .str y=>y.length<=sizeLine/\k=((y.length:Int) != 0)
 | .byt y=>y.size<=sizeLine/\k=((y.size:Int) != 0)
 | .ref p=>(∃xs,SqL K H p xs/\k=!xs.isEmpty)\/(∃xs,SqT K H p xs/\k=!xs.isEmpty)\/∃kvs,H p=some (.dK kvs)/\k=!kvs.isEmpty
 | _=>False
theorem vT{κ:Type}{kvs:List (κ×V)}{vs:List (κ×Value)}(r:KV kvs vs):(!vs.isEmpty)=!kvs.isEmpty:=by
 cases r <;> rfl
theorem nQ{xs:List V}{its:List Value}(r:aU xs its):(!its.toArray.isEmpty)=!xs.isEmpty:=by
 cases r <;> simp
theorem jG:(sizeLine:Nat)<2 ^ 63:=by rw[sizeLine_eq];decide
theorem aAY:aKy X (λx H Q=>∃k,aCW X.K x H k/\Q k H):=by
 intro pins s σ H x v Q I rx h
 obtain⟨k,e,q⟩:=h
 have hl:=jG
 have hs:sizeLine=16777216:=sizeLine_eq
 cases x with
 | non=>
  cases rx
  have e':k=false:=e
  subst e'
  exact truthy_none ⟨H,I,q⟩
 | bl b=>
  cases rx
  have e':k=b:=e
  subst e'
  exact wpAny_truthy_bool ⟨H,I,q⟩
 | int i=>
  obtain⟨t,rfl⟩:=rx
  have e':k=(i != 0):=e
  subst e'
  exact PySem.P.truthy_int ⟨H,I,q⟩
 | str y=>
  obtain⟨t,rfl⟩:=rx
  obtain⟨hy,e'⟩:y.length<=sizeLine/\k=((y.length:Int) != 0):=e
  subst e'
  exact PySem.P.truthy_str (by omega) ⟨H,I.tok _,q⟩
 | byt y=>
  obtain⟨t,rfl⟩:=rx
  obtain⟨hy,e'⟩:y.size<=sizeLine/\k=((y.size:Int) != 0):=e
  subst e'
  exact PySem.W.truthy_bytes (by omega) ⟨H,I.tok _,q⟩
 | ref p=>
  cases rx
  have e':(∃xs,SqL X.K H p xs/\k=!xs.isEmpty)\/(∃xs,SqT X.K H p xs/\k=!xs.isEmpty)\/∃kvs,H p=some (.dK kvs)/\k=!kvs.isEmpty:=e
  rcases e' with⟨xs,hx,e'⟩|⟨xs,hx,e'⟩|⟨kvs,hx,e'⟩
  . subst e'
    obtain⟨its,r,pl,hz⟩:=I.list hx
    have hlen:=r.length
    exact wpAny_truthy_list pl.isList (by simp only[List.size_toArray];omega) ⟨H,I.tok _,by rw[nQ r];exact q⟩
  . subst e'
    obtain⟨its,r,pl,hz⟩:=I.tuple hx
    have hlen:=r.length
    exact truthy_tuple pl (by simp only[List.size_toArray];omega) ⟨H,I.tok _,by rw[nQ r];exact q⟩
  . subst e'
    obtain⟨hz,hS,vs,r,m⟩:kvs.length<=sizeLine/\(p==sysModules)=false/\∃vs,KV kvs vs/\s.heap.DictOf (dX X.prog X.w) p vs:=I.hok p _ hx
    have hlen:kvs.length=vs.length:=Paired.length r
    exact wpAny_truthy_dict hS m (by omega) ⟨H,I.tok _,by rw[vT r];exact q⟩
 | _=>exact(show False from e).elim
theorem aAZ(ha:PE X a ta)(he:∀whole,isTrue a X.env whole=(do let v<-whole;standAt a.pos;holding [v] (truthy v))) :
 PT X a (λσ H Q=>ta σ H λx H'=>∃k,aCW X.K x H' k/\Q k H'):=by
 intro pins s σ H Q I h
 exact isTrue_plain (thn (ha pins s σ H _ I h) λv s1 ⟨x,H1,I1,r1,q1⟩=>aAY pins s1 σ H1 x v Q I1 r1 q1) (he _)
theorem vU:OpR X (binaryOp .Add) (λx y H Q=>∃i j,x=.str i/\y=.str j/\i.length+j.length<=sizeLine/\Q (.str (i++j)) H):=by
 intro pins s σ H x y v u Q I rx ry h
 obtain⟨i,j,rfl,rfl,hz,q⟩:=h
 obtain⟨t,rfl⟩:=rx
 obtain⟨t',rfl⟩:=ry
 exact add_str (λt' tk=>⟨.str (i++j),H,I.tok _,⟨_,rfl⟩,q⟩) hz
theorem pO{x:V}{us:List Value}(r:aU [x] us):∃u,us=[u]/\bP x u:=by
 cases r with
 | cons r1 r2=>cases r2;exact⟨_,rfl,r1⟩
theorem aHR{x y:V}{us:List Value}(r:aU [x,y] us):∃u w',us=[u,w']/\bP x u/\bP y w':=by
 cases r with
 | cons r1 r2=>
  cases r2 with
  | cons r3 r4=>cases r4;exact⟨_,_,rfl,r1,r3⟩
theorem zY(hc:X.calm=true):fP X (.builtin "min") (λxs H Q=>∃i j,xs=[.int i,.int j]/\Q (.int (if j<i then j else i)) H):=by
 intro pins s σ H xs us Q I r h
 obtain⟨i,j,rfl,q⟩:=h
 obtain⟨u,w',rfl,⟨t,rfl⟩,⟨t',rfl⟩⟩:=aHR r
 refine min_two_ints (I.ok.hd hc) λh' tk k=>⟨_,H,I.kept k,?_,q⟩
 by_cases hj:j<i
 . rw[if_pos hj,if_pos hj];exact⟨_,rfl⟩
 . rw[if_neg hj,if_neg hj];exact⟨_,rfl⟩
theorem zZ:fP X (.type "int") (λxs H Q=>(∃i,xs=[.int i]/\Q (.int i) H)\/∃k,xs=[.bl k]/\Q (.int (if k then 1 else 0)) H):=by
 intro pins s σ H xs us Q I r h
 rcases h with⟨i,rfl,q⟩|⟨k,rfl,q⟩
 . obtain⟨u,rfl,t,rfl⟩:=pO r
   exact call_int_int ⟨.int i,H,I,⟨_,rfl⟩,q⟩
 . obtain⟨u,rfl,r1⟩:=pO r
   cases r1
   exact call_int_bool ⟨.int (if k then 1 else 0),H,I.tok _,⟨_,rfl⟩,q⟩
end
end L2
namespace L2
open PySem PySem.Spec PyProof.Rows
section
variable {prog:Program} {w:World} {A:Around} {E:Value->Shared->Prop} {s:Shared} {K:PySem.W.Frag} {x dx C f:Addr} {mA:Str->Option Value} {name:Str} {v:Value}
end
def putF(f:Str)(v:V):List (Str×V)->List (Str×V)
 | []=>[(f,v)]
 | (g,x)::r=>if g=f then (g,v)::r else (g,x)::putF f v r
section
variable {P:Program} {w:World} {H H':Hp} {h h':Heap} {a C dx:Addr} {fs fs':List (Str×V)}
end
section
variable {X:Cx} {pins:List (Addr×Obj)} {σ:St} {H:Hp} {s:Shared} {a C dx:Addr} {fs:List (Str×V)} {f:Str} {v:V} {A:Around} {E:Value->Shared->Prop}
end
section
variable {X:Cx} {o e value:Expr} {f:Str} {pos pos' tpos:Pos} {ta tv:TE}
end
section
variable {X:Cx} {pins:List (Addr×Obj)} {σ:St} {H:Hp} {s:Shared} {A:Around} {E:Value->Shared->Prop} {Q:Value->Shared->Prop} {c:Value} {b:Bool}
end
end L2
namespace L2
open PySem PySem.Spec PyProof.Rows
structure jH (k:Nat) (A:Around):Prop where
 hd:A.handled=none
 gd:A.guards=some []
 dp:A.depth+3*k+5<recursionLimit
 un:A.units+16*k+200<cLine
theorem jH.deeper{k:Nat}{A:Around}(r:jH (k+1) A)(env:Env):jH k (A.deeper env):=
 ⟨r.hd,r.gd,by have:=r.dp;show A.depth+1+3*k+5<_;omega,by have:=r.un;show A.units+3+16*k+200<_;omega⟩
theorem jH.depth{k:Nat}{A:Around}(r:jH k A):A.depth<recursionLimit:=by have:=r.dp;omega
def aHS:TA:=λ_ H Q=>Q [] H
def aHT(ta:TE)(tr:TA):TA:=λσ H Q=>ta σ H λx H1=>tr σ H1 λxs H2=>Q (x::xs) H2
section
variable {X:Cx} {e:Expr} {es:List Expr} {te:TE} {t:TA} {pos:Pos}
theorem dR:PA X [] aHS:=λ_ _ _ _ H Q I h=>Calls.spliced_nil ⟨[],H,I,.nil,h⟩
theorem cQ(ha:PE X e te)(hr:PA X es t)(hs:starEach (e::es) X.env=(false,eval e X.env)::starEach es X.env:=by rfl):PA X (e::es) (aHT te t):=by
 intro pos pins s σ H Q I h
 rw[hs]
 show wpAny _ _ (spliced ((false,eval e X.env)::backTo pos (starEach es X.env))) _ _ s
 refine Calls.spliced_cons (thn (ha pins s σ H _ I h) λu s1 ⟨x,H1,I1,r1,q1⟩=>?_)
 exact thn (hr pos pins s1 σ H1 _ I1 q1) λus s2 ⟨xs,H2,I2,r2,q2⟩=>⟨x::xs,H2,I2,.cons r1 r2,q2⟩
def aKB(t:TA):TE:=λσ H Q=>t σ H λxs H1=>xs.length<=sizeLine/\∀p,H1 p=none->Q (.ref p) (upd H1 p (.tup xs))
def aKC(t:TA):TE:=λσ H Q=>t σ H λxs H1=>xs.length<=sizeLine/\∀p,H1 p=none->Q (.ref p) (upd H1 p (.lst xs))
theorem aBa{x1}(h:PA X es t):PE X (.Tuple es x1 pos) (aKB t):=by
 intro pins s σ H Q I hq
 refine wpAny_Tuple_spliced (thn (h pos pins s σ H _ I hq) λus s1 ⟨xs,H1,I1,r,z,q⟩=>⟨by rw[<-r.length];exact z,?_⟩)
 have hf:H1 s1.heap.objs.size=none:=I1.hok.fresh (Nat.le_refl _)
 refine⟨.ref s1.heap.objs.size,upd H1 s1.heap.objs.size (.tup xs),I1.laid (t':=s1.toks) (λb u e=>Heap.get?_push_of_some _ e) (Nat.le_refl _) ?_,rfl,q _ hf⟩
 exact⟨z,us,r,⟨_,Heap.get?_push_size _ rfl,rfl,_,rfl⟩⟩
theorem vV(h:PA X es t):PE X (.List es pos) (aKC t):=by
 intro pins s σ H Q I hq
 refine wpAny_List_spliced (thn (h pos pins s σ H _ I hq) λus s1 ⟨xs,H1,I1,r,z,q⟩=>⟨by rw[<-r.length];exact z,?_⟩)
 have hf:H1 s1.heap.objs.size=none:=I1.hok.fresh (Nat.le_refl _)
 refine⟨.ref s1.heap.objs.size,upd H1 s1.heap.objs.size (.lst xs),I1.laid (t':=s1.toks) (λb u e=>Heap.get?_push_of_some _ e) (Nat.le_refl _) ?_,rfl,q _ hf⟩
 exact⟨z,us,0,r,Heap.get?_push_size _ rfl⟩
end
abbrev Sp:=List V->Hp->VK->XK->Prop
abbrev CXT:=List Env->Hp->Shared->XK->Value->Shared->Prop
structure aCX (P:Program) (w:World) (K:PySem.W.Frag) (mg:Str->Option Value) (base:Heap) (A:Around) (outer:List Env) (s:Shared) (H:Hp):Prop where
 frames:A.frames=some outer
 mod:Mod K mg base
 bs:∀b o,base.get? b=some o->s.heap.get? b=some o/\H b=none
 bsz:base.objs.size<=s.heap.objs.size
 funs:s.heap.FunFrames base outer
 frf:∀b∈frs outer,H b=none
 hok:HOk P w H s.heap
 bare:AllBare s.gens
def CE(outer:List Env)(P:Program)(w:World)(H:Hp)(s:Shared)(Q:VK)(u:Value)(s':Shared):Prop:=
 ∃v H',s'.os=s.os/\AllBare s'.gens/\Un (frs outer) [] H H' s.heap s'.heap/\HOk P w H' s'.heap/\bP v u/\Q v H'
def CR(CX:CXT)(outer:List Env)(P:Program)(w:World)(H:Hp)(s:Shared)(Q:VK)(E:XK)(r:Result)(s':Shared):Prop:=
 match r with
 | .ok (.ret u)=>CE outer P w H s Q u s'
 | .ok _=>False
 | .error e=>CX outer H s E e s'
structure mW (P:Program) (w:World) (K:PySem.W.Frag) (mg:Str->Option Value) (base:Heap) (CX:CXT) (k:Nat) (f:Addr) (fd:FuncData) (ps:List Str) (sp:Sp):Prop where
 len:∀vs H Q E,sp vs H Q E->vs.length=ps.length
 run:∀(A:Around) (outer:List Env) (s:Shared) (H:Hp) (args:Args) (us:List Value) (vs:List V) (Q:VK) (E:XK),jH k A->aCX P w K mg base A outer s H->BindsTo s fd args (ps.zip us)->aU vs us->sp vs H Q E ->
  codeAny (model P w) A (.call (.ref f) args) (CR CX outer P w H s Q E) s
section
variable {X:Cx} {pins:List (Addr×Obj)} {σ:St} {H:Hp} {s s':Shared}
theorem Inv.env0(I:Inv X pins σ H s):aCX X.prog X.w X.K X.mg X.base X.A X.stack s H:=
 ⟨I.ok.frames,I.ok.mod,I.bs,Nat.le_trans I.ok.bsz I.sz,I.stack,I.stkFree,I.hok,I.bare⟩
theorem Inv.after{Q:VK}{u:Value}(I:Inv X pins σ H s)(h:CE X.stack X.prog X.w H s Q u s'):EP X pins σ Q u s':=by
 obtain⟨v,H',os,bare,un,hok,r,q⟩:=h
 obtain⟨hh,g,d,t,os'⟩:=s'
 obtain rfl:os'=s.os:=os
 exact⟨v,H',I.call (h':=hh) (g':=g) (d':=d) (t':=t) (ch:=[]) un hok bare (λb z=>absurd z (by simp)),r,q⟩
end
def aEt(sp:Sp)(dvs:List V)(E:XK)(t:TA):TE:=λσ H Q=>t σ H λvs H1=>sp (vs++dvs) H1 Q E
def jE(K:PySem.W.Frag)(fd:FuncData)(ps:List Str)(ds:List Value):Prop:=
 ∀(s:Shared) (us:List Value),K.In s.heap->(us++ds).length=ps.length->BindsTo s fd ⟨us,[]⟩ (ps.zip (us++ds))
theorem jE.all{K:PySem.W.Frag}{fd:FuncData}{ps:List Str}(h:∀us:List Value,us.length=ps.length->bindArgs fd ⟨us,[]⟩=pure (ps.zip us)):jE K fd ps []:=λs us _ hl=>by
 rw[List.append_nil] at hl ⊢
 exact .of_eq (h us hl)
def qZ(CX:CXT)(X:Cx)(E:XK):Prop:=∀(pins:List (Addr×Obj)) (σ:St) (H:Hp) (s:Shared) (e:Value) (s':Shared),Inv X pins σ H s->CX X.stack H s E e s'->X.xe e s'
section
variable {X:Cx} {CX:CXT} {k:Nat} {f C:Addr} {fd:FuncData} {ps:List Str} {sp:Sp} {dvs:List V} {ds:List Value} {E:XK} {x m:Str} {p pos apos:Pos} {e o:Expr} {es:List Expr} {ta:TE} {t:TA}
theorem aBb{pins:List (Addr×Obj)}{σ:St}{H:Hp}{s:Shared}{Q:VK}{us:List Value}{vs:List V}(F:mW X.prog X.w X.K X.mg X.base CX k f fd ps sp)(hr:jH k X.A)(hb:jE X.K fd ps ds)(hd:aU dvs ds)(hx:qZ CX X E)
 (I:Inv X pins σ H s) (r:aU vs us) (h:sp (vs++dvs) H Q E):wpAny (model X.prog X.w) X.A (call (.ref f) us) (EP X pins σ Q) X.xe s:=by
 have r2:aU (vs++dvs) (us++ds):=r.append hd
 have hl:(us++ds).length=ps.length:=by rw[<-r2.length];exact F.len _ _ _ _ h
 refine wpAny_call (codeAny_mono (F.run X.A X.stack s H ⟨us,[]⟩ (us++ds) (vs++dvs) Q E hr I.env0 (hb s us I.kIn hl) r2 h) λr s' hq=>?_)
 cases r with
 | error e=>exact hx pins σ H s e s' I hq
 | ok fl=>
  cases fl with
  | ret u=>exact I.after hq
  | next=>exact False.elim hq
  | brk=>exact False.elim hq
  | cont=>exact False.elim hq
theorem rA(F:mW X.prog X.w X.K X.mg X.base CX k f fd ps sp)(hr:jH k X.A)(hg:Gl X x)(hm:X.mg x=some (.ref f))(hk:PySem.W.keepIn X.K (.ref f)=true)(hb:jE X.K fd ps ds)(hd:aU dvs ds)(hx:qZ CX X E)
 (ha:PA X (e::es) t) (hdb:(x==("__debug__" : Str))=false:=by decide) (he:starEach (e::es) X.env=(false,eval e X.env)::starEach es X.env:=by rfl) (hpl:(backTo pos (starEach es X.env)).any (·.1)=false:=by rfl) :
 PE X (.Call (.Name x p) (e::es) [] pos) (aEt sp dvs E t):=by
 intro pins s σ H Q I h
 refine wpAny_Call_Name_kw (qU I hg hm ?_ hdb)
 refine PySem.W.callWith_K (h₀:=X.base) I.ok.mod.kin hk (thn (ha pos pins s σ H _ I h) λus s1 ⟨vs,H1,I1,r,q⟩=>⟨I1.kIn,?_⟩) he hpl
 exact aBb F hr hb hd hx I1 r q
theorem aBc(F:mW X.prog X.w X.K X.mg X.base CX k f fd ps sp)(hr:jH k X.A)(hg:Gl X x)(hm:X.mg x=some (.ref f))(hk:PySem.W.keepIn X.K (.ref f)=true)(hb:jE X.K fd ps ds)(hd:aU dvs ds)(hx:qZ CX X E)
 (hdb:(x==("__debug__" : Str))=false:=by decide):PE X (.Call (.Name x p) [] [] pos) (aEt sp dvs E aHS):=by
 intro pins s σ H Q I h
 refine wpAny_Call_Name_kw (qU I hg hm ?_ hdb)
 exact PySem.W.callWith_K0 I.kIn hk (aBb (us:=[]) F hr hb hd hx I .nil h)
end
section
variable {X:Cx} {CX:CXT} {k:Nat} {f C:Addr} {fd:FuncData} {ps ks:List Str} {sp:Sp} {E:XK} {x m:Str} {p pos apos kpos:Pos} {e o:Expr} {es:List Expr} {kws:List Keyword} {te ta:TE} {t tk:TA} {nm:Option Str}
variable {g:List Value->List Value->List Value} {gV:List V->List V->List V}
end
structure nB (N P:List Str) (sc:Scope):Prop where
 kind:sc.kind=.function
 co:sc.isCoroutine=false
 gen:sc.isGenerator=false
 nd:N.Nodup
 pre:N.take P.length=P
 par:∀x∈P,sc.names.lookup x=some .local\/sc.names.lookup x=some .cell
 nofree:∀y∈sc.names,y.2≠.free
theorem pP{kindOf:Str->Option NameKind}{x:Str}:∀{binds:List (Str×Value)} {m:Str->Option Value},(∀v,(x,v)∉binds)->bindL kindOf binds m x=m x
 | [],_,_=>rfl
 | (n,v)::r,m,h=>by
  unfold bindL
  rw[pP λw hw=>h w (List.mem_cons_of_mem _ hw)]
  split
  . have:x≠n:=by rintro rfl;exact h v List.mem_cons_self
    simp[this]
  . rfl
theorem pQ{kindOf:Str->Option NameKind}{x:Str}:∀{binds:List (Str×Value)} {m:Str->Option Value},(∀v,(x,v)∉binds)->bindC kindOf binds m x=m x
 | [],_,_=>rfl
 | (n,v)::r,m,h=>by
  unfold bindC
  rw[pQ λw hw=>h w (List.mem_cons_of_mem _ hw)]
  split
  . rfl
  . have:x≠n:=by rintro rfl;exact h v List.mem_cons_self
    simp[this]
theorem pR{kindOf:Str->Option NameKind}{x:Str}{v:Value}:∀{P:List Str} {vs:List Value} {i:Nat} {m:Str->Option Value},P.Nodup->P[i]? = some x->vs[i]? = some v->kindOf x=some .local ->
 bindL kindOf (P.zip vs) m x=some v
 | [],_,_,_,_,h,_,_=>by simp at h
 | _::_,[],_,_,_,_,h,_=>by simp at h
 | p::P,w::vs,0,m,nd,h1,h2,hk=>by
  simp at h1 h2;subst h1;subst h2
  show bindL kindOf ((p,w)::P.zip vs) m p=_
  unfold bindL
  rw[pP λv hv=>(List.nodup_cons.mp nd).1 (List.of_mem_zip hv).1,if_pos hk]
  simp
 | p::P,w::vs,i+1,m,nd,h1,h2,hk=>by
  show bindL kindOf ((p,w)::P.zip vs) m x=_
  unfold bindL
  exact pR (i:=i) (List.nodup_cons.mp nd).2 (by simpa using h1) (by simpa using h2) hk
theorem pS{kindOf:Str->Option NameKind}{x:Str}{v:Value}:∀{P:List Str} {vs:List Value} {i:Nat} {m:Str->Option Value},P.Nodup->P[i]? = some x->vs[i]? = some v->kindOf x≠some .local ->
 bindC kindOf (P.zip vs) m x=some v
 | [],_,_,_,_,h,_,_=>by simp at h
 | _::_,[],_,_,_,_,h,_=>by simp at h
 | p::P,w::vs,0,m,nd,h1,h2,hk=>by
  simp at h1 h2;subst h1;subst h2
  show bindC kindOf ((p,w)::P.zip vs) m p=_
  unfold bindC
  rw[pQ λv hv=>(List.nodup_cons.mp nd).1 (List.of_mem_zip hv).1,if_neg hk]
  simp
 | p::P,w::vs,i+1,m,nd,h1,h2,hk=>by
  show bindC kindOf ((p,w)::P.zip vs) m x=_
  unfold bindC
  exact pS (i:=i) (List.nodup_cons.mp nd).2 (by simpa using h1) (by simpa using h2) hk
def start(N:List Str)(vs:List V):St:=vs.map some++List.replicate (N.length-vs.length) none
def vW(CX:CXT)(P:Program)(w:World)(K:PySem.W.Frag)(mg:Str->Option Value)(base:Heap)(N:List Str)(qual:Str)(scope:Scope)(f:Addr)(cd:Value)(A:Around)(outer:List Env)(s:Shared)(H:Hp)(E:XK):Cx where
 prog:=P
 w:=w
 K:=K
 mg:=mg
 base:=base
 A:=A.deeper (envOfC qual scope s.heap.objs.size f cd)
 N:=N
 s₀:=s
 H₀:=H
 env:=envOfC qual scope s.heap.objs.size f cd
 outer:=outer
 stack:=envOfC qual scope s.heap.objs.size f cd::outer
 ex:=[]
 calm:=true
 fn:=λ_=>true
 pn:=[]
 xe:=λe s'=>wpAny (model P w) (A.deeper (envOfC qual scope s.heap.objs.size f cd)) (leaving (envOfC qual scope s.heap.objs.size f cd) e) (λ_ s''=>CX outer H s E e s'') (λe' s''=>CX outer H s E e' s'') s'
theorem tB{sc:Scope}{n:Nat}{x:Str}(h:sc.names.lookup x=some .cell):∃c,(cellsFrom n sc.names []).lookup x=some c:=by
 have q:=PySem.W.cellsFrom_some sc.names n [] (.inl h)
 exact Option.isSome_iff_exists.mp q
theorem aAa{CX:CXT}{P:Program}{w:World}{K:PySem.W.Frag}{mg:Str->Option Value}{base:Heap}{N ps:List Str}{qual:Str}{scope:Scope}{f:Addr}{cd:Value}{A:Around}{outer:List Env}{s s1:Shared}{H:Hp}{E:XK}{us:List Value}{vs:List V}
 (S:nB N ps scope) (hd:A.handled=none) (e0:aCX P w K mg base A outer s H) (hl:vs.length=ps.length) (r:aU vs us)
 (x:InCallC s s.heap.objs.size (bindL (envOfC qual scope s.heap.objs.size f cd).kindOf (ps.zip us) λ_=>none) (cellsFrom (s.heap.objs.size+1) scope.names []) (bindC (envOfC qual scope s.heap.objs.size f cd).kindOf (ps.zip us) λ_=>none) s1) :
 Inv (vW CX P w K mg base N qual scope f cd A outer s H E) [] (start N vs) H s1:=by
 have hpl:ps.length<=N.length:=by have:=congrArg List.length S.pre;rw[List.length_take] at this;omega
 obtain⟨h1,tk,rfl,hk⟩:=x.done
 have noA:∀b:Addr,b∉(vW CX P w K mg base N qual scope f cd A outer s H E).ex:=λb z=>absurd (show b∈([]:List Addr) from z) (by simp)
 refine⟨⟨e0.mod,S.kind,rfl,rfl,Nat.le_refl _,λy z c h1 h2=>?_,λy hy=>?_,λy c _ h=>?_,λ_=>hd,Around.frames_deeper e0.frames,.inr ⟨rfl,rfl⟩,λb z=>absurd z (noA b),e0.bs,e0.bsz,λb _ _=>noA b,λb z=>absurd z (noA b),e0.funs,e0.frf⟩,
  rfl,e0.bare,Un.kept hk,⟨_,x.toInCall.ns,λi y v h1 h2 h3=>?_⟩,λy c h=>⟨_,x.cell y c h⟩,e0.hok.fresh (Nat.le_refl _),λy c h=>?_,λp hp=>absurd (show p∈([]:List (Addr×Obj)) from hp) (by simp),e0.hok.kept hk,?_⟩
 . exact name_of_addr x.apart (PySem.mem_of_lookup h1) (PySem.mem_of_lookup h2)
 . have hy:scope.names.lookup y=some .cell\/scope.names.lookup y=some .free:=hy
   rcases hy with hy|hy
   . exact tB hy
   . exact absurd rfl (S.nofree _ (PySem.mem_of_lookup hy))
 . exact Nat.le_of_lt (x.above y c (PySem.mem_of_lookup h))
 . have hi:i<vs.length:=by
    unfold start at h2
    by_cases hi:i<vs.length
    . exact hi
    . rw[List.getElem?_append_right (by simpa using hi)] at h2
      rw[List.getElem?_replicate] at h2
      split at h2 <;> cases h2
   have ha:vs[i]? = some v:=by
    unfold start at h2
    rw[List.getElem?_append_left (by simpa using hi),List.getElem?_map] at h2
    cases e:vs[i]? with
    | none=>rw[e] at h2;cases h2
    | some a=>rw[e] at h2;cases h2;rfl
   obtain⟨u,hu,rv⟩:=r.get ha
   have hp:ps[i]? = some y:=by
    rw[<-S.pre,List.getElem?_take_of_lt (by omega)];exact h1
   have ndP:ps.Nodup:=by rw[<-S.pre];exact S.nd.sublist (List.take_sublist _ _)
   refine⟨u,rv,?_⟩
   rcases S.par y (List.mem_of_getElem? hp) with k|k
   . exact .inl ⟨k,pR ndP hp hu k⟩
   . obtain⟨c,e⟩:=tB (n:=s.heap.objs.size+1) k
     refine .inr ⟨.inl k,c,e,?_⟩
     have q:=x.cell y c e
     rw[pS ndP hp hu (by show scope.names.lookup y≠_;rw[k];decide)] at q
     exact q
 . exact e0.hok.fresh (Nat.le_of_lt (x.above y c (PySem.mem_of_lookup h)))
 . unfold start
   show _=N.length
   rw[List.length_append,List.length_map,List.length_replicate]
   omega
theorem aHU{CX:CXT}{P:Program}{w:World}{K:PySem.W.Frag}{mg:Str->Option Value}{base:Heap}{k:Nat}{f:Addr}{name qual:Str}{params:Arguments}{body:List Stmt}{scope:Scope}{dV kV doc pm cdv ct oc:Value}{an od:Option Addr}
 {osl:Array (Option Value)} {N ps:List Str} {sp:Sp} (lk:K.lookup f=some ⟨oc,od,.func (PySem.W.fnOf name qual params body scope dV kV doc pm an cdv ct),osl⟩) (hcd:PySem.W.codeIn K cdv qual=true) (S:nB N ps scope)
 (len:∀vs H Q E,sp vs H Q E->vs.length=ps.length)
 (hbody:∀(A:Around) (outer:List Env) (s:Shared) (H:Hp) (vs:List V) (Q:VK) (E:XK),jH k (A.deeper (envOfC qual scope s.heap.objs.size f cdv))->sp vs H Q E ->
  ∃t,PSs (vW CX P w K mg base N qual scope f cdv A outer s H E) body t/\t { nx:=λ_ H'=>Q .non H',rt:=Q } (start N vs) H) :
 mW P w K mg base CX (k+1) f (PySem.W.fnOf name qual params body scope dV kV doc pm an cdv ct) ps sp:=by
 refine⟨len,λA outer s H args us vs Q E hr e0 hb r hsp=>?_⟩
 have hl:=len _ _ _ _ hsp
 have KX:K.In s.heap:=e0.mod.kin.keeps λb o e=>(e0.bs b o e).1
 have lim:s.heap.NoLimit:=e0.mod.nolimit.keeps λb o e=>(e0.bs b o e).1
 have hkind:∀y∈ps.zip us,scope.names.lookup y.1=some .local\/(scope.names.lookup y.1=some .cell/\((cellsFrom (s.heap.objs.size+1) scope.names []).lookup y.1).isSome=true):=λ⟨n,v⟩ hy=>by
  rcases S.par n (List.of_mem_zip hy).1 with q|q
  . exact .inl q
  . exact .inr ⟨q,PySem.W.cellsFrom_some _ _ _ (.inl q)⟩
 refine codeAny_call_function hr.depth (KX _ _ lk) rfl S.co S.gen rfl (PySem.W.codeRec_of KX hcd) (hb _ _ _ _ ?_)
 refine wpAny_newFunctionEnv_cells S.kind hkind λenv he s1 x=>?_
 subst he
 refine⟨lim.keeps x.toInCall.keep,codeAny_func ?_⟩
 obtain⟨t,ht,hq⟩:=hbody A outer s H vs Q E (hr.deeper _) hsp
 have I:Inv (vW CX P w K mg base N qual scope f cdv A outer s H E) [] (start N vs) H s1:=aAa S hr.hd e0 hl r x
 refine wpAny_mono (ht [] s1 (start N vs) H _ I hq) (λfl s' hs=>?_) λe s' hs=>hs
 have fin:∀{σ':St} {H':Hp} {v:V} {u:Value},Inv (vW CX P w K mg base N qual scope f cdv A outer s H E) [] σ' H' s'->bP v u->Q v H'->CE outer P w H s Q u s':=
  λ{σ' H' v u} J rv q=>⟨v,H',J.os,J.bare,J.base,J.hok,rv,q⟩
 cases fl with
 | ret u=>
  obtain⟨v,σ',H',J,rv,q⟩:=hs
  exact fin J rv q
 | next=>
  obtain⟨σ',H',J,q⟩:=hs
  exact fin (v:=V.non) (u:=Value.none) J rfl q
 | brk=>
  obtain⟨_,_,_,q⟩:=hs
  exact False.elim q
 | cont=>
  obtain⟨_,_,_,q⟩:=hs
  exact False.elim q
end L2
namespace L2
open PySem PySem.Spec PyProof.Rows
section
variable {X:Cx} {x:Str} {p pos:Pos} {e:Expr} {es:List Expr} {t:TA} {id T:String} {r:List V->Hp->VK->Prop}
def tCB(r:List V->Hp->VK->Prop)(t:TA):TE:=λσ H Q=>t σ H λvs H1=>r vs H1 Q
theorem tD(hc:fP X (.builtin id) r)(hg:Gl X x)(hm:X.mg x=none)(hv:bootBuiltins x=some (.builtin id))(ha:PA X (e::es) t)(hn:x ≠ "__name__" := by decide)(hdb:(x==("__debug__" : Str))=false:=by decide)
 (he:starEach (e::es) X.env=(false,eval e X.env)::starEach es X.env:=by rfl) (hpl:(backTo pos (starEach es X.env)).any (·.1)=false:=by rfl):PE X (.Call (.Name x p) (e::es) [] pos) (tCB r t):=by
 intro pins s σ H Q I h
 refine wpAny_Call_Name_kw (hX I hg hm hv ?_ hn hdb)
 exact PyProof.Rows.callWith_builtin1 (thn (ha pos pins s σ H _ I h) λus s1 ⟨vs,H1,I1,r1,q1⟩=>hc pins s1 σ H1 vs us Q I1 r1 q1) he hpl
theorem iO(hc:fP X (.type T) r)(hg:Gl X x)(hm:X.mg x=none)(hv:bootBuiltins x=some (.type T))(ha:PA X (e::es) t)(hn:x ≠ "__name__" := by decide)(hdb:(x==("__debug__" : Str))=false:=by decide)
 (he:starEach (e::es) X.env=(false,eval e X.env)::starEach es X.env:=by rfl) (hpl:(backTo pos (starEach es X.env)).any (·.1)=false:=by rfl):PE X (.Call (.Name x p) (e::es) [] pos) (tCB r t):=by
 intro pins s σ H Q I h
 refine wpAny_Call_Name_kw (hX I hg hm hv ?_ hn hdb)
 exact PyProof.Rows.callWith_type1 (thn (ha pos pins s σ H _ I h) λus s1 ⟨vs,H1,I1,r1,q1⟩=>hc pins s1 σ H1 vs us Q I1 r1 q1) he hpl
end
end L2
namespace HT
open PySem PyProof.Rows
section
open PySem.SeqAt
open PySem.AutoSeq1 (wpAny_loadPart')
open PySem.MeetsSeq PySem.MeetsSeq2 PySem.MeetsSeq3
end
section
variable {prog:Program} {w:World} {A:Around} {E:Value->Shared->Prop} {s:Shared}
theorem cat_tup{t b:Addr}{vs ws:List Value}{Q:Value->Shared->Prop}(ht:IsTup s.heap t vs.toArray)(hb:IsTup s.heap b ws.toArray)(hv:vs≠[])
 (h1:ws=[]->Q (.ref t) s) (h2:ws≠[]->Q (.ref s.heap.objs.size) { s with heap:=s.heap.push { cls:=.type "tuple",data:=.seq (vs++ws).toArray } })
 (hsz:vs.length+ws.length<=sizeLine):wpAny (model prog w) A (binaryOp .Add (.ref t) (.ref b)) Q E s:=by
 obtain⟨⟨cls,dd,data,sl⟩,ho,hc,n,hd⟩:=id ht
 obtain⟨⟨cls2,dd2,data2,sl2⟩,ho2,hc2,n2,hd2⟩:=id hb
 simp only at hc hd hc2 hd2
 subst hc hd hc2 hd2
 have e:vs.toArray++ws.toArray=(vs++ws).toArray:=by simp
 by_cases hw:ws=[]
 . exact concat_meets ⟨_,ho,rfl⟩ ⟨_,ho2,rfl⟩ noFill_tuple_add seq_tuple_add PySem.F.slot_tuple_add PySem.F.entry_tuple_add (PySem.F.args_tuple_add_2 _ _)
    (tuple_addW1 t b vs.toArray ws.toArray n n2 dd dd2 sl sl2 (by simpa using hv) (by simp[hw])) ⟨ho,ho2,h1 hw⟩
 . refine concat_meets ⟨_,ho,rfl⟩ ⟨_,ho2,rfl⟩ noFill_tuple_add seq_tuple_add PySem.F.slot_tuple_add PySem.F.entry_tuple_add (PySem.F.args_tuple_add_2 _ _)
    (tuple_addW2 t b vs.toArray ws.toArray n n2 dd dd2 sl sl2 (by simpa using hv) (by simpa using hw) (by rw[List.size_toArray,List.size_toArray];exact hsz)) ⟨ho,ho2,?_⟩
   rw[e]
   exact h2 hw
def sIx(n d:Nat):Option Int->Nat
 | none=>d
 | some v=>if v<0 then (v+(n:Int)).toNat else min v.toNat n
theorem aFq(n d:Nat)(hd:d<=n)(o:Option Int):sIx n d o<=n:=by
 cases o with
 | none=>exact hd
 | some v=>
  show(if v<0 then (v+(n:Int)).toNat else min v.toNat n)<=n
  by_cases hv:v<0
  . rw[if_pos hv];omega
  . rw[if_neg hv];exact Nat.min_le_right _ _
theorem xW(v:Int)(n d:Nat):(if v<0 then max (v+(n:Int)) 0 else min v (n:Int))=((sIx n d (some v):Nat):Int):=by
 show(if v<0 then max (v+(n:Int)) 0 else min v (n:Int))=(((if v<0 then (v+(n:Int)).toNat else min v.toNat n):Nat):Int)
 by_cases hv:v<0
 . simp only[if_pos hv];omega
 . simp only[if_neg hv];omega
theorem vX(lo hi:Option Int)(n:Nat):Builtin.Slice.sliceAdjust lo hi 1 (n:Int)=(((sIx n 0 lo:Nat):Int),((sIx n n hi:Nat):Int)):=by
 have h1:¬ ((1:Int)<0):=by omega
 unfold Builtin.Slice.sliceAdjust
 simp only[h1,if_false]
 refine Prod.ext ?_ ?_
 . cases lo with
   | none=>rfl
   | some v=>exact xW v n 0
 . cases hi with
   | none=>rfl
   | some v=>exact xW v n n
theorem vY(i j:Nat):Builtin.Slice.slicePlaces (i:Int) (j:Int) 1=j-i:=by
 unfold Builtin.Slice.slicePlaces
 have h1:(1:Int)>0:=by omega
 simp only[h1,if_true,Int.ediv_one]
 split <;> omega
theorem nR{v:Value}{o:Option Int}{Q:Option Int->Shared->Prop}(p:IsPart v o)(h:Q o s):wpAny (model prog w) A (Builtin.Slice.slicePartIndex v) Q E s:=by
 cases p with
 | none=>exact slicePart_none h
 | int i t=>exact slicePart_int h
theorem sliceApplied_gen{sl:Addr}{vl vu:Value}{lo hi:Option Int}{n:Nat}{Q:Int×Int×Nat->Shared->Prop}(hs:s.heap.IsSliceOf sl vl vu .none)(pl:IsPart vl lo)(pu:IsPart vu hi)
 (h:Q (((sIx n 0 lo:Nat):Int),1,sIx n n hi-sIx n 0 lo) s):wpAny (model prog w) A (Builtin.Slice.sliceApplied (.ref sl) (pure (n:Int))) Q E s:=by
 obtain⟨os,hos,hcs,hds⟩:=id hs
 unfold Builtin.Slice.sliceApplied Builtin.Slice.sliceFields
 refine wpAny_bind (wpAny_bind (wpAny_field hos hds (x:=vl) rfl (wpAny_bind (wpAny_field hos hds (x:=vu) rfl (wpAny_bind (wpAny_field hos hds (x:=.none) rfl (wpAny_pure ?_)))))))
 refine wpAny_bind (slicePart_none ?_)
 show wpAny _ _ (if ((1:Int)==0)=true then _ else _) _ _ s
 rw[if_neg (by decide)]
 refine wpAny_bind (nR pl (wpAny_bind (nR pu (wpAny_bind (wpAny_pure ?_)))))
 show wpAny _ _ (match Builtin.Slice.sliceAdjust lo hi 1 (n:Int) with|(lo,hi)=>pure (lo,(1:Int),Builtin.Slice.slicePlaces lo hi 1)) _ _ s
 rw[vX lo hi n]
 show wpAny _ _ (pure (((sIx n 0 lo:Nat):Int),(1:Int),Builtin.Slice.slicePlaces ((sIx n 0 lo:Nat):Int) ((sIx n n hi:Nat):Int) 1)) _ _ s
 rw[vY]
 exact wpAny_pure h
theorem aBd(xs:Array Value)(i k:Nat):((List.range k).filterMap λ(m:Nat)=>xs[((i:Int)+(m:Int)*1).toNat]?).toArray=((xs.toList.drop i).take k).toArray:=by
 have e:(λ(m:Nat)=>xs[((i:Int)+(m:Int)*1).toNat]?)=λm=>xs[i+m]? := by
  funext m
  have:((i:Int)+(m:Int)*1).toNat=i+m:=by omega
  rw[this]
 rw[e]
 have:=pick_run xs i k
 rw[List.filterMap_map] at this
 have e2:((λx=>xs[x]?)∘λx=>i+x)=λm=>xs[i+m]? := rfl
 rw[e2] at this
 rw[this]
theorem getItem_tuple_cut{t sl:Addr}{items:Array Value}{vl vu:Value}{lo hi:Option Int}{Q:Value->Shared->Prop}(ht:IsTup s.heap t items)(hs:s.heap.IsSliceOf sl vl vu .none)(pl:IsPart vl lo)(pu:IsPart vu hi)
 (hw:¬ (sIx items.size 0 lo=0/\sIx items.size items.size hi=items.size))
 (h:Q (.ref s.heap.objs.size) { s with heap:=s.heap.push { cls:=.type "tuple",data:=.seq ((items.toList.drop (sIx items.size 0 lo)).take (sIx items.size items.size hi-sIx items.size 0 lo)).toArray } })
 (hsz:items.size<=sizeLine):wpAny (model prog w) A (getItem (.ref t) (.ref sl)) Q E s:=by
 have htake:sizeOk (.seq ((items.toList.drop (sIx items.size 0 lo)).take (sIx items.size items.size hi-sIx items.size 0 lo)).toArray):=by
  show((items.toList.drop (sIx items.size 0 lo)).take (sIx items.size items.size hi-sIx items.size 0 lo)).toArray.size<=sizeLine
  rw[List.size_toArray,List.length_take,List.length_drop,Array.length_toList]
  omega
 have hj:sIx items.size items.size hi<=items.size:=aFq _ _ (Nat.le_refl _) hi
 obtain⟨os,hos,hcs,hds⟩:=id hs
 have hTs:s.TypeIs (.ref sl) "slice" := ⟨os,hos,hcs⟩
 unfold getItem
 try with_reducible refine wpAny_holding ?_
 first|refine wpAny_bind (wpAny_pure ?_)|skip
 refine wpAny_bind (wpAny_sequenceKey ht.typeIs (by decide) ?_)
 refine wpAny_bind (wpAny_callSpecial?_slot (name:=Str.ofString "__getitem__") ht.typeIs PyProof.Rows.slot_tuple_getitem
  (wpAny_call_entry PyProof.Rows.slot_tuple_getitem ht.typeIs entry_tuple_getitem ?_ (args_tuple_getitem _ _)))
 show wpAny _ _ (Builtin.Tuple.tupleItemsOf (.ref t) >>= _) _ _ s
 refine wpAny_bind (tupleItemsOf_ ht ?_)
 refine wpAny_bind (wpAny_typeOf hTs ?_)
 rw[if_pos (by decide)]
 refine wpAny_bind (sliceApplied_gen hs pl pu ?_)
 have hno:¬ ((((sIx items.size 0 lo:Nat):Int)==0&&(1:Int)==1&&(sIx items.size items.size hi-sIx items.size 0 lo)==items.size)=true):=by
  intro q
  rw[Bool.and_eq_true,Bool.and_eq_true] at q
  have q1:((sIx items.size 0 lo:Nat):Int)=0:=eq_of_beq q.1.1
  have q2:sIx items.size items.size hi-sIx items.size 0 lo=items.size:=eq_of_beq q.2
  exact hw ⟨by omega,by omega⟩
 show wpAny _ _ (if (((sIx items.size 0 lo:Nat):Int)==0&&(1:Int)==1&&(sIx items.size items.size hi-sIx items.size 0 lo)==items.size)=true then _ else _) _ _ s
 rw[if_neg hno,aBd]
 first
  | exact wpAny_bind (m:=Builtin.Tuple.tupleExact _) (wpAny_newObj_type (wpAny_pure ⟨_,rfl,wpAny_pure h⟩) htake)
  | exact wpAny_bind (m:=Builtin.Tuple.tupleExact _) (wpAny_newObj_type (wpAny_bind (wpAny_pure (wpAny_pure ⟨_,rfl,wpAny_pure h⟩))) htake)
  | exact wpAny_bind (wpAny_bind (m:=Builtin.Tuple.tupleExact _) (wpAny_newObj_type (wpAny_pure (wpAny_pure ⟨_,rfl,wpAny_pure h⟩)) htake))
  | exact wpAny_bind (wpAny_bind (m:=Builtin.Tuple.tupleExact _) (wpAny_newObj_type (wpAny_pure ⟨_,rfl,wpAny_pure h⟩) htake))
end
end HT
namespace L2
open PySem PySem.Spec PyProof.Rows
abbrev TO:=St->Hp->(Option Int->Hp->Prop)->Prop
def PO(X:Cx)(e:Option Expr)(t:TO):Prop:=
 ∀(pins:List (Addr×Obj)) (s:Shared) (σ:St) (H:Hp) (Q:Option Int->Hp->Prop),Inv X pins σ H s->t σ H Q ->
  wpAny (model X.prog X.w) X.A (evalPart e X.env) (λu s'=>∃o H',Inv X pins σ H' s'/\IsPart u o/\Q o H') X.xe s
def aCY:TO:=λ_ H Q=>Q none H
def aHV(t:TE):TO:=λσ H Q=>t σ H λx H1=>∃i,x=.int i/\Q (some i) H1
section
variable {X:Cx} {e:Expr} {te:TE} {lo hi:Option Expr} {tl th:TO} {pos p2:Pos}
theorem aCZ:PO X none aCY:=by
 intro pins s σ H Q I h
 rw[evalPart_none]
 exact wpAny_pure ⟨none,H,I,.none,h⟩
theorem aDa(h:PE X e te):PO X (some e) (aHV te):=by
 intro pins s σ H Q I hw
 rw[evalPart_some]
 refine thn (h pins s σ H _ I hw) λu s1 ⟨x,H1,I1,r1,q1⟩=>?_
 obtain⟨i,rfl,q⟩:=q1
 obtain⟨t,rfl⟩:=r1
 exact⟨some i,H1,I1,.int i t,q⟩
def SlR(X:Cx)(r:V->Option Int->Option Int->Hp->VK->Prop):Prop:=
 ∀(pins:List (Addr×Obj)) (s:Shared) (σ:St) (H:Hp) (x:V) (v vl vu:Value) (lo hi:Option Int) (sl:Addr) (Q:VK),Inv X pins σ H s->bP x v->s.heap.IsSliceOf sl vl vu .none->IsPart vl lo->IsPart vu hi->r x lo hi H Q ->
  ∃T id,typeLookup (.type T) "__getitem__" = pure (some (.builtin id))/\s.TypeIs v T/\wpAny (model X.prog X.w) X.A (getItem v (.ref sl)) (EP X pins σ Q) X.xe s
theorem SlR.or{r r':V->Option Int->Option Int->Hp->VK->Prop}(h:SlR X r)(h':SlR X r'):SlR X (λx lo hi H Q=>r x lo hi H Q\/r' x lo hi H Q):=by
 intro pins s σ H x v vl vu lo hi sl Q I rx hs pl pu q
 rcases q with q|q
 . exact h pins s σ H x v vl vu lo hi sl Q I rx hs pl pu q
 . exact h' pins s σ H x v vl vu lo hi sl Q I rx hs pl pu q
def tSl(r:V->Option Int->Option Int->Hp->VK->Prop)(te:TE)(tl th:TO):TE:=λσ H Q=>te σ H λx H1=>tl σ H1 λl H2=>th σ H2 λu H3=>r x l u H3 Q
theorem aBe{r:V->Option Int->Option Int->Hp->VK->Prop}(hr:SlR X r)(he:PE X e te)(hl:PO X lo tl)(hu:PO X hi th):PE X (.Subscript e (.Slice lo hi none p2) pos) (tSl r te tl th):=by
 intro pins s σ H Q I h
 refine Subscript_ (thn (he pins s σ H _ I h) λv s1 ⟨x,H1,I1,r1,q1⟩=>?_)
 refine wpAny_Slice (thn (hl pins s1 σ H1 _ I1 q1) λvl s2 ⟨l,H2,I2,pl,q2⟩=>thn (hu pins s2 σ H2 _ I2 q2) λvu s3 ⟨u,H3,I3,pu,q3⟩=>?_)
 rw[evalPart_none]
 refine wpAny_pure ?_
 have I4:Inv X pins σ H3 { s3 with heap:=s3.heap.push { cls:=.type "slice",data:=.fields #[vl,vu,.none] } }:=I3.kept (t':=s3.toks) λb ob q=>Heap.get?_push_of_some _ q
 obtain⟨T,id,hT,ht,hg⟩:=hr pins { s3 with heap:=s3.heap.push { cls:=.type "slice",data:=.fields #[vl,vu,.none] } } σ H3 x v vl vu l u s3.heap.objs.size Q I4 r1 (Heap.IsSliceOf.new ..) pl pu q3
 show wpAny (model X.prog X.w) X.A (subscriptTail e (.Slice lo hi none p2) v (.ref s3.heap.objs.size)) (EP X pins σ Q) X.xe { s3 with heap:=s3.heap.push { cls:=.type "slice",data:=.fields #[vl,vu,.none] } }
 exact tail_any (ops:=[.ref s3.heap.objs.size,v]) ht hT hg (by with_unfolding_all rfl)
def tE(xs:List V)(lo hi:Option Int):List V:=(xs.drop (HT.sIx xs.length 0 lo)).take (HT.sIx xs.length xs.length hi-HT.sIx xs.length 0 lo)
theorem mH(xs:List V)(lo hi:Option Int):(tE xs lo hi).length<=xs.length:=by
 unfold tE
 rw[List.length_take,List.length_drop]
 omega
def aBf(K:PySem.W.Frag):V->Option Int->Option Int->Hp->VK->Prop:=λx lo hi H Q=>∃a xs,x=.ref a/\SqT K H a xs /\
 ¬ (HT.sIx xs.length 0 lo=0/\HT.sIx xs.length xs.length hi=xs.length)/\∀p,H p=none->Q (.ref p) (upd H p (.tup (tE xs lo hi)))
theorem aFr:SlR X (aBf X.K):=by
 intro pins s σ H x v vl vu lo hi sl Q I rx hs pl pu h
 obtain⟨a,xs,rfl,hx,hw,q⟩:=h
 cases rx
 obtain⟨its,r,ht,hz⟩:=I.tuple hx
 have hlen:its.toArray.size=xs.length:=by rw[List.size_toArray];exact r.length.symm
 refine⟨"tuple",_,PyProof.Rows.slot_tuple_getitem.lookup,ht.typeIs,?_⟩
 refine HT.getItem_tuple_cut ht hs pl pu (by rw[hlen];exact hw) ?_ (by rw[hlen];exact hz)
 rw[hlen]
 refine⟨.ref s.heap.objs.size,_,I.laid (t':=s.toks) (o:=.tup (tE xs lo hi)) (λb ob q=>Heap.get?_push_of_some _ q) (Nat.le_refl _) ?_,rfl,q _ (I.hok.fresh (Nat.le_refl _))⟩
 exact⟨Nat.le_trans (mH xs lo hi) hz,_,(r.drop (HT.sIx xs.length 0 lo)).take (HT.sIx xs.length xs.length hi-HT.sIx xs.length 0 lo),IsTup.new _ _⟩
def aHW(K:PySem.W.Frag):R2:=λx y H Q=>∃a b xs ys,x=.ref a/\y=.ref b/\SqT K H a xs/\SqT K H b ys/\xs≠[]/\xs.length+ys.length<=sizeLine /\
 (ys=[]->Q (.ref a) H)/\(ys≠[]->∀p,H p=none->Q (.ref p) (upd H p (.tup (xs++ys))))
theorem aU.nil_iff{xs:List V}{us:List Value}(r:aU xs us):us=[]↔xs=[]:=by
 cases r with
 | nil=>simp
 | cons _ _=>simp
theorem aDb:OpR X (binaryOp .Add) (aHW X.K):=by
 intro pins s σ H x y v u Q I rx ry h
 obtain⟨a,b,xs,ys,rfl,rfl,ha,hb,hx,hz,q1,q2⟩:=h
 cases rx
 cases ry
 obtain⟨its,r1,p1,_⟩:=I.tuple ha
 obtain⟨its2,r2,p2,_⟩:=I.tuple hb
 refine HT.cat_tup p1 p2 (λz=>hx (r1.nil_iff.mp z)) (λz=>⟨.ref a,H,I,rfl,q1 (r2.nil_iff.mp z)⟩) (λz=>?_) (by rw[<-r1.length,<-r2.length];exact hz)
 refine⟨.ref s.heap.objs.size,_,I.laid (t':=s.toks) (o:=.tup (xs++ys)) (λb ob q=>Heap.get?_push_of_some _ q) (Nat.le_refl _) ?_,rfl,q2 (λw=>z (r2.nil_iff.mpr w)) _ (I.hok.fresh (Nat.le_refl _))⟩
 exact⟨by rw[List.length_append];exact hz,_,r1.append r2,IsTup.new _ _⟩
end
end L2
namespace L2
open PySem PySem.Spec PyProof.Rows
def ixN(n:Nat)(i:Int):Option Nat:=if 0<=i then (if i<n then some i.toNat else none) else if -(n:Int)<=i then some (i+n).toNat else none
def atI{α:Type}(xs:List α)(i:Int):Option α:=(ixN xs.length i).bind λj=>xs[j]?
theorem xX{n:Nat}{i:Int}{j:Nat}(h:ixN n i=some j):seqIndex? i n=some j/\j<n/\-(n:Int)<=i/\i<n:=by
 unfold ixN at h
 by_cases h0:0<=i
 . rw[if_pos h0] at h
   by_cases h1:i<n
   . rw[if_pos h1] at h
     have e:i.toNat=j:=Option.some.inj h
     exact⟨by rw[seqIndex_of h0 h1,e],by omega,by omega,h1⟩
   . rw[if_neg h1] at h;cases h
 . rw[if_neg h0] at h
   by_cases h1:-(n:Int)<=i
   . rw[if_pos h1] at h
     have e:(i+n).toNat=j:=Option.some.inj h
     exact⟨by rw[seqIndex_neg (by omega) h1,e],by omega,h1,by omega⟩
   . rw[if_neg h1] at h;cases h
theorem rB{α:Type}{xs:List α}{i:Int}{v:α}(h:atI xs i=some v):∃j,seqIndex? i xs.length=some j/\xs[j]? = some v/\j<xs.length/\-(xs.length:Int)<=i/\i<xs.length:=by
 unfold atI at h
 cases e:ixN xs.length i with
 | none=>rw[e] at h;cases h
 | some j=>
  rw[e] at h
  obtain⟨h1,h2,h3,h4⟩:=xX e
  exact⟨j,h1,h,h2,h3,h4⟩
def xY(b:Expr):Prop:=∀o i,subscripted b false o i=operate [o,i] (getItem o i)
def IxR(X:Cx)(r:R2):Prop:=
 ∀(value slice:Expr) (pins:List (Addr×Obj)) (s:Shared) (σ:St) (H:Hp) (x y:V) (v u:Value) (Q:VK),Inv X pins σ H s->bP x v->bP y u->r x y H Q ->
  subscripted slice false v u=operate [v,u] (getItem v u)->wpAny (model X.prog X.w) X.A (subscriptTail value slice v u) (EP X pins σ Q) X.xe s
def MtR(X:Cx)(id:String)(r:V->List V->Hp->VK->Prop):Prop:=
 ∀(pins:List (Addr×Obj)) (s:Shared) (σ:St) (H:Hp) (x:V) (xs:List V) (v:Value) (us:List Value) (Q:VK),Inv X pins σ H s->bP x v->aU xs us->r x xs H Q ->
  wpAny (model X.prog X.w) X.A (call (.builtin id) (v::us)) (EP X pins σ Q) X.xe s
section
variable {X:Cx} {a b:Expr} {ta tb:TE} {pos:Pos}
theorem IxR.or{r r':R2}(h:IxR X r)(h':IxR X r'):IxR X (λx y H Q=>r x y H Q\/r' x y H Q):=by
 intro value slice pins s σ H x y v u Q I rx ry q hs
 rcases q with q|q
 . exact h value slice pins s σ H x y v u Q I rx ry q hs
 . exact h' value slice pins s σ H x y v u Q I rx ry q hs
theorem xZ{r:R2}(hr:IxR X r)(ha:PE X a ta)(hb:PE X b tb)(hs:xY b):PE X (.Subscript a b pos) (tOp r ta tb):=by
 intro pins s σ H Q I h
 exact Subscript_ (aHL ha hb I h λv u s2 x y H2 I2 rx ry q=>hr a b pins s2 σ H2 x y v u Q I2 rx ry q (hs _ _))
def aHX(K:PySem.W.Frag):R2:=λx y H Q=>∃p xs i v,x=.ref p/\y=.int i/\SqL K H p xs/\atI xs i=some v/\Q v H
def aHY(K:PySem.W.Frag):R2:=λx y H Q=>∃p xs i v,x=.ref p/\y=.int i/\SqT K H p xs/\atI xs i=some v/\Q v H
def aHZ:R2:=λx y H Q=>∃z i c,x=.str z/\y=.int i/\z.length<=sizeLine/\atI z.cps.toList i=some c/\Q (.str ⟨#[c]⟩) H
theorem yA:IxR X (aHX X.K):=by
 intro value slice pins s σ H x y v u Q I rx ry h hs
 obtain⟨p,xs,i,z,rfl,rfl,hq,he,q⟩:=h
 cases rx
 obtain⟨t,rfl⟩:=ry
 obtain⟨its,r,pl,hz⟩:=I.list hq
 obtain⟨j,h1,h2,h3,h4,h5⟩:=rB he
 obtain⟨w,ew,rw'⟩:=r.get h2
 have hl:=r.length
 have hn:=jG
 have fin:EP X pins σ Q w s:=⟨z,H,I,rw',q⟩
 by_cases h0:0<=i
 . have hj:i.toNat=j:=by
    rw[seqIndex_of h0 h5] at h1
    exact Option.some.inj h1
   exact item_listR pl.isList h0 (by omega) (by rw[hj];simpa using ew) fin hs
 . have hj:(i+(its.toArray.size:Int)).toNat=j:=by
    rw[seqIndex_neg (by omega) h4] at h1
    rw[List.size_toArray,<-hl]
    exact Option.some.inj h1
   exact subscriptTail_builtinR (x:=w) pl.isList.typeIs slot_list_getitem.lookup
    (wpAny_getItem_list_neg (Q:=λr s'=>r=w/\EP X pins σ Q r s') pl.isList (by omega) (by rw[List.size_toArray] <;> omega) (by omega) (by rw[hj];simpa using ew) ⟨rfl,fin⟩) hs
theorem aFs:IxR X (aHY X.K):=by
 intro value slice pins s σ H x y v u Q I rx ry h hs
 obtain⟨p,xs,i,z,rfl,rfl,hq,he,q⟩:=h
 cases rx
 obtain⟨t,rfl⟩:=ry
 obtain⟨its,r,pl,hz⟩:=I.tuple hq
 obtain⟨j,h1,h2,h3,h4,h5⟩:=rB he
 obtain⟨w,ew,rw'⟩:=r.get h2
 have hl:=r.length
 have hn:=jG
 have fin:EP X pins σ Q w s:=⟨z,H,I,rw',q⟩
 exact subscriptTail_builtinR (x:=w) pl.typeIs slot_tuple_getitem.lookup
  (getItem_tuple (j:=j) (Q:=λr s'=>r=w/\EP X pins σ Q r s') pl (by omega) (by omega) (by rw[List.size_toArray,<-hl];exact h1) (by simpa using ew) ⟨rfl,fin⟩) hs
theorem aFt:IxR X aHZ:=by
 intro value slice pins s σ H x y v u Q I rx ry h hs
 obtain⟨z,i,c,rfl,rfl,hz,he,q⟩:=h
 obtain⟨t,rfl⟩:=rx
 obtain⟨t',rfl⟩:=ry
 obtain⟨j,h1,h2,h3,h4,h5⟩:=rB he
 have hl:z.cps.toList.length=z.length:=by simp[Str.length]
 rw[hl] at h1 h4 h5
 have hn:=jG
 exact tail_any (typeIs_str s z t) slot_str_getitem.lookup (getItem_str (c:=c) (by
  have e1:decide (i < -(2 ^ 63:Int))=false:=decide_eq_false (by omega)
  have e2:decide (i ≥ 2 ^ 63)=false:=decide_eq_false (by omega)
  rw[e1,e2,Bool.or_false]) (by rw[h1];simpa using h2) ⟨.str ⟨#[c]⟩,H,I.tok _,⟨_,rfl⟩,q⟩) hs
def rIx(K:PySem.W.Frag):R2:=λx y H Q=>aHX K x y H Q\/aHY K x y H Q\/aHZ x y H Q
theorem vZ:IxR X (rIx X.K):=yA.or (aFs.or aFt)
theorem wB(its:List Value)(n j:Nat)(u:Value):Obj.mapSeq (·.setIfInBounds j u) { cls:=.type "list",data:=.seq its.toArray n }={ cls:=.type "list",data:=.seq (its.set j u).toArray n }:=by
 simp[Obj.mapSeq]
theorem Inv.lst{pins:List (Addr×Obj)}{σ:St}{H:Hp}{s:Shared}{p:Addr}{xs:List V}(I:Inv X pins σ H s)(h:H p=some (.lst xs)) :
 ∃(its:List Value) (n:Nat),aU xs its/\s.heap.get? p=some { cls:=.type "list",data:=.seq its.toArray n }/\xs.length<=sizeLine:=by
 obtain⟨z,its,n,r,e⟩:=I.hok p _ h
 exact⟨its,n,r,e,z⟩
theorem Inv.lstUpd{pins:List (Addr×Obj)}{σ:St}{H:Hp}{s:Shared}{p:Addr}{xs ys:List V}{its its':List Value}{n n':Nat}{f:Obj->Obj}(I:Inv X pins σ H s)(h:H p=some (.lst xs))
 (ho:s.heap.get? p=some { cls:=.type "list",data:=.seq its.toArray n }) (hf:f { cls:=.type "list",data:=.seq its.toArray n }={ cls:=.type "list",data:=.seq its'.toArray n' }) (r:aU ys its') (hz:ys.length<=sizeLine) (t:Nat) :
 Inv X pins σ (upd H p (.lst ys)) { s with heap:=s.heap.update p f,toks:=t }:=by
 have e:(s.heap.update p f).get? p=some { cls:=.type "list",data:=.seq its'.toArray n' }:=by
  rw[Heap.get?_update_self f ho (by rw[hf] <;> rfl),hf]
 refine I.write (x:=p) (e:=p) (by rw[h];trivial) (.inl rfl) (λb u hb q=>(Heap.get?_update_other _ _ (Ne.symm hb)).trans q) ⟨_,e⟩ ?_
 exact⟨hz,its',n',r,e⟩
def aIa:V->V->V->Hp->(Hp->Prop)->Prop:=λo i v H Q=>∃p xs k j,o=.ref p/\i=.int k/\H p=some (.lst xs)/\ixN xs.length k=some j/\Q (upd H p (.lst (xs.set j v)))
theorem tF:aHF X aIa:=by
 intro pins s σ H o i v ov iv u Q I ro ri rv h
 obtain⟨p,xs,k,j,rfl,rfl,hp,hj,q⟩:=h
 cases ro
 obtain⟨t,rfl⟩:=ri
 obtain⟨its,n,r,ho,hz⟩:=I.lst hp
 obtain⟨h1,h2,h3,h4⟩:=xX hj
 have hl:=r.length
 have hn:=jG
 have I':Inv X pins σ (upd H p (.lst (xs.set j v))) { s with heap:=s.heap.update p (Obj.mapSeq (·.setIfInBounds j u)) }:=
  I.lstUpd hp ho (wB its n j u) (r.set rv j) (by rw[List.length_set];exact hz) s.toks
 by_cases h0:0<=k
 . have hk:k.toNat=j:=by
    rw[seqIndex_of h0 h4] at h1
    exact Option.some.inj h1
   exact PySem.W.ki_setAt ho h0 (by omega) (by rw[List.size_toArray,<-hl];exact h4) (by rw[hk];exact⟨_,I',q⟩)
 . have hk:(k+(its.toArray.size:Int)).toNat=j:=by
    rw[seqIndex_neg (by omega) h3] at h1
    rw[List.size_toArray,<-hl]
    exact Option.some.inj h1
   exact PySem.W.ki_setBack ho (by omega) (by rw[List.size_toArray,<-hl];exact h3) (by omega) (by rw[hk];exact⟨_,I',q⟩)
theorem rC(lo hi:Option Int)(n:Nat):(sliceBounds lo hi none n).1=((HT.sIx n 0 lo:Nat):Int)/\(sliceBounds lo hi none n).2.1=((HT.sIx n n hi:Nat):Int)/\(sliceBounds lo hi none n).2.2=1:=by
 refine⟨?_,?_,rfl⟩
 . cases lo with
   | none=>simp[sliceBounds,HT.sIx]
   | some i=>
    simp only[sliceBounds,HT.sIx,Option.getD_none,show(1:Int)>0 by decide,if_true]
    by_cases h:i<0
    . simp only[h,if_true] <;> omega
    . simp only[h,if_false] <;> omega
 . cases hi with
   | none=>simp[sliceBounds,HT.sIx]
   | some i=>
    simp only[sliceBounds,HT.sIx,Option.getD_none,show(1:Int)>0 by decide,if_true]
    by_cases h:i<0
    . simp only[h,if_true] <;> omega
    . simp only[h,if_false] <;> omega
theorem pG(its:List Value)(lo hi:Option Int):slicePick its.toArray lo hi none=((its.drop (HT.sIx its.length 0 lo)).take (HT.sIx its.length its.length hi-HT.sIx its.length 0 lo)).toArray:=by
 obtain⟨h1,h2,h3⟩:=rC lo hi its.toArray.size
 unfold slicePick
 rw[h1,h2,h3]
 simp only[sliceRange_one,pick_run,List.size_toArray] <;> rfl
def aBg(K:PySem.W.Frag):V->Option Int->Option Int->Hp->VK->Prop:=λx lo hi H Q=>∃a xs,x=.ref a/\SqL K H a xs/\∀p,H p=none->Q (.ref p) (upd H p (.lst (tE xs lo hi)))
theorem aDc:SlR X (aBg X.K):=by
 intro pins s σ H x v vl vu lo hi sl Q I rx hs pl pu h
 obtain⟨a,xs,rfl,hx,q⟩:=h
 cases rx
 obtain⟨its,r,ht,hz⟩:=I.list hx
 have hlen:=r.length
 refine⟨"list",_,slot_list_getitem.lookup,ht.isList.typeIs,?_⟩
 refine wpAny_getItem_list_slice ht.isList hs pl pu .none (by simp) ?_ (by rw[List.size_toArray] <;> omega)
 rw[pG,<-hlen]
 refine⟨.ref s.heap.objs.size,_,I.laid (t':=s.toks) (o:=.lst (tE xs lo hi)) (λb ob q=>Heap.get?_push_of_some _ q) (Nat.le_refl _) ?_,rfl,q _ (I.hok.fresh (Nat.le_refl _))⟩
 exact⟨Nat.le_trans (mH xs lo hi) hz,_,0,(r.drop (HT.sIx xs.length 0 lo)).take (HT.sIx xs.length xs.length hi-HT.sIx xs.length 0 lo),Heap.get?_push_size _ rfl⟩
theorem rD:OpR X (compareOp .NotIn) (λx y H Q=>∃i j,x=.str i/\y=.str j/\Q (.bl (!(!(Builtin.Str.occurrences j i 0 j.length 1).isEmpty))) H):=by
 intro pins s σ H x y v u Q I rx ry h
 obtain⟨i,j,rfl,rfl,q⟩:=h
 obtain⟨t,rfl⟩:=rx
 obtain⟨t',rfl⟩:=ry
 exact notIn_str ⟨.bl _,H,I,rfl,q⟩
theorem rE:fP X (.builtin "len") (λxs H Q=>∃p ys,xs=[.ref p]/\(SqL X.K H p ys\/SqT X.K H p ys)/\Q (.int ys.length) H):=by
 intro pins s σ H xs us Q I r h
 obtain⟨p,ys,rfl,hq,q⟩:=h
 obtain⟨u,rfl,rx⟩:=pO r
 cases rx
 have hn:=jG
 rcases hq with hq|hq
 . obtain⟨its,r',pl,hz⟩:=I.list hq
   have hlen:=r'.length
   exact Calls.call_len_list pl.isList (by simp only[List.size_toArray] <;> omega) ⟨.int ys.length,H,I.tok _,⟨s.toks+1,by rw[List.size_toArray,hlen]⟩,q⟩
 . obtain⟨its,r',pl,hz⟩:=I.tuple hq
   have hlen:=r'.length
   exact len_tuple pl (by simp only[List.size_toArray] <;> omega) ⟨.int ys.length,H,I.tok _,⟨s.toks+1,by rw[List.size_toArray,hlen]⟩,q⟩
theorem rF:fP X (.builtin "len") (λxs H Q=>∃z,xs=[.str z]/\z.length<=sizeLine/\Q (.int z.length) H):=by
 intro pins s σ H xs us Q I r h
 obtain⟨z,rfl,hz,q⟩:=h
 obtain⟨u,rfl,t,rfl⟩:=pO r
 have hn:=jG
 exact len_str (by omega) ⟨.int z.length,H,I.tok _,⟨_,rfl⟩,q⟩
theorem fP.or{f:Value}{r r':List V->Hp->VK->Prop}(h:fP X f r)(h':fP X f r'):fP X f (λxs H Q=>r xs H Q\/r' xs H Q):=by
 intro pins s σ H xs us Q I rs q
 rcases q with q|q
 . exact h pins s σ H xs us Q I rs q
 . exact h' pins s σ H xs us Q I rs q
theorem rG:fP X (.type "list") (λxs H Q=>∃p ys,xs=[.ref p]/\(SqL X.K H p ys\/SqT X.K H p ys)/\∀l,H l=none->Q (.ref l) (upd H l (.lst ys))):=by
 intro pins s σ H xs us Q I r h
 obtain⟨p,ys,rfl,hq,q⟩:=h
 obtain⟨u,rfl,rx⟩:=pO r
 cases rx
 have fin:∀(its:List Value),aU ys its->ys.length<=sizeLine->∀(h':Heap) (c':Nat),(∀b o',s.heap.get? b=some o'->h'.get? b=some o') ->
  h'.get? s.heap.objs.size=some { cls:=.type "list",dict:=none,data:=.seq its.toArray c',slots:=#[] }->EP X pins σ Q (.ref s.heap.objs.size) { s with heap:=h' }:=λits r' hz h' c' kp e=>
  ⟨.ref s.heap.objs.size,_,I.laid (t':=s.toks) kp (Nat.le_refl _) (show eA X.prog X.w _ h' _ (.lst ys) from⟨hz,its,c',r',e⟩),rfl,q _ (I.hok.fresh (Nat.le_refl _))⟩
 rcases hq with hq|hq
 . obtain⟨its,r',pl,hz⟩:=I.list hq
   have hlen:=r'.length
   obtain⟨o,ho,hc,n,hd⟩:=pl.isList
   exact call_list_seq p (.inl rfl) ho hc hd (λh' c' kp e=>fin its r' hz h' c' kp e) (by simp only[List.size_toArray] <;> omega)
 . obtain⟨its,r',pl,hz⟩:=I.tuple hq
   have hlen:=r'.length
   obtain⟨o,ho,hc,n,hd⟩:=pl
   exact call_list_seq p (.inr rfl) ho hc hd (λh' c' kp e=>fin its r' hz h' c' kp e) (by simp only[List.size_toArray] <;> omega)
theorem pH:fP X (.type "tuple") (λxs H Q=>∃p ys,xs=[.ref p]/\((SqL X.K H p ys/\∀l,H l=none->Q (.ref l) (upd H l (.tup ys)))\/(SqT X.K H p ys/\Q (.ref p) H))):=by
 intro pins s σ H xs us Q I r h
 obtain⟨p,ys,rfl,h⟩:=h
 obtain⟨u,rfl,rx⟩:=pO r
 cases rx
 rcases h with⟨hq,q⟩|⟨hq,q⟩
 . obtain⟨its,r',pl,hz⟩:=I.list hq
   have hlen:=r'.length
   refine call_tuple_list pl.isList (λh' kp=>?_) (by simp only[List.size_toArray] <;> omega)
   have I1:Inv X pins σ H { s with heap:=h' }:=I.kept (t':=s.toks) kp
   have I2:Inv X pins σ (upd H h'.objs.size (.tup ys)) { s with heap:=h'.push { cls:=.type "tuple",data:=.seq its.toArray } }:=
    I1.laid (t':=s.toks) (λb o e=>Heap.get?_push_of_some _ e) (Nat.le_refl _) (show eA X.prog X.w _ _ _ (.tup ys) from⟨hz,its,r',IsTup.new _ _⟩)
   exact⟨.ref h'.objs.size,_,I2,rfl,q _ (I1.hok.fresh (Nat.le_refl _))⟩
 . obtain⟨its,r',pl,hz⟩:=I.tuple hq
   exact call_tuple_same pl ⟨.ref p,H,I,rfl,q⟩
def tyV(K:PySem.W.Frag)(T:String)(x:V)(H:Hp):Prop:=match x with
 | .str _=>T = "str"
 | .int _=>T = "int"
 | .ref p=>(T = "list" /\ ∃xs,SqL K H p xs)\/(T = "tuple" /\ ∃o,K.lookup p=some o/\o.cls=.type "tuple" /\ o.dict=none) \/
  (T = "dict" /\ ((∃kvs,H p=some (.dK kvs))\/∃kvs,H p=some (.dT kvs)))\/(T = "set" /\ ∃S n,H p=some (.set S n))
 | _=>False
theorem aFu{pins:List (Addr×Obj)}{σ:St}{H:Hp}{s:Shared}{T:String}{x:V}{v:Value}(I:Inv X pins σ H s)(r:bP x v)(ty:tyV X.K T x H) :
 s.TypeIs v T/\∀a,v=.ref a->∃ob,s.heap.get? a=some ob/\ob.dict=none:=by
 cases x with
 | str z=>
  obtain⟨t,rfl⟩:=r
  cases(show T = "str" from ty)
  exact⟨typeIs_str s z t,λ_ e=>nomatch e⟩
 | int i=>
  obtain⟨t,rfl⟩:=r
  cases(show T = "int" from ty)
  exact⟨typeIs_int s i t,λ_ e=>nomatch e⟩
 | ref p=>
  cases r
  rcases ty with⟨rfl,xs,hq⟩|⟨rfl,o,hk,hc,hd⟩|⟨rfl,hk⟩|⟨rfl,S,n,hk⟩
  . obtain⟨its,_,pl,_⟩:=I.list hq
    refine⟨pl.isList.typeIs,λa e=>?_⟩
    cases e
    obtain⟨o,n,e,c,hd,_⟩:=pl
    exact⟨o,e,hd⟩
  . refine⟨⟨o,I.kIn p o hk,hc⟩,λa e=>?_⟩
    cases e
    exact⟨o,I.kIn _ o hk,hd⟩
  . have z:∃o,s.heap.get? p=some o/\o.ExactDict:=by
     rcases hk with⟨kvs,hk⟩|⟨kvs,hk⟩
     . obtain⟨_,_,_,_,o,_,_,e,ex,_⟩:=I.hok p _ hk
       exact⟨o,e,ex⟩
     . obtain⟨_,_,_,_,o,_,_,e,ex,_⟩:=I.hok p _ hk
       exact⟨o,e,ex⟩
    obtain⟨o,e,ex⟩:=z
    refine⟨⟨o,e,ex.1⟩,λa e2=>?_⟩
    cases e2
    exact⟨o,e,ex.2.1⟩
  . obtain⟨o,_,_,_,e,ex,_⟩:=I.hok p _ hk
    refine⟨⟨o,e,ex.1⟩,λa e2=>?_⟩
    cases e2
    exact⟨o,e,ex.2.1⟩
 | _=>exact False.elim ty
def tBM(K:PySem.W.Frag)(T:String)(r:V->List V->Hp->VK->Prop)(to:TE)(t:TA):TE:=λσ H Q=>to σ H λx H1=>tyV K T x H1/\t σ H1 λxs H2=>r x xs H2 Q
variable {o e:Expr} {es:List Expr} {to:TE} {t:TA} {name:Str} {apos cpos:Pos} {T id:String} {r:V->List V->Hp->VK->Prop}
theorem tG(pa:PlainAttrs T)(slot:Slot T name id)(hty:typeOf (.builtin id)=pure (.type "method_descriptor"))(hm:MtR X id r)(ho:PE X o to)(ha:PA X (e::es) t)
 (hbase:attributeBase o name X.env (eval o X.env)=eval o X.env:=by rfl)
 (hfew:((backTo cpos (starEach (e::es) X.env)).all (λx=>!x.1)&&(backToKw cpos (keywordEach [] X.env)).all (λx=>x.1.isSome)
  && decide ((e::es).length+([]:List Keyword).length+(if ([]:List Keyword).isEmpty then 0 else 1)<30))=true:=by rfl)
 (hline:(apos.endLine==cpos.line)=true:=by rfl) (hs:starEach (e::es) X.env=(false,eval e X.env)::starEach es X.env:=by rfl) (hplain:(backTo cpos (starEach es X.env)).any (·.1)=false:=by rfl) :
 PE X (.Call (.Attribute o name apos) (e::es) [] cpos) (tBM X.K T r to t):=by
 intro pins s σ H Q I h
 refine wpAny_Call_method_late hbase hfew hline rfl (thn (ho pins s σ H _ I h) λv s1 ⟨x,H1,I1,r1,ty,q1⟩=>?_)
 obtain⟨h1,h2⟩:=aFu I1 r1 ty
 refine⟨T,id,pa,slot,hty,h1,h2,?_⟩
 have hA:=ha cpos pins s1 σ H1 _ I1 q1
 rw[hs] at hA ⊢
 refine Calls.callWith_builtin (by show(false||(backTo cpos (starEach es X.env)).any (·.1))=false;rw[hplain] <;> rfl) (Calls.evalArgs_plain ?_)
 exact thn hA λus s2 ⟨vs,H2,I2,r2,q2⟩=>hm pins s2 σ H2 x vs v us Q I2 r1 r2 q2
end
end L2
namespace L2
open PySem PySem.Spec PyProof.Rows
def MtM(X:Cx)(id:String)(r:V->List V->Hp->VK->Prop):Prop:=
 ∀(pins:List (Addr×Obj)) (s:Shared) (σ:St) (H:Hp) (x:V) (xs:List V) (v:Value) (us:List Value) (Q:VK),Inv X pins σ H s->bP x v->aU xs us->r x xs H Q ->
  wpAny (model X.prog X.w) X.A (call (.builtin id) (v::us)) (EP X pins σ Q) X.xe s
theorem aU.one:∀{x:V} {us:List Value},aU [x] us->∃u,us=[u]/\bP x u:=by
 intro x us h
 cases h with|cons r t=>cases t;exact⟨_,rfl,r⟩
theorem aU.zero:∀{us:List Value},aU [] us->us=[]
 | _,.nil=>rfl
theorem aU.eraseIdx:∀{xs:List V} {us:List Value} (i:Nat),aU xs us->aU (xs.eraseIdx i) (us.eraseIdx i)
 | _,_,_,.nil=>.nil
 | _,_,0,.cons _ t=>t
 | _,_,i+1,.cons r t=>.cons r (aU.eraseIdx i t)
theorem aU.reverse{xs:List V}{us:List Value}(h:aU xs us):aU xs.reverse us.reverse:=by
 induction h with
 | nil=>exact .nil
 | cons r t ih=>rw[List.reverse_cons,List.reverse_cons];exact aU.append ih (.cons r .nil)
theorem aU.rep{xs:List V}{us:List Value}(h:aU xs us):∀k:Nat,aU (List.replicate k xs).flatten (List.replicate k us).flatten
 | 0=>.nil
 | k+1=>by
  rw[List.replicate_succ,List.replicate_succ,List.flatten_cons,List.flatten_cons]
  exact aU.append h (aU.rep h k)
theorem pT(its:List Value):∀(k:Nat) (acc:List Value),
 List.foldl (λx1 x2=>x1++x2) acc.toArray (List.replicate k its.toArray)=(acc++(List.replicate k its).flatten).toArray
 | 0,acc=>by simp
 | k+1,acc=>by
  have e:acc.toArray++its.toArray=(acc++its).toArray:=by simp
  have e2:(acc++its)++(List.replicate k its).flatten=acc++(List.replicate (k+1) its).flatten:=by
   rw[List.replicate_succ,List.flatten_cons,List.append_assoc]
  rw[<-e2,<-pT its k (acc++its),<-e,List.replicate_succ,List.foldl_cons]
section
variable {X:Cx} {pins:List (Addr×Obj)} {σ:St} {H:Hp} {s:Shared} {l b:Addr} {xs ys zs:List V}
theorem Inv.lset{its its':List Value}{n:Nat}{f:Array Value->Array Value}{t':Nat}(I:Inv X pins σ H s)(hH:H l=some (.lst xs))
 (e:s.heap.get? l=some { cls:=.type "list",data:=.seq its.toArray n }) (hf:f its.toArray=its'.toArray) (hv:aU ys its') (hz:ys.length<=sizeLine) :
 Inv X pins σ (upd H l (.lst ys)) { s with heap:=s.heap.update l (Obj.mapSeq f),toks:=t' }:=by
 have q:=PySem.IsL.update e f
 rw[hf] at q
 refine I.write (x:=l) (e:=l) (by rw[hH];exact trivial) (.inl rfl) (λb' u hb hu=>(Heap.get?_update_other s.heap (Obj.mapSeq f) (Ne.symm hb)).trans hu) ⟨_,q⟩ ?_
 exact⟨hz,its',_,hv,q⟩
theorem Inv.lnew{its:List Value}{t':Nat}(I:Inv X pins σ H s)(hv:aU ys its)(hz:ys.length<=sizeLine) :
 Inv X pins σ (upd H s.heap.objs.size (.lst ys)) { s with heap:=s.heap.push { cls:=.type "list",data:=.seq its.toArray },toks:=t' }:=
 I.laid (λ_ _ q=>Heap.get?_push_of_some _ q) (Nat.le_refl _) ⟨hz,its,0,hv,Heap.get?_push_size _ rfl⟩
theorem Inv.fresh(I:Inv X pins σ H s):H s.heap.objs.size=none:=I.hok.fresh (Nat.le_refl _)
theorem Inv.lstM(I:Inv X pins σ H s)(hH:H l=some (.lst xs)):xs.length<=sizeLine/\∃(its:List Value) (n:Nat),aU xs its/\xs.length=its.length/\s.heap.get? l=some { cls:=.type "list",data:=.seq its.toArray n }:=by
 obtain⟨z,its,n,r,e⟩:=I.hok l _ hH
 exact⟨z,its,n,r,r.length,e⟩
theorem tH{n:Nat}(h:n<=sizeLine):Builtin.List.listTooLong n=false:=by
 unfold Builtin.List.listTooLong
 exact decide_eq_false (by omega)
end
section
variable {X:Cx}
def aDd:V->List V->Hp->VK->Prop:=λx vs H Q=>∃l xs y,x=.ref l/\vs=[y]/\H l=some (.lst xs)/\xs.length<sizeLine/\Q .non (upd H l (.lst (xs++[y])))
theorem iP:MtM X "list.append" aDd:=by
 intro pins s σ H x vs v us Q I rx rv h
 obtain⟨l,xs,y,rfl,rfl,hH,hz,q⟩:=h
 cases rx
 obtain⟨u,rfl,ru⟩:=rv.one
 obtain⟨z,its,n,r,hl,e⟩:=I.lstM hH
 refine call_meets F.slot_list_append ⟨_,e,rfl⟩ F.entry_list_append (F.args_list_append_2 _ _) (PySem.list_append l its.toArray n u (by rw[List.size_toArray];omega)) ⟨e,?_⟩
 refine⟨.non,_,I.lset (its':=its++[u]) hH e (by simp) (r.append (.cons ru .nil)) ?_,rfl,q⟩
 rw[List.length_append,List.length_singleton]
 omega
def aDe:V->List V->Hp->VK->Prop:=λx vs H Q=>∃l b xs zs,x=.ref l/\vs=[.ref b]/\H l=some (.lst xs)/\H b=some (.lst zs)/\xs.length+zs.length<=sizeLine/\Q .non (upd H l (.lst (xs++zs)))
theorem aAb:MtM X "list.extend" aDe:=by
 intro pins s σ H x vs v us Q I rx rv h
 obtain⟨l,b,xs,zs,rfl,rfl,hH,hB,hz,q⟩:=h
 cases rx
 obtain⟨u,rfl,ru⟩:=rv.one
 cases ru
 obtain⟨z,its,n,r,hl,e⟩:=I.lstM hH
 obtain⟨z2,its2,n2,r2,hl2,e2⟩:=I.lstM hB
 have hsz:its.toArray.size+its2.toArray.size<=sizeLine:=by rw[List.size_toArray,List.size_toArray];omega
 have hlong:¬ (!its.toArray.isEmpty&&Builtin.List.listTooLong (its.toArray.size+its2.toArray.size))=true:=by
  rw[tH hsz,Bool.and_false]
  exact Bool.false_ne_true
 refine call_meets F.slot_list_extend ⟨_,e,rfl⟩ F.entry_list_extend (F.args_list_extend_2 _ _)
  (AutoSeq1.list_extend_list_list_0 l its.toArray n b its2.toArray n2 hlong (by rw[List.size_toArray];omega) (by omega)) ⟨e,e2,?_⟩
 refine⟨.non,_,I.lset (its':=its++its2) hH e (by simp) (r.append r2) ?_,rfl,q⟩
 rw[List.length_append]
 omega
def aKD:R2:=λx y H Q=>∃l k xs,x=.ref l/\y=.int k/\H l=some (.lst xs)/\-(2 ^ 63)<=k/\k<2 ^ 63/\xs.length*k.toNat<=sizeLine /\
 ∀p,H p=none->Q (.ref p) (upd H p (.lst (List.replicate k.toNat xs).flatten))
theorem aDf{α:Type}(xs:List α)(k:Nat):(List.replicate k xs).flatten.length=k*xs.length:=by
 induction k with
 | zero=>simp
 | succ k ih=>rw[List.replicate_succ,List.flatten_cons,List.length_append,ih,Nat.succ_mul,Nat.add_comm]
theorem aFv:OpR X (binaryOp .Mult) aKD:=by
 intro pins s σ H x y v u Q I rx ry h
 obtain⟨l,k,xs,rfl,rfl,hH,h1,h2,hz,q⟩:=h
 cases rx
 obtain⟨t,rfl⟩:=ry
 obtain⟨z,its,n,r,hl,e⟩:=I.lstM hH
 have hlen:its.toArray.size*k.toNat<=sizeLine:=by rw[List.size_toArray,<-hl];exact hz
 have hcap:¬ its.toArray.size*k.toNat>(2 ^ 63-1) / 8:=by
  have:(sizeLine:Nat)<=(2 ^ 63-1) / 8:=by decide
  omega
 have hfit:¬ (!Builtin.List.listFitsIndex k)=true:=by
  rw[fitsIndex_both h1 h2]
  exact Bool.false_ne_true
 have hlong:¬ Builtin.List.listTooLong (its.toArray.size*k.toNat)=true:=by
  rw[tH hlen]
  exact Bool.false_ne_true
 have hnew:List.foldl (λx1 x2=>x1++x2) #[] (List.replicate (if its.toArray.isEmpty=true then 0 else k.toNat) its.toArray)=(List.replicate k.toNat its).flatten.toArray:=by
  have f0:∀m:Nat,List.foldl (λx1 x2=>x1++x2) #[] (List.replicate m its.toArray)=(List.replicate m its).flatten.toArray:=λm=>by
   have:=pT its m []
   rw[List.nil_append] at this
   exact this
  rw[f0]
  cases its with
  | nil=>simp
  | cons a r'=>rw[if_neg (by simp)]
 refine wpAny_binaryOp_repeat_ref (T:= "list") (U:= "int") (by decide) ⟨_,e,rfl⟩ (λs'=>typeIs_int s' k t) noFill_list_mul F.fills_int_mul F.slot_int_rmul repeat_list F.slot_int_index.lookup
  (call_meets F.slot_int_rmul (typeIs_int s k t) F.entry_int_rmul (F.args_int_rmul_2 _ _) (int___rmul___int_list k t l its.toArray n)
   ⟨e,rfl,⟨_,e,rfl⟩,call_meets F.slot_list_mul ⟨_,e,rfl⟩ F.entry_list_mul (F.args_list_mul_2 _ _) (AutoListH.list___mul___list_int_3 l its.toArray n k t hfit hcap hlong) ⟨e,?_⟩⟩)
 rw[hnew]
 exact⟨.ref _,_,I.lnew (t':=s.toks) (r.rep k.toNat) (by rw[aDf,Nat.mul_comm];exact hz),rfl,q _ I.fresh⟩
end
section
variable {prog:Program} {w:World} {A:Around} {E:Value->Shared->Prop} {s:Shared}
end
section
variable {X:Cx}
end
end L2
namespace Att
open PySem PySem.W PySem.Calls PyProof.Rows
theorem mX{P:Params}{h:Heap}:∀(ns:List Int) (vs:List Value),WellAll P h vs (ns.map WData.int)->IntsAre vs ns:=by
 intro ns
 induction ns with
 | nil=>
  intro vs w
  rw[List.map_nil] at w
  cases w
  exact .nil
 | cons n ns ih=>
  intro vs w
  rw[List.map_cons] at w
  cases w with
  | cons a b=>
   cases a
   exact .cons _ _ (ih _ b)
theorem aAc{l:OpenLaw}{n:Nat}(hn:l.most=some n){P:Params}{h:Heap}{args:List WData}{vals:List Value}
 (hpre:l.row.toRowW.claim.pre args=true) (hwl:WellAll P h vals args) :
 ∃a vs ns,vals=[Value.ref a]/\args=[WData.list (ns.map WData.int)]/\h.get? a=some { cls:=.type "list",data:=.seq vs.toArray }/\IntsAre vs ns/\ns.length<=n:=by
 have hsh:WShape.hasAll [] args [.list .int]=true:=(pre_splitW hpre).1
 have hc:l.pre.holds [] { args:=args }=true:=(pre_splitW hpre).2
 obtain⟨d,r,rfl,h1,h2⟩:=hasAllW_cons hsh
 obtain rfl:=hasAllW_nil h2
 obtain⟨xs,rfl,h3⟩:=hasW_list h1
 obtain⟨ns,rfl⟩:=items_int h3
 have hlen:ns.length<=n:=by
  unfold OpenLaw.pre at hc
  have h4:(WTm.not (.lt (.lit (.int (n:Int))) (.len (.arg 0)))).holds [] { args:=[.list (ns.map .int)] }=true:=by
   have h4:=(holds_andW hc).1
   rw[hn] at h4
   exact h4
  have h5:=condW_of h4 (w_not (w_lt w_lit (w_len_list (w_arg rfl))))
  rw[List.length_map] at h5
  refine Nat.le_of_not_lt λq=>?_
  have q':(n:Int)<((ns.length:Nat):Int):=by omega
  first
   | (rw[decide_eq_true q'] at h5;exact absurd h5 (by decide))
   | (simp at h5;omega)
 cases hwl with
 | cons w1 w2=>
  cases w2
  cases w1 with
  | list ho hall=>exact⟨_,_,ns,rfl,rfl,ho,mX ns _ hall,hlen⟩
theorem aAd(l:OpenLaw)(args:List WData):l.row.toRowW.claim.post args (.bool true) args=true:=
 postW_of (r:=l.row.toRowW) (X:=(true==true))
  (show WShape.has [] (.bool true) .bool=true by first|rfl|decide|simp[WShape.has,WShape.arms,WShape.armsAll])
  (show(WTm.eq .res (.lit (.bool true))).value [] { args:=args,res:=some (.bool true),after:=args }=some (.bool (true==true)) from w_eq_bool (w_res rfl) w_lit) rfl
theorem attach_call{l:OpenLaw}{n:Nat}{q:Program}{loose:List Str}{XP:(Str->Option Value)->Heap->Prop}{YP:World->Heap->Prop}{d:DefRec}
 (hn:l.most=some n) (hdf:d.params.defaults=[])
 (call:∀(w:World) (s₀ s₁:Shared) (mg mb:Str->Option Value) (fa:Addr) (o:Obj) (pm cd doc:Value) (a:Addr) (vs:List Value) (ns:List Int),
  Ground q loose [] XP w s₀ mg mb s₁.heap->YP w s₁.heap ->
  s₁.heap.get? fa=some o->o.data=.func (docDef d.name d.params d.body d.scope pm cd doc)->s₁.heap.CodeRec cd d.name->mg d.name=some (.ref fa) ->
  s₁.heap.get? a=some { cls:=.type "list",data:=.seq vs.toArray }->IntsAre vs ns->ns.length<=n->s₁.gens=#[] ->
  codeAny (model l.prog w) callerA (.call (.ref fa) ⟨[.ref a],[]⟩) (λr s'=>r=.ok (.ret (.bool true))/\OldK s₁.heap s'.heap/\s'.os=s₁.os/\AllBare s'.gens) s₁) :
 WalkO q loose XP YP l.row.toRowW d [] (λf vs=>PySem.call f vs):=by
 intro w s₀ s₁ mg mb G Y fa o pm cd doc dV kV ho hd hcd hD hmg hg args vals as hpre hlay hrd hwl hlo
 obtain rfl:dV=.none:=Dflts.none hD hdf
 obtain rfl:kV=.none:=Dflts.noKw hD
 obtain⟨a,vs,ns,rfl,rfl,hobj,hints,hlen⟩:=aAc hn hpre hwl
 refine enter_call (codeAny_mono (call w s₀ s₁ mg mb fa o pm cd doc a vs ns G Y ho (fd_plain hd) hcd hmg hobj hints hlen hg) λr s' hq=>?_)
 obtain⟨rfl,h2,h3,h4⟩:=hq
 exact⟨.inl ⟨.bool true,.bool true,[],rfl,λ_=>rfl,.bool true,aAd l _,λ_=>⟨List.Pairwise.nil,λ_ hm=>(nomatch hm)⟩⟩,h2,h3,h4⟩
section
variable {prog:Program} {w:World} {A:Around} {E:Value->Shared->Prop} {s:Shared} {K:Frag}
end
end Att
namespace L2
open PySem PySem.Spec PyProof.Rows
theorem pU:∀{vs:List Value} {ns:List Int},IntsAre vs ns->aU (ns.map V.int) vs
 | _,_,.nil=>.nil
 | _,_,.cons n t h=>.cons ⟨t,rfl⟩ (pU h)
def aDg(H:Hp):Prop:=∀b,H b=none\/∃o xs,H b=some (.frz o (.lst xs))
theorem aBh{P:Program}{w:World}{K:PySem.W.Frag}{mg mb:Str->Option Value}{CX:CXT}{k:Nat}{fa a:Addr}{fd:FuncData}{x:Str}{sp:Sp}{s₁:Shared}{vs:List Value}{ns:List Int}
 (KX:K.In s₁.heap) (hns:s₁.heap.Ns mainGlobals mg) (hb:s₁.heap.Ns builtinsNs mb) (hbb:∀x:Str,x ≠ "__name__" -> mb x=bootBuiltins x) (hlim:s₁.heap.NoLimit) (hg:s₁.gens=#[])
 (ha:s₁.heap.get? a=some { cls:=.type "list",data:=.seq vs.toArray }) (hi:IntsAre vs ns) (hl:ns.length<=sizeLine) (hr:jH k callerA)
 (F:∀base:Heap,K.In base->base.Ns mainGlobals mg->mW P w K mg base CX k fa fd [x] sp) (hbind:∀(s:Shared) (u:Value),BindsTo s fd ⟨[u],[]⟩ [(x,u)])
 (hsp:∀H:Hp,aDg H->SqL K H a (ns.map V.int)->sp [.ref a] H (λv _=>v=.bl true) λ_ _ _=>False)
 (hCX:∀H e s',CX [] H s₁ (λ_ _ _=>False) e s'->False) :
 codeAny (model P w) callerA (.call (.ref fa) ⟨[.ref a],[]⟩) (λr s'=>r=.ok (.ret (.bool true))/\OldK s₁.heap s'.heap/\s'.os=s₁.os/\AllBare s'.gens) s₁:=by
 have rv:=pU hi
 have lenV:=hi.length
 have core:∀H:Hp,aDg H->SqL K H a (ns.map V.int)->HOk P w H s₁.heap->(∀b,H b≠none->b=a)->(H a≠none->K.lookup a=none) ->
  codeAny (model P w) callerA (.call (.ref fa) ⟨[.ref a],[]⟩) (λr s'=>r=.ok (.ret (.bool true))/\OldK s₁.heap s'.heap/\s'.os=s₁.os/\AllBare s'.gens) s₁:=by
  intro H hO hS hok hA hK
  have base_of:∀{b:Addr} {o:Obj},s₁.heap.get? b=some o->H b=none->(qT s₁.heap H).get? b=some o:=λe n=>aAL e n
  have noA:∀{b:Addr} {o:Obj} {es:Array DictEntry} {ep:Nat},s₁.heap.get? b=some o->o.data=.dict es ep->H b=none:=λ{b o es ep} e d=>by
   cases q:H b with
   | none=>rfl
   | some u=>
    have e':b=a:=hA b (by rw[q];simp)
    subst e'
    rw[ha] at e;cases e
    have d':Data.seq vs.toArray _=Data.dict es ep:=d
    cases d'
  have nsK:∀{b:Addr} {m:Str->Option Value},s₁.heap.Ns b m->(qT s₁.heap H).Ns b m:=λ{b m} ⟨o,es,ep,e,d,r⟩=>⟨o,es,ep,base_of e (noA e d),d,r⟩
  have hKb:K.In (qT s₁.heap H):=λb o e=>base_of (KX b o e) (by
   cases q:H b with
   | none=>rfl
   | some u=>
    have e':b=a:=hA b (by rw[q];simp)
    subst e'
    rw[hK (by rw[q];simp)] at e;cases e)
  have hM:Mod K mg (qT s₁.heap H):=⟨hKb,nsK hns,⟨mb,nsK hb,hbb⟩,let ⟨mc,h1,h2⟩:=hlim;⟨mc,nsK h1,h2⟩⟩
  have e0:aCX P w K mg (qT s₁.heap H) callerA [] s₁ H:=⟨rfl,hM,λb o e=>aCM e,Nat.le_of_eq (zU _ _),trivial,λb hb=>absurd (show b∈([]:List Addr) from hb) (by simp),hok,.of_eq hg⟩
  refine codeAny_mono ((F _ hKb (nsK hns)).run callerA [] s₁ H ⟨[.ref a],[]⟩ [.ref a] [.ref a] _ _ hr e0 (hbind s₁ (.ref a)) (.cons rfl .nil) (hsp H hO hS)) λr s' h=>?_
  cases r with
  | error e=>exact(hCX H e s' h).elim
  | ok fl=>
   cases fl with
   | next=>exact False.elim h
   | brk=>exact False.elim h
   | cont=>exact False.elim h
   | ret u=>
    obtain⟨v,H',os,bare,un,hok',r',q⟩:=h
    have q':v=.bl true:=q
    subst q'
    obtain rfl:u=Value.bool true:=r'
    refine⟨rfl,OldK.of_keep λb o e=>?_,os,bare⟩
    cases q:H b with
    | none=>exact un.keep b o e q (by intro z;exact absurd (show b∈([]:List Addr) from z) (by simp)) (by simp)
    | some u=>
     rcases hO b with z|⟨ob,xs,z⟩
     . rw[q] at z;cases z
     . have z2:=un.frzs b ob _ z
       obtain⟨e1,_⟩:=hok b _ z
       obtain⟨e2,_⟩:=hok' b _ z2
       rw[e] at e1;cases e1
       exact e2
 cases hk:K.lookup a with
 | some o=>
  have e:=KX a o hk
  rw[ha] at e
  cases e
  refine core (λ_=>none) (λ_=>.inl rfl) (.inr ⟨_,vs.toArray,_,hk,rfl,rfl,rfl,by rw[List.size_toArray,lenV];exact hl,by simpa using rv⟩) (λb u z=>by have z':(none:Option HO)=some u:=z;cases z') (λb z=>absurd rfl z) λz=>absurd rfl z
 | none=>
  refine core (λb=>if b=a then some (.frz { cls:=.type "list",data:=.seq vs.toArray } (.lst (ns.map V.int))) else none) (λb=>?_) (.inl (.inr ⟨{ cls:=.type "list",data:=.seq vs.toArray },if_pos rfl⟩)) (λb u z=>?_) (λb z=>?_) λ_=>hk
  . by_cases hb:b=a
    . exact .inr ⟨_,_,if_pos hb⟩
    . exact .inl (if_neg hb)
  . by_cases hb:b=a
    . have z':=(if_pos hb).symm.trans z
      cases z'
      subst hb
      exact⟨ha,by rw[List.length_map];exact hl,vs,_,rv,ha⟩
    . have z':=(if_neg hb).symm.trans z
      cases z'
  . by_cases hb:b=a
    . exact hb
    . exact absurd (if_neg hb) z
end L2
namespace L2
open PySem PySem.Spec PyProof.Rows
end L2
namespace L2
open PySem PySem.Spec PyProof.Rows
def iQ(s:Stmt):Arguments:=match s with
 | .FunctionDef _ a _ _ _ _ _ _ _ _=>a
 | _=>{ posonlyargs:=[],args:=[],vararg:=none,kwonlyargs:=[],kw_defaults:=[],kwarg:=none,defaults:=[] }
def iR(s:Stmt):List Stmt:=match s with
 | .FunctionDef _ _ b _ _ _ _ _ _ _=>b
 | _=>[]
def bS(s:Stmt):Scope:=match s with
 | .FunctionDef _ _ _ _ _ _ sc _ _ _=>sc
 | _=>{ kind:=.function,names:=[],isGenerator:=false,isCoroutine:=false }
abbrev CX0:CXT:=λ_ _ _ _ _ _=>False
abbrev E0:XK:=λ_ _ _=>False
theorem yB{X:Cx}:qZ CX0 X E0:=λ_ _ _ _ _ _ _ h=>h.elim
structure Fun (K:PySem.W.Frag) (x qual:Str) (st:Stmt) (f:Addr) (fd:FuncData):Prop where
 ex:∃(oc:Value) (od:Option Addr) (kV doc pm:Value) (an:Option Addr) (cdv ct:Value) (osl:Array (Option Value)),
  fd=PySem.W.fnOf x qual (iQ st) (iR st) (bS st) .none kV doc pm an cdv ct/\K.lookup f=some ⟨oc,od,.func fd,osl⟩/\PySem.W.codeIn K cdv qual=true
 kp:PySem.W.keepIn K (.ref f)=true
section
variable {P:Program} {w:World} {K:PySem.W.Frag} {mg:Str->Option Value} {base:Heap}
theorem Fun.ok{x qual:Str}{st:Stmt}{f:Addr}{fd:FuncData}{N ps:List Str}{k:Nat}{sp:Sp}(F:Fun K x qual st f fd)(S:nB N ps (bS st))(len:∀vs H Q E,sp vs H Q E->vs.length=ps.length)
 (hbody:∀(cdv:Value) (A:Around) (outer:List Env) (s:Shared) (H:Hp) (vs:List V) (Q:VK) (E:XK),jH k (A.deeper (envOfC qual (bS st) s.heap.objs.size f cdv))->sp vs H Q E ->
  ∃t,PSs (vW CX0 P w K mg base N qual (bS st) f cdv A outer s H E).nox (iR st) t/\t { nx:=λ_ H'=>Q .non H',rt:=Q } (start N vs) H):mW P w K mg base CX0 (k+1) f fd ps sp:=by
 obtain⟨oc,od,kV,doc,pm,an,cdv,ct,osl,rfl,lk,hcd⟩:=F.ex
 refine aHU lk hcd S len λA outer s H vs Q E hr hsp=>?_
 obtain⟨t,h,q⟩:=hbody cdv A outer s H vs Q E hr hsp
 exact⟨t,h.nox,q⟩
theorem Fun.binds{x qual:Str}{st:Stmt}{f:Addr}{fd:FuncData}{ps:List Str}(F:Fun K x qual st f fd)
 (h:∀(kV doc pm:Value) (an:Option Addr) (cdv ct:Value) (us:List Value),us.length=ps.length->bindArgs (PySem.W.fnOf x qual (iQ st) (iR st) (bS st) .none kV doc pm an cdv ct) ⟨us,[]⟩=pure (ps.zip us)):jE K fd ps []:=by
 obtain⟨oc,od,kV,doc,pm,an,cdv,ct,osl,rfl,lk,hcd⟩:=F.ex
 exact .all (h kV doc pm an cdv ct)
end
section
variable {X:Cx}
end
theorem aIb{A B:Prop}(h:B):if false=true then A else B:=by
 rw[if_neg Bool.false_ne_true]
 exact h
theorem aKE{A B:Prop}(h:A):if true=true then A else B:=by
 rw[if_pos rfl]
 exact h
def aL(H H':Hp):Prop:=∀b o,H b=some o->H' b=some o
theorem aL.refl(H:Hp):aL H H:=λ_ _ h=>h
theorem aL.trans{H H1 H2:Hp}(a:aL H H1)(b:aL H1 H2):aL H H2:=λc o h=>b c o (a c o h)
theorem aL.free{H H':Hp}(e:aL H H'){l:Addr}(h:H' l=Option.none):H l=Option.none:=by
 cases q:H l with
 | none=>rfl
 | some o=>
  rw[e l o q] at h
  cases h
theorem aL.seq{K:PySem.W.Frag}{H H':Hp}{a:Addr}{xs:List V}(e:aL H H')(h:SqL K H a xs):SqL K H' a xs:=by
 rcases h with(h|⟨o,h⟩)|h
 . exact .inl (.inl (e _ _ h))
 . exact .inl (.inr ⟨o,e _ _ h⟩)
 . exact .inr h
end L2
end
noncomputable section
namespace L2
open PySem PySem.Spec PyProof.Rows PySem.SeqAt
end L2
end
noncomputable section
namespace Hp
open PySem (Str Operator CmpOp)
inductive D where
 | non|bl (b:Bool)|int (i:Int)|str (x:Str)
 | tup (ds:List D)|lst (ds:List D)
 | dic (kvs:List (D×D))
 | err (c:Nat) (fs:List D)
 deriving Inhabited
mutual
def noL:D->Bool
 | .tup ds=>noLs ds
 | .lst _=>false
 | .dic _=>false
 | .err _ _=>false
 | _=>true
def noLs:List D->Bool
 | []=>true
 | d::ds=>noL d&&noLs ds
end
mutual
def aIc:D->Bool
 | .tup ds=>noDics ds
 | .lst ds=>noDics ds
 | .dic _=>false
 | _=>true
def noDics:List D->Bool
 | []=>true
 | d::ds=>aIc d&&noDics ds
end
def lim:Nat:=1000000
def b2i(b:Bool):Int:=if b then 1 else 0
def eqL(f:D->D->Option Bool):List D->List D->Option Bool
 | [],[]=>some true
 | a::as,b::bs=>match f a b,eqL f as bs with
  | some x,some y=>some (x&&y)
  | _,_=>none
 | _,_=>some false
def eqF:Nat->D->D->Option Bool
 | 0,_,_=>none
 | n+1,a,b=>match a,b with
  | .non,.non=>some true
  | .bl a,.bl b=>some (a==b)
  | .int a,.int b=>some (a==b)
  | .str a,.str b=>some (a==b)
  | .bl a,.int b=>some (b2i a==b)
  | .int a,.bl b=>some (a==b2i b)
  | .tup as,.tup bs=>eqL (eqF n) as bs
  | .lst as,.lst bs=>if as.length=bs.length then eqL (eqF n) as bs else some false
  | .dic _,_=>none
  | _,.dic _=>none
  | .err _ _,_=>none
  | _,.err _ _=>none
  | _,_=>some false
def fK(n:Nat):List D->List D->Option Bool
 | [],[]=>some true
 | a::as,b::bs=>match eqF n a b,fK n as bs with
  | some x,some y=>some (x&&y)
  | _,_=>none
 | _,_=>some false
@[simp] theorem wC (n:Nat):∀as bs:List D,eqL (eqF n) as bs=fK n as bs
 | [],[]=>rfl
 | [],_::_=>rfl
 | _::_,[]=>rfl
 | a::as,b::bs=>by rw[eqL,fK,wC n as bs]
def rH:Nat:=120
def eqD(a b:D):Option Bool:=eqF rH a b
inductive R (α:Type) where
 | ok (a:α)|exc (x:D)|bad
 deriving Inhabited
def R.bind{α β:Type}(x:R α)(f:α->R β):R β:=match x with
 | .ok a=>f a
 | .exc e=>.exc e
 | .bad=>.bad
instance:Monad R where
 pure:=.ok
 bind:=.bind
def R.of{α:Type}:Option α->R α
 | some a=>.ok a
 | none=>.bad
def R.iff{α:Type}(c:Bool)(x:R α):R α:=if c then x else .bad
structure Vl where
 d:D
 fr:Bool:=false
 pa:Bool:=false
 al:List Nat:=[]
 deriving Inhabited
def Vl.cl(d:D):Vl:=⟨d,false,false,[]⟩
def Vl.sub(v:Vl)(d:D):Vl:=if noL d then .cl d else ⟨d,false,v.pa,v.al⟩
set_option genInjectivity true in
inductive Sl where
 | dead|sh (pa:Bool) (d:D)|own (pa:Bool) (ds:List D)|lent (ds:List D)|own2 (dss:List (List D))
 deriving Inhabited
abbrev Sg:=List Sl
def Sl.val(i:Nat):Sl->R Vl
 | .dead=>.bad
 | .sh pa d=>.ok ⟨d,false,pa&&!noL d,[]⟩
 | .own pa ds=>.ok ⟨.lst ds,false,pa,[i]⟩
 | .lent _=>.bad
 | .own2 _=>.bad
def aX(σ:Sg)(i:Nat):R Vl:=match σ[i]? with
 | some s=>s.val i
 | none=>.bad
def Sl.freeze:Sl->Sl
 | .own pa ds=>.sh pa (.lst ds)
 | s=>s
def freeze(σ:Sg):List Nat->Sg
 | []=>σ
 | i::is=>freeze (match σ[i]? with|some s=>σ.set i s.freeze|none=>σ) is
def Vl.slot(v:Vl):Sl:=match v.fr,v.d with
 | true,.lst ds=>.own v.pa ds
 | _,d=>.sh v.pa d
inductive Bi where
 | len|list|tuple|min|max|abs|int|str|sum|all|any|sorted|bool|repr
 deriving DecidableEq,Inhabited
inductive Mt where
 | join|upper|lower|get|startswith|endswith|index|count|copy|isdigit|find|replace|split|strip
 deriving DecidableEq,Inhabited
inductive Cl where
 | tInt|tBool|tStr|tList|tTuple|tDict|own (c:Nat)|tValueError
 deriving DecidableEq,Inhabited
inductive T where
 | n (i:Nat)
 | t (ts:List Nat)
 deriving Inhabited
mutual
inductive E where
 | c (d:D)
 | v (i:Nat)
 | op (o:Operator) (a b:E)
 | neg (a:E)
 | nt (a:E)
 | an (a b:E)
 | orr (a b:E)
 | ife (t a b:E)
 | cmp (o:CmpOp) (a b:E)
 | cmp2 (o o':CmpOp) (a b c:E)
 | idx (a b:E)
 | sli (a:E) (lo hi:Es)
 | tup (es:Es)
 | lst (es:Es)
 | dic (ks vs:Es)
 | call (f:Nat) (es:Es)
 | bi (b:Bi) (es:Es)
 | mth (m:Mt) (o:E) (es:Es)
 | isi (a:E) (cs:List Cl)
 | attr (a:E) (f:Nat)
 | comp (k:Nat) (caps:List Nat) (t:T) (it:It) (cond:Es) (elt:E)
 | numset (a:E)   -- len(set(a))
 | tget (i:Nat) (a:E)   -- a dict of the module,.get(a)
 | lzip (a b:E)   -- list(zip(a,b))
 | lix (i:Nat) (k:E)   -- x[k],x lent
 | stp (a:E) (k:Nat)   -- a[::k]
 | callO (f:Nat) (a:E) (i:Nat)   -- f(a,x),x a list of lists of its own;all that is told is new
 | neO (i:Nat) (a:E)   -- x != a,x such a list
inductive Es where
 | nil|cons (e:E) (es:Es)
inductive It where
 | seq (e:E)|rng (a b:E)|zip (a b:E)|enum (a:E)|rev (a:E)|rng3 (a b:Int) (c:Nat)
end
instance:Inhabited E:=⟨.c .non⟩
mutual
inductive EL where
 | e (a:E)
 | op (o:Operator) (a b:EL)
 | idx (a b:EL)
 | tup (es:ELs)
 | call (f:Nat) (es:ELs)   -- f(x,..),x lent
 | lst (es:ELs)
 | cmp (o:CmpOp) (a b:EL)
 | int (a:EL)   -- int(a)
 | comp (k:Nat) (caps:List Nat) (t:T) (n:EL) (l':Nat) (elt:EL)   -- [elt for t in range(n)]
inductive ELs where
 | nil|cons (e:EL) (es:ELs)
end
inductive Arg where
 | e (a:E)|pop (i:Nat)
 deriving Inhabited
mutual
inductive S where
 | set (t:T) (e:E)
 | mov (i j:Nat)
 | setIx (i:Nat) (k e:E)
 | app (i:Nat) (e:E)
 | ext (i:Nat) (e:E)
 | pop (t:Option T) (i:Nat) (at':Option E)
 | clr (i:Nat)
 | ins (i:Nat) (k e:E)
 | rev (i:Nat)
 | appCall (i:Nat) (f:Nat) (as:List Arg)
 | ret (e:E)
 | retv (i:Nat)
 | retN
 | iff (c:E) (a b:Ss)
 | for (t:T) (it:It) (b:Ss)
 | whl (c:E) (b:Ss)
 | brk|cnt|pass
 | ex (e:E)
 | rse (c:Nat) (keep:Bool) (es:Es)
 | try (b:Ss) (hs:Hs)
 | tryN (b:Ss)   -- try: b,which ends without an exception
 | set2 (i y:Nat)   -- i=[list(r) for r in y]
 | grow2 (i r:Nat)   -- for r in i: r.append(r[0])
 | app2 (i:Nat)   -- i.append([])
 | forT (t i:Nat) (c:E)   -- for t in i: if c: .. (c never holds)
 | lend   -- slot 0 is lent (no text)
 | lset (i:Nat) (k e:E)
 | setL (i l:Nat) (fz:List Nat) (e:EL)
 | appL (i l:Nat) (e:EL)
 | retL (e:EL)
 | retvL (i:Nat)
 | iffL (o:CmpOp) (a:EL) (b:E) (x y:Ss)
 | forL (t:T) (e:EL) (b:Ss)
inductive Ss where
 | nil|cons (s:S) (ss:Ss)
inductive Hs where
 | nil|cons (cs:List Cl) (n:Option Nat) (b:Ss) (hs:Hs)
end
structure Fn where
 np:Nat
 ns:Nat
 body:Ss
structure Pg where
 fns:List Fn
 above:List (List Cl)
 tabs:List (List (Str×D)):=[]
abbrev Rt:=D×Bool×Bool
abbrev Caller:=Nat->List D->R Rt
def pV(i j:Int):Bool:=(decide (-(2 ^ 64)<i)&&decide (i<2 ^ 64))||(decide (-(2 ^ 64)<j)&&decide (j<2 ^ 64))
def aEu(i j:Int):Bool:=decide (0<=j)&&decide (j<=1000)&&decide (i.natAbs<2 ^ 64)
def tJ(j:Int):Bool:=decide (0<j)&&decide (j<1073741824)
def aG(k:Int):Bool:=decide (-(2 ^ 62)<=k)&&decide (k<2 ^ 62)
def Str.rep(x:Str)(k:Nat):Str:=⟨(List.replicate k x.cps).foldl (·++·) #[]⟩
@[simp] def aDh (x y:Vl):R Vl:=match x.d,y.d with
 | .int i,.int j=>.ok (.cl (.int (i+j)))
 | .str a,.str b=>.iff (decide (a.length+b.length<=lim)) (.ok (.cl (.str (a++b))))
 | .tup a,.tup b=>.iff (decide (a.length+b.length<=lim)) (.ok ⟨.tup (a++b),false,x.pa||y.pa,x.al++y.al⟩)
 | .lst a,.lst b=>.iff (decide (a.length+b.length<=lim)) (.ok ⟨.lst (a++b),true,(x.pa&&!noLs a)||(y.pa&&!noLs b),(if noLs a then [] else x.al)++(if noLs b then [] else y.al)⟩)
 | _,_=>.bad
@[simp] def aFw (x y:Vl):R Vl:=match x.d,y.d with
 | .int i,.int j=>.iff (pV i j) (.ok (.cl (.int (i*j))))
 | .str a,.int k=>.iff (aG k&&decide (a.length*k.toNat<=lim)) (.ok (.cl (.str (Str.rep a k.toNat))))
 | .lst a,.int k=>.iff (x.fr&&aG k&&decide (a.length*k.toNat<=lim)&&noLs a) (.ok ⟨.lst (List.replicate k.toNat a).flatten,true,false,[]⟩)
 | _,_=>.bad
@[simp] def rJ (f:Int->Int->R Vl) (x y:Vl):R Vl:=match x.d,y.d with
 | .int i,.int j=>f i j
 | _,_=>.bad
def opD(o:Operator)(x y:Vl):R Vl:=match o with
 | .Add=>aDh x y
 | .Mult=>aFw x y
 | .Sub=>rJ (λi j=>.ok (.cl (.int (i-j)))) x y
 | .FloorDiv=>rJ (λi j=>.iff (tJ j) (.ok (.cl (.int (i / j))))) x y
 | .Mod=>rJ (λi j=>.iff (decide (0<j)) (.ok (.cl (.int (i % j))))) x y
 | .Pow=>rJ (λi j=>.iff (aEu i j) (.ok (.cl (.int (i ^ j.toNat))))) x y
 | _=>.bad
def aAe:D->Option Bool
 | .non=>some false
 | .bl b=>some b
 | .int i=>some (i != 0)
 | .str x=>if x.length<=lim then some (x.length != 0) else none
 | .tup ds=>some (!ds.isEmpty)
 | .lst ds=>some (!ds.isEmpty)
 | _=>none
def fL(x:Vl):R Bool:=.of (aAe x.d)
def ltD:D->D->Option Bool
 | .int a,.int b=>some (decide (a<b))
 | _,_=>none
def leD:D->D->Option Bool
 | .int a,.int b=>some (decide (a<=b))
 | _,_=>none
def isNone:D->Bool
 | .non=>true
 | _=>false
def inD(x y:D):Option Bool:=match x,y with
 | .str a,.str b=>some (!(PySem.Builtin.Str.occurrences b a 0 b.length 1).isEmpty)
 | _,_=>none
def bL(o:CmpOp)(x y:D):Option Bool:=match o with
 | .Eq=>eqD x y
 | .NotEq=>(eqD x y).map (!·)
 | .Lt=>ltD x y
 | .Gt=>match x,y with
  | .int a,.int b=>some (decide (b<a))
  | _,_=>none
 | .LtE=>leD x y
 | .GtE=>match x,y with
  | .int a,.int b=>some (decide (b<=a))
  | _,_=>none
 | .Is=>match y with
  | .non=>some (isNone x)
  | _=>none
 | .IsNot=>match y with
  | .non=>some (!isNone x)
  | _=>none
 | .In=>inD x y
 | .NotIn=>(inD x y).map (!·)
def ixN(n:Nat)(k:Int):Option Nat:=
 if 0<=k then (if k<n then some k.toNat else none) else (if -(n:Int)<=k then some (k+n).toNat else none)
def bV(x y:Vl):R Vl:=match x.d,y.d with
 | .lst ds,.int k=>match ixN ds.length k with
  | some j=>match ds[j]? with
   | some d=>.ok (x.sub d)
   | none=>.bad
  | none=>.bad
 | .tup ds,.int k=>match ixN ds.length k with
  | some j=>match ds[j]? with
   | some d=>.ok (x.sub d)
   | none=>.bad
  | none=>.bad
 | .str a,.int k=>.iff (decide (a.length<=lim)) (match ixN a.length k with
  | some j=>match a.cps.toList[j]? with
   | some c=>.ok (.cl (.str ⟨#[c]⟩))
   | none=>.bad
  | none=>.bad)
 | _,_=>.bad
def sIx(n d:Nat):Option Int->Nat
 | none=>d
 | some v=>if v<0 then (v+(n:Int)).toNat else min v.toNat n
def cut{α:Type}(xs:List α)(lo hi:Option Int):List α:=(xs.drop (sIx xs.length 0 lo)).take (sIx xs.length xs.length hi-sIx xs.length 0 lo)
def wD(x:Str)(lo hi:Option Int):Str:=⟨(cut x.cps.toList lo hi).toArray⟩
def eG(x:Vl)(lo hi:Option Int):R Vl:=match x.d with
 | .lst ds=>.ok ⟨.lst (cut ds lo hi),true,x.pa&&!noLs ds,if noLs ds then [] else x.al⟩
 | .tup ds=>.ok ⟨.tup (cut ds lo hi),false,x.pa&&!noLs ds,if noLs ds then [] else x.al⟩
 | .str a=>.iff (decide (a.length<=lim)) (.ok (.cl (.str (wD a lo hi))))
 | _=>.bad
def isI(cs:List Cl)(P:Pg):D->Option Bool
 | .non=>some false
 | .bl _=>some (cs.contains .tBool||cs.contains .tInt)
 | .int _=>some (cs.contains .tInt)
 | .str _=>some (cs.contains .tStr)
 | .tup _=>some (cs.contains .tTuple)
 | .lst _=>some (cs.contains .tList)
 | .dic _=>some (cs.contains .tDict)
 | .err c _=>match P.above[c]? with
  | some ab=>some (ab.any λa=>cs.contains a)
  | none=>none
def aKF(i:Int):Str:=(toString i:String)
def aFx:List D->Int->Option Int
 | [],a=>some a
 | .int i::ds,a=>aFx ds (a+i)
 | .bl b::ds,a=>aFx ds (a+b2i b)
 | _,_=>none
def rK:List D->Option (List Bool)
 | []=>some []
 | .bl a::ds=>match rK ds with
  | some bs=>some (a::bs)
  | none=>none
 | _=>none
def rL:List D->Option (List (Sum Int Str))
 | []=>some []
 | .int a::ds=>match rL ds with
  | some ks=>some (.inl a::ks)
  | none=>none
 | .str a::ds=>match rL ds with
  | some ks=>some (.inr a::ks)
  | none=>none
 | _=>none
def aBi(ks:List (Sum Int Str)):List (Sum Int Str):=ks.foldl (λσ v=>if σ.any (·==v) then σ else σ++[v]) []
def aId(x:D):List D->Option (List D)
 | []=>some [x]
 | y::ys=>match ltD x y with
  | some true=>some (x::y::ys)
  | some false=>match aId x ys with
   | some r=>some (y::r)
   | none=>none
  | none=>none
def aEv:List D->Option (List D)
 | []=>some []
 | d::ds=>match aEv ds with
  | some r=>aId d r
  | none=>none
def aBj(x:Str):Bool:=x.cps.all λc=>decide (97<=c)&&decide (c<=122)
mutual
def wt:D->Nat
 | .non=>4
 | .bl _=>5
 | .int i=>if i.natAbs<1000000000 then 10 else lim
 | .str x=>if aBj x then x.length+2 else lim
 | .tup ds=>3+wts ds
 | .lst ds=>2+wts ds
 | .dic _=>lim
 | .err _ _=>lim
def wts:List D->Nat
 | []=>0
 | d::ds=>wt d+2+wts ds
end
mutual
def dpt:D->Nat
 | .tup ds=>dpts ds+1
 | .lst ds=>dpts ds+1
 | .non=>0
 | .bl _=>0
 | .int _=>0
 | .str _=>0
 | .dic _=>0
 | .err _ _=>0
def dpts:List D->Nat
 | []=>0
 | d::ds=>max (dpt d) (dpts ds)
end
mutual
def gD:D->PySem.PyData
 | .non=>.none
 | .bl b=>.bool b
 | .int i=>.int i
 | .str x=>.str x
 | .tup ds=>.tuple (toPys ds)
 | .lst ds=>.list (toPys ds)
 | .dic _=>.none
 | .err _ _=>.none
def toPys:List D->List PySem.PyData
 | []=>[]
 | d::ds=>gD d::toPys ds
end
def aIe(d:D):Str:=(gD d).shown
@[simp] def aBk (b:Bi) (x:Vl):R Vl:=match b with
 | .len=>match x.d with
  | .lst ds=>.ok (.cl (.int ds.length))
  | .tup ds=>.ok (.cl (.int ds.length))
  | .str a=>.iff (decide (a.length<=lim)) (.ok (.cl (.int a.length)))
  | _=>.bad
 | .list=>match x.d with
  | .lst ds=>.ok ⟨.lst ds,true,x.pa&&!noLs ds,if noLs ds then [] else x.al⟩
  | .tup ds=>.ok ⟨.lst ds,true,x.pa&&!noLs ds,if noLs ds then [] else x.al⟩
  | _=>.bad
 | .tuple=>match x.d with
  | .lst ds=>.ok ⟨.tup ds,false,x.pa&&!noLs ds,if noLs ds then [] else x.al⟩
  | .tup ds=>.ok ⟨.tup ds,false,x.pa,x.al⟩
  | _=>.bad
 | .abs=>match x.d with
  | .int i=>.ok (.cl (.int (if i<0 then -i else i)))
  | _=>.bad
 | .int=>match x.d with
  | .int i=>.ok (.cl (.int i))
  | .bl b=>.ok (.cl (.int (b2i b)))
  | _=>.bad
 | .bool=>match aAe x.d with
  | some k=>.ok (.cl (.bl k))
  | none=>.bad
 | .str=>match x.d with
  | .int i=>.iff (decide (i.natAbs<2 ^ 1000)) (.ok (.cl (.str (aKF i))))
  | _=>.bad
 | .repr=>match x.d with
  | .tup ds=>.iff (decide (wt (.tup ds)<lim)&&decide (dpt (.tup ds)<=60)) (.ok (.cl (.str (aIe (.tup ds)))))
  | _=>.bad
 | .sum=>match x.d with
  | .lst ds=>match aFx ds 0 with
   | some i=>.ok (.cl (.int i))
   | none=>.bad
  | _=>.bad
 | .all=>match x.d with
  | .lst ds=>match rK ds with
   | some bs=>.ok (.cl (.bl (bs.all id)))
   | none=>.bad
  | _=>.bad
 | .any=>match x.d with
  | .lst ds=>match rK ds with
   | some bs=>.ok (.cl (.bl (bs.any id)))
   | none=>.bad
  | _=>.bad
 | .sorted=>match x.d with
  | .lst ds=>match aEv ds with
   | some r=>.ok ⟨.lst r,true,x.pa&&!noLs ds,if noLs ds then [] else x.al⟩
   | none=>.bad
  | _=>.bad
 | _=>.bad
@[simp] def aIf (b:Bi) (x y:Vl):R Vl:=match b with
 | .min=>match x.d,y.d with
  | .int i,.int j=>.ok (.cl (.int (if j<i then j else i)))
  | _,_=>.bad
 | .max=>match x.d,y.d with
  | .int i,.int j=>.ok (.cl (.int (if j>i then j else i)))
  | _,_=>.bad
 | _=>.bad
def biD(b:Bi)(xs:List Vl):R Vl:=match xs with
 | [x]=>aBk b x
 | [x,y]=>aIf b x y
 | _=>.bad
def aBl:List D->Option (List Str)
 | []=>some []
 | .str x::ds=>match aBl ds with
  | some r=>some (x::r)
  | none=>none
 | _=>none
def aIg:D->D->Bool
 | .int a,.int b=>a==b
 | .str a,.str b=>a==b
 | _,_=>false
def aIh:D->Bool
 | .int _=>true
 | .str _=>true
 | _=>false
def aEw(k:D):List (D×D)->Option D
 | []=>none
 | (a,d)::r=>if aIg a k then some d else aEw k r
def upC(n:Nat):Nat:=if 97<=n/\n<=122 then n-32 else n
def mtD(m:Mt)(x:Vl)(ys:List Vl):R Vl:=match m,x.d,ys with
 | .join,.str a,[y]=>match y.d with
  | .lst ds=>match aBl ds with
   | some xs=>.iff (decide ((xs.map (·.length)).sum+xs.length*a.length<=lim)) (.ok (.cl (.str (PySem.Str.join a xs))))
   | none=>.bad
  | _=>.bad
 | .get,.dic kvs,[y]=>.iff (aIh y.d) (match aEw y.d kvs with
  | some d=>.ok (x.sub d)
  | none=>.ok (.cl .non))
 | .upper,.str a,[]=>.iff (a.cps.all (·<128)) (.ok (.cl (.str ⟨a.cps.map upC⟩)))
 | _,_,_=>.bad
def cC(vs:List Vl):List Nat:=vs.flatMap (·.al)
def aV(vs:List Vl):Bool:=vs.any (·.pa)
def pW(vs:List Vl):Vl:=⟨.tup (vs.map (·.d)),false,aV vs,cC vs⟩
def nS(vs:List Vl):Vl:=⟨.lst (vs.map (·.d)),true,aV vs,cC vs⟩
def gY(args:List Vl)(r:Rt):Vl:=if r.2.2 then ⟨r.1,r.2.1,aV args,cC args⟩ else ⟨r.1,r.2.1,false,[]⟩
def cA(a b:Int):List D:=(List.range (b-a).toNat).map λ(k:Nat)=>.int (a+(k:Int))
def eZ:Int->List D->List D
 | _,[]=>[]
 | k,d::ds=>.tup [.int k,d]::eZ (k+1) ds
def gE:List D->List D->List D
 | a::as,b::bs=>.tup [a,b]::gE as bs
 | _,_=>[]
def bG(σ:Sg)(v:Vl):T->R Sg
 | .n i=>.ok (σ.set i v.slot)
 | .t is=>match v.d with
  | .tup ds=>if ds.length=is.length then .ok ((is.zip ds).foldl (λσ p=>σ.set p.1 (v.sub p.2).slot) σ) else .bad
  | _=>.bad
def dC(f:Vl->R (Option Vl)):List Vl->R (List Vl)
 | []=>.ok []
 | x::xs=>do
  let y<-f x
  let ys<-dC f xs
  match y with
  | some y=>.ok (y::ys)
  | none=>.ok ys
def cB{α:Type}(k:Nat)(xs:List α):List α:=(List.range ((xs.length+k-1) / k)).filterMap λm=>xs[m*k]?
def aDi(a b:Int)(c:Nat):List D:=(List.range (((b-a)+c-1) / c).toNat).map λ(k:Nat)=>.int (a+(k:Int)*c)
def gF:D->Option (List D)
 | .lst ds=>some ds
 | .tup ds=>some ds
 | _=>none
def items(x:Vl)(ds:List D):List Vl:=ds.map x.sub
def hZ(k:Nat)(caps al:List Nat)(vs:List Vl):Vl:=
 if noLs (vs.map (·.d)) then ⟨.lst (vs.map (·.d)),true,false,[]⟩
 else ⟨.lst (vs.map (·.d)),true,aV vs,al++(cC vs).filterMap λj=>caps[j-k]?⟩
def aEx(x y:Vl)(ds:List D):Vl:=if noLs ds then ⟨.lst ds,true,false,[]⟩ else ⟨.lst ds,true,x.pa||y.pa,x.al++y.al⟩
def tK(f:D->R Bool):List D->Bool
 | []=>true
 | d::ds=>match f d with
  | .ok false=>tK f ds
  | _=>false
def eW(σ:Sg)(i:Nat):Option (List (List D)):=match σ[i]? with
 | some (.own2 dss)=>some dss
 | _=>none
def o2D(dss:List (List D)):D:=.lst (dss.map .lst)
def aBm(σ:Sg):Bool:=σ.all λs=>match s with
 | .own2 _=>false
 | _=>true
def gP:List D->Option (List (List D))
 | []=>some []
 | .lst ds::r=>if noLs ds then (gP r).map (ds::·) else none
 | _=>none
section
variable (P:Pg) (cl:Caller)
mutual
def ev(σ:Sg):E->R Vl
 | .c d=>.ok (.cl d)
 | .v i=>aX σ i
 | .op o a b=>do let x<-ev σ a;let y<-ev σ b;opD o x y
 | .neg a=>do
  let x<-ev σ a
  match x.d with
  | .int i=>.ok (.cl (.int (-i)))
  | _=>.bad
 | .nt a=>do let x<-ev σ a;let k<-fL x;.ok (.cl (.bl (!k)))
 | .an a b=>do
  let x<-ev σ a
  match x.d with
  | .bl true=>ev σ b
  | .bl false=>.ok (.cl (.bl false))
  | _=>.bad
 | .orr a b=>do
  let x<-ev σ a
  match x.d with
  | .bl true=>.ok (.cl (.bl true))
  | .bl false=>ev σ b
  | _=>.bad
 | .ife t a b=>do
  let x<-tst σ t
  if x then ev σ a else ev σ b
 | .cmp o a b=>do
  let x<-ev σ a
  let y<-ev σ b
  match bL o x.d y.d with
  | some k=>.ok (.cl (.bl k))
  | none=>.bad
 | .cmp2 o o' a b c=>do
  let x<-ev σ a
  let y<-ev σ b
  match bL o x.d y.d with
  | some true=>do
   let z<-ev σ c
   match bL o' y.d z.d with
   | some k=>.ok (.cl (.bl k))
   | none=>.bad
  | some false=>.ok (.cl (.bl false))
  | none=>.bad
 | .idx a b=>do let x<-ev σ a;let y<-ev σ b;bV x y
 | .sli a lo hi=>do
  let x<-ev σ a
  let l<-evs σ lo
  let h<-evs σ hi
  match l,h with
  | [],[]=>eG x none none
  | [l],[]=>match l.d with
   | .int l=>.iff (aG l) (eG x (some l) none)
   | _=>.bad
  | [],[h]=>match h.d with
   | .int h=>.iff (aG h) (eG x none (some h))
   | _=>.bad
  | [l],[h]=>match l.d,h.d with
   | .int l,.int h=>.iff (aG l&&aG h) (eG x (some l) (some h))
   | _,_=>.bad
  | _,_=>.bad
 | .tup es=>do let vs<-evs σ es;.ok (pW vs)
 | .lst es=>do let vs<-evs σ es;.ok (nS vs)
 | .dic ks vs=>do
  let ks<-evs σ ks
  let vs<-evs σ vs
  match (ks.map (λ(v:Vl)=>v.d):List D),(vs.map (λ(v:Vl)=>v.d):List D) with
  | [.int k],[.int v]=>.ok (.cl (.dic [(.int k,.int v)]))
  | _,_=>.bad
 | .call f es=>do
  let vs<-evs σ es
  let r<-cl f (vs.map (·.d))
  .ok (gY vs r)
 | .bi b es=>do let vs<-evs σ es;biD b vs
 | .mth m o es=>do let x<-ev σ o;let ys<-evs σ es;mtD m x ys
 | .isi a cs=>do
  let x<-ev σ a
  match isI cs P x.d with
  | some k=>.ok (.cl (.bl k))
  | none=>.bad
 | .attr a f=>do
  let x<-ev σ a
  match x.d with
  | .err _ fs=>match fs[f]? with
   | some d=>.ok (x.sub d)
   | none=>.bad
  | _=>.bad
 | .comp k caps t it cond elt=>do
  let xs<-walk σ it
  let vs<-dC (λx=>do
   let σ1<-bG (List.replicate k .dead++caps.map λi=>((freeze σ xs.2)[i]?).getD .dead) x t
   let k<-tsts σ1 cond
   if k then do let y<-ev σ1 elt;.ok (some y) else .ok none) xs.1
  .iff (decide (vs.length<=lim)) (.ok (hZ k caps xs.2 vs))
 | .numset a=>do
  let x<-ev σ a
  match x.d with
  | .lst ds=>match rL ds with
   | some ks=>.iff (decide (ds.length<=1000)) (.ok (.cl (.int (aBi ks).length)))
   | none=>.bad
  | _=>.bad
 | .tget i a=>do
  let x<-ev σ a
  match x.d,P.tabs[i]? with
  | .str k,some t=>.ok (.cl ((t.lookup k).getD .non))
  | _,_=>.bad
 | .lzip a b=>do
  let x<-ev σ a
  let y<-ev σ b
  match gF x.d,gF y.d with
  | some as,some bs=>.iff (decide (as.length<=lim)) (.ok (aEx x y (gE as bs)))
  | _,_=>.bad
 | .lix i k=>do
  let y<-ev σ k
  match σ[i]? with
  | some (.lent ds)=>bV ⟨.lst ds,false,true,[]⟩ y
  | _=>.bad
 | .stp a k=>do
  let x<-ev σ a
  match x.d with
  | .lst ds=>.iff (decide (0<k)) (.ok ⟨.lst (cB k ds),true,x.pa&&!noLs ds,if noLs ds then [] else x.al⟩)
  | _=>.bad
 | .callO f a i=>do
  let x<-ev σ a
  match eW σ i with
  | some dss=>do
   let r<-cl f [x.d,o2D dss]
   .iff (!r.2.2) (.ok ⟨r.1,r.2.1,false,[]⟩)
  | none=>.bad
 | .neO _ _=>.bad
def tst(σ:Sg):E->R Bool
 | .nt a=>do let x<-tst σ a;.ok (!x)
 | .an a b=>do
  let x<-tst σ a
  if x then tst σ b else .ok false
 | .orr a b=>do
  let x<-tst σ a
  if x then .ok true else tst σ b
 | .c d=>fL (.cl d)
 | .v i=>do let x<-aX σ i;fL x
 | .cmp o a b=>do
  let x<-ev σ a
  let y<-ev σ b
  match bL o x.d y.d with
  | some k=>.ok k
  | none=>.bad
 | .cmp2 o o' a b c=>do
  let x<-ev σ a
  let y<-ev σ b
  match bL o x.d y.d with
  | some true=>do
   let z<-ev σ c
   match bL o' y.d z.d with
   | some k=>.ok k
   | none=>.bad
  | some false=>.ok false
  | none=>.bad
 | .call f es=>do
  let vs<-evs σ es
  let r<-cl f (vs.map (·.d))
  fL (gY vs r)
 | .bi b es=>do let vs<-evs σ es;let x<-biD b vs;fL x
 | .mth m o es=>do let x<-ev σ o;let ys<-evs σ es;let z<-mtD m x ys;fL z
 | .idx a b=>do let x<-ev σ a;let y<-ev σ b;let z<-bV x y;fL z
 | .isi a cs=>do
  let x<-ev σ a
  match isI cs P x.d with
  | some k=>.ok k
  | none=>.bad
 | .neO i a=>do
  let x<-ev σ a
  match eW σ i with
  | some dss=>(match bL .NotEq (o2D dss) x.d with
   | some k=>.ok k
   | none=>.bad)
  | none=>.bad
 | _=>.bad
def evs(σ:Sg):Es->R (List Vl)
 | .nil=>.ok []
 | .cons e es=>do let x<-ev σ e;let xs<-evs σ es;.ok (x::xs)
def walk(σ:Sg):It->R (List Vl×List Nat)
 | .seq e=>do
  let x<-ev σ e
  match x.d with
  | .lst ds=>.ok (items x ds,x.al)
  | .tup ds=>.ok (items x ds,x.al)
  | .str a=>.iff (decide (a.length<=lim)) (.ok (a.cps.toList.map λn=>.cl (.str ⟨#[n]⟩),[]))
  | _=>.bad
 | .rng a b=>do
  let x<-ev σ a
  let y<-ev σ b
  match x.d,y.d with
  | .int i,.int j=>.iff (aG i&&aG j) (.ok ((cA i j).map .cl,[]))
  | _,_=>.bad
 | .zip a b=>do
  let x<-ev σ a
  let y<-ev σ b
  match gF x.d,gF y.d with
  | some as,some bs=>.ok (items ⟨.non,false,x.pa||y.pa,x.al++y.al⟩ (gE as bs),x.al++y.al)
  | _,_=>.bad
 | .enum a=>do
  let x<-ev σ a
  match gF x.d with
  | some as=>.ok (items x (eZ 0 as),x.al)
  | none=>.bad
 | .rev a=>do
  let x<-ev σ a
  match gF x.d with
  | some as=>.ok (items x as.reverse,x.al)
  | none=>.bad
 | .rng3 a b c=>.iff (aG a&&aG b&&decide (0<c)&&decide (c<1000)) (.ok ((aDi a b c).map .cl,[]))
def tsts(σ:Sg):Es->R Bool
 | .nil=>.ok true
 | .cons e es=>do
  let x<-tst σ e
  if x then tsts σ es else .ok false
end
set_option genInjectivity true in
inductive O where
 | next (σ:Sg)|brk (σ:Sg)|cnt (σ:Sg)|ret (v:Vl)|exc (x:D) (σ:Sg)|bad
 deriving Inhabited
def O.from{α:Type}(σ:Sg)(x:R α)(f:α->O):O:=match x with
 | .ok a=>f a
 | .exc e=>.exc e σ
 | .bad=>.bad
def O.on(o:O)(f:Sg->O):O:=match o with
 | .next σ=>f σ
 | o=>o
def bZ(f:Sg->Vl->O):List Vl->Sg->O
 | [],σ=>.next σ
 | x::xs,σ=>match f σ x with
  | .next σ'=>bZ f xs σ'
  | .cnt σ'=>bZ f xs σ'
  | .brk σ'=>.next σ'
  | o=>o
def aBn(t:Sg->R Bool)(f:Sg->O):Nat->Sg->O
 | 0,_=>.bad
 | n+1,σ=>O.from σ (t σ) λk=>if k then (match f σ with
     | .next σ'=>aBn t f n σ'
     | .cnt σ'=>aBn t f n σ'
     | .brk σ'=>.next σ'
     | o=>o) else .next σ
def aIi:Nat:=100000
def gQ(σ:Sg)(i:Nat):Option (Bool×List D):=match σ[i]? with
 | some (.own pa ds)=>some (pa,ds)
 | _=>none
def put(σ:Sg)(i:Nat)(v:Vl)(f:List D->Option (List D)):O:=match gQ (freeze σ v.al) i with
 | some (pa,ds)=>match f ds with
  | some ds'=>if ds'.length<=lim then .next ((freeze σ v.al).set i (.own (pa||v.pa) ds')) else .bad
  | none=>.bad
 | none=>.bad
def aEy(σ:Sg)(i:Nat)(v:Vl):O:=put σ i v λds=>some (ds++[v.d])
def nT(v:Vl):Option (Vl×List D):=match v.fr,v.d with
 | true,.lst ds=>some (⟨.non,false,v.pa&&!noLs ds,if noLs ds then [] else v.al⟩,ds)
 | _,_=>none
def aBo(σ:Sg)(i:Nat)(k:Option Int):R (Vl×Sg):=match gQ σ i with
 | some (pa,ds)=>match (match k with|none=>ixN ds.length (-1)|some k=>ixN ds.length k) with
  | some j=>match ds[j]? with
   | some d=>.ok (Vl.sub ⟨.non,false,pa,[]⟩ d,σ.set i (.own pa (ds.eraseIdx j)))
   | none=>.bad
  | none=>.bad
 | none=>.bad
def wF(e:Sg->E->R Vl):Sg->List Vl->List Arg->R (List Vl×Sg)
 | σ,acc,[]=>.ok (acc,σ)
 | σ,acc,.e a::as=>do let x<-e σ a;wF e σ (acc++[x]) as
 | σ,acc,.pop j::as=>do
  let (x,σ')<-aBo σ j none
  if (cC acc).contains j then .bad else wF e σ' (acc++[x]) as
def aIj(e:Option (R Vl)):R (Option Int):=match e with
 | none=>.ok none
 | some x=>do
  let v<-x
  match v.d with
  | .int k=>.iff (aG k) (.ok (some k))
  | _=>.bad
def Vl.nr(v:Vl):Vl:=⟨v.d,false,v.pa,[]⟩
def bQ(σ:Sg)(l:Nat):Option (Bool×List D):=match σ[l]? with
 | some (.own pa ds)=>some (pa,ds)
 | some (.lent ds)=>some (true,ds)
 | _=>none
def cF(σ:Sg)(l:Nat)(pa:Bool)(ds:List D):Sg:=match σ[l]? with
 | some (.own _ _)=>σ.set l (.own pa ds)
 | some (.lent _)=>σ.set l (.lent ds)
 | _=>σ
def pX:Ss->Bool
 | .cons .lend _=>true
 | _=>false
def mI(P:Pg)(f:Nat):Bool:=match P.fns[f]? with
 | some F=>pX F.body
 | none=>false
def aBp:D->Option (D×List D)
 | .tup [d,.err 0 cs]=>some (d,cs)
 | _=>none
def noAl(v:Vl)(σ:Sg):R (Vl×Sg):=if v.al.isEmpty then .ok (v,σ) else .bad
def gG(σ:Sg)(l:Nat)(pa:Bool)(vs:List Vl)(q:Rt):R (Vl×Sg):=match aBp q.1 with
 | some (d,cs)=>.ok (⟨d,q.2.1,q.2.2&&(pa||aV vs),[]⟩,cF σ l (pa||aV vs) cs)
 | none=>.bad
def dN(f:Sg->Vl->R (Vl×Sg)):List Vl->Sg->R (List Vl×Sg)
 | [],σ=>.ok ([],σ)
 | x::xs,σ=>do
  let y<-f σ x
  let r<-dN f xs y.2
  .ok (y.1::r.1,r.2)
def chB(k:Nat)(caps:List Nat)(σ:Sg):Sg:=List.replicate k .dead++caps.map λi=>(σ[i]?).getD .dead
mutual
def evl(l:Nat)(σ:Sg):EL->R (Vl×Sg)
 | .e a=>do let x<-ev P cl σ a;noAl x σ
 | .op o a b=>do
  let x<-evl l σ a
  let y<-evl l x.2 b
  let z<-opD o x.1.nr y.1.nr
  noAl z y.2
 | .idx a b=>do
  let x<-evl l σ a
  let y<-evl l x.2 b
  let z<-bV x.1.nr y.1.nr
  noAl z y.2
 | .tup es=>do let r<-evls' l σ es;.ok (⟨.tup (r.1.map (·.d)),false,aV r.1,[]⟩,r.2)
 | .call f es=>R.iff ((bQ σ l).isSome&&mI P f) do
  let r<-evls' l σ es
  match bQ r.2 l with
  | some (pa,cs)=>do
   let q<-cl f (.err 0 cs::r.1.map (·.d))
   gG r.2 l pa r.1 q
  | none=>.bad
 | .lst es=>do let r<-evls' l σ es;.ok (⟨.lst (r.1.map (·.d)),true,aV r.1,[]⟩,r.2)
 | .cmp o a b=>do
  let x<-evl l σ a
  let y<-evl l x.2 b
  match bL o x.1.d y.1.d with
  | some k=>.ok (.cl (.bl k),y.2)
  | none=>.bad
 | .int a=>do
  let x<-evl l σ a
  let z<-biD .int [x.1.nr]
  noAl z x.2
 | .comp k caps t n l' elt=>do
  let r<-evl l σ n
  match r.1.d with
  | .int j=>.iff (aG j) do
   let q<-dN (λσ x=>do
    let σ1<-bG (chB k caps σ) x t
    let y<-evl l' σ1 elt
    match bQ σ l,bQ y.2 l' with
    | some _,some (pa,cs)=>.ok (y.1,cF σ l pa cs)
    | _,_=>.bad) ((cA 0 j).map .cl) r.2
   .iff (decide (q.1.length<=lim)) (.ok (⟨.lst (q.1.map (·.d)),true,aV q.1,[]⟩,q.2))
  | _=>.bad
def evls'(l:Nat)(σ:Sg):ELs->R (List Vl×Sg)
 | .nil=>.ok ([],σ)
 | .cons e es=>do
  let x<-evl l σ e
  let r<-evls' l x.2 es
  .ok (x.1::r.1,r.2)
end
def mJ(v:Vl)(σ:Sg):O:=match σ[(0:Nat)]? with
 | some (.lent cs)=>.ret ⟨.tup [v.d,.err 0 cs],v.fr,v.pa,[]⟩
 | _=>.bad
mutual
def ex(σ:Sg):S->O
 | .set t e=>O.from σ (ev P cl σ e) λv=>O.from σ (bG (freeze σ v.al) v t) .next
 | .mov i j=>match σ[j]? with
  | some (.own pa ds)=>if i=j then .bad else .next ((σ.set j .dead).set i (.own pa ds))
  | some (.sh pa d)=>.next (σ.set i (.sh (pa&&!noL d) d))
  | _=>.bad
 | .setIx i k e=>O.from σ (ev P cl σ e) λv=>O.from σ (ev P cl σ k) λkv=>match kv.d with
  | .int k=>put σ i v λds=>match ixN ds.length k with
   | some j=>some (ds.set j v.d)
   | none=>none
  | _=>.bad
 | .app i e=>O.from σ (ev P cl σ e) λv=>aEy σ i v
 | .ext i e=>O.from σ (ev P cl σ e) λv=>match nT v with
  | some (v',ds')=>put σ i v' λds=>some (ds++ds')
  | none=>.bad
 | .pop t i k=>O.from σ (aIj (k.map λe=>ev P cl σ e)) λk=>O.from σ (aBo σ i k) λ(v,σ')=>match t with
  | none=>.next σ'
  | some t=>O.from σ' (bG σ' v t) .next
 | .clr i=>put σ i (.cl .non) λ_=>some []
 | .ins i k e=>O.from σ (ev P cl σ k) λkv=>O.from σ (ev P cl σ e) λv=>match kv.d with
  | .int k=>if 0<=k/\k<1000000 then put σ i v λds=>some (ds.take k.toNat++v.d::ds.drop k.toNat) else .bad
  | _=>.bad
 | .rev i=>put σ i (.cl .non) λds=>some ds.reverse
 | .appCall i f as=>O.from σ (wF (λσ a=>ev P cl σ a) σ [] as) λ(vs,σ')=>O.from σ' (cl f (vs.map (·.d))) λr=>aEy σ' i (gY vs r)
 | .ret e=>O.from σ (ev P cl σ e) .ret
 | .retv i=>match σ[i]? with
  | some (.own pa ds)=>.ret ⟨.lst ds,true,pa,[]⟩
  | _=>O.from σ (aX σ i) .ret
 | .retN=>.ret (.cl .non)
 | .iff c a b=>O.from σ (tst P cl σ c) λk=>if k then exs σ a else exs σ b
 | .for t it b=>O.from σ (walk P cl σ it) λxs=>bZ (λσ x=>O.from σ (bG σ x t) λσ'=>exs σ' b) xs.1 (freeze σ xs.2)
 | .whl c b=>aBn (λσ=>tst P cl σ c) (λσ=>exs σ b) aIi σ
 | .brk=>.brk σ
 | .cnt=>.cnt σ
 | .pass=>.next σ
 | .ex e=>O.from σ (ev P cl σ e) λ_=>.next σ
 | .rse c keep es=>O.from σ (evs P cl σ es) λvs=>.exc (.err c (if keep then vs.map (·.d) else [])) σ
 | .try b hs=>match exs σ b with
  | .exc x σ'=>hdl σ' x hs
  | o=>o
 | .lend=>match σ[(0:Nat)]? with
  | some (.sh true (.err 0 cs))=>.next (σ.set 0 (.lent cs))
  | _=>.bad
 | .tryN b=>exs σ b
 | .set2 i y=>O.from σ (aX σ y) λv=>match v.d with
  | .lst ds=>(match gP ds,aBm σ with
   | some dss,true=>if ds.length<=lim then .next (σ.set i (.own2 dss)) else .bad
   | _,_=>.bad)
  | _=>.bad
 | .grow2 i r=>match eW σ i with
  | some dss=>if i≠r/\r<σ.length/\∀ds∈dss,ds≠[]/\ds.length<lim then .next ((σ.set r .dead).set i (.own2 (dss.map λds=>ds++[ds.headD .non]))) else .bad
  | none=>.bad
 | .forT t i c=>match σ[i]? with
  | some (.own _ ds)=>if i≠t/\noLs ds=true/\tK (λd=>tst P cl (σ.set t (.sh false d)) c) ds=true then .next (σ.set t .dead) else .bad
  | _=>.bad
 | .app2 i=>match eW σ i with
  | some dss=>if dss.length<lim then .next (σ.set i (.own2 (dss++[[]]))) else .bad
  | none=>.bad
 | .lset i k e=>O.from σ (ev P cl σ e) λv=>O.from σ (ev P cl σ k) λkv=>match σ[i]?,kv.d with
  | some (.lent ds),.int k=>match ixN ds.length k with
   | some j=>if noL v.d then .next (σ.set i (.lent (ds.set j v.d))) else .bad
   | none=>.bad
  | _,_=>.bad
 | .setL i l fz e=>O.from σ (evl P cl l (freeze σ fz) e) λr=>.next (r.2.set i r.1.slot)
 | .appL i l e=>if (gQ σ i).isSome then O.from σ (evl P cl l σ e) λr=>put r.2 i r.1.nr λds=>some (ds++[r.1.d]) else .bad
 | .retL e=>O.from σ (evl P cl 0 σ e) λr=>mJ r.1 r.2
 | .retvL i=>match σ[i]? with
  | some (.own pa ds)=>mJ ⟨.lst ds,true,pa,[]⟩ σ
  | _=>.bad
 | .iffL o a b x y=>O.from σ (evl P cl 0 σ a) λr=>O.from r.2 (ev P cl r.2 b) λz=>match bL o r.1.d z.d with
  | some k=>if k then exs r.2 x else exs r.2 y
  | none=>.bad
 | .forL t e b=>O.from σ (evl P cl 0 σ e) λr=>match r.1.d with
  | .int j=>if aG j then bZ (λσ x=>O.from σ (bG σ x t) λσ'=>exs σ' b) ((cA 0 j).map .cl) r.2 else .bad
  | _=>.bad
def exs(σ:Sg):Ss->O
 | .nil=>.next σ
 | .cons s ss=>(ex σ s).on λσ'=>exs σ' ss
def hdl(σ:Sg)(x:D):Hs->O
 | .nil=>.exc x σ
 | .cons cs n b hs=>match isI cs P x with
  | some true=>match n with
   | none=>exs σ b
   | some i=>match exs (σ.set i (.sh true x)) b with
    | .next σ'=>.next (σ'.set i .dead)
    | .brk σ'=>.brk (σ'.set i .dead)
    | .cnt σ'=>.cnt (σ'.set i .dead)
    | .exc x σ'=>.exc x (σ'.set i .dead)
    | o=>o
  | some false=>hdl σ x hs
  | none=>.bad
end
def jV(f:Nat)(ds:List D):R Rt:=match P.fns[f]? with
 | none=>.bad
 | some F=>if ds.length=F.np then
  match exs P cl ((ds.map λd=>Sl.sh true d)++List.replicate (F.ns-F.np) Sl.dead) F.body with
  | .ret v=>.ok (v.d,v.fr,v.pa)
  | .next _=>.ok (.non,false,false)
  | .exc x _=>.exc x
  | _=>.bad
  else .bad
end
def call(P:Pg):Nat->Caller
 | 0=>λ_ _=>.bad
 | n+1=>jV P (call P n)
end Hp
end
noncomputable section
namespace Hp
open PySem
structure Ct where
 N:List Str
 sc:List (Str×NameKind)
 fns:List Str
 cns:List (Str×D)
 cls:List Str
 fn:Bool
 tbs:List Str
def aBq(Γ:Ct)(x:Str):Bool:=match Γ.sc.lookup x with
 | some .local=>true
 | some .cell=>true
 | some .free=>true
 | _=>false
def tL(Γ:Ct)(x:Str):Bool:=match Γ.sc.lookup x with
 | some .local=>true
 | some .cell=>Γ.fn
 | _=>false
def jW(sc names:List (Str×NameKind)):List (Str×NameKind):=names.map λ(n,k)=>if (k==.free&&sc.lookup n==some .cell) then (n,.cell) else (n,k)
def nU:Expr->Bool
 | .Tuple _ _ _=>true
 | _=>false
def tIx:T->List Nat
 | .n i=>[i]
 | .t is=>is
def cM(Γ:Ct)(x:Str):Bool:=match Γ.sc.lookup x with
 | some .globalImplicit=>true
 | _=>false
def bW(x:Str):Bool:=!(x==("__debug__" : Str))&&!(x==("__classdict__" : Str))
def bC(Γ:Ct)(i:Nat)(x:Str):Bool:=(Γ.N[i]?==some x)&&aBq Γ x&&bW x
def bD(Γ:Ct)(i:Nat)(x:Str):Bool:=(Γ.N[i]?==some x)&&tL Γ x&&bW x
def eqC:D->Const->Bool
 | .non,.none=>true
 | .bl a,.bool b=>a==b
 | .int a,.int b=>a==b
 | .str a,.str b=>a==b
 | _,_=>false
def eqK:D->D->Bool
 | .non,.non=>true
 | .bl a,.bl b=>a==b
 | .int a,.int b=>a==b
 | .str a,.str b=>a==b
 | _,_=>false
def jI:Bi->Str
 | .len => "len" | .list => "list" | .tuple => "tuple" | .min => "min" | .max => "max" | .abs => "abs" | .int => "int" | .str => "str" | .sum => "sum" | .all => "all" | .any => "any" | .sorted => "sorted" | .bool => "bool" | .repr => "repr"
def aBr:Bi->Bool
 | .len=>true|.list=>true|.tuple=>true|.min=>true|.int=>true
 | _=>false
def aKG:Cl->Bool
 | .own _=>false
 | .tValueError=>false
 | _=>true
def wG(Γ:Ct):Cl->Option Str
 | .tInt=>some "int" | .tBool=>some "bool" | .tStr=>some "str" | .tList=>some "list" | .tTuple=>some "tuple" | .tDict=>some "dict" | .tValueError=>some "ValueError"
 | .own c=>Γ.cls[c]?
def aEz(Γ:Ct)(c:Cl):Expr->Bool
 | .Name x _=>(wG Γ c==some x)&&cM Γ x&&bW x
 | _=>false
def jJ(Γ:Ct):T->Expr->Bool
 | .n i,.Name x _=>bD Γ i x
 | .t is,.Tuple es _ _=>is.length==es.length&&(is.zip es).all λp=>match p.2 with
  | .Name x _=>bD Γ p.1 x
  | _=>false
 | _,_=>false
def dD:Expr->List Str
 | .Name x _=>[x]
 | .Tuple es _ _=>es.filterMap fun|.Name x _=>some x|_=>none
 | _=>[]
def wH:E->Bool
 | .c (.int i)=>i==0
 | _=>false
def asC(e:Expr):Option { c:Const // ∃k p,e=.Constant c k p }:=match e with
 | .Constant c k p=>some ⟨c,k,p,rfl⟩
 | _=>none
def asN(e:Expr):Option { x:Str // ∃p,e=.Name x p }:=match e with
 | .Name x p=>some ⟨x,p,rfl⟩
 | _=>none
def aEA(e:Expr):Option { r:Expr×Operator×Expr // ∃p,e=.BinOp r.1 r.2.1 r.2.2 p }:=match e with
 | .BinOp l o r p=>some ⟨(l,o,r),p,rfl⟩
 | _=>none
def aKH(e:Expr):Option { r:UnaryOp×Expr // ∃p,e=.UnaryOp r.1 r.2 p }:=match e with
 | .UnaryOp o x p=>some ⟨(o,x),p,rfl⟩
 | _=>none
def aIk(e:Expr):Option { r:BoolOp×List Expr×Pos // e=.BoolOp r.1 r.2.1 r.2.2 }:=match e with
 | .BoolOp o xs p=>some ⟨(o,xs,p),rfl⟩
 | _=>none
def aKI(e:Expr):Option { r:Expr×Expr×Expr // ∃p,e=.IfExp r.1 r.2.1 r.2.2 p }:=match e with
 | .IfExp t a b p=>some ⟨(t,a,b),p,rfl⟩
 | _=>none
def tM(e:Expr):Option { r:Expr×List CmpOp×List Expr // ∃p,e=.Compare r.1 r.2.1 r.2.2 p }:=match e with
 | .Compare l os rs p=>some ⟨(l,os,rs),p,rfl⟩
 | _=>none
def jX(e:Expr):Option { r:Expr×Expr // ∃p,e=.Subscript r.1 r.2 p }:=match e with
 | .Subscript x i p=>some ⟨(x,i),p,rfl⟩
 | _=>none
def aKJ(e:Expr):Option { r:Option Expr×Option Expr // ∃p,e=.Slice r.1 r.2 none p }:=match e with
 | .Slice l h none p=>some ⟨(l,h),p,rfl⟩
 | _=>none
def aKK(e:Expr):Option { r:Const // ∃k p p2,e=.Slice none none (some (.Constant r k p)) p2 }:=match e with
 | .Slice none none (some (.Constant r k p)) p2=>some ⟨r,k,p,p2,rfl⟩
 | _=>none
def aEB(e:Expr):Option { r:List Expr // ∃k p,e=.Tuple r k p }:=match e with
 | .Tuple xs k p=>some ⟨xs,k,p,rfl⟩
 | _=>none
def yC(e:Expr):Option { r:List Expr // ∃p,e=.List r p }:=match e with
 | .List xs p=>some ⟨xs,p,rfl⟩
 | _=>none
def jK(e:Expr):Option { r:Str×List Expr // ∃p1 p2,e=.Call (.Name r.1 p1) r.2 [] p2 }:=match e with
 | .Call (.Name x p1) xs [] p2=>some ⟨(x,xs),p1,p2,rfl⟩
 | _=>none
def aKL(e:Expr):Option { r:Expr×Str×List Expr×Bool // ∃ap cp,e=.Call (.Attribute r.1 r.2.1 ap) r.2.2.1 [] cp/\(ap.endLine==cp.line)=r.2.2.2 }:=match e with
 | .Call (.Attribute x a ap) xs [] cp=>some ⟨(x,a,xs,ap.endLine==cp.line),ap,cp,rfl,rfl⟩
 | _=>none
def aIl(e:Expr):Option { r:Expr×List Comprehension×Scope // ∃p,e=.ListComp r.1 r.2.1 r.2.2 p }:=match e with
 | .ListComp e gs s p=>some ⟨(e,gs,s),p,rfl⟩
 | _=>none
def oB{α:Type}(o:Option α)(f:α->Bool):Bool:=match o with
 | some a=>f a
 | none=>false
def oS{α:Type}{q:α->Prop}(o:Option { a:α // q a })(f:α->Bool):Bool:=match o with
 | some a=>f a.1
 | none=>false
mutual
def aP(Γ:Ct):E->Expr->Bool
 | .c d,e=>oS (asC e) (eqC d)||oS (asN e) λx=>cM Γ x&&bW x&&oB (Γ.cns.lookup x) (eqK d)
 | .v i,e=>oS (asN e) (bC Γ i)
 | .op o a b,e=>oS (aEA e) λp=>o==p.2.1&&aP Γ a p.1&&aP Γ b p.2.2
 | .neg _,_=>false
 | .nt a,e=>oS (aKH e) λp=>p.1==.Not&&aP Γ a p.2
 | .an a b,e=>oS (aIk e) λp=>p.1==.And&&(match p.2.1 with
  | [x,y]=>aP Γ a x&&aP Γ b y
  | x::y::z::r=>aP Γ a x&&aP Γ b (.BoolOp .And (y::z::r) p.2.2)
  | _=>false)
 | .orr a b,e=>oS (aIk e) λp=>p.1==.Or&&(match p.2.1 with
  | [x,y]=>aP Γ a x&&aP Γ b y
  | x::y::z::r=>aP Γ a x&&aP Γ b (.BoolOp .Or (y::z::r) p.2.2)
  | _=>false)
 | .ife t a b,e=>oS (aKI e) λp=>aP Γ t p.1&&aP Γ a p.2.1&&aP Γ b p.2.2
 | .cmp o a b,e=>oS (tM e) λp=>(match p.2.1,p.2.2 with
  | [o'],[r]=>o==o'&&aP Γ a p.1&&aP Γ b r
  | _,_=>false)
 | .cmp2 o1 o2 a b c,e=>oS (tM e) λp=>(match p.2.1,p.2.2 with
  | [o1',o2'],[m,r]=>o1==o1'&&o2==o2'&&aP Γ a p.1&&aP Γ b m&&aP Γ c r
  | _,_=>false)
 | .idx a b,e=>oS (jX e) λp=>aP Γ a p.1&&aP Γ b p.2
 | .sli a lo hi,e=>oS (jX e) λp=>oS (aKJ p.2) λq=>aP Γ a p.1&&chkO Γ lo q.1&&chkO Γ hi q.2
 | .tup es,e=>oS (aEB e) λxs=>decide (xs.length<=1000)&&chkEs Γ es xs
 | .lst es,e=>oS (yC e) λxs=>decide (xs.length<=1000)&&chkEs Γ es xs
 | .call f es,e=>oS (jK e) λp=>(Γ.fns[f]?==some p.1)&&cM Γ p.1&&bW p.1&&chkEs Γ es p.2
 | .callO f a i,e=>oS (jK e) λp=>(Γ.fns[f]?==some p.1)&&cM Γ p.1&&bW p.1&&(match p.2 with
  | [x,y]=>aP Γ a x&&oS (asN y) (λz=>bC Γ i z)
  | _=>false)
 | .neO i a,e=>oS (tM e) λp=>(match p.2.1,p.2.2 with
  | [o'],[r]=>CmpOp.NotEq==o'&&oS (asN p.1) (λz=>bC Γ i z)&&aP Γ a r
  | _,_=>false)
 | .bi b es,e=>oS (jK e) λp=>aBr b&&(jI b==p.1)&&cM Γ p.1&&bW p.1&&!p.2.isEmpty&&chkEs Γ es p.2
 | .mth _ _ _,_=>false
 | .numset _,_=>false
 | .tget i a,e=>oS (aKL e) λp=>oS (asN p.1) λx=>(p.2.1==("get" : Str))&&(Γ.tbs[i]?==some x)&&cM Γ x&&bW x&&p.2.2.2&&(match p.2.2.1 with|[y]=>aP Γ a y|_=>false)
 | .lzip _ _,_=>false
 | .lix i k,e=>oS (jX e) λp=>oS (asN p.1) λx=>bC Γ i x&&aP Γ k p.2
 | .stp a k,e=>oS (jX e) λp=>oS (aKK p.2) λc=>aP Γ a p.1&&eqC (.int k) c
 | .isi a cs,e=>oS (jK e) λp=>(match cs,p.2 with
  | [c],[x,y]=>(p.1==("isinstance" : Str))&&cM Γ p.1&&aKG c&&aP Γ a x&&aEz Γ c y
  | _,_=>false)
 | .comp k caps t it cond elt,e=>oS (aIl e) λp=>(match p.2.1 with
  | [⟨tg,iter,ifs,as⟩]=>
   as==0&&(dD tg).length==k&&(caps.all λi=>decide (i<Γ.N.length))&&decide caps.Nodup&&p.2.2.kind==.function&&decide (dD tg++caps.filterMap λi=>Γ.N[i]?).Nodup &&
   ((caps.filterMap λi=>Γ.N[i]?).all λx=>p.2.2.names.lookup x==some .free&&Γ.sc.lookup x==some .cell) &&
   (p.2.2.names.all λq=>q.2 != .cell&&(q.2 != .local||p.2.2.names.lookup q.1==some .local)&&(q.2 != .free||Γ.sc.lookup q.1==some .cell)) &&
   ((tIx t).all λi=>decide (i<k))&&decide (ifs.length<=1) &&
   jJ { Γ with N:=dD tg++caps.filterMap λi=>Γ.N[i]?,sc:=jW Γ.sc p.2.2.names,fn:=false } t tg&&chkI Γ (nU tg) it iter &&
   chkEs { Γ with N:=dD tg++caps.filterMap λi=>Γ.N[i]?,sc:=jW Γ.sc p.2.2.names,fn:=false } cond ifs &&
   aP { Γ with N:=dD tg++caps.filterMap λi=>Γ.N[i]?,sc:=jW Γ.sc p.2.2.names,fn:=false } elt p.1
  | _=>false)
 | .dic _ _,_=>false
 | .attr _ _,_=>false
def chkEs(Γ:Ct):Es->List Expr->Bool
 | .nil,[]=>true
 | .cons e es,x::xs=>aP Γ e x&&chkEs Γ es xs
 | _,_=>false
def chkO(Γ:Ct):Es->Option Expr->Bool
 | .nil,none=>true
 | .cons e .nil,some x=>aP Γ e x
 | _,_=>false
def chkI(Γ:Ct)(tt:Bool):It->Expr->Bool
 | .rng a b,e=>oS (jK e) λp=>(p.1==("range" : Str))&&cM Γ p.1&&(match p.2 with
  | [x]=>wH a&&aP Γ b x
  | [x,y]=>aP Γ a x&&aP Γ b y
  | _=>false)
 | .zip a b,e=>oS (jK e) λp=>(match p.2 with
  | [x,y]=>tt&&(p.1==("zip" : Str))&&cM Γ p.1&&aP Γ a x&&aP Γ b y
  | _=>false)
 | .seq c,x=>aP Γ c x
 | .enum a,e=>oS (jK e) λp=>(match p.2 with
  | [x]=>tt&&(p.1==("enumerate" : Str))&&cM Γ p.1&&aP Γ a x
  | _=>false)
 | .rev _,_=>false
 | .rng3 _ _ _,_=>false
end
mutual
def bM(Γ:Ct)(l:Nat):EL->Expr->Bool
 | .e a,x=>aP Γ a x
 | .op o a b,e=>oS (aEA e) λp=>o==p.2.1&&bM Γ l a p.1&&bM Γ l b p.2.2
 | .idx a b,e=>oS (jX e) λp=>bM Γ l a p.1&&bM Γ l b p.2
 | .tup es,e=>oS (aEB e) λxs=>decide (xs.length<=1000)&&chkELs Γ l es xs
 | .call f es,e=>oS (jK e) λp=>(Γ.fns[f]?==some p.1)&&cM Γ p.1&&bW p.1&&(match p.2 with
  | x::xs=>oS (asN x) (bC Γ l)&&chkELs Γ l es xs
  | []=>false)
 | .lst es,e=>oS (yC e) λxs=>decide (xs.length<=1000)&&chkELs Γ l es xs
 | .cmp o a b,e=>oS (tM e) λp=>(match p.2.1,p.2.2 with
  | [o'],[r]=>o==o'&&bM Γ l a p.1&&bM Γ l b r
  | _,_=>false)
 | .int a,e=>oS (jK e) λp=>(p.1==("int" : Str))&&cM Γ p.1&&bW p.1&&(match p.2 with
  | [x]=>bM Γ l a x
  | _=>false)
 | .comp k caps t n l' elt,e=>oS (aIl e) λp=>(match p.2.1 with
  | [⟨tg,iter,[],as⟩]=>
   as==0&&(dD tg).length==k&&(caps.all λi=>decide (i<Γ.N.length))&&decide caps.Nodup&&p.2.2.kind==.function&&decide (dD tg++caps.filterMap λi=>Γ.N[i]?).Nodup &&
   ((caps.filterMap λi=>Γ.N[i]?).all λx=>p.2.2.names.lookup x==some .free&&Γ.sc.lookup x==some .cell) &&
   (p.2.2.names.all λq=>q.2 != .cell&&(q.2 != .local||p.2.2.names.lookup q.1==some .local)&&(q.2 != .free||Γ.sc.lookup q.1==some .cell)) &&
   ((tIx t).all λi=>decide (i<k)) &&
   jJ { Γ with N:=dD tg++caps.filterMap λi=>Γ.N[i]?,sc:=jW Γ.sc p.2.2.names,fn:=false } t tg &&
   (oS (jK iter) λq=>(q.1==("range" : Str))&&cM Γ q.1&&(match q.2 with|[x]=>bM Γ l n x|_=>false)) &&
   (decide (k<=l')&&(caps[l'-k]?==some l)) &&
   bM { Γ with N:=dD tg++caps.filterMap λi=>Γ.N[i]?,sc:=jW Γ.sc p.2.2.names,fn:=false } l' elt p.1
  | _=>false)
def chkELs(Γ:Ct)(l:Nat):ELs->List Expr->Bool
 | .nil,[]=>true
 | .cons e es,x::xs=>bM Γ l e x&&chkELs Γ l es xs
 | _,_=>false
end
def jL:Expr->Bool
 | .ListComp _ _ _ _=>true
 | .SetComp _ _ _ _=>true
 | .DictComp _ _ _ _ _=>true
 | _=>false
def wJ:Expr->Bool
 | .Tuple _ _ _=>true
 | .List _ _=>true
 | _=>false
def aFy:Expr->Bool
 | .Name _ _=>true
 | _=>false
def jB(Γ:Ct)(i:Nat)(m:Str):Expr->Option (List Expr)
 | .Call (.Attribute (.Name x _) a ap) xs [] cp=>if (a==m)&&bC Γ i x&&(ap.endLine==cp.line) then some xs else none
 | _=>none
def aAf(s:Stmt):Option { r:Expr×Expr // ∃p,s=.Assign [r.1] r.2 p }:=match s with
 | .Assign [t] v p=>some ⟨(t,v),p,rfl⟩
 | _=>none
def sEx(s:Stmt):Option { r:Expr // ∃p,s=.Expr r p }:=match s with
 | .Expr v p=>some ⟨v,p,rfl⟩
 | _=>none
def aBs(s:Stmt):Option { r:Option Expr // ∃p,s=.Return r p }:=match s with
 | .Return v p=>some ⟨v,p,rfl⟩
 | _=>none
def sIf(s:Stmt):Option { r:Expr×List Stmt×List Stmt // ∃p,s=.If r.1 r.2.1 r.2.2 p }:=match s with
 | .If t x y p=>some ⟨(t,x,y),p,rfl⟩
 | _=>none
def aDj(s:Stmt):Option { r:Expr×Expr×List Stmt // ∃p,s=.For r.1 r.2.1 r.2.2 [] p }:=match s with
 | .For t i b [] p=>some ⟨(t,i,b),p,rfl⟩
 | _=>none
def aKM(s:Stmt):Option { r:Unit // ∃p,s=.Break p }:=match s with
 | .Break p=>some ⟨(),p,rfl⟩
 | _=>none
def aKN(s:Stmt):Option { r:Unit // ∃p,s=.Continue p }:=match s with
 | .Continue p=>some ⟨(),p,rfl⟩
 | _=>none
def aIm(s:Stmt):Option { r:Unit // ∃p,s=.Pass p }:=match s with
 | .Pass p=>some ⟨(),p,rfl⟩
 | _=>none
def aIn(s:Stmt):Option { r:List Stmt // ∃h hs p,s=.Try r (h::hs) [] [] p }:=match s with
 | .Try b (h::hs) [] [] p=>some ⟨b,h,hs,p,rfl⟩
 | _=>none
mutual
def dG(Γ:Ct):S->Stmt->Bool
 | .set t e,s=>oS (aAf s) λr=>jJ Γ t r.1&&aP Γ e r.2&&(aFy r.1||!wJ r.2)
 | .mov i j,s=>oS (aAf s) λr=>oS (asN r.1) λx=>oS (asN r.2) λy=>bD Γ i x&&bC Γ j y
 | .setIx i k e,s=>oS (aAf s) λr=>oS (jX r.1) λu=>oS (asN u.1) λx=>bC Γ i x&&aP Γ k u.2&&aP Γ e r.2
 | .app i e,s=>oS (sEx s) λc=>(match jB Γ i "append" c with|some [a]=>aP Γ e a|_=>false)
 | .appCall _ _ _,_=>false
 | .ext i e,s=>oS (sEx s) λc=>(match jB Γ i "extend" c with|some [a]=>aP Γ e a|_=>false)
 | .pop _ _ _,_=>false
 | .clr _,_=>false
 | .rev _,_=>false
 | .ret e,s=>oS (aBs s) λr=>oB r (aP Γ e)
 | .retv i,s=>oS (aBs s) λr=>oB r λv=>oS (asN v) (bC Γ i)
 | .retN,s=>oS (aBs s) λr=>r.isNone
 | .iff c a b,s=>oS (sIf s) λr=>aP Γ c r.1&&chkSs Γ a r.2.1&&chkSs Γ b r.2.2
 | .for t it b,s=>oS (aDj s) λr=>jJ Γ t r.1&&chkI Γ (nU r.1) it r.2.1&&chkSs Γ b r.2.2
 | .whl _ _,_=>false
 | .brk,s=>oS (aKM s) λ_=>true
 | .cnt,s=>oS (aKN s) λ_=>true
 | .pass,s=>oS (aIm s) λ_=>true
 | .ex e,s=>oS (sEx s) λv=>aP Γ e v&&!jL v
 | .rse _ _ _,_=>true
 | .ins _ _ _,_=>false
 | .try _ _,_=>false
 | .lend,_=>false
 | .tryN b,s=>oS (aIn s) λr=>chkSs Γ b r
 | .set2 i y,s=>oS (aAf s) λr=>oS (asN r.1) λx=>bD Γ i x&&aP Γ (.comp 1 [] (.n 0) (.seq (.v y)) .nil (.bi .list (.cons (.v 0) .nil))) r.2
 | .grow2 i r,s=>oS (aDj s) λq=>oS (asN q.1) λz=>bD Γ r z&&(oS (asN q.2.1) λx=>bC Γ i x)&&(match q.2.2 with
  | [t]=>oS (sEx t) λc=>(match jB Γ r "append" c with|some [a]=>oS (jX a) (λq=>oS (asN q.1) (λz=>bC Γ r z)&&aP Γ (.c (.int 0)) q.2)|_=>false)
  | _=>false)
 | .forT t i c,s=>oS (aDj s) λq=>oS (asN q.1) λz=>bD Γ t z&&(oS (asN q.2.1) λx=>bC Γ i x)&&(match q.2.2 with
  | [b]=>oS (sIf b) λr=>aP Γ c r.1&&r.2.2.isEmpty
  | _=>false)
 | .app2 i,s=>oS (sEx s) λc=>(match jB Γ i "append" c with|some [a]=>oS (yC a) (λxs=>xs.isEmpty)|_=>false)
 | .lset i k e,s=>oS (aAf s) λr=>oS (jX r.1) λu=>oS (asN u.1) λx=>bC Γ i x&&aP Γ k u.2&&aP Γ e r.2
 | .setL i l _ e,s=>oS (aAf s) λr=>oS (asN r.1) λx=>bD Γ i x&&bM Γ l e r.2&&!jL r.2
 | .appL i l e,s=>oS (sEx s) λc=>(match jB Γ i "append" c with|some [a]=>bM Γ l e a|_=>false)
 | .retL e,s=>oS (aBs s) λr=>oB r (bM Γ 0 e)
 | .retvL i,s=>oS (aBs s) λr=>oB r λv=>oS (asN v) (bC Γ i)
 | .iffL o a b x y,s=>oS (sIf s) λr=>(oS (tM r.1) λp=>(match p.2.1,p.2.2 with
  | [o'],[z]=>o==o'&&bM Γ 0 a p.1&&aP Γ b z
  | _,_=>false))&&chkSs Γ x r.2.1&&chkSs Γ y r.2.2
 | .forL t e b,s=>oS (aDj s) λr=>jJ Γ t r.1&&(oS (jK r.2.1) λp=>(p.1==("range" : Str))&&cM Γ p.1&&(match p.2 with
  | [x]=>bM Γ 0 e x
  | _=>false))&&chkSs Γ b r.2.2
def chkSs(Γ:Ct):Ss->List Stmt->Bool
 | .nil,[]=>true
 | .cons .lend ss,xs=>chkSs Γ ss xs
 | .cons s ss,x::xs=>dG Γ s x&&chkSs Γ ss xs
 | _,_=>false
end
end Hp
end
noncomputable section
namespace Hp
open PySem PySem.Spec PyProof.Rows L2
theorem jY(n:Nat){d:Nat}(hd:d<=n):∀lo,sIx n d lo<=n
 | none=>hd
 | some v=>by
  unfold sIx
  dsimp only
  split <;> omega
theorem tN(lo hi:Option Int)(n:Nat):Builtin.Str.strSliceIndices lo hi 1 n=Builtin.Str.strSliceIndices (some ((sIx n 0 lo:Nat):Int)) (some ((sIx n n hi:Nat):Int)) 1 n:=by
 have h1:(1:Int)>0:=by decide
 have key:∀(d:Nat) (hd:d<=n) (o:Option Int),(match o with|none=>(d:Int)|some i=>max 0 (min (if i<0 then i+(n:Int) else i) (n:Int)))=((sIx n d o:Nat):Int):=by
  intro d hd o
  cases o with
  | none=>rfl
  | some i=>
   unfold sIx
   dsimp only
   split <;> omega
 have k2:∀(m:Nat),m<=n->max (0:Int) (min (if (m:Int)<0 then (m:Int)+(n:Int) else (m:Int)) (n:Int))=(m:Int):=by
  intro m hm
  split <;> omega
 unfold Builtin.Str.strSliceIndices
 simp only[h1,if_true]
 have e1:=key 0 (Nat.zero_le _) lo
 have e2:=key n (Nat.le_refl _) hi
 have f1:=k2 _ (jY n (Nat.zero_le _) lo)
 have f2:=k2 _ (jY n (Nat.le_refl _) hi)
 rw[f1,f2]
 cases lo <;> cases hi <;> simp_all
theorem pI(x:Str)(lo hi:Option Int):StrLaws.sliceText x lo hi=wD x lo hi:=by
 have hl:x.cps.toList.length=x.length:=by show _=x.cps.size;simp
 have e:StrLaws.sliceText x lo hi=StrLaws.sliceText x (some ((sIx x.length 0 lo:Nat):Int)) (some ((sIx x.length x.length hi:Nat):Int)):=by
  unfold StrLaws.sliceText
  rw[tN]
 rw[e]
 unfold wD cut
 rw[hl]
 by_cases h:sIx x.length 0 lo<=sIx x.length x.length hi
 . exact StrLaws.sliceText_nat x h (jY _ (Nat.le_refl _) hi)
 . have h0:sIx x.length x.length hi-sIx x.length 0 lo=0:=by omega
   have hlo:=jY x.length (Nat.zero_le _) lo
   have hhi:=jY x.length (Nat.le_refl _) hi
   rw[h0,List.take_zero]
   generalize sIx x.length 0 lo=i at *
   generalize sIx x.length x.length hi=j at *
   have he:Builtin.Str.strSliceIndices (some (i:Int)) (some (j:Int)) 1 x.length=[]:=by
    unfold Builtin.Str.strSliceIndices
    have h1:(1:Int)>0:=by decide
    simp only[h1,if_true]
    rw[if_neg (by omega),if_neg (by omega)]
    have a1:max (0:Int) (min (i:Int) (x.length:Int))=i:=by omega
    have a2:max (0:Int) (min (j:Int) (x.length:Int))=j:=by omega
    rw[a1,a2]
    unfold sliceRange
    simp
    omega
   unfold StrLaws.sliceText
   rw[he]
   simp
   intro hz
   omega
def aBt:V->Option Int->Option Int->L2.Hp->VK->Prop:=λx lo hi H Q=>∃a,x=.str a/\a.length<=sizeLine/\Q (.str (wD a lo hi)) H
section
variable {X:Cx}
theorem aFz:SlR X aBt:=by
 intro pins s σ H x v vl vu lo hi sl Q I rx hs pl pu h
 obtain⟨a,rfl,hz,q⟩:=h
 obtain⟨t,rfl⟩:=rx
 have fin:∀(l u:Option (Int×Tok)),l.map (·.1)=lo->u.map (·.1)=hi->s.heap.IsSlice sl l u none->wpAny (model X.prog X.w) X.A (getItem (.str a t) (.ref sl)) (EP X pins σ Q) X.xe s:=by
  intro l u e1 e2 h
  refine wpAny_getItem_str_slice h rfl ?_
  have e:StrLaws.sliceText a lo hi=wD a lo hi:=pI a lo hi
  unfold StrLaws.sliceText at e
  subst e1 e2
  show Made.post (if ((1:Int)==1&&(Builtin.Str.strSliceIndices (l.map (·.1)) (u.map (·.1)) 1 a.length).length==a.length)=true then _ else _) _ s
  split
  . rename_i hc
    rw[if_pos hc] at e
    exact⟨.str a,H,I,⟨t,rfl⟩,by rw[e];exact q⟩
  . rename_i hc
    rw[if_neg hc] at e
    have hle:(wD a (l.map (·.1)) (u.map (·.1))).length<=sizeLine:=by
     refine Nat.le_trans ?_ hz
     show(cut a.cps.toList _ _).toArray.size<=a.cps.size
     unfold cut
     rw[List.size_toArray,List.length_take,List.length_drop,Array.length_toList]
     omega
    refine⟨by rw[<-e] at hle;exact hle,.str (wD a (l.map (·.1)) (u.map (·.1))),H,I.tok _,?_,q⟩
    rw[<-e]
    exact⟨_,rfl⟩
 refine⟨"str",_,slot_str_getitem.lookup,rfl,?_⟩
 cases pl with
 | none=>
  cases pu with
  | none=>exact fin none none rfl rfl hs
  | int j tj=>exact fin none (some (j,tj)) rfl rfl hs
 | int i ti=>
  cases pu with
  | none=>exact fin (some (i,ti)) none rfl rfl hs
  | int j tj=>exact fin (some (i,ti)) (some (j,tj)) rfl rfl hs
end
end Hp
end
noncomputable section
namespace Hp
open PySem L2
abbrev Fg:=PySem.W.Frag
def kD:Key->D
 | .inl i=>.int i
 | .inr x=>.str x
mutual
def Rep(K:Fg)(H:Hp)(ex:Addr->Prop):D->V->Prop
 | .non,v=>v=.non
 | .bl b,v=>v=.bl b
 | .int i,v=>v=.int i
 | .str x,v=>v=.str x
 | .tup ds,v=>∃a xs,v=.ref a/\SqT K H a xs/\Reps K H ex ds xs
 | .lst ds,v=>∃a xs,v=.ref a/\SqL K H a xs/\¬ ex a/\Reps K H ex ds xs
 | .dic kvs,v=>∃a ks,v=.ref a/\H a=some (.dK ks)/\RepKV K H ex kvs ks
 | .err _ _,_=>False
def Reps(K:Fg)(H:Hp)(ex:Addr->Prop):List D->List V->Prop
 | [],xs=>xs=[]
 | d::ds,xs=>∃x r,xs=x::r/\Rep K H ex d x/\Reps K H ex ds r
def RepKV(K:Fg)(H:Hp)(ex:Addr->Prop):List (D×D)->List (Key×V)->Prop
 | [],ks=>ks=[]
 | (k,d)::r,ks=>∃k' x r',ks=(k',x)::r'/\kD k'=k/\Rep K H ex d x/\RepKV K H ex r r'
end
section
variable {K:Fg} {H H':Hp} {ex ex':Addr->Prop}
theorem aL.seqT{a:Addr}{xs:List V}(e:aL H H')(h:SqT K H a xs):SqT K H' a xs:=by
 rcases h with(h|⟨o,h⟩)|h
 . exact .inl (.inl (e _ _ h))
 . exact .inl (.inr ⟨o,e _ _ h⟩)
 . exact .inr h
mutual
theorem Rep.imp(hT:∀a xs,SqT K H a xs->SqT K H' a xs)(hL:∀a xs,¬ ex a->SqL K H a xs->¬ ex' a/\SqL K H' a xs)(hD:∀a ks,H a=some (.dK ks)->H' a=some (.dK ks)) :
 ∀(d:D) (v:V),Rep K H ex d v->Rep K H' ex' d v
 | .non,_,h=>h
 | .bl _,_,h=>h
 | .int _,_,h=>h
 | .str _,_,h=>h
 | .tup ds,_,h=>by
  obtain⟨a,xs,e,q,r⟩:=h
  exact⟨a,xs,e,hT a xs q,Reps.imp hT hL hD ds xs r⟩
 | .lst ds,_,h=>by
  obtain⟨a,xs,e,q,n,r⟩:=h
  obtain⟨n',q'⟩:=hL a xs n q
  exact⟨a,xs,e,q',n',Reps.imp hT hL hD ds xs r⟩
 | .dic kvs,_,h=>by
  obtain⟨a,ks,e,q,r⟩:=h
  exact⟨a,ks,e,hD a ks q,RepKV.imp hT hL hD kvs ks r⟩
 | .err _ _,_,h=>h.elim
theorem Reps.imp(hT:∀a xs,SqT K H a xs->SqT K H' a xs)(hL:∀a xs,¬ ex a->SqL K H a xs->¬ ex' a/\SqL K H' a xs)(hD:∀a ks,H a=some (.dK ks)->H' a=some (.dK ks)) :
 ∀(ds:List D) (xs:List V),Reps K H ex ds xs->Reps K H' ex' ds xs
 | [],_,h=>h
 | d::ds,_,h=>by
  obtain⟨x,r,e,h1,h2⟩:=h
  exact⟨x,r,e,Rep.imp hT hL hD d x h1,Reps.imp hT hL hD ds r h2⟩
theorem RepKV.imp(hT:∀a xs,SqT K H a xs->SqT K H' a xs)(hL:∀a xs,¬ ex a->SqL K H a xs->¬ ex' a/\SqL K H' a xs)(hD:∀a ks,H a=some (.dK ks)->H' a=some (.dK ks)) :
 ∀(ds:List (D×D)) (xs:List (Key×V)),RepKV K H ex ds xs->RepKV K H' ex' ds xs
 | [],_,h=>h
 | (k,d)::ds,_,h=>by
  obtain⟨k',x,r,e,ek,h1,h2⟩:=h
  exact⟨k',x,r,e,ek,Rep.imp hT hL hD d x h1,RepKV.imp hT hL hD ds r h2⟩
end
theorem Rep.weak{d:D}{v:V}(h:Rep K H ex d v)(e:∀a,ex' a->ex a):Rep K H ex' d v:=Rep.imp (λ_ _ q=>q) (λa _ n q=>⟨λz=>n (e a z),q⟩) (λ_ _ q=>q) d v h
theorem Reps.weak{d:List D}{v:List V}(h:Reps K H ex d v)(e:∀a,ex' a->ex a):Reps K H ex' d v:=Reps.imp (λ_ _ q=>q) (λa _ n q=>⟨λz=>n (e a z),q⟩) (λ_ _ q=>q) d v h
theorem Rep.grow{d:D}{v:V}(h:Rep K H ex d v)(s:aL H H'):Rep K H' ex d v:=Rep.imp (λ_ _ q=>aL.seqT s q) (λ_ _ n q=>⟨n,s.seq q⟩) (λ_ _ q=>s _ _ q) d v h
theorem Reps.grow{d:List D}{v:List V}(h:Reps K H ex d v)(s:aL H H'):Reps K H' ex d v:=Reps.imp (λ_ _ q=>aL.seqT s q) (λ_ _ n q=>⟨n,s.seq q⟩) (λ_ _ q=>s _ _ q) d v h
theorem Rep.keep{d:D}{v:V}(h:Rep K H ex d v)(s:∀a o,H a=some o->(∀xs,o=.lst xs->¬ ex a)->H' a=some o):Rep K H' ex d v:=by
 refine Rep.imp (λa xs q=>?_) (λa xs n q=>⟨n,?_⟩) (λa ks q=>s a _ q (λxs e=>by cases e)) d v h
 . rcases q with(q|⟨o,q⟩)|q
   . exact .inl (.inl (s _ _ q λxs e=>by cases e))
   . exact .inl (.inr ⟨o,s _ _ q λxs e=>by cases e⟩)
   . exact .inr q
 . rcases q with(q|⟨o,q⟩)|q
   . exact .inl (.inl (s _ _ q λ_ _=>n))
   . exact .inl (.inr ⟨o,s _ _ q λxs e=>by cases e⟩)
   . exact .inr q
theorem Reps.keep{d:List D}{v:List V}(h:Reps K H ex d v)(s:∀a o,H a=some o->(∀xs,o=.lst xs->¬ ex a)->H' a=some o):Reps K H' ex d v:=by
 refine Reps.imp (λa xs q=>?_) (λa xs n q=>⟨n,?_⟩) (λa ks q=>s a _ q (λxs e=>by cases e)) d v h
 . rcases q with(q|⟨o,q⟩)|q
   . exact .inl (.inl (s _ _ q λxs e=>by cases e))
   . exact .inl (.inr ⟨o,s _ _ q λxs e=>by cases e⟩)
   . exact .inr q
 . rcases q with(q|⟨o,q⟩)|q
   . exact .inl (.inl (s _ _ q λ_ _=>n))
   . exact .inl (.inr ⟨o,s _ _ q λxs e=>by cases e⟩)
   . exact .inr q
mutual
theorem Rep.free:∀(d:D) (v:V),noL d=true->Rep K H ex d v->Rep K H ex' d v
 | .non,_,_,h=>h
 | .bl _,_,_,h=>h
 | .int _,_,_,h=>h
 | .str _,_,_,h=>h
 | .tup ds,_,n,h=>by
  obtain⟨a,xs,e,q,r⟩:=h
  exact⟨a,xs,e,q,Reps.free ds xs (by simpa[noL] using n) r⟩
 | .lst ds,_,n,_=>by simp[noL] at n
 | .dic kvs,_,n,_=>by simp[noL] at n
 | .err _ _,_,n,_=>by simp[noL] at n
theorem Reps.free:∀(ds:List D) (xs:List V),noLs ds=true->Reps K H ex ds xs->Reps K H ex' ds xs
 | [],_,_,h=>h
 | d::ds,_,n,h=>by
  obtain⟨x,r,e,h1,h2⟩:=h
  simp only[noLs,bA] at n
  exact⟨x,r,e,Rep.free d x n.1 h1,Reps.free ds r n.2 h2⟩
end
theorem Reps.length:∀{ds:List D} {xs:List V},Reps K H ex ds xs->ds.length=xs.length
 | [],_,h=>by rw[show _=[] from h];rfl
 | d::ds,_,h=>by
  obtain⟨x,r,e,_,h2⟩:=h
  subst e
  rw[lC,lC,Reps.length h2]
theorem Reps.get:∀{ds:List D} {xs:List V} {j:Nat} {d:D},Reps K H ex ds xs->ds[j]? = some d->∃x,xs[j]? = some x/\Rep K H ex d x
 | [],_,_,_,_,e=>by simp at e
 | d::ds,_,0,_,h,e=>by
  obtain⟨x,r,e',h1,_⟩:=h
  subst e'
  simp at e
  subst e
  exact⟨x,rfl,h1⟩
 | d::ds,_,j+1,d',h,e=>by
  obtain⟨x,r,e',_,h2⟩:=h
  subst e'
  obtain⟨y,hy,q⟩:=Reps.get (j:=j) (d:=d') h2 (by simpa using e)
  exact⟨y,by simpa using hy,q⟩
theorem Reps.get'{ds:List D}{xs:List V}{j:Nat}{x:V}(h:Reps K H ex ds xs)(e:xs[j]? = some x):∃d,ds[j]? = some d/\Rep K H ex d x:=by
 have hl:=h.length
 have hj:j<xs.length:=(List.getElem?_eq_some_iff.mp e).1
 obtain⟨d,hd⟩:∃d,ds[j]? = some d:=⟨ds[j],List.getElem?_eq_getElem (by omega)⟩
 obtain⟨y,hy,q⟩:=h.get hd
 rw[e] at hy
 cases hy
 exact⟨d,hd,q⟩
theorem Reps.nil:Reps K H ex [] []:=rfl
theorem Reps.cons{d:D}{ds:List D}{x:V}{xs:List V}(h:Rep K H ex d x)(t:Reps K H ex ds xs):Reps K H ex (d::ds) (x::xs):=⟨x,xs,rfl,h,t⟩
theorem Reps.append:∀{ds es:List D} {xs ys:List V},Reps K H ex ds xs->Reps K H ex es ys->Reps K H ex (ds++es) (xs++ys)
 | [],_,_,_,h,t=>by rw[show _=[] from h];exact t
 | d::ds,_,_,_,h,t=>by
  obtain⟨x,r,e,h1,h2⟩:=h
  subst e
  exact⟨x,_,rfl,h1,Reps.append h2 t⟩
theorem Reps.take:∀{ds:List D} {xs:List V} (n:Nat),Reps K H ex ds xs->Reps K H ex (ds.take n) (xs.take n)
 | _,_,0,_=>by simp[Reps]
 | [],_,n+1,h=>by rw[show _=[] from h];simp[Reps]
 | d::ds,_,n+1,h=>by
  obtain⟨x,r,e,h1,h2⟩:=h
  subst e
  exact⟨x,_,rfl,h1,Reps.take n h2⟩
theorem Reps.drop:∀{ds:List D} {xs:List V} (n:Nat),Reps K H ex ds xs->Reps K H ex (ds.drop n) (xs.drop n)
 | _,_,0,h=>h
 | [],_,n+1,h=>by rw[show _=[] from h];simp[Reps]
 | d::ds,_,n+1,h=>by
  obtain⟨x,r,e,h1,h2⟩:=h
  subst e
  exact Reps.drop n h2
theorem Reps.set:∀{ds:List D} {xs:List V} {d:D} {x:V} (j:Nat),Reps K H ex ds xs->Rep K H ex d x->Reps K H ex (ds.set j d) (xs.set j x)
 | [],_,_,_,_,h,_=>by rw[show _=[] from h];simp[Reps]
 | d::ds,_,_,_,0,h,q=>by
  obtain⟨x,r,e,h1,h2⟩:=h
  subst e
  exact⟨_,_,rfl,q,h2⟩
 | d::ds,_,_,_,j+1,h,q=>by
  obtain⟨x,r,e,h1,h2⟩:=h
  subst e
  exact⟨x,_,rfl,h1,Reps.set j h2 q⟩
theorem Reps.eraseIdx:∀{ds:List D} {xs:List V} (j:Nat),Reps K H ex ds xs->Reps K H ex (ds.eraseIdx j) (xs.eraseIdx j)
 | [],_,_,h=>by rw[show _=[] from h];simp[Reps]
 | d::ds,_,0,h=>by
  obtain⟨x,r,e,h1,h2⟩:=h
  subst e
  exact h2
 | d::ds,_,j+1,h=>by
  obtain⟨x,r,e,h1,h2⟩:=h
  subst e
  exact⟨x,_,rfl,h1,Reps.eraseIdx j h2⟩
theorem Reps.reverse:∀{ds:List D} {xs:List V},Reps K H ex ds xs->Reps K H ex ds.reverse xs.reverse
 | [],_,h=>by rw[show _=[] from h];simp[Reps]
 | d::ds,_,h=>by
  obtain⟨x,r,e,h1,h2⟩:=h
  subst e
  rw[List.reverse_cons,List.reverse_cons]
  exact(Reps.reverse h2).append (.cons h1 .nil)
theorem Reps.flat:∀{ds:List D} {xs:List V},Reps K H ex ds xs->∀k:Nat,Reps K H ex (List.replicate k ds).flatten (List.replicate k xs).flatten
 | _,_,_,0=>by simp[Reps]
 | ds,xs,h,k+1=>by
  rw[List.replicate_succ,List.replicate_succ,List.flatten_cons,List.flatten_cons]
  exact h.append (Reps.flat h k)
end
end Hp
end
noncomputable section
namespace Hp
open PySem PySem.Spec PyProof.Rows L2
theorem jZ(a b:Str):(a++b).length=a.length+b.length:=by
 show(a.cps++b.cps).size=_
 rw[Array.size_append];rfl
theorem aDk{x:Str}(h:aBj x=true):(reprText x).length=x.length+2:=by
 have q:reprQuote x=39:=by
  unfold reprQuote
  have:x.cps.contains 39=false:=by
   cases z:x.cps.contains 39 with
   | false=>rfl
   | true=>
    have hm:39∈x.cps:=by simpa using z
    unfold aBj at h
    rw[Array.all_eq_true'] at h
    have:=h 39 hm
    simp at this
  rw[this];rfl
 have all:∀c∈List.range 26,(Builtin.Str.reprChar 39 (97+c)).length=1:=by decide +kernel
 have one:∀c∈x.cps.toList,(Builtin.Str.reprChar 39 c).length=1:=λc hc=>by
  unfold aBj at h
  rw[Array.all_eq_true'] at h
  have:=h c (by simpa using hc)
  simp only[bA,decide_eq_true_eq] at this
  have z:=all (c-97) (by rw[List.mem_range];omega)
  rwa [show 97+(c-97)=c by omega] at z
 have fold:∀(l:List Nat) (n:Nat),(∀c∈l,(Builtin.Str.reprChar 39 c).length=1)->l.foldl (λn c=>n+(Builtin.Str.reprChar 39 c).length) n=n+l.length:=by
  intro l
  induction l with
  | nil=>intro n _;rfl
  | cons c l ih=>
   intro n hl
   rw[List.foldl_cons,ih _ λd hd=>hl d (List.mem_cons_of_mem _ hd),hl c List.mem_cons_self,lC]
   omega
 have e:=reprLen_eq x
 rw[q,<-Array.foldl_toList,fold _ _ one] at e
 rw[<-e]
 show 2+x.cps.toList.length=x.cps.size+2
 rw[Array.length_toList];omega
mutual
theorem aBu:∀d:D,wt d<lim->(gD d).shown.length<=wt d/\(gD d).showable=true/\(gD d).hasDict=false/\(gD d).depth=dpt d
 | .non,_=>by simp only[gD,PyData.shown,PyData.showable,PyData.hasDict,PyData.depth,dpt,wt];decide
 | .bl b,_=>by simp only[gD,PyData.shown,PyData.showable,PyData.hasDict,PyData.depth,dpt,wt];cases b <;> decide
 | .int i,h=>by
  rw[wt] at h
  by_cases hi:i.natAbs<1000000000
  . have e:=int_text_length_le10 (k:=9) (by decide) (show i.natAbs<10 ^ 9 from hi)
    have l:=log2_of hi
    simp only[gD,PyData.shown,PyData.showable,PyData.hasDict,PyData.depth,dpt,wt,if_pos hi,decide_eq_true l,and_self,and_true]
    rw[PySem.ofString_length];omega
  . rw[if_neg hi] at h;exact absurd h (Nat.lt_irrefl _)
 | .str x,h=>by
  rw[wt] at h
  by_cases hx:aBj x=true
  . have e:=aDk hx
    simp only[gD,PyData.shown,PyData.showable,PyData.hasDict,PyData.depth,dpt,wt,if_pos hx,e,and_self,Nat.le_refl]
  . rw[if_neg hx] at h;exact absurd h (Nat.lt_irrefl _)
 | .tup ds,h=>by
  rw[wt] at h
  obtain⟨h1,h2,h3,h4⟩:=shown_les ds (by omega)
  have e:(tupleText (PyData.shownAll (toPys ds))).length<=3+piled (PyData.shownAll (toPys ds)):=by
   unfold tupleText
   rw[jZ,jZ]
   have e1:((("(" : String):Str)).length=1:=rfl
   have e2:(((if (PyData.shownAll (toPys ds)).length==1 then ",)" else ")" : String):Str)).length<=2:=by split <;> decide
   have e3:(Str.join ", " (PyData.shownAll (toPys ds))).length<=piled (PyData.shownAll (toPys ds)):=by
    by_cases z:PyData.shownAll (toPys ds)=[]
    . rw[z];decide
    . have:=join_length_add _ z;omega
   omega
  simp only[gD,PyData.shown,PyData.showable,PyData.hasDict,PyData.depth,dpt,wt,h2,h3,h4,and_self,and_true]
  omega
 | .lst ds,h=>by
  rw[wt] at h
  obtain⟨h1,h2,h3,h4⟩:=shown_les ds (by omega)
  have e:(listText (PyData.shownAll (toPys ds))).length<=2+piled (PyData.shownAll (toPys ds)):=by
   unfold listText
   rw[jZ]
   have e1:((("]" : String):Str)).length=1:=rfl
   have e2:(textFrom 0 "[" (PyData.shownAll (toPys ds))).length<=1+piled (PyData.shownAll (toPys ds)):=by
    cases PyData.shownAll (toPys ds) with
    | nil=>decide
    | cons t r=>
     have z:=textFrom_length_pos r 1 (("[" : Str)++(if (0:Nat)>0 then ", " else "" : String)++t) (Nat.succ_pos 0)
     show(textFrom 1 (("[" : Str)++(if (0:Nat)>0 then ", " else "" : String)++t) r).length<=_
     rw[z,jZ,jZ,piled_cons]
     have e0:((("[" : String):Str)).length=1:=rfl
     have e1:(((if (0:Nat)>0 then ", " else "" : String):Str)).length=0:=rfl
     omega
   omega
  simp only[gD,PyData.shown,PyData.showable,PyData.hasDict,PyData.depth,dpt,wt,h2,h3,h4,and_self,and_true]
  omega
 | .dic _,h=>by rw[wt] at h;exact absurd h (Nat.lt_irrefl _)
 | .err _ _,h=>by rw[wt] at h;exact absurd h (Nat.lt_irrefl _)
theorem shown_les:∀ds:List D,wts ds<lim->piled (PyData.shownAll (toPys ds))<=wts ds/\PyData.showableAll (toPys ds)=true/\PyData.hasDictAll (toPys ds)=false/\PyData.depthAll (toPys ds)=dpts ds
 | [],_=>by simp only[toPys,PyData.shownAll,PyData.showableAll,PyData.hasDictAll,PyData.depthAll,dpts,wts];decide
 | d::ds,h=>by
  rw[wts] at h
  obtain⟨h1,h2,h3,h4⟩:=aBu d (by omega)
  obtain⟨g1,g2,g3,g4⟩:=shown_les ds (by omega)
  simp only[toPys,PyData.shownAll,PyData.showableAll,PyData.hasDictAll,PyData.depthAll,dpts,wts,piled_cons,h2,h3,h4,g2,g3,g4,Bool.and_self,Bool.or_self,and_self,and_true]
  omega
theorem log2_of{n:Nat}(h:n<1000000000):n.log2<1920:=by
 by_cases hz:n=0
 . rw[hz];decide
 . exact Nat.lt_of_lt_of_le ((Nat.log2_lt hz).mpr (Nat.lt_trans h (by decide:1000000000<2 ^ 30))) (by decide)
end
section
variable {X:Cx} {pins:List (Addr×Obj)} {σ:L2.St} {H:Hp} {s:Shared}
mutual
theorem aBv{ex:Addr->Prop}(I:Inv X pins σ H s):∀(d:D) {v:V} {u:Value},Rep X.K H ex d v->bP v u->wt d<lim->∃as,Reads s.heap u (gD d) as
 | .non,v,u,h,r,_=>by
  rw[show v=.non from h] at r
  rw[show u=.none from r,gD]
  exact⟨_,.none⟩
 | .bl b,v,u,h,r,_=>by
  rw[show v=.bl b from h] at r
  rw[show u=.bool b from r,gD]
  exact⟨_,.bool b⟩
 | .int i,v,u,h,r,_=>by
  rw[show v=.int i from h] at r
  obtain⟨t,e⟩:∃t,u=.int i t:=r
  rw[e,gD]
  exact⟨_,.int i t⟩
 | .str x,v,u,h,r,_=>by
  rw[show v=.str x from h] at r
  obtain⟨t,e⟩:∃t,u=.str x t:=r
  rw[e,gD]
  exact⟨_,.str x t⟩
 | .tup ds,v,u,h,r,hw=>by
  obtain⟨a,xs,e,q,rr⟩:=h
  subst e
  rw[show u=.ref a from r,gD]
  rw[wt] at hw
  obtain⟨its,rv,⟨o,ho,hc,n,hd⟩,_⟩:=I.tuple q
  obtain⟨as,ra⟩:=reads_ofs I ds rr rv (by omega)
  exact⟨_,.tuple ho hc hd (by simpa using ra)⟩
 | .lst ds,v,u,h,r,hw=>by
  obtain⟨a,xs,e,q,_,rr⟩:=h
  subst e
  rw[show u=.ref a from r,gD]
  rw[wt] at hw
  obtain⟨its,rv,pl,_⟩:=I.list q
  obtain⟨o,ho,hc,n,hd⟩:=pl.isList
  obtain⟨as,ra⟩:=reads_ofs I ds rr rv (by omega)
  exact⟨_,.list ho hc hd (by simpa using ra)⟩
 | .dic _,_,_,_,_,hw=>by rw[wt] at hw;exact absurd hw (Nat.lt_irrefl _)
 | .err _ _,_,_,h,_,_=>h.elim
theorem reads_ofs{ex:Addr->Prop}(I:Inv X pins σ H s):∀(ds:List D) {vs:List V} {us:List Value},Reps X.K H ex ds vs->aU vs us->wts ds<lim->∃as,ReadsAll s.heap us (toPys ds) as
 | [],vs,us,h,r,_=>by
  rw[show vs=[] from h] at r
  cases r
  exact⟨_,by rw[toPys];exact .nil⟩
 | d::ds,vs,us,h,r,hw=>by
  obtain⟨x,r',e,h1,h2⟩:=h
  subst e
  cases r with
  | cons r1 r2=>
   rw[wts] at hw
   obtain⟨as,ra⟩:=aBv I d h1 r1 (by omega)
   obtain⟨bs,rb⟩:=reads_ofs I ds h2 r2 (by omega)
   exact⟨_,by rw[toPys];exact .cons ra rb⟩
end
end
def Kp(R:Addr->Prop)(H H':Hp):Prop:=∀a o,H a=some o->¬ R a->H' a=some o
def RE{α:Type}:R α->(α->Prop)->Prop
 | .ok a,p=>p a
 | _,_=>False
theorem RE.mono{α:Type}{x:R α}{p q:α->Prop}(h:RE x p)(f:∀a,p a->q a):RE x q:=by
 cases x with
 | ok a=>exact f a h
 | exc e=>exact h
 | bad=>exact h
theorem RE.bind{α β:Type}{x:R α}{f:α->R β}{p:β->Prop}:RE (x >>= f) p=RE x λa=>RE (f a) p:=by
 cases x <;> rfl
theorem RE.iff{α:Type}{c:Bool}{x:R α}{p:α->Prop}(h:RE (R.iff c x) p):c=true/\RE x p:=by
 cases c with
 | true=>exact⟨rfl,h⟩
 | false=>exact h.elim
section
variable (K:Fg) (RT Y old:Addr->Prop)
def exB(pa:Bool)(a:Addr):Prop:=Y a\/(pa=false/\old a)
def Tk(H:Hp):Prop:=∀b,H b≠none->K.lookup b=none
def Rws(H:Hp):List (List D)->List Addr->Prop
 | [],bs=>bs=[]
 | ds::dss,bs=>∃b r xs,bs=b::r/\H b=some (.lst xs)/\noLs ds=true/\Reps K H (λ_=>False) ds xs/\Rws H dss r
def Pt(σ:Sg)(σV:L2.St)(p:Addr):Prop:=RT p/\¬ old p/\∀(k:Nat) (pa:Bool) (ds:List D),σ[k]? = some (.own pa ds)->σV[k]?≠some (some (.ref p))
structure Lx (σ:Sg) (σV:L2.St) (H:Hp):Prop where
 at':∀(i:Nat) (ds:List D),σ[i]? = some (.lent ds)->∃a xs,σV[i]? = some (some (.ref a))/\H a=some (.lst xs)/\RT a/\old a/\Reps K H (λa=>RT a\/exB Y old true a) ds xs
 inj:∀(i j:Nat) (ds ds':List D) (a:Addr),σ[i]? = some (.lent ds)->σ[j]? = some (.lent ds')->σV[i]? = some (some (.ref a))->σV[j]? = some (some (.ref a))->i=j
 at2:∀(i:Nat) (dss:List (List D)),σ[i]? = some (.own2 dss)->∃a bs,σV[i]? = some (some (.ref a))/\H a=some (.lst (bs.map V.ref))/\(∀b∈a::bs,Pt RT old σ σV b)/\(a::bs).Nodup/\Rws K H dss bs
 one:∀(i j:Nat) (dss dss':List (List D)),σ[i]? = some (.own2 dss)->σ[j]? = some (.own2 dss')->i=j
structure Sx (σ:Sg) (σV:L2.St) (H:Hp):Prop where
 sh:∀(i:Nat) (pa:Bool) (d:D),σ[i]? = some (.sh pa d)->∃v,σV[i]? = some (some v)/\Rep K H (λa=>RT a\/exB Y old pa a) d v
 own:∀(i:Nat) (pa:Bool) (ds:List D),σ[i]? = some (.own pa ds)->∃a xs,σV[i]? = some (some (.ref a))/\H a=some (.lst xs)/\RT a/\¬ old a/\Reps K H (λa=>RT a\/exB Y old pa a) ds xs
 trk:∀a,RT a\/Y a\/old a->H a≠none
 yo:∀a,Y a->old a
 tk:Tk K H
 rt:∀a,RT a->∃xs,H a=some (.lst xs)
 inj:∀(i j:Nat) (pa pa':Bool) (ds ds':List D) (a:Addr),σ[i]? = some (.own pa ds)->σ[j]? = some (.own pa' ds')->σV[i]? = some (some (.ref a))->σV[j]? = some (some (.ref a))->i=j
 len:σ.length=σV.length
 lx:Lx K RT Y old σ σV H
def alR(σ:Sg)(σV:L2.St)(al:List Nat)(a:Addr):Prop:=∃j∈al,(∃pa ds,σ[j]? = some (.own pa ds))/\σV[j]? = some (some (.ref a))
def exV(σ:Sg)(σV:L2.St)(pa:Bool)(al:List Nat)(a:Addr):Prop:=(RT a/\¬ alR σ σV al a)\/exB Y old pa a
def Rv(σ:Sg)(σV:L2.St)(H:Hp)(v:Vl)(u:V):Prop:=Rep K H (exV RT Y old σ σV v.pa v.al) v.d u
def Ro(σ:Sg)(σV:L2.St)(H H':Hp)(v:Vl)(u:V):Prop:=
 aL H H'/\(if v.fr=true then ∃a xs ds,u=.ref a/\v.d=.lst ds/\H a=none/\H' a=some (.lst xs)/\Reps K H' (λb=>b=a\/exV RT Y old σ σV v.pa v.al b) ds xs
  else Rv K RT Y old σ σV H' v u)
def Rvs(σ:Sg)(σV:L2.St)(H:Hp):List Vl->List V->Prop
 | [],us=>us=[]
 | v::vs,us=>∃u r,us=u::r/\Rv K RT Y old σ σV H v u/\Rvs σ σV H vs r
end
section
variable {K:Fg} {RT Y old:Addr->Prop} {σ:Sg} {σV:L2.St} {H H' H1 H2:Hp} {v:Vl} {u:V}
mutual
theorem Rep.noT{ex:Addr->Prop}(hr:∀b ks,SqT K H b ks->SqT K H' b ks):∀(d:D) (v:V),noL d=true->Rep K H ex d v->Rep K H' ex d v
 | .non,_,_,h=>h
 | .bl _,_,_,h=>h
 | .int _,_,_,h=>h
 | .str _,_,_,h=>h
 | .tup ds,_,n,h=>by
  obtain⟨a,xs,e,q,r⟩:=h
  exact⟨a,xs,e,hr _ _ q,Reps.noT hr ds xs (by simpa[noL] using n) r⟩
 | .lst ds,_,n,_=>by simp[noL] at n
 | .dic kvs,_,n,_=>by simp[noL] at n
 | .err _ _,_,n,_=>by simp[noL] at n
theorem Reps.noT{ex:Addr->Prop}(hr:∀b ks,SqT K H b ks->SqT K H' b ks):∀(ds:List D) (xs:List V),noLs ds=true->Reps K H ex ds xs->Reps K H' ex ds xs
 | [],_,_,h=>h
 | d::ds,_,n,h=>by
  obtain⟨x,r,e,h1,h2⟩:=h
  simp only[noLs,bA] at n
  exact⟨x,r,e,Rep.noT hr d x n.1 h1,Reps.noT hr ds r n.2 h2⟩
end
theorem Rws.lst:∀{dss:List (List D)} {bs:List Addr},Rws K H dss bs->∀b∈bs,∃xs,H b=some (.lst xs)
 | [],_,h,b,hb=>by rw[show _=[] from h] at hb;cases hb
 | ds::dss,_,h,b,hb=>by
  obtain⟨c,r,xs,rfl,h1,_,_,h4⟩:=h
  rcases List.mem_cons.mp hb with rfl|hb
  . exact⟨xs,h1⟩
  . exact Rws.lst h4 b hb
theorem Rws.imp(hT:∀b ks,SqT K H b ks->SqT K H' b ks):∀{dss:List (List D)} {bs:List Addr},Rws K H dss bs->(∀b∈bs,∀xs,H b=some (.lst xs)->H' b=some (.lst xs))->Rws K H' dss bs
 | [],_,h,_=>h
 | ds::dss,_,h,k=>by
  obtain⟨b,r,xs,rfl,h1,h2,h3,h4⟩:=h
  exact⟨b,r,xs,rfl,k b List.mem_cons_self xs h1,h2,Reps.noT hT ds xs h2 h3,Rws.imp hT h4 λc hc=>k c (List.mem_cons_of_mem _ hc)⟩
theorem Lx.imp{RT':Addr->Prop}{σ':Sg}{σV':L2.St}(L:Lx K RT Y old σ σV H)(m:Nat->Nat)(hs:∀j ds,σ'[j]? = some (.lent ds)->σ[m j]? = some (.lent ds)/\σV'[j]? = σV[m j]?)(hm:∀i j ds ds',σ'[i]? = some (.lent ds)->σ'[j]? = some (.lent ds')->m i=m j->i=j)
 (hh:∀a xs,H a=some (.lst xs)->RT a->old a->H' a=some (.lst xs)/\RT' a) (hr:∀ds xs,Reps K H (λa=>RT a\/exB Y old true a) ds xs->Reps K H' (λa=>RT' a\/exB Y old true a) ds xs)
 (hs2:∀j dss,σ'[j]? = some (.own2 dss)->σ[m j]? = some (.own2 dss)/\σV'[j]? = σV[m j]?) (hm2:∀i j dss dss',σ'[i]? = some (.own2 dss)->σ'[j]? = some (.own2 dss')->m i=m j->i=j)
 (hh2:∀p xs,H p=some (.lst xs)->Pt RT old σ σV p->H' p=some (.lst xs)/\Pt RT' old σ' σV' p) (hT:∀b ks,SqT K H b ks->SqT K H' b ks):Lx K RT' Y old σ' σV' H' where
 at':=λi ds e=>by
  obtain⟨e1,e2⟩:=hs i ds e
  obtain⟨a,xs,h1,h2,h3,h4,h5⟩:=L.at' (m i) ds e1
  obtain⟨g1,g2⟩:=hh a xs h2 h3 h4
  exact⟨a,xs,by rw[e2];exact h1,g1,g2,h4,hr ds xs h5⟩
 inj:=λi j ds ds' a q1 q2 v1 v2=>by
  obtain⟨e1,e2⟩:=hs i ds q1
  obtain⟨e3,e4⟩:=hs j ds' q2
  exact hm i j ds ds' q1 q2 (L.inj (m i) (m j) ds ds' a e1 e3 (by rw[<-e2];exact v1) (by rw[<-e4];exact v2))
 at2:=λi dss e=>by
  obtain⟨e1,e2⟩:=hs2 i dss e
  obtain⟨a,bs,h1,h2,h3,h4,h5⟩:=L.at2 (m i) dss e1
  have hb:∀b∈bs,∃xs,H b=some (.lst xs):=Rws.lst h5
  refine⟨a,bs,by rw[e2];exact h1,(hh2 a _ h2 (h3 a List.mem_cons_self)).1,λb hb'=>?_,h4,h5.imp hT λb hb' xs q=>(hh2 b xs q (h3 b (List.mem_cons_of_mem _ hb'))).1⟩
  rcases List.mem_cons.mp hb' with rfl|hb'
  . exact(hh2 b _ h2 (h3 b List.mem_cons_self)).2
  . obtain⟨xs,q⟩:=hb b hb'
    exact(hh2 b xs q (h3 b (List.mem_cons_of_mem _ hb'))).2
 one:=λi j dss dss' q1 q2=>hm2 i j dss dss' q1 q2 (L.one _ _ _ _ (hs2 i dss q1).1 (hs2 j dss' q2).1)
theorem Sx.grow(S:Sx K RT Y old σ σV H)(s:aL H H')(t:Tk K H'):Sx K RT Y old σ σV H' where
 sh:=λi pa d e=>let ⟨v,h1,h2⟩:=S.sh i pa d e;⟨v,h1,h2.grow s⟩
 own:=λi pa ds e=>let ⟨a,xs,h1,h2,h3,h4,h5⟩:=S.own i pa ds e;⟨a,xs,h1,s _ _ h2,h3,h4,h5.grow s⟩
 trk:=λa h z=>S.trk a h (s.free z)
 yo:=S.yo
 tk:=t
 rt:=λa h=>let ⟨xs,e⟩:=S.rt a h;⟨xs,s _ _ e⟩
 inj:=S.inj
 len:=S.len
 lx:=S.lx.imp id (λ_ _ e=>⟨e,rfl⟩) (λ_ _ _ _ _ _ e=>e) (λa xs e z _=>⟨s _ _ e,z⟩) (λ_ _ r=>r.grow s) (λ_ _ e=>⟨e,rfl⟩) (λ_ _ _ _ _ _ e=>e) (λp xs e z=>⟨s _ _ e,z⟩) λ_ _ r=>aL.seqT s r
theorem exV.trk(S:Sx K RT Y old σ σV H){pa:Bool}{al:List Nat}{a:Addr}(h:exV RT Y old σ σV pa al a):H a≠none:=by
 rcases h with⟨h,_⟩|h|⟨_,h⟩
 . exact S.trk a (.inl h)
 . exact S.trk a (.inr (.inl h))
 . exact S.trk a (.inr (.inr h))
theorem Ro.rv(S:Sx K RT Y old σ σV H)(h:Ro K RT Y old σ σV H H' v u):Rv K RT Y old σ σV H' v u:=by
 obtain⟨s,h⟩:=h
 by_cases hf:v.fr=true
 . rw[if_pos hf] at h
   obtain⟨a,xs,ds,e1,e2,e3,e4,r⟩:=h
   unfold Rv
   rw[e2]
   exact⟨a,xs,e1,SqL.of e4,λz=>exV.trk S z e3,r.weak λb z=>.inr z⟩
 . rw[if_neg hf] at h
   exact h
theorem Rv.grow(h:Rv K RT Y old σ σV H v u)(s:aL H H'):Rv K RT Y old σ σV H' v u:=Rep.grow h s
theorem Rvs.grow:∀{vs:List Vl} {us:List V},Rvs K RT Y old σ σV H vs us->aL H H'->Rvs K RT Y old σ σV H' vs us
 | [],_,h,_=>h
 | v::vs,_,h,s=>by
  obtain⟨u,r,e,h1,h2⟩:=h
  exact⟨u,r,e,h1.grow s,Rvs.grow h2 s⟩
theorem Ro.plain(s:aL H H')(hf:v.fr=false)(h:Rv K RT Y old σ σV H' v u):Ro K RT Y old σ σV H H' v u:=⟨s,by rw[if_neg (by rw[hf];decide)];exact h⟩
theorem Ro.from(h:Ro K RT Y old σ σV H1 H' v u)(s:aL H H1):Ro K RT Y old σ σV H H' v u:=by
 obtain⟨s',h⟩:=h
 refine⟨s.trans s',?_⟩
 by_cases hf:v.fr=true
 . rw[if_pos hf] at h ⊢
   obtain⟨a,xs,ds,e1,e2,e3,e4,r⟩:=h
   exact⟨a,xs,ds,e1,e2,s.free e3,e4,r⟩
 . rw[if_neg hf] at h ⊢
   exact h
theorem Ro.cl{d:D}(s:aL H H')(h:Rep K H' (exV RT Y old σ σV false []) d u):Ro K RT Y old σ σV H H' (.cl d) u:=Ro.plain s rfl h
theorem Rv.sub{d:D}{x:V}{ds:List D}{xs:List V}{j:Nat}(h:Rep K H (exV RT Y old σ σV v.pa v.al) d x):Rv K RT Y old σ σV H (v.sub d) x:=by
 unfold Rv Vl.sub
 by_cases hn:noL d=true
 . rw[if_pos hn]
   exact Rep.free d x hn h
 . rw[if_neg hn]
   exact h
theorem alR.mono{al al':List Nat}{a:Addr}(h:alR σ σV al a)(s:∀j∈al,j∈al'):alR σ σV al' a:=by
 obtain⟨j,hj,q⟩:=h
 exact⟨j,s j hj,q⟩
theorem exV.mono{pa pa':Bool}{al al':List Nat}{a:Addr}(h:exV RT Y old σ σV pa' al' a)(hp:pa=true->pa'=true)(s:∀j∈al,j∈al'):exV RT Y old σ σV pa al a:=by
 rcases h with⟨h1,h2⟩|h|⟨h1,h2⟩
 . exact .inl ⟨h1,λz=>h2 (z.mono s)⟩
 . exact .inr (.inl h)
 . refine .inr (.inr ⟨?_,h2⟩)
   cases pa with
   | false=>rfl
   | true=>rw[hp rfl] at h1;cases h1
theorem Rvs.length:∀{vs:List Vl} {us:List V},Rvs K RT Y old σ σV H vs us->vs.length=us.length
 | [],_,h=>by rw[show _=[] from h];rfl
 | v::vs,_,h=>by
  obtain⟨u,r,e,_,h2⟩:=h
  subst e
  rw[lC,lC,Rvs.length h2]
theorem mK{vs:List Vl}{v:Vl}(h:v∈vs):∀j∈v.al,j∈cC vs:=λj hj=>List.mem_flatMap.mpr ⟨v,h,hj⟩
theorem iA{vs:List Vl}{v:Vl}(h:v∈vs)(hp:v.pa=true):aV vs=true:=List.any_eq_true.mpr ⟨v,h,hp⟩
theorem Rvs.reps:∀{vs:List Vl} {us:List V} {pa:Bool} {al:List Nat},Rvs K RT Y old σ σV H vs us->(∀v∈vs,(v.pa=true->pa=true)/\∀j∈v.al,j∈al) ->
 Reps K H (exV RT Y old σ σV pa al) (vs.map (·.d)) us
 | [],_,_,_,h,_=>h
 | v::vs,_,_,_,h,q=>by
  obtain⟨u,r,e,h1,h2⟩:=h
  have q1:=q v List.mem_cons_self
  exact⟨u,r,e,Rep.weak h1 λa z=>z.mono q1.1 q1.2,Rvs.reps h2 λw hw=>q w (List.mem_cons_of_mem _ hw)⟩
theorem Rvs.all{vs:List Vl}{us:List V}(h:Rvs K RT Y old σ σV H vs us):Reps K H (exV RT Y old σ σV (aV vs) (cC vs)) (vs.map (·.d)) us:=
 h.reps λv hv=>⟨λz=>iA hv z,mK hv⟩
theorem Ro.fresh{p:Addr}{xs:List V}{ds:List D}(hp:H p=none)(ht:Tk K (upd H p (.lst xs)))(hd:v.d=.lst ds)(hf:v.fr=true)(S:Sx K RT Y old σ σV H)(r:Reps K H (exV RT Y old σ σV v.pa v.al) ds xs) :
 Ro K RT Y old σ σV H (upd H p (.lst xs)) v (.ref p):=by
 have s:aL H (upd H p (.lst xs)):=λb o q=>by rw[aJ (bK q hp)];exact q
 refine⟨s,?_⟩
 rw[if_pos hf]
 refine⟨p,xs,ds,rfl,hd,hp,aY,?_⟩
 refine Reps.imp (λ_ _ q=>aL.seqT s q) (λa ys n q=>⟨λz=>?_,s.seq q⟩) (λ_ _ q=>s _ _ q) ds xs r
 rcases z with z|z
 . subst z
   rcases q with(q|⟨o,q⟩)|⟨o,its,n',q,_⟩
   . rw[hp] at q;cases q
   . rw[hp] at q;cases q
   . have z:=ht a (by rw[aY];simp)
     rw[q] at z;cases z
 . exact n z
theorem aL.new{p:Addr}{o:HO}(hp:H p=none):aL H (upd H p o):=λb u q=>by rw[aJ (bK q hp)];exact q
theorem Ro.tup{p:Addr}{xs:List V}{ds:List D}(hp:H p=none)(hd:v.d=.tup ds)(hf:v.fr=false)(r:Reps K H (exV RT Y old σ σV v.pa v.al) ds xs) :
 Ro K RT Y old σ σV H (upd H p (.tup xs)) v (.ref p):=by
 refine Ro.plain (aL.new hp) hf ?_
 unfold Rv
 rw[hd]
 exact⟨p,xs,rfl,SqT.of aY,r.grow (aL.new hp)⟩
end
section
variable (X:Cx) (P:Pg) (cl:Caller) (RT Y old:Addr->Prop)
def wE(σ:Sg)(c:E):TE:=λσV H Q=>Sx X.K RT Y old σ σV H/\RE (ev P cl σ c) λv=>∀u H',Tk X.K H'->Ro X.K RT Y old σ σV H H' v u->Q u H'
def wT(σ:Sg)(c:E):TT:=λσV H Q=>Sx X.K RT Y old σ σV H/\RE (tst P cl σ c) λk=>∀H',Tk X.K H'->aL H H'->Q k H'
def wA(σ:Sg)(cs:Es):TA:=λσV H Q=>Sx X.K RT Y old σ σV H/\RE (evs P cl σ cs) λvs=>∀us H',Tk X.K H'->aL H H'->Rvs X.K RT Y old σ σV H' vs us->Q us H'
end
section
variable {X:Cx} {P:Pg} {cl:Caller} {RT Y old:Addr->Prop} {σ:Sg} {pos:Pos}
theorem _root_.L2.Inv.tk{pins:List (Addr×Obj)}{σV:L2.St}{H:Hp}{s:Shared}(I:Inv X pins σV H s):Tk X.K H:=λb hb=>by
 cases q:X.K.lookup b with
 | none=>rfl
 | some o=>exact absurd (I.bs b o (I.ok.mod.kin b o q)).2 hb
theorem _root_.L2.PE.imp{e:Expr}{t t':TE}(h:PE X e t)(f:∀σV H Q,Tk X.K H->t' σV H Q->t σV H λv H'=>Tk X.K H'->Q v H'):PE X e t':=λpins s σV H Q I hw=>
 thn (h pins s σV H _ I (f σV H Q I.tk hw)) λu s' ⟨v,H',I',r,q⟩=>⟨v,H',I',r,q I'.tk⟩
theorem _root_.L2.PT.imp{e:Expr}{t t':TT}(h:PT X e t)(f:∀σV H Q,Tk X.K H->t' σV H Q->t σV H λv H'=>Tk X.K H'->Q v H'):PT X e t':=λpins s σV H Q I hw=>
 thn (h pins s σV H _ I (f σV H Q I.tk hw)) λk s' ⟨H',I',q⟩=>⟨H',I',q I'.tk⟩
theorem _root_.L2.PA.imp{es:List Expr}{t t':TA}(h:PA X es t)(f:∀σV H Q,Tk X.K H->t' σV H Q->t σV H λv H'=>Tk X.K H'->Q v H'):PA X es t':=λpos pins s σV H Q I hw=>
 thn (h pos pins s σV H _ I (f σV H Q I.tk hw)) λu s' ⟨v,H',I',r,q⟩=>⟨v,H',I',r,q I'.tk⟩
theorem wE.two{a b:E}{σV:L2.St}{H:Hp}{p:Vl->Vl->Prop}{Q:V->V->Hp->Prop}(S:Sx X.K RT Y old σ σV H)(h:RE (ev P cl σ a) λx=>RE (ev P cl σ b) λy=>p x y)
 (f:∀x y ux uy H2,p x y->Tk X.K H2->aL H H2->Sx X.K RT Y old σ σV H2->Rv X.K RT Y old σ σV H2 x ux->Rv X.K RT Y old σ σV H2 y uy->Q ux uy H2) :
 wE X P cl RT Y old σ a σV H λux H1=>wE X P cl RT Y old σ b σV H1 λuy H2=>Q ux uy H2:=by
 refine⟨S,h.mono λx hx ux H1 t1 r1=>⟨S.grow r1.1 t1,hx.mono λy hy uy H2 t2 r2=>?_⟩⟩
 have S1:=S.grow r1.1 t1
 exact f x y ux uy H2 hy t2 (r1.1.trans r2.1) (S1.grow r2.1 t2) ((r1.rv S).grow r2.1) (r2.rv S1)
theorem Ro.val{d:D}{u:V}{σV:L2.St}{H H':Hp}(s:aL H H')(h:∀ex,Rep X.K H' ex d u):Ro X.K RT Y old σ σV H H' (.cl d) u:=Ro.cl s (h _)
theorem s_c {d : D} {c : Const} {k : Nat} (h : eqC d c = true) : PE X (.Constant c k pos) (wE X P cl RT Y old σ (.c d)) := by
 have key : ∀ {v : V}, (∀ (H : Hp) ex, Rep X.K H ex d v) -> PE X (.Constant c k pos) (tC v) -> PE X (.Constant c k pos) (wE X P cl RT Y old σ (.c d)) := λ hv hp =>
  hp.imp λ σV H Q t ⟨S, q⟩ t' => q _ H t' (Ro.val (aL.refl H) (hv H))
 cases d with
 | non => cases c with
  | none => exact key (λ _ _ => rfl) aEY
  | _ => cases h
 | bl b => cases c with
  | bool b' => have e : b = b' := by simpa [eqC] using h
               subst e; exact key (λ _ _ => rfl) aHy
  | _ => cases h
 | int b => cases c with
  | int b' => have e : b = b' := by simpa [eqC] using h
              subst e; exact key (λ _ _ => rfl) aAM
  | _ => cases h
 | str b => cases c with
  | str b' => have e : b = b' := by simpa [eqC] using h
              subst e; exact key (λ _ _ => rfl) aEZ
  | _ => cases h
 | _ => cases c <;> cases h
theorem s_v{i:Nat}{x:Str}(hN:X.N[i]? = some x)(hv:Vis X.env.scope x)(hd:(x==("__debug__" : Str))=false)(hcd:(x==("__classdict__" : Str))=false) :
 PE X (.Name x pos) (wE X P cl RT Y old σ (.v i)):=by
 refine(lH hN hv hd hcd).imp λσV H Q t ⟨S,q⟩=>?_
 have q:RE (aX σ i) _:=q
 unfold aX at q
 cases e:σ[i]? with
 | none=>rw[e] at q;exact q.elim
 | some sl=>
  rw[e] at q
  cases sl with
  | dead=>exact q.elim
  | lent _=>exact q.elim
  | own2 _=>exact q.elim
  | sh pa d=>
   obtain⟨v,h1,h2⟩:=S.sh i pa d e
   refine⟨v,h1,λt'=>q v H t' (Ro.plain (aL.refl H) rfl ?_)⟩
   unfold Rv
   by_cases hn:noL d=true
   . exact Rep.free d v hn h2
   . refine Rep.weak h2 λa z=>?_
     rcases z with⟨z,_⟩|z|⟨z,z'⟩
     . exact .inl z
     . exact .inr (.inl z)
     . have:pa=false:=by simpa[hn] using z
       exact .inr (.inr ⟨this,z'⟩)
  | own pa ds=>
   obtain⟨a,xs,h1,h2,h3,h4,h5⟩:=S.own i pa ds e
   refine⟨.ref a,h1,λt'=>q _ H t' (Ro.plain (aL.refl H) rfl ?_)⟩
   unfold Rv
   refine⟨a,xs,rfl,SqL.of h2,λz=>?_,h5.weak λb z=>?_⟩
   . rcases z with⟨_,z⟩|z|⟨_,z⟩
     . exact z ⟨i,by simp,⟨pa,ds,e⟩,h1⟩
     . exact h4 (S.yo a z)
     . exact h4 z
   . rcases z with⟨z,_⟩|z
     . exact .inl z
     . exact .inr z
end
def pY(prog:Program)(w:World)(K:Fg)(a:Addr)(t:List (Str×D)):Prop:=(a==sysModules)=false/\∃vs:List (Key×Value),(∀h:Heap,K.In h->h.DictOf (dX prog w) a vs) /\
 ∀k:Str,(t.lookup k=none/\valueAt vs (Sum.inr k:Key)=none)\/∃d u v,t.lookup k=some d/\valueAt vs (Sum.inr k:Key)=some u/\bP v u/\∀(H:Hp) (ex:Addr->Prop),Rep K H ex d v
section
variable {X:Cx}
theorem aDl{a:Addr}{t:List (Str×D)}{x:Str}{p ap cp:Pos}{e:Expr}{te:TE}(T:pY X.prog X.w X.K a t)(hg:Gl X x)(hm:X.mg x=some (.ref a))(hd:(x==("__debug__" : Str))=false)(he:PE X e te)(hline:(ap.endLine==cp.line)=true)
 (hs:starEach [e] X.env=[(false,eval e X.env)]) :
 PE X (.Call (.Attribute (.Name x p) "get" ap) [e] [] cp) (λσ H Q=>te σ H λu H1=>∃k,u=.str k/\∀v,(∀(H:Hp) (ex:Addr->Prop),Rep X.K H ex ((t.lookup k).getD .non) v)->Q v H1):=by
 intro pins s σ H Q I h
 obtain⟨hsys,vs,dict,look⟩:=T
 refine wpAny_Call_method_late rfl (by rw[hs];rfl) hline rfl (thn (xR (v:=.ref a) hg hm rfl hd pins s σ H (λv H1=>v=.ref a/\H1=H) I ⟨rfl,rfl⟩) λv s1 ⟨y,H1,I1,r1,e1,e2⟩=>?_)
 subst e1 e2
 obtain rfl:v=Value.ref a:=r1
 have dd:=dict s1.heap I1.kIn
 refine⟨"dict", "dict.get",PySem.F.plainAttrs_dict,PySem.F.slot_dict_get,PySem.F.type_dict_get,dd.typeIs,λb q=>?_,?_⟩
 . cases q
   obtain⟨ob,_,_,h1,h2,_⟩:=dd
   exact⟨ob,h1,h2.2.1⟩
 . have hA:=(cQ he dR hs) cp pins s1 σ H1 (λus H2=>match us with|[u]=>(∃k,u=.str k/\∀v,(∀(H:Hp) (ex:Addr->Prop),Rep X.K H ex ((t.lookup k).getD .non) v)->Q v H2)|_=>False) I1 h
   rw[hs] at hA ⊢
   refine Calls.callWith_builtin rfl (Calls.evalArgs_plain ?_)
   refine thn hA λus s2 ⟨xs,H2,I2,r2,q2⟩=>?_
   match xs,r2,q2 with
   | [y],.cons ry .nil,q2=>
    obtain⟨k,ey,q2⟩:=q2
    subst ey
    obtain⟨tk,rfl⟩:=ry
    have dd2:=dict s2.heap I2.kIn
    refine call_meetsIn PySem.F.slot_dict_get dd2.typeIs PySem.F.entry_dict_get (PySem.F.args_dict_get_2 _ _) (meets_dict_get (dX X.prog X.w) a (k:=(Sum.inr k:Key)) (pK k tk) hsys) ⟨_,dd2.mapOf,?_⟩
    rcases look k with⟨l1,l2⟩|⟨d,u,v,l1,l2,rv,rep⟩
    . rw[l2]
      refine⟨.non,H2,I2.tok _,rfl,q2 .non λH ex=>?_⟩
      rw[l1]
      rfl
    . rw[l2]
      refine⟨v,H2,I2.tok _,rv,q2 v λH ex=>?_⟩
      rw[l1]
      exact rep H ex
end
section
variable {X:Cx} {RT Y old:Addr->Prop} {σ:Sg} {σV:L2.St} {H:Hp} {s:Shared} {pins:List (Addr×Obj)} {Q:VK} {ux uy:V} {vx vy:Value} {x y:Vl}
theorem _root_.L2.EP.tk{u:Value}{s':Shared}(h:EP X pins σV (λv H'=>Tk X.K H'->Q v H') u s'):EP X pins σV Q u s':=by
 obtain⟨v,H',I',r,q⟩:=h
 exact⟨v,H',I',r,q (Inv.tk I')⟩
abbrev Wn(X:Cx)(RT Y old:Addr->Prop)(σ:Sg)(σV:L2.St)(H:Hp)(Q:VK)(v:Vl):Prop:=∀u H',Tk X.K H'->Ro X.K RT Y old σ σV H H' v u->Q u H'
theorem Wn.val{d:D}{u:V}(w:Wn X RT Y old σ σV H Q (.cl d))(t:Tk X.K H)(h:∀ex,Rep X.K H ex d u):Q u H:=w u H t (Ro.cl (aL.refl H) (h _))
theorem Rv.int{i:Int}{u:V}(h:Rv X.K RT Y old σ σV H x u)(e:x.d=.int i):u=.int i:=by unfold Rv at h;rw[e] at h;exact h
theorem Rv.str{i:Str}{u:V}(h:Rv X.K RT Y old σ σV H x u)(e:x.d=.str i):u=.str i:=by unfold Rv at h;rw[e] at h;exact h
theorem Rv.bl{i:Bool}{u:V}(h:Rv X.K RT Y old σ σV H x u)(e:x.d=.bl i):u=.bl i:=by unfold Rv at h;rw[e] at h;exact h
theorem Rv.non{u:V}(h:Rv X.K RT Y old σ σV H x u)(e:x.d=.non):u=.non:=by unfold Rv at h;rw[e] at h;exact h
theorem Rv.tup{ds:List D}{u:V}(h:Rv X.K RT Y old σ σV H x u)(e:x.d=.tup ds):∃a xs,u=.ref a/\SqT X.K H a xs/\Reps X.K H (exV RT Y old σ σV x.pa x.al) ds xs:=by unfold Rv at h;rw[e] at h;exact h
theorem Rv.lst{ds:List D}{u:V}(h:Rv X.K RT Y old σ σV H x u)(e:x.d=.lst ds):∃a xs,u=.ref a/\SqL X.K H a xs/\¬ exV RT Y old σ σV x.pa x.al a/\Reps X.K H (exV RT Y old σ σV x.pa x.al) ds xs:=by unfold Rv at h;rw[e] at h;exact h
theorem aFA:lim<=sizeLine:=by unfold lim;rw[sizeLine_eq];decide
theorem eH{n:Nat}(h:n<=lim):n<=sizeLine:=Nat.le_trans h aFA
theorem fA{ds:List D}{xs:List V}{pa:Bool}{al:List Nat}{K:Fg}(r:Reps K H (exV RT Y old σ σV pa al) ds xs) :
 Reps K H (exV RT Y old σ σV (pa&&!noLs ds) (if noLs ds=true then [] else al)) ds xs:=by
 by_cases hn:noLs ds=true
 . exact Reps.free ds xs hn r
 . rw[if_neg hn]
   refine r.weak λa z=>z.mono (λhp=>?_) λj hj=>hj
   rw[hp];simp[hn]
def aIo(K:Fg):R2:=λx y H Q=>∃l b xs zs,x=.ref l/\y=.ref b/\SqL K H l xs/\SqL K H b zs/\xs.length+zs.length<=sizeLine/\∀p,H p=none->Q (.ref p) (upd H p (.lst (xs++zs)))
theorem aDm:OpR X (binaryOp .Add) (aIo X.K):=by
 intro pins s σV H x y v u Q I rx ry h
 obtain⟨l,b,xs,zs,rfl,rfl,hH,hB,hz,q⟩:=h
 cases rx
 cases ry
 obtain⟨its,r,pl,z⟩:=I.list hH
 obtain⟨its2,r2,pl2,z2⟩:=I.list hB
 obtain⟨⟨cls,dd,data,sl⟩,ho,hc,n,hd⟩:=pl.isList
 obtain⟨⟨cls2,dd2,data2,sl2⟩,ho2,hc2,n2,hd2⟩:=pl2.isList
 simp only at hc hd hc2 hd2
 subst hc hd hc2 hd2
 have e:its.toArray++its2.toArray=(its++its2).toArray:=by simp
 have hl:=r.length
 have hl2:=r2.length
 refine concat_meets ⟨_,ho,rfl⟩ ⟨_,ho2,rfl⟩ noFill_list_add seq_list_add PySem.F.slot_list_add PySem.F.entry_list_add (PySem.F.args_list_add_2 _ _) (list_addW l b its.toArray its2.toArray n n2 dd dd2 sl sl2 (by rw[List.size_toArray,List.size_toArray];omega)) ⟨ho,ho2,?_⟩
 rw[e]
 exact⟨.ref _,_,I.lnew (t':=s.toks) (r.append r2) (by rw[lA];omega),rfl,q _ I.fresh⟩
theorem aDn(x:Str):Str.rep x 1=x:=by
 unfold Str.rep
 cases x
 simp
theorem aAg(x:Str)(h:x.length=0)(k:Nat):Str.rep x k=x:=by
 have hx:x.cps=#[]:=by
  unfold Str.length at h
  exact Array.eq_empty_of_size_eq_zero h
 have go:∀k,(List.replicate k x.cps).foldl (·++·) #[]=#[]:=by
  intro k
  rw[hx]
  induction k with
  | zero=>rfl
  | succ k ih=>rw[List.replicate_succ,List.foldl_cons];simpa using ih
 unfold Str.rep
 rw[go k]
 cases x
 simp at hx
 rw[hx]
theorem wK(x:Str)(k:Nat):(⟨(List.replicate k x.cps).foldl (·++·) #[]⟩:Str).length=x.length*k:=by
 have go:∀(k:Nat) (acc:Array Nat),((List.replicate k x.cps).foldl (·++·) acc).size=acc.size+x.cps.size*k:=by
  intro k
  induction k with
  | zero=>intro acc;simp
  | succ k ih=>
   intro acc
   rw[List.replicate_succ,List.foldl_cons,ih,Array.size_append,Nat.mul_succ]
   omega
 show((List.replicate k x.cps).foldl (·++·) #[]).size=x.cps.size*k
 rw[go]
 simp
theorem aDo:OpR X (binaryOp .Mult) (λx y H Q=>∃a k,x=.str a/\y=.int k/\aG k=true/\a.length*k.toNat<=lim/\Q (.str (Str.rep a k.toNat)) H):=by
 intro pins s σV H x y v u Q I rx ry h
 obtain⟨a,k,rfl,rfl,hk,hl,q⟩:=h
 obtain⟨t,rfl⟩:=rx
 obtain⟨t',rfl⟩:=ry
 unfold aG at hk
 simp only[bA,decide_eq_true_eq] at hk
 have h1:-(2 ^ 62:Int)<=k:=hk.1
 have h2:k<(2 ^ 62:Int):=hk.2
 have e1:decide (k < -(2 ^ 63:Int))=false:=decide_eq_false (by omega)
 have e2:decide (k ≥ (2 ^ 63:Int))=false:=decide_eq_false (by omega)
 have fin:∀z:Str,z=Str.rep a k.toNat->∀tk,EP X pins σV Q (.str z tk) { s with toks:=s.toks+1 }:=λz e tk=>by
  subst e
  exact⟨.str _,H,I.tok _,⟨_,rfl⟩,q⟩
 refine P.mul_str (by rw[e1,e2];rfl) (λn1 n2 z=>?_) (λn1 n2=>?_) ?_
 . have k1:1<=k:=by omega
   have z1:(a.length:Int)*k<=(lim:Int):=by
    have hk':((k.toNat:Nat):Int)=k:=by omega
    have:=Int.ofNat_le.mpr hl
    rw[Int.natCast_mul] at this
    rw[<-hk']
    exact_mod_cast this
   have z2:(2 ^ 63-1:Int) / k<a.length:=z
   have z3:(2 ^ 63-1:Int)<a.length*k:=Int.lt_mul_of_ediv_lt (by omega) z2
   have z4:(lim:Int)=1000000:=rfl
   omega
 . unfold Builtin.Str.tooLong
   have:=eH hl
   exact decide_eq_false (by omega)
 . split
   . rename_i hn
     have:k.toNat=0:=by omega
     refine⟨by decide,?_⟩
     exact fin _ (by rw[this];rfl) _
   . split
     . rename_i hn h1'
       have hz:Str.rep a k.toNat=a:=by
        rcases Bool.or_eq_true_iff.mp h1' with z|z
        . have:k=1:=eq_of_beq z
          subst this
          exact aDn a
        . exact aAg a (eq_of_beq z) _
       exact⟨.str a,H,I,⟨_,rfl⟩,by rw[hz] at q;exact q⟩
     . refine⟨?_,fin _ rfl _⟩
       have:=eH hl
       rw[wK]
       exact this
def aFB(K:Fg):R2:=λx y H Q=>∃a b xs ys,x=.ref a/\y=.ref b/\SqT K H a xs/\SqT K H b ys/\xs.length+ys.length<=sizeLine /\
 (xs=[]->Q (.ref b) H)/\(xs≠[]->ys=[]->Q (.ref a) H)/\(xs≠[]->ys≠[]->∀p,H p=none->Q (.ref p) (upd H p (.tup (xs++ys))))
theorem aBw:OpR X (binaryOp .Add) (aFB X.K):=by
 intro pins s σ H x y v u Q I rx ry h
 obtain⟨a,b,xs,ys,rfl,rfl,ha,hb,hz,q0,q1,q2⟩:=h
 by_cases hx:xs=[]
 . cases rx
   cases ry
   obtain⟨its,r1,p1,_⟩:=I.tuple ha
   obtain⟨its2,r2,p2,_⟩:=I.tuple hb
   obtain⟨⟨cls,dd,data,sl⟩,ho,hc,n,hd⟩:=id p1
   obtain⟨⟨cls2,dd2,data2,sl2⟩,ho2,hc2,n2,hd2⟩:=id p2
   simp only at hc hd hc2 hd2
   subst hc hd hc2 hd2
   have hi:its=[]:=r1.nil_iff.mpr hx
   exact concat_meets ⟨_,ho,rfl⟩ ⟨_,ho2,rfl⟩ noFill_tuple_add seq_tuple_add PySem.F.slot_tuple_add PySem.F.entry_tuple_add (PySem.F.args_tuple_add_2 _ _)
    (tuple_addW0 a b its.toArray its2.toArray n n2 dd dd2 sl sl2 (by simp[hi])) ⟨ho,ho2,⟨.ref b,H,I,rfl,q0 hx⟩⟩
 . exact aDb pins s σ H _ _ v u Q I rx ry ⟨a,b,xs,ys,rfl,rfl,ha,hb,hx,hz,q1 hx,q2 hx⟩
theorem tP{o:Operator}(I:Inv X pins σV H s)(S:Sx X.K RT Y old σ σV H)(rx:bP ux vx)(ry:bP uy vy)(hx:Rv X.K RT Y old σ σV H x ux)(hy:Rv X.K RT Y old σ σV H y uy)
 (hfr:x.fr=true->∃a xs,ux=.ref a/\H a=some (.lst xs)) (h:RE (opD o x y) (Wn X RT Y old σ σV H Q)):wpAny (model X.prog X.w) X.A (binaryOp o vx vy) (EP X pins σV Q) X.xe s:=by
 have t:=Inv.tk I
 have go:∀{f:Value->Value->Sem Value} {r:R2},OpR X f r->(r ux uy H λv H'=>Tk X.K H'->Q v H')->wpAny (model X.prog X.w) X.A (f vx vy) (EP X pins σV Q) X.xe s:=λhr q=>
  thn (hr pins s σV H ux uy vx vy _ I rx ry q) λu s' z=>EP.tk z
 cases o with
 | Add=>
  have h:RE (aDh x y) (Wn X RT Y old σ σV H Q):=h
  unfold aDh at h
  split at h
  . rename_i i j d1 d2
    exact go aFk ⟨i,j,hx.int d1,hy.int d2,λ_=>h.val t λ_=>rfl⟩
  . rename_i i j d1 d2
    obtain⟨c,h⟩:=h.iff
    exact go vU ⟨i,j,hx.str d1,hy.str d2,eH (of_decide_eq_true c),λ_=>Wn.val h t λ_=>rfl⟩
  . rename_i as bs d1 d2
    obtain⟨c,h⟩:=h.iff
    obtain⟨a,xs,e1,q1,r1⟩:=hx.tup d1
    obtain⟨b,ys,e2,q2,r2⟩:=hy.tup d2
    have l1:=r1.length
    have l2:=r2.length
    have c':=of_decide_eq_true c
    have r1':Reps X.K H (exV RT Y old σ σV (x.pa||y.pa) (x.al++y.al)) as xs:=r1.weak λa z=>z.mono (λhp=>by rw[hp];rfl) λj hj=>List.mem_append_left _ hj
    have r2':Reps X.K H (exV RT Y old σ σV (x.pa||y.pa) (x.al++y.al)) bs ys:=r2.weak λa z=>z.mono (λhp=>by rw[hp,Bool.or_true]) λj hj=>List.mem_append_right _ hj
    refine go aBw ⟨a,b,xs,ys,e1,e2,q1,q2,eH (by omega),λz t'=>?_,λz z' t'=>?_,λz z' p hp t'=>?_⟩
    . subst z
      have:as=[]:=List.length_eq_zero_iff.mp (by simpa using l1)
      subst this
      exact h _ _ t' (Ro.plain (aL.refl H) rfl ⟨b,ys,rfl,q2,r2'⟩)
    . subst z'
      have:bs=[]:=List.length_eq_zero_iff.mp (by simpa using l2)
      subst this
      exact h _ _ t' (Ro.plain (aL.refl H) rfl ⟨a,xs,rfl,q1,by rw[List.append_nil];exact r1'⟩)
    . exact h _ _ t' (Ro.tup hp rfl rfl (r1'.append r2'))
  . rename_i as bs d1 d2
    obtain⟨c,h⟩:=h.iff
    obtain⟨a,xs,e1,q1,_,r1⟩:=hx.lst d1
    obtain⟨b,ys,e2,q2,_,r2⟩:=hy.lst d2
    have l1:=r1.length
    have l2:=r2.length
    have c':=of_decide_eq_true c
    refine go aDm ⟨a,b,xs,ys,e1,e2,q1,q2,eH (by omega),λp hp t'=>h _ _ t' (Ro.fresh hp t' rfl rfl S ?_)⟩
    refine Reps.append ((fA r1).weak λa z=>z.mono (λhp=>?_) λj hj=>List.mem_append_left _ hj) ((fA r2).weak λa z=>z.mono (λhp=>?_) λj hj=>List.mem_append_right _ hj)
    . show(_||_)=true
      rw[hp];rfl
    . show(_||_)=true
      rw[hp,Bool.or_true]
  . exact h.elim
 | Mult=>
  have h:RE (aFw x y) (Wn X RT Y old σ σV H Q):=h
  unfold aFw at h
  split at h
  . rename_i i j d1 d2
    obtain⟨c,h⟩:=h.iff
    refine go aFm ⟨i,j,hx.int d1,hy.int d2,?_,λ_=>Wn.val h t λ_=>rfl⟩
    simp only[pV,Bool.or_eq_true,bA,decide_eq_true_eq] at c
    exact c
  . rename_i i j d1 d2
    obtain⟨c,h⟩:=h.iff
    simp only[bA,decide_eq_true_eq] at c
    exact go aDo ⟨i,j,hx.str d1,hy.int d2,c.1,c.2,λ_=>Wn.val h t λ_=>rfl⟩
  . rename_i as k d1 d2
    obtain⟨c,h⟩:=h.iff
    simp only[bA,decide_eq_true_eq] at c
    obtain⟨a,xs,e1,q1,_,r1⟩:=hx.lst d1
    obtain⟨a',xs',e1',q1'⟩:=hfr c.1.1.1
    rw[e1] at e1'
    cases e1'
    have e3:xs=xs':=I.list_inj q1 (SqL.of q1')
    subst e3
    have l1:=r1.length
    have hk:=c.1.1.2
    unfold aG at hk
    simp only[bA,decide_eq_true_eq] at hk
    have hk1:=hk.1
    have hk2:=hk.2
    refine go aFv ⟨a,k,xs,e1,hy.int d2,q1',by omega,by omega,eH (by rw[<-l1];exact c.1.2),λp hp t'=>h _ _ t' (Ro.fresh hp t' rfl rfl S ?_)⟩
    exact Reps.flat (Reps.free as xs c.2 r1) _
  . exact h.elim
 | Sub=>
  dsimp only[opD,rJ] at h
  split at h
  . rename_i i j d1 d2
    exact go aFl ⟨i,j,hx.int d1,hy.int d2,λ_=>h.val t λ_=>rfl⟩
  . exact h.elim
 | FloorDiv=>
  dsimp only[opD,rJ] at h
  split at h
  . rename_i i j d1 d2
    obtain⟨c,h⟩:=h.iff
    refine go aCU ⟨i,j,hx.int d1,hy.int d2,?_,λ_=>Wn.val h t λ_=>rfl⟩
    simp only[tJ,bA,decide_eq_true_eq] at c
    exact c
  . exact h.elim
 | Mod=>
  dsimp only[opD,rJ] at h
  split at h
  . rename_i i j d1 d2
    obtain⟨c,h⟩:=h.iff
    exact go aFn ⟨i,j,hx.int d1,hy.int d2,of_decide_eq_true c,λ_=>Wn.val h t λ_=>rfl⟩
  . exact h.elim
 | Pow=>
  dsimp only[opD,rJ] at h
  split at h
  . rename_i i j d1 d2
    obtain⟨c,h⟩:=h.iff
    refine go aFo ⟨i,j,hx.int d1,hy.int d2,?_,λ_=>Wn.val h t λ_=>rfl⟩
    simp only[aEu,bA,decide_eq_true_eq] at c
    exact⟨c.1.1,by omega,c.2⟩
  . exact h.elim
 | _=>exact h.elim
end
end Hp
end
noncomputable section
namespace Hp
open PySem PySem.Spec PyProof.Rows L2 PySem.SeqAt
def iB(n:Nat)(ds es:List D)(j:Nat):Bool:=match ds[j]?,es[j]? with
 | some x,some y=>(eqF n x y).getD false
 | _,_=>false
theorem yD:∀{n:Nat} {ds es:List D} {k:Bool},fK n ds es=some k->∀{j:Nat} {x y:D},ds[j]? = some x->es[j]? = some y->∃b,eqF n x y=some b
 | n,[],es,k,h,j,x,y,e1,e2=>by simp at e1
 | n,d::ds,[],k,h,j,x,y,e1,e2=>by simp at e2
 | n,d::ds,e::es,k,h,j,x,y,e1,e2=>by
  rw[fK] at h
  cases h1:eqF n d e with
  | none=>rw[h1] at h;simp at h
  | some b=>
   cases h2:fK n ds es with
   | none=>rw[h1,h2] at h;simp at h
   | some b'=>
    cases j with
    | zero=>simp at e1 e2;subst e1 e2;exact⟨b,h1⟩
    | succ j=>exact yD h2 (by simpa using e1) (by simpa using e2)
theorem nV:∀{n:Nat} {ds es:List D} {k:Bool},fK n ds es=some k->k=((List.range (min ds.length es.length)).all (iB n ds es)&&ds.length==es.length)
 | n,[],[],k,h=>by simp[fK] at h;simp[<-h]
 | n,[],e::es,k,h=>by simp[fK] at h;simp[<-h]
 | n,d::ds,[],k,h=>by simp[fK] at h;simp[<-h]
 | n,d::ds,e::es,k,h=>by
  rw[fK] at h
  cases h1:eqF n d e with
  | none=>rw[h1] at h;simp at h
  | some b=>
   cases h2:fK n ds es with
   | none=>rw[h1,h2] at h;simp at h
   | some b'=>
    rw[h1,h2] at h
    have hk:(b&&b')=k:=Option.some.inj h
    have ih:=nV h2
    have e0:iB n (d::ds) (e::es) 0=b:=by simp[iB,h1]
    have es':∀j,iB n (d::ds) (e::es) (j+1)=iB n ds es j:=λj=>by simp[iB]
    have hm:min (d::ds).length (e::es).length=min ds.length es.length+1:=by simp only[lC];omega
    rw[hm,List.range_succ_eq_map,List.all_cons,e0,List.all_map]
    have:(iB n (d::ds) (e::es))∘Nat.succ=iB n ds es:=funext λj=>es' j
    rw[this,<-hk,ih]
    simp[Bool.and_assoc]
section
variable {X:Cx} {σV:L2.St} {H:Hp} {s:Shared} {pins:List (Addr×Obj)}
theorem _root_.L2.Inv.lt_ne(I:L2.Inv X pins σV H s){a:Addr}{xs ys:List V}(h1:SqL X.K H a xs)(h2:SqT X.K H a ys):False:=by
 obtain⟨its,_,pl,_⟩:=I.list h1
 obtain⟨its2,_,pt,_⟩:=I.tuple h2
 exact ne_of_list_tuple pl.isList (show s.heap.IsTuple a its2.toArray from pt) rfl
theorem aBx{n:Nat}{ds:List (D×D)}{e:D}{k:Bool}(h:eqF (n+1) (.dic ds) e=some k):False:=by
 unfold eqF at h
 split at h <;> first|(cases h;done)|(rename_i e1 e2;cases e1;done)|(rename_i e1;cases e1;done)
mutual
theorem rM(I:L2.Inv X pins σV H s):∀(n:Nat) (d e:D) (u:V) (k:Bool) (ex ex':Addr->Prop),Rep X.K H ex d u->Rep X.K H ex' e u->eqF n d e=some k->k=true
 | 0,d,e,u,k,_,_,_,_,h=>by simp[eqF] at h
 | n+1,.non,e,u,k,_,_,h1,h2,h=>by
  rw[show u=.non from h1] at h2
  cases e with
  | non=>simpa[eqF] using h.symm
  | tup ds=>obtain⟨a,xs,z,_⟩:=h2;cases z
  | lst ds=>obtain⟨a,xs,z,_⟩:=h2;cases z
  | dic ds=>obtain⟨a,xs,z,_⟩:=h2;cases z
  | err _ _=>exact h2.elim
  | bl b=>cases(show V.non=.bl b from h2)
  | int b=>cases(show V.non=.int b from h2)
  | str b=>cases(show V.non=.str b from h2)
 | n+1,.bl b,e,u,k,_,_,h1,h2,h=>by
  rw[show u=.bl b from h1] at h2
  cases e with
  | bl b'=>cases(show V.bl b=.bl b' from h2);simpa[eqF] using h.symm
  | tup ds=>obtain⟨a,xs,z,_⟩:=h2;cases z
  | lst ds=>obtain⟨a,xs,z,_⟩:=h2;cases z
  | dic ds=>obtain⟨a,xs,z,_⟩:=h2;cases z
  | err _ _=>exact h2.elim
  | non=>cases(show V.bl b=.non from h2)
  | int b'=>cases(show V.bl b=.int b' from h2)
  | str b'=>cases(show V.bl b=.str b' from h2)
 | n+1,.int b,e,u,k,_,_,h1,h2,h=>by
  rw[show u=.int b from h1] at h2
  cases e with
  | int b'=>cases(show V.int b=.int b' from h2);simpa[eqF] using h.symm
  | tup ds=>obtain⟨a,xs,z,_⟩:=h2;cases z
  | lst ds=>obtain⟨a,xs,z,_⟩:=h2;cases z
  | dic ds=>obtain⟨a,xs,z,_⟩:=h2;cases z
  | err _ _=>exact h2.elim
  | non=>cases(show V.int b=.non from h2)
  | bl b'=>cases(show V.int b=.bl b' from h2)
  | str b'=>cases(show V.int b=.str b' from h2)
 | n+1,.str b,e,u,k,_,_,h1,h2,h=>by
  rw[show u=.str b from h1] at h2
  cases e with
  | str b'=>cases(show V.str b=.str b' from h2);simpa[eqF] using h.symm
  | tup ds=>obtain⟨a,xs,z,_⟩:=h2;cases z
  | lst ds=>obtain⟨a,xs,z,_⟩:=h2;cases z
  | dic ds=>obtain⟨a,xs,z,_⟩:=h2;cases z
  | err _ _=>exact h2.elim
  | non=>cases(show V.str b=.non from h2)
  | bl b'=>cases(show V.str b=.bl b' from h2)
  | int b'=>cases(show V.str b=.int b' from h2)
 | n+1,.tup ds,e,u,k,ex,ex',h1,h2,h=>by
  obtain⟨a,xs,z,q,r⟩:=h1
  subst z
  cases e with
  | tup es=>
   obtain⟨a',ys,z,q',r'⟩:=h2
   cases z
   have:xs=ys:=I.tuple_inj q q'
   subst this
   exact eqs_same I n ds es xs k ex ex' r r' (by simpa[eqF] using h)
  | lst es=>
   obtain⟨a',ys,z,q',_,r'⟩:=h2
   cases z
   exact(I.lt_ne q' q).elim
  | dic ds=>simp[eqF] at h
  | err _ _=>exact h2.elim
  | non=>cases(show V.ref a=.non from h2)
  | bl b'=>cases(show V.ref a=.bl b' from h2)
  | int b'=>cases(show V.ref a=.int b' from h2)
  | str b'=>cases(show V.ref a=.str b' from h2)
 | n+1,.lst ds,e,u,k,ex,ex',h1,h2,h=>by
  obtain⟨a,xs,z,q,_,r⟩:=h1
  subst z
  cases e with
  | lst es=>
   obtain⟨a',ys,z,q',_,r'⟩:=h2
   cases z
   have:xs=ys:=I.list_inj q q'
   subst this
   have hl:ds.length=es.length:=r.length.trans r'.length.symm
   exact eqs_same I n ds es xs k ex ex' r r' (by simpa[eqF,hl] using h)
  | tup es=>
   obtain⟨a',ys,z,q',r'⟩:=h2
   cases z
   exact(I.lt_ne q q').elim
  | dic ds=>simp[eqF] at h
  | err _ _=>exact h2.elim
  | non=>cases(show V.ref a=.non from h2)
  | bl b'=>cases(show V.ref a=.bl b' from h2)
  | int b'=>cases(show V.ref a=.int b' from h2)
  | str b'=>cases(show V.ref a=.str b' from h2)
 | n+1,.dic ds,e,u,k,ex,ex',h1,h2,h=>by
  exact(aBx h).elim
 | n+1,.err _ _,e,u,k,ex,ex',h1,h2,h=>h1.elim
theorem eqs_same(I:L2.Inv X pins σV H s):∀(n:Nat) (ds es:List D) (us:List V) (k:Bool) (ex ex':Addr->Prop),Reps X.K H ex ds us->Reps X.K H ex' es us->fK n ds es=some k->k=true
 | n,[],[],us,k,_,_,h1,h2,h=>by simpa[fK] using h.symm
 | n,[],e::es,us,k,_,_,h1,h2,h=>by
  obtain⟨x,r,z,_⟩:=h2
  rw[show us=[] from h1] at z;cases z
 | n,d::ds,[],us,k,_,_,h1,h2,h=>by
  obtain⟨x,r,z,_⟩:=h1
  rw[show us=[] from h2] at z;cases z
 | n,d::ds,e::es,us,k,ex,ex',h1,h2,h=>by
  obtain⟨x,r,z,a1,b1⟩:=h1
  obtain⟨x',r',z',a2,b2⟩:=h2
  rw[z] at z'
  cases z'
  rw[fK] at h
  cases q1:eqF n d e with
  | none=>rw[q1] at h;simp at h
  | some b=>
   cases q2:fK n ds es with
   | none=>rw[q1,q2] at h;simp at h
   | some b'=>
    rw[q1,q2] at h
    have e1:=rM I n d e x b ex ex' a1 a2 q1
    have e2:=eqs_same I n ds es r b' ex ex' b1 b2 q2
    subst e1 e2
    simpa using h.symm
end
def Eq3(A:Around)(s:Shared)(v z:Value)(k:Bool):Prop:=EqAt A s v z k/\RcAt A s v z k/\RcNeAt A s v z (!k)
theorem yE{xs:List V}{us:List Value}(r:aU xs us){j:Nat}(h:j<us.toArray.size):∃x,xs[j]? = some x/\bP x us.toArray[j]:=by
 have hl:=r.length
 have hj:j<xs.length:=by rw[List.size_toArray] at h;omega
 obtain⟨u,e,q⟩:=r.get (List.getElem?_eq_getElem hj)
 refine⟨xs[j],List.getElem?_eq_getElem hj,?_⟩
 have:us.toArray[j]=u:=by
  have e':us[j]? = some us.toArray[j]:=by simp[List.getElem?_eq_getElem (show j<us.length by simpa using h)]
  rw[e'] at e
  exact Option.some.inj e
 rw[this]
 exact q
theorem aAh(A:Around):A.in1.units=A.units+1:=rfl
theorem aDp(I:L2.Inv X pins σV H s):∀(n:Nat) (A:Around) (d e:D) (u w:V) (v z:Value) (k:Bool) (ex ex':Addr->Prop),A.units+n<cLine->Rep X.K H ex d u->Rep X.K H ex' e w->bP u v->bP w z->eqF n d e=some k->Eq3 A s v z k:=by
 intro n
 induction n with
 | zero=>intro A d e u w v z k ex ex' _ _ _ _ _ h;simp[eqF] at h
 | succ n ih=>
  intro A d e u w v z k ex ex' hA h1 h2 r1 r2 h
  have hu:A.units<cLine:=by omega
  have items:∀{ds es:List D} {xs ys:List V} {its its2:List Value} {k:Bool},Reps X.K H ex ds xs->Reps X.K H ex' es ys->aU xs its->aU ys its2->fK n ds es=some k ->
   ∀j (_:j<its.toArray.size) (_:j<its2.toArray.size),EqAt A.in1 s its.toArray[j] its2.toArray[j] (iB n ds es j):=by
   intro ds es xs ys its its2 k q1 q2 v1 v2 hk j hj1 hj2
   obtain⟨x,ex1,rx⟩:=yE v1 hj1
   obtain⟨y,ey1,ry⟩:=yE v2 hj2
   obtain⟨d',ed,rd⟩:=q1.get' ex1
   obtain⟨e',ee,re⟩:=q2.get' ey1
   obtain⟨b,hb⟩:=yD hk ed ee
   have hj:iB n ds es j=b:=by simp[iB,ed,ee,hb]
   rw[hj]
   exact(ih A.in1 d' e' x y _ _ b ex ex' (by rw[aAh];omega) rd re rx ry hb).1
  cases d with
  | err _ _=>exact h1.elim
  | dic ds=>
   exact(aBx h).elim
  | non=>
   rw[show u=.non from h1] at r1
   cases r1
   cases e with
   | err _ _=>exact h2.elim
   | dic _=>simp[eqF] at h
   | non=>rw[show w=.non from h2] at r2;cases r2;simp[eqF] at h;subst h;exact⟨EqAt.same _,RcAt.none_none,RcNeAt.none_none⟩
   | bl b=>rw[show w=.bl b from h2] at r2;cases r2;simp[eqF] at h;subst h;exact⟨EqAt.none_bool _,RcAt.none_bool _,RcNeAt.none_bool _⟩
   | int b=>rw[show w=.int b from h2] at r2;obtain⟨t,rfl⟩:=r2;simp[eqF] at h;subst h;exact⟨EqAt.none_int _ _,RcAt.none_int _ _,RcNeAt.none_int _ _⟩
   | str b=>rw[show w=.str b from h2] at r2;obtain⟨t,rfl⟩:=r2;simp[eqF] at h;subst h;exact⟨EqAt.none_str _ _,RcAt.none_str _ _,RcNeAt.none_str _ _⟩
   | tup es=>
    obtain⟨b,ys,rfl,q,r⟩:=h2
    cases r2
    obtain⟨its,_,p,_⟩:=I.tuple q
    simp[eqF] at h;subst h
    exact⟨EqAt.none_tuple (show s.heap.IsTuple b its.toArray from p) hu,RcAt.none_tuple (show s.heap.IsTuple b its.toArray from p) hu,RcNeAt.none_tuple (show s.heap.IsTuple b its.toArray from p) hu⟩
   | lst es=>
    obtain⟨b,ys,rfl,q,_,r⟩:=h2
    cases r2
    obtain⟨its,_,p,_⟩:=I.list q
    simp[eqF] at h;subst h
    exact⟨EqAt.none_list p.isList hu,RcAt.none_list p.isList hu,RcNeAt.none_list p.isList hu⟩
  | bl a=>
   rw[show u=.bl a from h1] at r1
   cases r1
   cases e with
   | err _ _=>exact h2.elim
   | dic _=>simp[eqF] at h
   | non=>rw[show w=.non from h2] at r2;cases r2;simp[eqF] at h;subst h;exact⟨EqAt.bool_none _,RcAt.bool_none _,RcNeAt.bool_none _⟩
   | bl b=>rw[show w=.bl b from h2] at r2;cases r2;simp only[eqF,Option.some.injEq] at h;subst h;exact⟨EqAt.bool_bool _ _,RcAt.bool_bool _ _,RcNeAt.bool_bool _ _⟩
   | int b=>rw[show w=.int b from h2] at r2;obtain⟨t,rfl⟩:=r2;simp only[eqF,Option.some.injEq] at h;subst h;exact⟨EqAt.bool_int _ _ _,RcAt.bool_int _ _ _,RcNeAt.bool_int _ _ _⟩
   | str b=>rw[show w=.str b from h2] at r2;obtain⟨t,rfl⟩:=r2;simp[eqF] at h;subst h;exact⟨EqAt.bool_str _ _ _,RcAt.bool_str _ _ _,RcNeAt.bool_str _ _ _⟩
   | tup es=>
    obtain⟨b,ys,rfl,q,r⟩:=h2
    cases r2
    obtain⟨its,_,p,_⟩:=I.tuple q
    simp[eqF] at h;subst h
    exact⟨EqAt.bool_tuple _ (show s.heap.IsTuple b its.toArray from p) hu,RcAt.bool_tuple _ (show s.heap.IsTuple b its.toArray from p) hu,RcNeAt.bool_tuple _ (show s.heap.IsTuple b its.toArray from p) hu⟩
   | lst es=>
    obtain⟨b,ys,rfl,q,_,r⟩:=h2
    cases r2
    obtain⟨its,_,p,_⟩:=I.list q
    simp[eqF] at h;subst h
    exact⟨EqAt.bool_list _ p.isList hu,RcAt.bool_list _ p.isList hu,RcNeAt.bool_list _ p.isList hu⟩
  | int a=>
   rw[show u=.int a from h1] at r1
   obtain⟨t1,rfl⟩:=r1
   cases e with
   | err _ _=>exact h2.elim
   | dic _=>simp[eqF] at h
   | non=>rw[show w=.non from h2] at r2;cases r2;simp[eqF] at h;subst h;exact⟨EqAt.int_none _ _,RcAt.int_none _ _,RcNeAt.int_none _ _⟩
   | bl b=>rw[show w=.bl b from h2] at r2;cases r2;simp only[eqF,Option.some.injEq] at h;subst h;exact⟨EqAt.int_bool _ _ _,RcAt.int_bool _ _ _,RcNeAt.int_bool _ _ _⟩
   | int b=>rw[show w=.int b from h2] at r2;obtain⟨t,rfl⟩:=r2;simp only[eqF,Option.some.injEq] at h;subst h;exact⟨EqAt.int_int _ _ _ _,RcAt.int_int _ _ _ _,RcNeAt.int_int _ _ _ _⟩
   | str b=>rw[show w=.str b from h2] at r2;obtain⟨t,rfl⟩:=r2;simp[eqF] at h;subst h;exact⟨EqAt.int_str _ _ _ _,RcAt.int_str _ _ _ _,RcNeAt.int_str _ _ _ _⟩
   | tup es=>
    obtain⟨b,ys,rfl,q,r⟩:=h2
    cases r2
    obtain⟨its,_,p,_⟩:=I.tuple q
    simp[eqF] at h;subst h
    exact⟨EqAt.int_tuple _ _ (show s.heap.IsTuple b its.toArray from p) hu,RcAt.int_tuple _ _ (show s.heap.IsTuple b its.toArray from p) hu,RcNeAt.int_tuple _ _ (show s.heap.IsTuple b its.toArray from p) hu⟩
   | lst es=>
    obtain⟨b,ys,rfl,q,_,r⟩:=h2
    cases r2
    obtain⟨its,_,p,_⟩:=I.list q
    simp[eqF] at h;subst h
    exact⟨EqAt.int_list _ _ p.isList hu,RcAt.int_list _ _ p.isList hu,RcNeAt.int_list _ _ p.isList hu⟩
  | str a=>
   rw[show u=.str a from h1] at r1
   obtain⟨t1,rfl⟩:=r1
   cases e with
   | err _ _=>exact h2.elim
   | dic _=>simp[eqF] at h
   | non=>rw[show w=.non from h2] at r2;cases r2;simp[eqF] at h;subst h;exact⟨EqAt.str_none _ _,RcAt.str_none _ _,RcNeAt.str_none _ _⟩
   | bl b=>rw[show w=.bl b from h2] at r2;cases r2;simp[eqF] at h;subst h;exact⟨EqAt.str_bool _ _ _,RcAt.str_bool _ _ _,RcNeAt.str_bool _ _ _⟩
   | int b=>rw[show w=.int b from h2] at r2;obtain⟨t,rfl⟩:=r2;simp[eqF] at h;subst h;exact⟨EqAt.str_int _ _ _ _,RcAt.str_int _ _ _ _,RcNeAt.str_int _ _ _ _⟩
   | str b=>rw[show w=.str b from h2] at r2;obtain⟨t,rfl⟩:=r2;simp only[eqF,Option.some.injEq] at h;subst h;exact⟨EqAt.str_str _ _ _ _,RcAt.str_str _ _ _ _,RcNeAt.str_str _ _ _ _⟩
   | tup es=>
    obtain⟨b,ys,rfl,q,r⟩:=h2
    cases r2
    obtain⟨its,_,p,_⟩:=I.tuple q
    simp[eqF] at h;subst h
    exact⟨EqAt.str_tuple _ _ (show s.heap.IsTuple b its.toArray from p) hu,RcAt.str_tuple _ _ (show s.heap.IsTuple b its.toArray from p) hu,RcNeAt.str_tuple _ _ (show s.heap.IsTuple b its.toArray from p) hu⟩
   | lst es=>
    obtain⟨b,ys,rfl,q,_,r⟩:=h2
    cases r2
    obtain⟨its,_,p,_⟩:=I.list q
    simp[eqF] at h;subst h
    exact⟨EqAt.str_list _ _ p.isList hu,RcAt.str_list _ _ p.isList hu,RcNeAt.str_list _ _ p.isList hu⟩
  | tup ds=>
   have h1':=h1
   obtain⟨a,xs,rfl,q1,rp1⟩:=h1
   cases r1
   obtain⟨its1,v1,p1,_⟩:=I.tuple q1
   have p1':s.heap.IsTuple a its1.toArray:=p1
   cases e with
   | err _ _=>exact h2.elim
   | dic _=>simp[eqF] at h
   | non=>rw[show w=.non from h2] at r2;cases r2;simp[eqF] at h;subst h;exact⟨EqAt.tuple_none p1' hu,RcAt.tuple_none p1' hu,RcNeAt.tuple_none p1' hu⟩
   | bl b=>rw[show w=.bl b from h2] at r2;cases r2;simp[eqF] at h;subst h;exact⟨EqAt.tuple_bool _ p1' hu,RcAt.tuple_bool _ p1' hu,RcNeAt.tuple_bool _ p1' hu⟩
   | int b=>rw[show w=.int b from h2] at r2;obtain⟨t,rfl⟩:=r2;simp[eqF] at h;subst h;exact⟨EqAt.tuple_int _ _ p1' hu,RcAt.tuple_int _ _ p1' hu,RcNeAt.tuple_int _ _ p1' hu⟩
   | str b=>rw[show w=.str b from h2] at r2;obtain⟨t,rfl⟩:=r2;simp[eqF] at h;subst h;exact⟨EqAt.tuple_str _ _ p1' hu,RcAt.tuple_str _ _ p1' hu,RcNeAt.tuple_str _ _ p1' hu⟩
   | tup es=>
    have h2':=h2
    obtain⟨b,ys,rfl,q2,rp2⟩:=h2
    cases r2
    obtain⟨its2,v2,p2,_⟩:=I.tuple q2
    have hk:fK n ds es=some k:=by simpa[eqF] using h
    have hv:=nV hk
    have l1:its1.toArray.size=ds.length:=by rw[List.size_toArray,<-v1.length,rp1.length]
    have l2:its2.toArray.size=es.length:=by rw[List.size_toArray,<-v2.length,rp2.length]
    have rc:RcAt A s (.ref a) (.ref b) k:=by
     rw[hv,<-l1,<-l2]
     exact RcAt.tuples p1' (show s.heap.IsTuple b its2.toArray from p2) hu (items rp1 rp2 v1 v2 hk)
    have rn:RcNeAt A s (.ref a) (.ref b) (!k):=by
     rw[hv,<-l1,<-l2]
     exact RcNeAt.tuples p1' (show s.heap.IsTuple b its2.toArray from p2) hu (items rp1 rp2 v1 v2 hk)
    refine⟨?_,rc,rn⟩
    by_cases hab:a=b
    . subst hab
      have:=rM I (n+1) (.tup ds) (.tup es) (.ref a) k ex ex' h1' h2' h
      subst this
      exact EqAt.same _
    . exact EqAt.of_refs hab rc
   | lst es=>
    obtain⟨b,ys,rfl,q2,_,rp2⟩:=h2
    cases r2
    obtain⟨its2,v2,p2,_⟩:=I.list q2
    simp[eqF] at h;subst h
    exact⟨EqAt.tuple_list p1' p2.isList hu,RcAt.tuple_list p1' p2.isList hu,RcNeAt.tuple_list p1' p2.isList hu⟩
  | lst ds=>
   have h1':=h1
   obtain⟨a,xs,rfl,q1,_,rp1⟩:=h1
   cases r1
   obtain⟨its1,v1,p1,_⟩:=I.list q1
   have p1':=p1.isList
   cases e with
   | err _ _=>exact h2.elim
   | dic _=>simp[eqF] at h
   | non=>rw[show w=.non from h2] at r2;cases r2;simp[eqF] at h;subst h;exact⟨EqAt.list_none p1' hu,RcAt.list_none p1' hu,RcNeAt.list_none p1' hu⟩
   | bl b=>rw[show w=.bl b from h2] at r2;cases r2;simp[eqF] at h;subst h;exact⟨EqAt.list_bool _ p1' hu,RcAt.list_bool _ p1' hu,RcNeAt.list_bool _ p1' hu⟩
   | int b=>rw[show w=.int b from h2] at r2;obtain⟨t,rfl⟩:=r2;simp[eqF] at h;subst h;exact⟨EqAt.list_int _ _ p1' hu,RcAt.list_int _ _ p1' hu,RcNeAt.list_int _ _ p1' hu⟩
   | str b=>rw[show w=.str b from h2] at r2;obtain⟨t,rfl⟩:=r2;simp[eqF] at h;subst h;exact⟨EqAt.list_str _ _ p1' hu,RcAt.list_str _ _ p1' hu,RcNeAt.list_str _ _ p1' hu⟩
   | lst es=>
    have h2':=h2
    obtain⟨b,ys,rfl,q2,_,rp2⟩:=h2
    cases r2
    obtain⟨its2,v2,p2,_⟩:=I.list q2
    have l1:its1.toArray.size=ds.length:=by rw[List.size_toArray,<-v1.length,rp1.length]
    have l2:its2.toArray.size=es.length:=by rw[List.size_toArray,<-v2.length,rp2.length]
    have both:RcAt A s (.ref a) (.ref b) k/\RcNeAt A s (.ref a) (.ref b) (!k):=by
     by_cases hl:ds.length=es.length
     . have hk:fK n ds es=some k:=by simpa[eqF,hl] using h
       have hv:=nV hk
       rw[<-hl,Nat.min_self,beq_self_eq_true,Bool.and_true,<-l1] at hv
       rw[hv]
       exact⟨RcAt.lists p1' p2.isList (by rw[l1,l2,hl]) hu (items rp1 rp2 v1 v2 hk),RcNeAt.lists p1' p2.isList (by rw[l1,l2,hl]) hu (items rp1 rp2 v1 v2 hk)⟩
     . have hk:k=false:=by simpa[eqF,hl] using h.symm
       subst hk
       have hz:(its1.toArray.size != its2.toArray.size)=true:=by rw[l1,l2];simpa using hl
       exact⟨RcAt.lists_lengths p1' p2.isList hz hu,RcNeAt.lists_lengths p1' p2.isList hz hu⟩
    refine⟨?_,both.1,both.2⟩
    by_cases hab:a=b
    . subst hab
      have:=rM I (n+1) (.lst ds) (.lst es) (.ref a) k ex ex' h1' h2' h
      subst this
      exact EqAt.same _
    . exact EqAt.of_refs hab both.1
   | tup es=>
    obtain⟨b,ys,rfl,q2,rp2⟩:=h2
    cases r2
    obtain⟨its2,v2,p2,_⟩:=I.tuple q2
    have p2':s.heap.IsTuple b its2.toArray:=p2
    simp[eqF] at h;subst h
    exact⟨EqAt.list_tuple p1' p2' hu,RcAt.list_tuple p1' p2' hu,RcNeAt.list_tuple p1' p2' hu⟩
end
end Hp
end
noncomputable section
namespace HT
open PySem PyProof.Rows
section
open PySem.SeqAt
open PySem.AutoSeq1 (wpAny_loadPart')
open PySem.MeetsSeq PySem.MeetsSeq2 PySem.MeetsSeq3
end
section
variable {prog:Program} {w:World} {A:Around} {E:Value->Shared->Prop} {s:Shared}
end
end HT
end
noncomputable section
namespace Hp
open PySem PySem.Spec PyProof.Rows L2 PySem.SeqAt
section
variable {X:Cx} {RT Y old:Addr->Prop} {σ:Sg} {σV:L2.St} {H:Hp} {s:Shared} {pins:List (Addr×Obj)} {Q:VK} {ux uy:V} {vx vy:Value} {x y:Vl}
theorem aAi{o:CmpOp}{k:Bool}{σV2:L2.St}(I:L2.Inv X pins σV H s)(hA:X.A.units+200<cLine)(rx:bP ux vx)(ry:bP uy vy)(hx:Rv X.K RT Y old σ σV2 H x ux)(hy:Rv X.K RT Y old σ σV2 H y uy)
 (h:bL o x.d y.d=some k) (q:Q (.bl k) H):wpAny (model X.prog X.w) X.A (compareOp o vx vy) (EP X pins σV Q) X.xe s:=by
 have hu:X.A.units<cLine:=by omega
 have fin:EP X pins σV Q (.bool k) s:=⟨.bl k,H,I,rfl,q⟩
 have hD:rH=120:=rfl
 have go:∀{f:Value->Value->Sem Value} {r:R2},OpR X f r->r ux uy H Q->wpAny (model X.prog X.w) X.A (f vx vy) (EP X pins σV Q) X.xe s:=λhr q=>hr pins s σV H ux uy vx vy Q I rx ry q
 have e3:∀{b:Bool},eqD x.d y.d=some b->Eq3 X.A s vx vy b:=λ{b} hb=>aDp I rH X.A x.d y.d ux uy vx vy b _ _ (by omega) hx hy rx ry hb
 cases o with
 | Eq=>exact(e3 h).2.1 X.prog X.w X.xe _ fin
 | NotEq=>
  simp only[bL,Option.map_eq_some_iff] at h
  obtain⟨b,hb,e⟩:=h
  subst e
  exact(e3 hb).2.2 X.prog X.w X.xe _ fin
 | Lt=>
  simp only[bL] at h
  unfold ltD at h
  split at h
  . rename_i a b d1 d2
    exact go aHN ⟨a,b,hx.int d1,hy.int d2,by show Q (.bl (decide (a<b))) H;rw[Option.some.inj h];exact q⟩
  . cases h
 | Gt=>
  simp only[bL] at h
  split at h
  . rename_i a b d1 d2
    exact go aHP ⟨a,b,hx.int d1,hy.int d2,by show Q (.bl (decide (b<a))) H;rw[Option.some.inj h];exact q⟩
  . cases h
 | LtE=>
  simp only[bL] at h
  unfold leD at h
  split at h
  . rename_i a b d1 d2
    exact go aHO ⟨a,b,hx.int d1,hy.int d2,by show Q (.bl (decide (a<=b))) H;rw[Option.some.inj h];exact q⟩
  . cases h
 | GtE=>
  simp only[bL] at h
  split at h
  . rename_i a b d1 d2
    exact go aHQ ⟨a,b,hx.int d1,hy.int d2,by show Q (.bl (decide (b<=a))) H;rw[Option.some.inj h];exact q⟩
  . cases h
 | Is=>
  simp only[bL] at h
  split at h
  . rename_i d2
    refine go aFp ⟨hy.non d2,?_⟩
    have:decide (ux=V.non)=k:=by
     rw[<-Option.some.inj h]
     unfold isNone
     split
     . rename_i d1;rw[hx.non d1];simp
     . rename_i d1
       refine decide_eq_false λz=>?_
       rw[z] at hx
       unfold Rv at hx
       cases q':x.d with
       | non=>exact d1 q'
       | _=>rw[q'] at hx;first|(obtain⟨a,xs,z',_⟩:=hx;cases z')|exact hx.elim|injection hx
    rw[this]
    exact q
  . cases h
 | IsNot=>
  simp only[bL] at h
  split at h
  . rename_i d2
    refine go aCV ⟨hy.non d2,?_⟩
    have:(!decide (ux=V.non))=k:=by
     rw[<-Option.some.inj h]
     unfold isNone
     split
     . rename_i d1;rw[hx.non d1];simp
     . rename_i d1
       rw[decide_eq_false λz=>?_]
       rw[z] at hx
       unfold Rv at hx
       cases q':x.d with
       | non=>exact d1 q'
       | _=>rw[q'] at hx;first|(obtain⟨a,xs,z',_⟩:=hx;cases z')|exact hx.elim|injection hx
    rw[this]
    exact q
  . cases h
 | In=>
  simp only[bL] at h
  unfold inD at h
  split at h
  . rename_i a b d1 d2
    exact go zX ⟨a,b,hx.str d1,hy.str d2,by rw[show(!(Builtin.Str.occurrences b a 0 b.length 1).isEmpty)=k from Option.some.inj h];exact q⟩
  . cases h
 | NotIn=>
  simp only[bL,Option.map_eq_some_iff] at h
  obtain⟨k',h,ek⟩:=h
  subst ek
  unfold inD at h
  split at h
  . rename_i a b d1 d2
    exact go rD ⟨a,b,hx.str d1,hy.str d2,by rw[show(!(Builtin.Str.occurrences b a 0 b.length 1).isEmpty)=k' from Option.some.inj h];exact q⟩
  . cases h
end
end Hp
end
noncomputable section
namespace Hp
open PySem PySem.Spec PyProof.Rows L2
section
variable {X:Cx} {RT Y old:Addr->Prop} {σ:Sg} {σV:L2.St} {H:Hp} {s:Shared} {pins:List (Addr×Obj)} {Q:VK} {ux uy:V} {vx vy:Value} {x y:Vl}
theorem lJ(n:Nat)(k:Int):Hp.ixN n k=L2.ixN n k:=rfl
theorem Rv.ofSub{d:D}{u:V}(h:Rep X.K H (exV RT Y old σ σV x.pa x.al) d u):Ro X.K RT Y old σ σV H H (x.sub d) u:=by
 refine Ro.plain (aL.refl H) ?_ (Rv.sub (ds:=[]) (xs:=[]) (j:=0) h)
 unfold Vl.sub Vl.cl
 split <;> rfl
theorem pZ(t:Tk X.K H)(hx:Rv X.K RT Y old σ σV H x ux)(hy:Rv X.K RT Y old σ σV H y uy)(h:RE (bV x y) (Wn X RT Y old σ σV H Q)):rIx X.K ux uy H (λv H'=>Tk X.K H'->Q v H'):=by
 unfold bV at h
 split at h
 . rename_i ds k d1 d2
   obtain⟨a,xs,e,q,_,r⟩:=hx.lst d1
   cases hj:Hp.ixN ds.length k with
   | none=>rw[hj] at h;exact h.elim
   | some j=>
    rw[hj] at h
    cases hd:ds[j]? with
    | none=>simp only[hd] at h;exact h.elim
    | some d=>
     simp only[hd] at h
     obtain⟨v,hv,rv⟩:=r.get hd
     refine .inl ⟨a,xs,k,v,e,hy.int d2,q,?_,λt'=>h v H t' (Rv.ofSub rv)⟩
     unfold atI
     rw[<-r.length,<-lJ,hj]
     exact hv
 . rename_i ds k d1 d2
   obtain⟨a,xs,e,q,r⟩:=hx.tup d1
   cases hj:Hp.ixN ds.length k with
   | none=>rw[hj] at h;exact h.elim
   | some j=>
    rw[hj] at h
    cases hd:ds[j]? with
    | none=>simp only[hd] at h;exact h.elim
    | some d=>
     simp only[hd] at h
     obtain⟨v,hv,rv⟩:=r.get hd
     refine .inr (.inl ⟨a,xs,k,v,e,hy.int d2,q,?_,λt'=>h v H t' (Rv.ofSub rv)⟩)
     unfold atI
     rw[<-r.length,<-lJ,hj]
     exact hv
 . rename_i z k d1 d2
   obtain⟨c,h⟩:=h.iff
   have c':=of_decide_eq_true c
   cases hj:Hp.ixN z.length k with
   | none=>rw[hj] at h;exact h.elim
   | some j=>
    rw[hj] at h
    cases hd:z.cps.toList[j]? with
    | none=>simp only[hd] at h;exact h.elim
    | some c=>
     simp only[hd] at h
     refine .inr (.inr ⟨z,k,c,hx.str d1,hy.int d2,eH c',?_,λt'=>Wn.val h t' λ_=>rfl⟩)
     unfold atI
     have hl:z.cps.toList.length=z.length:=by simp[Str.length]
     rw[hl,<-lJ,hj]
     exact hd
 . exact h.elim
theorem rN(n d:Nat)(o:Option Int):Hp.sIx n d o=HT.sIx n d o:=by cases o <;> rfl
theorem tQ{K:Fg}{ex:Addr->Prop}{ds:List D}{xs:List V}(r:Reps K H ex ds xs)(lo hi:Option Int):Reps K H ex (cut ds lo hi) (tE xs lo hi):=by
 unfold cut tE
 rw[rN,rN,r.length]
 exact(r.drop _).take _
theorem jC{prog:Program}{w:World}{A:Around}{E:Value->Shared->Prop}{t sl:Addr}{items:Array Value}{vl vu:Value}{lo hi:Option Int}{Q:Value->Shared->Prop}(ht:IsTup s.heap t items)(hs:s.heap.IsSliceOf sl vl vu .none)(pl:IsPart vl lo)(pu:IsPart vu hi)
 (hw:HT.sIx items.size 0 lo=0/\HT.sIx items.size items.size hi=items.size) (h:Q (.ref t) s):wpAny (model prog w) A (getItem (.ref t) (.ref sl)) Q E s:=by
 obtain⟨os,hos,hcs,hds⟩:=id hs
 have hTs:s.TypeIs (.ref sl) "slice" := ⟨os,hos,hcs⟩
 unfold getItem
 try with_reducible refine wpAny_holding ?_
 first|refine wpAny_bind (wpAny_pure ?_)|skip
 refine wpAny_bind (wpAny_sequenceKey ht.typeIs (by decide) ?_)
 refine wpAny_bind (wpAny_callSpecial?_slot (name:=Str.ofString "__getitem__") ht.typeIs PyProof.Rows.slot_tuple_getitem
  (wpAny_call_entry PyProof.Rows.slot_tuple_getitem ht.typeIs entry_tuple_getitem ?_ (args_tuple_getitem _ _)))
 show wpAny _ _ (Builtin.Tuple.tupleItemsOf (.ref t) >>= _) _ _ s
 refine wpAny_bind (tupleItemsOf_ ht ?_)
 refine wpAny_bind (wpAny_typeOf hTs ?_)
 rw[if_pos (by decide)]
 refine wpAny_bind (HT.sliceApplied_gen hs pl pu ?_)
 have hyes:(((HT.sIx items.size 0 lo:Nat):Int)==0&&(1:Int)==1&&(HT.sIx items.size items.size hi-HT.sIx items.size 0 lo)==items.size)=true:=by
  rw[hw.1,hw.2]
  simp
 show wpAny _ _ (if (((HT.sIx items.size 0 lo:Nat):Int)==0&&(1:Int)==1&&(HT.sIx items.size items.size hi-HT.sIx items.size 0 lo)==items.size)=true then _ else _) _ _ s
 rw[if_pos hyes]
 unfold Builtin.Tuple.tupleIsExact
 refine wpAny_bind (wpAny_bind (wpAny_typeOf ht.typeIs (wpAny_pure ?_)))
 rw[if_pos (beq_self_eq_true _)]
 exact wpAny_bind (wpAny_rule (wpAny_pure ⟨_,rfl,wpAny_pure h⟩))
def tR(K:Fg):V->Option Int->Option Int->Hp->VK->Prop:=λx lo hi H Q=>∃a xs,x=.ref a/\SqT K H a xs/\(HT.sIx xs.length 0 lo=0/\HT.sIx xs.length xs.length hi=xs.length)/\Q (.ref a) H
theorem aDq:SlR X (tR X.K):=by
 intro pins s σ H x v vl vu lo hi sl Q I rx hs pl pu h
 obtain⟨a,xs,rfl,hx,hw,q⟩:=h
 cases rx
 obtain⟨its,r,ht,hz⟩:=I.tuple hx
 have hlen:its.toArray.size=xs.length:=by rw[List.size_toArray];exact r.length.symm
 refine⟨"tuple",_,PyProof.Rows.slot_tuple_getitem.lookup,ht.typeIs,?_⟩
 exact jC ht hs pl pu (by rw[hlen];exact hw) ⟨.ref a,H,I,rfl,q⟩
theorem aFC:SlR X (λx lo hi H Q=>aBg X.K x lo hi H Q\/aBf X.K x lo hi H Q\/tR X.K x lo hi H Q\/aBt x lo hi H Q):=aDc.or (aFr.or (aDq.or aFz))
theorem aAj{α:Type}{xs:List α}{lo hi:Option Int}(h1:Hp.sIx xs.length 0 lo=0)(h2:Hp.sIx xs.length xs.length hi=xs.length):cut xs lo hi=xs:=by
 unfold cut
 rw[h1,h2,List.drop_zero,Nat.sub_zero,List.take_length]
theorem aAk{lo hi:Option Int}(S:Sx X.K RT Y old σ σV H)(t:Tk X.K H)(hx:Rv X.K RT Y old σ σV H x ux)(h:RE (eG x lo hi) (Wn X RT Y old σ σV H Q)) :
 aBg X.K ux lo hi H (λv H'=>Tk X.K H'->Q v H')\/aBf X.K ux lo hi H (λv H'=>Tk X.K H'->Q v H')\/tR X.K ux lo hi H (λv H'=>Tk X.K H'->Q v H')\/aBt ux lo hi H (λv H'=>Tk X.K H'->Q v H'):=by
 unfold eG at h
 split at h
 . rename_i ds d1
   obtain⟨a,xs,e,q,_,r⟩:=hx.lst d1
   refine .inl ⟨a,xs,e,q,λp hp t'=>h _ _ t' (Ro.fresh hp t' rfl rfl S ?_)⟩
   exact tQ (fA r) lo hi
 . rename_i ds d1
   obtain⟨a,xs,e,q,r⟩:=hx.tup d1
   have r':=fA r
   by_cases hw:HT.sIx xs.length 0 lo=0/\HT.sIx xs.length xs.length hi=xs.length
   . refine .inr (.inr (.inl ⟨a,xs,e,q,hw,λt'=>h _ _ t' (Ro.plain (aL.refl H) rfl ?_)⟩))
     have e':cut ds lo hi=ds:=aAj (by rw[rN,r.length];exact hw.1) (by rw[rN,r.length];exact hw.2)
     unfold Rv
     show Rep X.K H _ (.tup (cut ds lo hi)) (.ref a)
     rw[e']
     exact⟨a,xs,rfl,q,r'⟩
   . exact .inr (.inl ⟨a,xs,e,q,hw,λp hp t'=>h _ _ t' (Ro.tup hp rfl rfl (tQ r' lo hi))⟩)
 . rename_i a d1
   obtain⟨hl,h⟩:=h.iff
   have e:ux=.str a:=by
    have z:=hx
    unfold Rv at z
    rw[d1] at z
    exact z
   exact .inr (.inr (.inr ⟨a,e,eH (of_decide_eq_true hl),λt'=>h _ _ t' (Ro.cl (aL.refl H) rfl)⟩))
 . exact h.elim
theorem log2_lt{i:Int}(h:i.natAbs<2 ^ 1000):i.natAbs.log2<1920:=by
 by_cases hz:i.natAbs=0
 . rw[hz];decide
 . have:=(Nat.log2_lt hz).mpr (Nat.lt_of_lt_of_le h (Nat.pow_le_pow_right (by decide) (show 1000<=1920 by decide)))
   exact this
def rBi(X:Cx)(b:Bi):List V->Hp->VK->Prop:=match b with
 | .len=>λxs H Q=>(∃p ys,xs=[.ref p]/\(SqL X.K H p ys\/SqT X.K H p ys)/\Q (.int ys.length) H)\/∃z,xs=[.str z]/\z.length<=sizeLine/\Q (.int z.length) H
 | .list=>λxs H Q=>∃p ys,xs=[.ref p]/\(SqL X.K H p ys\/SqT X.K H p ys)/\∀l,H l=none->Q (.ref l) (upd H l (.lst ys))
 | .tuple=>λxs H Q=>∃p ys,xs=[.ref p]/\((SqL X.K H p ys/\∀l,H l=none->Q (.ref l) (upd H l (.tup ys)))\/(SqT X.K H p ys/\Q (.ref p) H))
 | .min=>λxs H Q=>∃i j,xs=[.int i,.int j]/\Q (.int (if j<i then j else i)) H
 | .int=>λxs H Q=>(∃i,xs=[.int i]/\Q (.int i) H)\/∃k,xs=[.bl k]/\Q (.int (if k then 1 else 0)) H
 | _=>λ_ _ _=>False
def aEC:Bi->Value
 | .len=>.builtin "len" | .list=>.type "list" | .tuple=>.type "tuple" | .min=>.builtin "min" | .max=>.builtin "max" | .abs=>.builtin "abs" | .int=>.type "int" | .str=>.type "str"
 | .all=>.builtin "all" | .any=>.builtin "any" | .sum=>.builtin "sum" | .sorted=>.builtin "sorted" | .bool=>.type "bool" | .repr=>.builtin "repr"
theorem yF(hc:X.calm=true)(hg:X.A.guards=some [])(hu:X.A.units+200<cLine)(b:Bi)(hb:aBr b=true):fP X (aEC b) (rBi X b):=by
 cases b with
 | len=>exact rE.or rF
 | list=>exact rG
 | tuple=>exact pH
 | min=>exact zY hc
 | int=>exact zZ
 | _=>cases hb
theorem tS{b:Bi}(hb:aBr b=true)(S:Sx X.K RT Y old σ σV H){vs:List Vl}{us:List V}(hv:Rvs X.K RT Y old σ σV H vs us)(h:RE (biD b vs) (Wn X RT Y old σ σV H Q)) :
 rBi X b us H (λv H'=>Tk X.K H'->Q v H'):=by
 unfold biD at h
 split at h
 . rename_i x
   obtain⟨u,r,e,hx,hr⟩:=hv
   rw[show r=[] from hr] at e
   subst e
   cases b with
   | len=>
    dsimp only[aBk] at h
    split at h
    . rename_i ds d1
      obtain⟨a,xs,e,q,_,r⟩:=hx.lst d1
      exact .inl ⟨a,xs,by rw[e],.inl q,λt'=>by rw[<-r.length];exact Wn.val h t' λ_=>rfl⟩
    . rename_i ds d1
      obtain⟨a,xs,e,q,r⟩:=hx.tup d1
      exact .inl ⟨a,xs,by rw[e],.inr q,λt'=>by rw[<-r.length];exact Wn.val h t' λ_=>rfl⟩
    . rename_i z d1
      obtain⟨c,h⟩:=h.iff
      exact .inr ⟨z,by rw[hx.str d1],eH (of_decide_eq_true c),λt'=>Wn.val h t' λ_=>rfl⟩
    . exact h.elim
   | list=>
    dsimp only[aBk] at h
    split at h
    . rename_i ds d1
      obtain⟨a,xs,e,q,_,r⟩:=hx.lst d1
      exact⟨a,xs,by rw[e],.inl q,λp hp t'=>h _ _ t' (Ro.fresh hp t' rfl rfl S (fA r))⟩
    . rename_i ds d1
      obtain⟨a,xs,e,q,r⟩:=hx.tup d1
      exact⟨a,xs,by rw[e],.inr q,λp hp t'=>h _ _ t' (Ro.fresh hp t' rfl rfl S (fA r))⟩
    . exact h.elim
   | tuple=>
    dsimp only[aBk] at h
    split at h
    . rename_i ds d1
      obtain⟨a,xs,e,q,_,r⟩:=hx.lst d1
      exact⟨a,xs,by rw[e],.inl ⟨q,λp hp t'=>h _ _ t' (Ro.tup hp rfl rfl (fA r))⟩⟩
    . rename_i ds d1
      obtain⟨a,xs,e,q,r⟩:=hx.tup d1
      exact⟨a,xs,by rw[e],.inr ⟨q,λt'=>h _ _ t' (Ro.plain (aL.refl H) rfl ⟨a,xs,rfl,q,r⟩)⟩⟩
    . exact h.elim
   | abs=>cases hb
   | int=>
    dsimp only[aBk] at h
    split at h
    . rename_i i d1
      exact .inl ⟨i,by rw[hx.int d1],λt'=>Wn.val h t' λ_=>rfl⟩
    . rename_i k d1
      exact .inr ⟨k,by rw[hx.bl d1],λt'=>Wn.val h t' λ_=>rfl⟩
    . exact h.elim
   | str=>cases hb
   | all=>cases hb
   | repr=>cases hb
   | bool=>cases hb
   | sum=>cases hb
   | any=>cases hb
   | sorted=>cases hb
   | min=>exact h.elim
   | max=>exact h.elim
 . rename_i x y
   obtain⟨u,r,e,hx,u',r',e',hy,hr⟩:=hv
   rw[show r'=[] from hr] at e'
   subst e' e
   cases b with
   | min=>
    dsimp only[aIf] at h
    split at h
    . rename_i i j d1 d2
      exact⟨i,j,by rw[hx.int d1,hy.int d2],λt'=>Wn.val h t' λ_=>rfl⟩
    . exact h.elim
   | max=>cases hb
   | _=>exact h.elim
 . exact h.elim
def tU:Cl->Option Value
 | .tInt=>some (.type "int")|.tBool=>some (.type "bool")|.tStr=>some (.type "str")|.tList=>some (.type "list")|.tTuple=>some (.type "tuple")|.tDict=>some (.type "dict")
 | _=>none
def tyD:D->Option String
 | .non=>some "NoneType" | .bl _=>some "bool" | .int _=>some "int" | .str _=>some "str" | .tup _=>some "tuple" | .lst _=>some "list" | .dic _=>some "dict" | .err _ _=>none
theorem gH(K:Fg)(P:Pg){c:Cl}{cv:Value}{d:D}{k:Bool}{T:String}(hc:tU c=some cv)(hT:tyD d=some T)(h:isI [c] P d=some k):PySem.W.kitOne K (.type T) cv=some k:=by
 cases c with
 | own c=>cases hc
 | tValueError=>cases hc
 | tInt=>cases hc;cases d <;> cases hT <;> simp[isI] at h <;> subst h <;> kernel_rfl
 | tBool=>cases hc;cases d <;> cases hT <;> simp[isI] at h <;> subst h <;> kernel_rfl
 | tStr=>cases hc;cases d <;> cases hT <;> simp[isI] at h <;> subst h <;> kernel_rfl
 | tList=>cases hc;cases d <;> cases hT <;> simp[isI] at h <;> subst h <;> kernel_rfl
 | tTuple=>cases hc;cases d <;> cases hT <;> simp[isI] at h <;> subst h <;> kernel_rfl
 | tDict=>cases hc;cases d <;> cases hT <;> simp[isI] at h <;> subst h <;> kernel_rfl
theorem aAl(P:Pg){c:Cl}{cv:Value}{k:Bool}(I:L2.Inv X pins σV H s)(rx:bP ux vx)(hx:Rv X.K RT Y old σ σV H x ux)(hc:tU c=some cv)(h:isI [c] P x.d=some k)(q:Q (.bl k) H) :
 wpAny (model X.prog X.w) X.A (PySem.call (.builtin "isinstance") [vx,cv]) (EP X pins σV Q) X.xe s:=by
 have fin:∀tk,EP X pins σV Q (.bool k) { s with toks:=tk }:=λtk=>⟨.bl k,H,I.tok tk,rfl,q⟩
 cases d:x.d with
 | non=>
  have e:=gH X.K P hc (by rw[d];rfl) h
  rw[hx.non d] at rx;cases rx
  exact PySem.W.kia_one PySem.W.kitx_none I.kIn True.intro e (λz=>nomatch z) fin
 | bl b=>
  have e:=gH X.K P hc (by rw[d];rfl) h
  rw[hx.bl d] at rx;cases rx
  exact PySem.W.kia_one PySem.W.kitx_bool I.kIn True.intro e (λz=>nomatch z) fin
 | int i=>
  have e:=gH X.K P hc (by rw[d];rfl) h
  rw[hx.int d] at rx;obtain⟨t,rfl⟩:=rx
  exact PySem.W.kia_one PySem.W.kitx_int I.kIn True.intro e (λz=>nomatch z) fin
 | str z=>
  have e:=gH X.K P hc (by rw[d];rfl) h
  rw[hx.str d] at rx;obtain⟨t,rfl⟩:=rx
  exact PySem.W.kia_one PySem.W.kitx_str I.kIn True.intro e (λz=>nomatch z) fin
 | tup ds=>
  have e:=gH X.K P hc (by rw[d];rfl) h
  obtain⟨a,xs,e1,p,_⟩:=hx.tup d
  subst e1
  cases rx
  obtain⟨its,_,t,_⟩:=I.tuple p
  obtain⟨o,h1,h2,_⟩:=t
  exact PySem.W.kia_one PySem.W.kitx_tuple I.kIn ⟨o,h1,h2⟩ e (λz=>nomatch z) fin
 | lst ds=>
  have e:=gH X.K P hc (by rw[d];rfl) h
  obtain⟨a,xs,e1,p,_⟩:=hx.lst d
  subst e1
  cases rx
  obtain⟨its,_,t,_⟩:=I.list p
  obtain⟨o,n,h1,h2,_⟩:=t
  exact PySem.W.kia_one PySem.W.kitx_list I.kIn ⟨o,h1,h2⟩ e (λz=>nomatch z) fin
 | dic kvs=>
  have e:=gH X.K P hc (by rw[d];rfl) h
  unfold Rv at hx
  rw[d] at hx
  obtain⟨a,ks,e1,p,_⟩:=hx
  subst e1
  cases rx
  obtain⟨_,_,vs,_,o,es,ep,h1,h2,_⟩:=(show eA X.prog X.w H s.heap a (.dK ks) from I.hok a _ p)
  exact PySem.W.kia_one PySem.W.kitx_dict I.kIn ⟨o,h1,h2.1⟩ e (λz=>nomatch z) fin
 | err _ _=>
  unfold Rv at hx
  rw[d] at hx
  exact hx.elim
end
end Hp
end
noncomputable section
namespace L2
open PySem PySem.Spec PyProof.Rows
def jD(cells:List (Str×Addr)):List (Str×NameKind)->List (Str×Addr)->List (Str×Addr)
 | [],acc=>acc
 | (n,k)::r,acc=>if k==.free then jD cells r ((n,(cells.lookup n).getD 0)::acc) else jD cells r acc
theorem clos_mem{cells:List (Str×Addr)}:∀{names:List (Str×NameKind)} {acc:List (Str×Addr)} {p:Str×Addr},p∈jD cells names acc->p∈acc\/((p.1,NameKind.free)∈names/\p.2=(cells.lookup p.1).getD 0)
 | [],_,_,h=>.inl h
 | (n,k)::r,acc,p,h=>by
  unfold jD at h
  by_cases hk:(k==NameKind.free)=true
  . rw[if_pos hk] at h
    rcases clos_mem h with q|q
    . rcases List.mem_cons.mp q with q|q
      . subst q
        have:k=.free:=eq_of_beq hk
        subst this
        exact .inr ⟨List.mem_cons_self,rfl⟩
      . exact .inl q
    . exact .inr ⟨List.mem_cons_of_mem _ q.1,q.2⟩
  . rw[if_neg hk] at h
    rcases clos_mem h with q|q
    . exact .inl q
    . exact .inr ⟨List.mem_cons_of_mem _ q.1,q.2⟩
theorem nW{cells:List (Str×Addr)}:∀{names:List (Str×NameKind)} {acc:List (Str×Addr)} {p:Str×Addr},p∈acc->p∈jD cells names acc
 | [],_,_,h=>h
 | (n,k)::r,acc,p,h=>by
  unfold jD
  by_cases hk:(k==NameKind.free)=true
  . rw[if_pos hk];exact nW (List.mem_cons_of_mem _ h)
  . rw[if_neg hk];exact nW h
theorem kA{cells:List (Str×Addr)}:∀{names:List (Str×NameKind)} {acc:List (Str×Addr)} {n:Str},(n,NameKind.free)∈names->(n,(cells.lookup n).getD 0)∈jD cells names acc
 | [],_,_,h=>by simp at h
 | (m,k)::r,acc,n,h=>by
  unfold jD
  rcases List.mem_cons.mp h with q|q
  . cases q
    rw[if_pos (by rfl:(NameKind.free==NameKind.free)=true)]
    exact nW List.mem_cons_self
  . by_cases hk:(k==NameKind.free)=true
    . rw[if_pos hk];exact kA q
    . rw[if_neg hk];exact kA q
theorem eI{α:Type}:∀{l:List (Str×α)} {x:Str} {a:α},(x,a)∈l->∃b,l.lookup x=some b
 | (y,b)::r,x,a,h=>by
  rw[List.lookup_cons]
  cases hx:x==y with
  | true=>exact⟨b,rfl⟩
  | false=>
   rcases List.mem_cons.mp h with q|q
   . cases q
     simp at hx
   . exact eI q
theorem cK{cells:List (Str×Addr)}{names:List (Str×NameKind)}(hh:∀n,(n,NameKind.free)∈names->∃c,cells.lookup n=some c){x:Str}{c:Addr}(h:(jD cells names []).lookup x=some c):cells.lookup x=some c:=by
 rcases clos_mem (PySem.mem_of_lookup h) with q|⟨q1,q2⟩
 . simp at q
 . obtain⟨c',e⟩:=hh x q1
   simp only at q2
   rw[e] at q2
   rw[e,q2];rfl
theorem gR{scope:Scope}{env:Env}(hh:∀n,(n,NameKind.free)∈scope.names->∃c,env.cells.lookup n=some c):closureFor scope env=pure (jD env.cells scope.names []):=by
 have go:∀(l:List (Str×NameKind)) (acc:List (Str×Addr)),(∀n,(n,NameKind.free)∈l->∃c,env.cells.lookup n=some c) ->
  (forIn l acc (λ(x:Str×NameKind) (r:List (Str×Addr))=>(match x with|(name,kind)=>if (kind==NameKind.free)=true then do let __do_lift<-cellOf env name;pure (ForInStep.yield ((name,__do_lift)::r)) else pure (ForInStep.yield r):Sem (ForInStep (List (Str×Addr))))))=(pure (jD env.cells l acc):Sem (List (Str×Addr))):=by
  intro l
  induction l with
  | nil=>intro acc _;rfl
  | cons p r ih=>
   intro acc hl
   obtain⟨n,k⟩:=p
   rw[List.forIn_cons]
   unfold jD
   by_cases hk:(k==NameKind.free)=true
   . have:k=.free:=eq_of_beq hk
     subst this
     obtain⟨c,e⟩:=hl n List.mem_cons_self
     have e':cellOf env n=pure c:=by unfold cellOf;rw[e]
     simp only[beq_self_eq_true,if_true,e']
     rw[e]
     exact ih _ λm hm=>hl m (List.mem_cons_of_mem _ hm)
   . simp only[hk,if_false]
     exact ih _ λm hm=>hl m (List.mem_cons_of_mem _ hm)
 unfold closureFor
 exact(bind_pure _).trans (go scope.names [] hh)
section
variable {prog:Program} {w:World} {A:Around} {R:Result->Shared->Prop} {s:Shared}
theorem iC{elt target iter:Expr}{ifs:List Expr}{scope:Scope}{pos:Pos}{it acc:Value}{env:Env}(I:Nat->Shared->Prop)
 (turn:∀n s,I n s->wpAny (model prog w) A (pyNext it) (λr s₁=>match r with
  | none=>R (.ok .next) s₁
  | some v=>wpAny (model prog w) A (letOwnedTupleGo target it v) (λ_ s₁'=>wpAny (model prog w) A (assign target env v) (λ_ s₂=>
   wpAny (model prog w) A (forIn ifs true λc r=>if r=true then do let ok<-isTrue c env (eval c env);pure (ForInStep.yield ok) else pure (ForInStep.yield r)) (λok s₃=>
    if ok=true then wpAny (model prog w) A (eval elt env) (λx s₄=>
     wpAny (model prog w) A (call (.builtin "list.append") [acc,x]) (λ_ s₅=>∃m,m<n/\I m s₅) (λ_ _=>False) s₄) (λ_ _=>False) s₃
    else ∃m,m<n/\I m s₃) (λ_ _=>False) s₂) (λ_ _=>False) s₁') (λ_ _=>False) s₁) (λ_ _=>False) s)
 (n:Nat) (h:I n s) :
 codeAny (model prog w) A (.compLoop (.ListComp elt [⟨target,iter,ifs,0⟩] scope pos) 0 it acc env) R s:=by
 refine codeAny_loop rfl I (λn s hI=>?_) n h
 show wpAny _ A ((compTurn (.ListComp elt [⟨target,iter,ifs,0⟩] scope pos) 0 it acc env).onRaise (λx=>do noteFrame x env;theTreesLotGoes x)) _ _ s
 refine wpAny_noted ?_
 rw[compTurn_list]
 refine wpAny_bind (wpAny_standAt (wpAny_bind (wpAny_mono (turn n s hI) (λr s₁ h₁=>?_) λ_ _ h'=>h'.elim)))
 cases r with
 | none=>exact wpAny_pure h₁
 | some v=>
  refine wpAny_bind (wpAny_mono h₁ (λ_ s₁' h₁'=>?_) λ_ _ h'=>h'.elim)
  refine wpAny_bind (wpAny_mono h₁' (λ_ s₂ h₂=>wpAny_bind (wpAny_mono h₂ (λok s₃ h₃=>?_) λ_ _ h'=>h'.elim)) λ_ _ h'=>h'.elim)
  cases ok with
  | false=>exact wpAny_pure ⟨rfl,h₃⟩
  | true=>
   exact wpAny_bind (wpAny_bind (wpAny_mono h₃ (λx s₄ h₄=>wpAny_bind (wpAny_mono h₄ (λ_ s₅ h₅=>wpAny_pure (wpAny_pure ⟨rfl,h₅⟩)) λ_ _ h'=>h'.elim)) λ_ _ h'=>h'.elim))
end
def cU(X:Cx)(scope:Scope)(N':List Str)(C:Addr)(s₀:Shared)(H₀:Hp)(ex:List Addr):Cx:=
 { X with env:=compEnvC scope (jD X.env.cells scope.names []) C X.env,N:=N',s₀:=s₀,H₀:=H₀,outer:=X.stack,ex:=ex,fn:=λ_=>false,pn:=[],xe:=λ_ _=>False }
def PTs(X:Cx)(ifs:List Expr)(t:TT):Prop:=
 ∀(pins:List (Addr×Obj)) (s:Shared) (σ:St) (H:Hp) (Q:Bool->Hp->Prop),Inv X pins σ H s->t σ H Q ->
  wpAny (model X.prog X.w) X.A (forIn ifs true λc r=>if r=true then do let ok<-isTrue c X.env (eval c X.env);pure (ForInStep.yield ok) else pure (ForInStep.yield r)) (TP X pins σ Q) X.xe s
theorem yG{X:Cx}:PTs X [] (λ_ H Q=>Q true H):=λpins s σ H Q I h=>wpAny_pure ⟨H,I,h⟩
theorem aDr{X:Cx}{c:Expr}{t:TT}(h:PT X c t):PTs X [c] t:=λpins s σ H Q I hw=>wpAny_tests_one (h pins s σ H Q I hw)
structure cI (X:Cx) (scope:Scope) (k:Nat) (caps:List Nat) (N':List Str):Prop where
 kind:scope.kind=.function
 nocell:∀y∈scope.names,y.2≠.cell
 loc:∀y∈scope.names,y.2=.local->scope.names.lookup y.1=some .local
 free:∀n,(n,NameKind.free)∈scope.names->X.env.kindOf n=some .cell\/X.env.kindOf n=some .free
 len:N'.length=k+caps.length
 cap:∀j i,caps[j]? = some i->∃x,N'[k+j]? = some x/\X.N[i]? = some x/\scope.names.lookup x=some .free/\X.env.kindOf x=some .cell
 ndp:X.N.Nodup
def gI(k:Nat)(caps:List Nat)(σ:St):St:=List.replicate k none++caps.map λi=>(σ[i]?).getD none
def aBy(k:Nat)(caps:List Nat)(wi:TI)(g:TG)(tt:TT)(te:TE):TE:=λσ H Q=>wi σ H λJ H1=>
 ∃W:Nat->Nat->List V->St->Hp->Prop,(∃m,W 0 m [] (gI k caps σ) H1)/\∀i m ys σ1 H,W i m ys σ1 H ->
  (J.stop i H/\ys.length<=sizeLine/\∀p,H p=none->Q (.ref p) (upd H p (.lst ys))) \/
  (J.go i H/\ys.length<sizeLine/\∀x H',J.yld i H x H'->g x σ1 H' λσ2 H2=>tt σ2 H2 λb H3=>
   if b=true then te σ2 H3 λy H4=>∃m',m'<m/\W (i+1) m' (ys++[y]) σ2 H4 else ∃m',m'<m/\W (i+1) m' ys σ2 H3)
theorem HOk.track{P:Program}{w:World}{H:Hp}{h:Heap}{a:Addr}{o:HO}(ok:HOk P w H h)(n:H a=none)(new:eA P w (upd H a o) h a o):HOk P w (upd H a o) h:=λb u e=>by
 by_cases hb:b=a
 . subst hb;rw[aY] at e;cases e;exact new
 . rw[aJ hb] at e
   exact(ok b u e).stay (λ_ _ _ q=>q) (λc q=>by rw[aJ (bK q n)];exact q) λc xs q=>by rw[aJ (bK q n)];exact q
abbrev dH(its:List Value)(n:Nat):Obj:={ cls:=.type "list",data:=.seq its.toArray n }
section
variable {X:Cx} {scope:Scope} {k:Nat} {caps:List Nat} {N':List Str} {pins:List (Addr×Obj)} {σ:St} {H:Hp} {s:Shared} {fp:List Addr}
theorem Inv.cellLt(I:Inv X pins σ H s){x:Str}{c:Addr}(e:X.env.cells.lookup x=some c):c<s.heap.objs.size:=by
 obtain⟨v,q⟩:=I.cell x c e
 exact q.lt
theorem fB:∀{l:List (Str×NameKind)} {x:Str} {k:NameKind},l.lookup x=some k->(x,k)∈l:=λh=>PySem.mem_of_lookup h
theorem relabel_lookup{env:Env}:∀{names:List (Str×NameKind)} {x:Str} {k:NameKind},
 (names.map λ(n,k)=>if (k==NameKind.free&&env.scope.kind==.function&&env.kindOf n==some .cell) then (n,NameKind.cell) else (n,k)).lookup x=some k ->
 (k=.cell/\names.lookup x=some .free/\env.kindOf x=some .cell)\/names.lookup x=some k
 | [],_,_,h=>by simp at h
 | (n,k')::r,x,k,h=>by
  have ih:=@relabel_lookup env r x k
  rw[mC] at h
  by_cases hc:(k'==NameKind.free&&env.scope.kind==.function&&env.kindOf n==some .cell)=true
  . simp only[hc,if_true,List.lookup_cons] at h ⊢
    cases hx:x==n with
    | true=>
     rw[hx] at h
     simp only at h ⊢
     simp only[bA] at hc
     have e1:k'=.free:=eq_of_beq hc.1.1
     have e2:env.kindOf n=some .cell:=eq_of_beq hc.2
     have e3:x=n:=eq_of_beq hx
     subst e3
     cases h
     exact .inl ⟨rfl,by rw[e1],e2⟩
    | false=>rw[hx] at h;exact ih h
  . simp only[Bool.not_eq_true] at hc
    simp only[hc,if_false,List.lookup_cons,bF] at h ⊢
    cases hx:x==n with
    | true=>rw[hx] at h;exact .inr h
    | false=>rw[hx] at h;exact ih h
theorem aKO(CS:cI X scope k caps N')(I:Inv X pins σ H s)(f:∀b∈fp,jU X pins H b)(hf:∀b∈fp,b<s.heap.objs.size) :
 (cU X scope N' (s.heap.objs.size+1) { s with heap:=s.heap.push (dH [] 0) } H (s.heap.objs.size::fp)).Ok:=by
 have hh:∀n,(n,NameKind.free)∈scope.names->∃c,X.env.cells.lookup n=some c:=λn hn=>I.ok.has n (CS.free n hn)
 have ge:∀b o,s.heap.get? b=some o->(s.heap.push (dH [] 0)).get? b=some o:=λb o e=>Heap.get?_push_of_some _ e
 have fsub:∀b∈frs X.stack,∃o,s.heap.get? b=some o:=λb hb=>by
  obtain⟨_,o,ho,_⟩:=I.stack.mem hb
  exact⟨o,ho⟩
 refine⟨I.ok.mod,?_,I.ok.glob,I.ok.blt,?_,λx y c h1 h2=>?_,λx hx=>?_,λx c h _=>?_,I.ok.hd,I.ok.frames,.inl rfl,λb hb=>?_,λb o e=>?_,?_,λb o e hb=>?_,λb hb=>?_,?_,I.stkFree⟩
 . exact CS.kind
 . show(s.heap.push (dH [] 0)).objs.size<=s.heap.objs.size+1
   rw[Heap.size_push]
   exact Nat.le_refl _
 . exact I.ok.inj x y c (cK hh h1) (cK hh h2)
 . have fr:(x,NameKind.free)∈scope.names:=by
    rcases hx with q|q
    . rcases relabel_lookup q with⟨_,z,_⟩|z
      . exact fB z
      . exact absurd rfl (CS.nocell _ (fB z))
    . rcases relabel_lookup q with⟨z,_⟩|z
      . cases z
      . exact fB z
   obtain⟨c,e⟩:=eI (kA (cells:=X.env.cells) (acc:=[]) fr)
   exact⟨c,e⟩
 . cases(show false=true from h)
 . refine⟨?_,λx c e=>?_⟩
   . show b≠s.heap.objs.size+1
     rcases List.mem_cons.mp hb with z|z
     . rw[z];exact Nat.ne_of_lt (Nat.lt_succ_self _)
     . exact Nat.ne_of_lt (Nat.lt_succ_of_lt (hf b z))
   . have e':=cK hh e
     rcases List.mem_cons.mp hb with z|z
     . rw[z];exact Nat.ne_of_lt (I.cellLt e')
     . exact(f b z).2.2.2.2.1 x c e'
 . exact⟨ge b o (I.bs b o e).1,(I.bs b o e).2⟩
 . show X.base.objs.size<=(s.heap.push (dH [] 0)).objs.size
   rw[Heap.size_push]
   exact Nat.le_succ_of_le (Nat.le_trans I.ok.bsz I.sz)
 . have lt:=Heap.lt_size e
   rcases List.mem_cons.mp hb with z|z
   . subst z
     exact absurd (Nat.lt_of_lt_of_le lt (Nat.le_trans I.ok.bsz I.sz)) (Nat.lt_irrefl _)
   . rcases(f b z).2.2.2.1 with q|q
     . exact I.ok.noex b o e q
     . exact absurd (Nat.lt_of_lt_of_le lt (Nat.le_trans I.ok.bsz q)) (Nat.lt_irrefl _)
 . show b∉frs X.stack
   intro hs
   rcases List.mem_cons.mp hb with z|z
   . subst z
     obtain⟨o,e⟩:=fsub _ hs
     exact absurd (Heap.lt_size e) (Nat.lt_irrefl _)
   . rcases List.mem_cons.mp (I.stkSub b hs) with q|q
     . exact(f b z).2.1 q
     . exact(f b z).2.2.1 q
 . exact I.stack.of_keeps λb o e _=>⟨o,ge b o e,rfl⟩
theorem aBz(CS:cI X scope k caps N'){j:Nat}{v:V}(h:(gI k caps σ)[j]? = some (some v)):∃j' i,j=k+j'/\caps[j']? = some i/\σ[i]? = some (some v):=by
 unfold gI at h
 by_cases hj:j<k
 . rw[List.getElem?_append_left (by simpa using hj),List.getElem?_replicate] at h
   split at h <;> cases h
 . rw[List.getElem?_append_right (by simpa using hj),List.length_replicate,List.getElem?_map] at h
   cases e:caps[j-k]? with
   | none=>rw[e] at h;cases h
   | some i=>
    rw[e] at h
    have h':(σ[i]?).getD none=some v:=Option.some.inj h
    refine⟨j-k,i,by omega,e,?_⟩
    cases q:σ[i]? with
    | none=>rw[q] at h';cases h'
    | some z=>rw[q] at h';exact congrArg some h'
theorem aIp(CS:cI X scope k caps N')(I:Inv X pins σ H s)(f:∀b∈fp,jU X pins H b)(hf:∀b∈fp,b<s.heap.objs.size){h₁:Heap}{tk:Nat}
 (hns:h₁.Ns (s.heap.objs.size+1) λ_=>none) (hk:∀b o,(s.heap.push (dH [] 0)).get? b=some o->h₁.get? b=some o) :
 Inv (cU X scope N' (s.heap.objs.size+1) { s with heap:=s.heap.push (dH [] 0) } H (s.heap.objs.size::fp)) [] (gI k caps σ) H { s with heap:=h₁,toks:=tk }:=by
 have hh:∀n,(n,NameKind.free)∈scope.names->∃c,X.env.cells.lookup n=some c:=λn hn=>I.ok.has n (CS.free n hn)
 have ge:∀b o,s.heap.get? b=some o->h₁.get? b=some o:=λb o e=>hk b o (Heap.get?_push_of_some _ e)
 have cellK:∀{c:Addr} {v:Option Value},s.heap.IsCell c v->h₁.IsCell c v:=λ{c v} ⟨o,e,d⟩=>⟨o,ge _ _ e,d⟩
 refine⟨aKO CS I f hf,rfl,I.bare,Un.kept hk,⟨_,hns,λj x v e1 e2 e3=>?_⟩,λx c e=>?_,?_,λx c e=>?_,λp hp=>absurd (show p∈([]:List (Addr×Obj)) from hp) (by simp),I.hok.kept ge,?_⟩
 . obtain⟨j',i,ej,ec,es⟩:=aBz CS e2
   obtain⟨y,h1,h2,h3,h4⟩:=CS.cap j' i ec
   have e1':N'[j]? = some x:=e1
   rw[ej,h1] at e1'
   have ey:y=x:=Option.some.inj e1'
   subst ey
   obtain⟨m,hn,hl⟩:=I.loc
   obtain⟨u,ru,lk⟩:=hl i y v h2 es (.inr (.inl h4))
   rcases lk with⟨k1,_⟩|⟨_,c,ec',hc⟩
   . rw[h4] at k1;cases k1
   . refine⟨u,ru,.inr ⟨?_,c,?_,cellK hc⟩⟩
     . have e3':Vis (relabel scope X.env) y:=e3
       rcases e3' with z|z|z
       . rcases relabel_lookup z with⟨z,_⟩|z
         . cases z
         . rw[h3] at z;cases z
       . exact .inl z
       . exact .inr z
     . obtain⟨c',e⟩:=eI (kA (cells:=X.env.cells) (acc:=[]) (fB h3))
       have e':=cK hh e
       rw[ec'] at e'
       cases e'
       exact e
 . obtain⟨v,q⟩:=I.cell x c (cK hh e)
   exact⟨v,cellK q⟩
 . exact I.hok.fresh (Nat.le_succ _)
 . exact I.freeC x c (cK hh e)
 . show(gI k caps σ).length=N'.length
   unfold gI
   rw[lA,List.length_replicate,lM,CS.len]
theorem tV{tg iter elt:Expr}{ifs:List Expr}{pos:Pos}{g:TG}{tt:TT}{te:TE}{it:Addr}{tn:Nat->Heap->Prop}{J:It}{RR:Value->Addr->Result->Shared->Prop}{E:Value->Shared->Prop}{Q:VK}
 (CS:cI X scope k caps N') (hc:X.calm=true) (I:Inv X pins σ H s) (T:sX X.prog X.w X.K tg J fp it tn) (st:tn 0 s.heap) (f:∀b∈fp,jU X pins H b)
 (hch:∀C s₀ H₀ ex,PG (cU X scope N' C s₀ H₀ ex) tg g/\PTs (cU X scope N' C s₀ H₀ ex) ifs tt/\PE (cU X scope N' C s₀ H₀ ex) elt te)
 (hw:∃W:Nat->Nat->List V->St->Hp->Prop,(∃m,W 0 m [] (gI k caps σ) H)/\∀i m ys σ1 H,W i m ys σ1 H ->
  (J.stop i H/\ys.length<=sizeLine/\∀p,H p=none->Q (.ref p) (upd H p (.lst ys))) \/
  (J.go i H/\ys.length<sizeLine/\∀x H',J.yld i H x H'->g x σ1 H' λσ2 H2=>tt σ2 H2 λb H3=>
   if b=true then te σ2 H3 λy H4=>∃m',m'<m/\W (i+1) m' (ys++[y]) σ2 H4 else ∃m',m'<m/\W (i+1) m' ys σ2 H3))
 (hR:∀D C s' H' m,Inv X pins σ H' s'->s'.heap.Ns C m->s.heap.objs.size<C->(∀(σ':St) (s'':Shared) (h':Heap),Inv X pins σ' H' s''->Heap.SameBut C s''.heap h'->Inv X pins σ' H' { s'' with heap:=h' })->Q (.ref D) H'->RR (.ref D) C (.ok .next) s') :
 wpAny (model X.prog X.w) X.A (newList []) (λacc s₃=>wpAny (model X.prog X.w) X.A (newFunctionEnv scope X.env.globals (jD X.env.cells scope.names []) [] X.env.qual none .none (some X.env)) (λcenv s₄=>
  codeAny (model X.prog X.w) X.A (.compStart (.ListComp elt [⟨tg,iter,ifs,0⟩] scope pos) 0 (.ref it) acc { cenv with scope:=relabel scope X.env }) (RR acc cenv.locals) s₄) E s₃) E s:=by
 obtain⟨W,⟨m0,w0⟩,turn⟩:=hw
 have hf:∀b∈fp,b<s.heap.objs.size:=λb hb=>by
  obtain⟨o,e,_⟩:=T.obj 0 _ st b hb
  exact Heap.lt_size e
 refine wpAny_newObj_type (wpAny_newFunctionEnv CS.nocell (by intro y hy;simp at hy) (λh₁ hns₁ hsb₁=>?_) CS.kind)
 have hsz:(s.heap.push (dH [] 0)).objs.size=s.heap.objs.size+1:=Heap.size_push _ _
 have hns:h₁.Ns (s.heap.objs.size+1) λ_=>none:=by
  have:=hns₁
  rw[show({ s with heap:=s.heap.push (dH [] 0) }:Shared).heap.objs.size=s.heap.objs.size+1 from hsz] at this
  exact this
 have hk:∀b o,(s.heap.push (dH [] 0)).get? b=some o->h₁.get? b=some o:=λb o e=>
  hsb₁.extBut b o (Nat.ne_of_lt (by have:=Heap.lt_size e;rw[hsz] at this;show b<(s.heap.push (dH [] 0)).objs.size;rw[hsz];exact this)) (Heap.get?_push_of_some _ e)
 have I0:=aIp (N':=N') CS I f hf (tk:=s.toks+([]:List (Str×Value)).length) hns hk
 have noC:∀{b:Addr},b<s.heap.objs.size->b≠s.heap.objs.size+1:=λ{b} hb=>Nat.ne_of_lt (Nat.lt_succ_of_lt hb)
 have hDn:H s.heap.objs.size=none:=I.fresh
 have hh:∀n,(n,NameKind.free)∈scope.names->∃c,X.env.cells.lookup n=some c:=λn hn=>I.ok.has n (CS.free n hn)
 have hD1:h₁.get? s.heap.objs.size=some (dH [] 0):=hk _ _ (Heap.get?_push_size _ rfl)
 have stFs:∀b∈frs X.stack,b<s.heap.objs.size:=λb hb=>by
  obtain⟨_,o,ho,_⟩:=I.stack.mem hb
  exact Heap.lt_size ho
 have fpc:∀(pl:List (Addr×Obj)),(∀p∈pl,p.1=s.heap.objs.size)->∀{H':Hp},(∀b∈fp,H' b=none)->∀b∈fp,jU (cU X scope N' (s.heap.objs.size+1) { s with heap:=s.heap.push (dH [] 0) } H (s.heap.objs.size::fp)) pl H' b:=by
  intro pl hpl H' hn b hb
  refine⟨hn b hb,noC (hf b hb),λz=>?_,.inl (List.mem_cons_of_mem _ hb),λx c e=>(f b hb).2.2.2.2.1 x c (cK hh e),λp hp z=>?_⟩
  . rcases List.mem_cons.mp (I.stkSub b z) with q|q
    . exact(f b hb).2.1 q
    . exact(f b hb).2.2.1 q
  . have hp':p∈pl:=by simpa[cU] using hp
    rw[hpl p hp'] at z
    exact absurd (hf b hb) (by rw[<-z];exact Nat.lt_irrefl _)
 have pinD:∀{σ':St} {H':Hp} {s':Shared} {its:List Value} {n:Nat} {pl:List (Addr×Obj)},Inv (cU X scope N' (s.heap.objs.size+1) { s with heap:=s.heap.push (dH [] 0) } H (s.heap.objs.size::fp)) pl σ' H' s' ->
  s'.heap.get? s.heap.objs.size=some (dH its n)->H' s.heap.objs.size=none->Inv (cU X scope N' (s.heap.objs.size+1) { s with heap:=s.heap.push (dH [] 0) } H (s.heap.objs.size::fp)) [(s.heap.objs.size,dH its n)] σ' H' s':=by
  intro σ' H' s' its n pl J e nn
  refine J.pins_of λp hp=>?_
  have:p=(s.heap.objs.size,dH its n):=by simpa using hp
  subst this
  refine⟨e,nn,Nat.ne_of_lt (Nat.lt_succ_self _),λz=>absurd (stFs _ z) (Nat.lt_irrefl _),λv z=>by cases z⟩
 have start:codeAny (model X.prog X.w) X.A (.compLoop (.ListComp elt [⟨tg,iter,ifs,0⟩] scope pos) 0 (.ref it) (.ref s.heap.objs.size) (compEnvC scope (jD X.env.cells scope.names []) (s.heap.objs.size+1) X.env))
  (RR (.ref s.heap.objs.size) (s.heap.objs.size+1)) { s with heap:=h₁,toks:=s.toks+([]:List (Str×Value)).length }:=by
  refine iC (λn s'=>∃i ys its cnt σ1 H',Inv (cU X scope N' (s.heap.objs.size+1) { s with heap:=s.heap.push (dH [] 0) } H (s.heap.objs.size::fp)) [(s.heap.objs.size,dH its cnt)] σ1 H' s' /\
   tn i s'.heap/\(∀b∈fp,H' b=none)/\aU ys its/\W i n ys σ1 H') ?_ m0 ⟨0,[],[],0,_,H,pinD I0 hD1 hDn,T.keep _ _ _ st λb _ o e=>hk b o (Heap.get?_push_of_some _ e),λb hb=>(f b hb).1,.nil,w0⟩
  rintro n s3 ⟨i,ys,its,cnt,σ1,H3,I3,st3,fr3,rv3,w3⟩
  obtain⟨hD3,nD3,_⟩:=I3.pin (s.heap.objs.size,dH its cnt) (by simp[cU])
  have pl1:∀p∈[(s.heap.objs.size,dH its cnt)],p.1=s.heap.objs.size:=λp hp=>by
   have:p=(s.heap.objs.size,dH its cnt):=by simpa using hp
   rw[this]
  rcases turn i n ys σ1 H3 w3 with⟨stop,hz,qn⟩|⟨go,hz,step⟩
  . refine thn (T.done (cU X scope N' (s.heap.objs.size+1) { s with heap:=s.heap.push (dH [] 0) } H (s.heap.objs.size::fp)) rfl rfl rfl hc i _ s3 _ H3 _ I3 (fpc _ pl1 fr3) st3 stop) λr s4 ⟨hr,I4⟩=>?_
    subst hr
    obtain⟨hD4,nD4,_⟩:=I4.pin (s.heap.objs.size,dH its cnt) (by simp[cU])
    have u4:=I4.base
    have nb:∀{b:Addr} {o:Obj},s.heap.get? b=some o->b∉fp->b∉s.heap.objs.size::fp:=λ{b o} e hb z=>by
     rcases List.mem_cons.mp z with z|z
     . exact absurd (Heap.lt_size e) (by rw[z];exact Nat.lt_irrefl _)
     . exact hb z
    have neD:∀{b:Addr} {o:Obj},s.heap.get? b=some o->b≠s.heap.objs.size:=λ{b o} e=>Nat.ne_of_lt (Heap.lt_size e)
    have trD:∀{b:Addr} {o:HO},H b=some o->b≠s.heap.objs.size:=λ{b o} e=>bK e hDn
    have u:Un (frs X.stack) fp H (upd H3 s.heap.objs.size (.lst ys)) s.heap s4.heap:={
     keep:=λb o e nn hb hx=>u4.keep b o (Heap.get?_push_of_some _ e) nn hb (nb e hx)
     slot:=λb o e nn hb hx=>u4.slot b o (Heap.get?_push_of_some _ e) nn hb (nb e hx)
     free:=λb o e nn hx=>by rw[aJ (neD e)];exact u4.free b o (Heap.get?_push_of_some _ e) nn (nb e hx)
     there:=λb o e hx=>u4.there b o (Heap.get?_push_of_some _ e) (nb e hx)
     tups:=λb xs e=>by rw[aJ (trD e)];exact u4.tups b xs e
     frzs:=λb o u e=>by rw[aJ (trD e)];exact u4.frzs b o u e
     tbls:=λb ps e=>by rw[aJ (trD e)];exact u4.tbls b ps e }
    have hl:=rv3.length
    have hok:HOk X.prog X.w (upd H3 s.heap.objs.size (.lst ys)) s4.heap:=HOk.track I4.hok nD4 ⟨hz,its,cnt,rv3,hD4⟩
    have I5:Inv X pins σ (upd H3 s.heap.objs.size (.lst ys)) s4:=I.call' I4.os u hok I4.bare λb hb=>⟨(f b hb).2.2.2.1,(f b hb).2.1,(f b hb).2.2.2.2.1,(f b hb).2.2.2.2.2⟩
    obtain⟨m4,hn4,_⟩:=I4.loc
    refine hR s.heap.objs.size (s.heap.objs.size+1) s4 _ m4 I5 hn4 (Nat.lt_succ_self _) (λσ' s'' h' I6 hs'=>?_) (qn _ nD4)
    have:=I6.turned (t':=s''.toks) (h':=h') (it:=s.heap.objs.size+1) (λb o hb e=>hs'.extBut b o hb e) (by rw[aJ (Nat.ne_of_gt (Nat.lt_succ_self _))];exact I4.free)
     (Nat.ne_of_gt (Nat.lt_succ_of_lt I.lt)) (.inr (Nat.le_succ_of_le I.sz)) (λx c e=>Nat.ne_of_lt (Nat.lt_succ_of_lt (I.cellLt e))) λp hp z=>?_
    . exact this
    . have:=Heap.lt_size (I.pin p hp).1
      rw[z] at this
      exact absurd this (Nat.not_lt.mpr (Nat.le_succ _))
  . refine thn (T.item (cU X scope N' (s.heap.objs.size+1) { s with heap:=s.heap.push (dH [] 0) } H (s.heap.objs.size::fp)) rfl rfl rfl hc i _ s3 _ H3 _ I3 (fpc _ pl1 fr3) st3 go) λr s4 ⟨u,hr,h4⟩=>?_
    subst hr
    refine thn h4 λ_ s5 ⟨x,H5,I5,r5,y5,st5,fr5⟩=>?_
    obtain⟨hg,ht,he⟩:=hch (s.heap.objs.size+1) { s with heap:=s.heap.push (dH [] 0) } H (s.heap.objs.size::fp)
    have I5':=I5.pinned (fpc _ pl1 fr5) (T.obj _ _ st5)
    have keep:∀{σ7:St} {H7:Hp} {s7:Shared},Inv (cU X scope N' (s.heap.objs.size+1) { s with heap:=s.heap.push (dH [] 0) } H (s.heap.objs.size::fp)) ([(s.heap.objs.size,dH its cnt)]++nP fp s5.heap) σ7 H7 s7 ->
     tn (i+1) s7.heap/\(∀b∈fp,H7 b=none)/\s7.heap.get? s.heap.objs.size=some (dH its cnt)/\H7 s.heap.objs.size=none:=by
     intro σ7 H7 s7 I7
     obtain⟨hD7,nD7,_⟩:=I7.pin (s.heap.objs.size,dH its cnt) (by simp[cU])
     refine⟨T.keep _ _ _ st5 λb hb o e=>(I7.pin (b,o) (List.mem_append_right _ (List.mem_append_right _ (gC hb e)))).1,λb hb=>?_,hD7,nD7⟩
     obtain⟨o,e,d⟩:=T.obj _ _ st5 b hb
     exact(I7.pin (b,o) (List.mem_append_right _ (List.mem_append_right _ (gC hb e)))).2.1
    refine thn (hg _ s5 _ H5 x u _ I5' r5 (step x H5 y5)) λ_ s6 ⟨σ6,H6,I6,q6⟩=>?_
    refine thn (ht _ s6 σ6 H6 _ I6 q6) λb s7 ⟨H7,I7,q7⟩=>?_
    cases b with
    | false=>
     rw[if_neg bN] at q7 ⊢
     obtain⟨m',hm,w7⟩:=q7
     obtain⟨t7,f7,d7,n7⟩:=keep I7
     exact⟨m',hm,i+1,ys,its,cnt,σ6,H7,pinD I7 d7 n7,t7,f7,rv3,w7⟩
    | true=>
     rw[if_pos rfl] at q7 ⊢
     refine thn (he _ s7 σ6 H7 _ I7 q7) λyv s8 ⟨y,H8,I8,r8,q8⟩=>?_
     obtain⟨m',hm,w8⟩:=q8
     obtain⟨t8,f8,d8,n8⟩:=keep I8
     have hl:=rv3.length
     have hzv:its.toArray.size<=sizeLine:=by rw[List.size_toArray];omega
     refine call_meets F.slot_list_append ⟨_,d8,rfl⟩ F.entry_list_append (F.args_list_append_2 _ _) (PySem.list_append s.heap.objs.size its.toArray cnt yv hzv) ⟨d8,?_⟩
     have q:=PySem.IsL.update d8 (λa=>a.push yv)
     have e':its.toArray.push yv=(its++[yv]).toArray:=by simp
     rw[e'] at q
     have I9:=(I8.unpinned (pins:=[(s.heap.objs.size,dH its cnt)])).pins_of (pins':=[]) (λp hp=>absurd hp (by simp))
     have I10:=I9.turned (t':=s8.toks) (it:=s.heap.objs.size) (h':=s8.heap.update s.heap.objs.size (Obj.mapSeq λa=>a.push yv)) (λb o hb e=>(Heap.get?_update_other s8.heap _ (Ne.symm hb)).trans e) n8
      (Nat.ne_of_lt (Nat.lt_succ_self _)) (.inl List.mem_cons_self) (λx c e=>Nat.ne_of_lt (I.cellLt (cK hh e))) (λp hp=>absurd (show p∈([]:List (Addr×Obj)) from by simpa[cU] using hp) (by simp))
     refine⟨m',hm,i+1,ys++[y],its++[yv],_,σ6,H8,pinD I10 q n8,?_,f8,rv3.append (.cons r8 .nil),w8⟩
     refine T.keep _ _ _ t8 λb hb o e=>(Heap.get?_update_other s8.heap _ ?_).trans e
     intro z
     exact absurd (hf b hb) (by rw[<-z];exact Nat.lt_irrefl _)
 have startC:∀C,C=s.heap.objs.size+1->codeAny (model X.prog X.w) X.A (.compLoop (.ListComp elt [⟨tg,iter,ifs,0⟩] scope pos) 0 (.ref it) (.ref s.heap.objs.size) (compEnvC scope (jD X.env.cells scope.names []) C X.env))
  (RR (.ref s.heap.objs.size) C) { s with heap:=h₁,toks:=s.toks+([]:List (Str×Value)).length }:=by
  rintro C rfl
  exact start
 exact codeAny_compStart_list (startC _ hsz) (T.self X.A 0 _ _ _ (T.keep _ _ _ st λb _ o e=>hk b o (Heap.get?_push_of_some _ e)) (startC _ hsz))
end
section
variable {X:Cx} {scope:Scope} {k:Nat} {caps:List Nat} {N':List Str} {tg iter elt:Expr} {ifs:List Expr} {pos:Pos} {wi:TI} {g:TG} {tt:TT} {te:TE}
theorem rO(CS:cI X scope k caps N')(hc:X.calm=true)(hi:PI X tg iter wi)
 (hch:∀C s₀ H₀ ex,PG (cU X scope N' C s₀ H₀ ex) tg g/\PTs (cU X scope N' C s₀ H₀ ex) ifs tt/\PE (cU X scope N' C s₀ H₀ ex) elt te) (hs:∀x,foldedSetIterable iter X.env x=pure x) :
 PE X (.ListComp elt [⟨tg,iter,ifs,0⟩] scope pos) (aBy k caps wi g tt te):=by
 intro pins s σ H Q I h
 rw[eval_ListComp]
 refine wpAny_comprehension_free (use:=none) rfl hs (gR λn hn=>I.ok.has n (CS.free n hn)) CS.kind CS.loc (thn (hi pins s σ H _ I h) λxv s1 h1=>thn h1 λitv s2 h2=>?_)
 obtain⟨it,fp,tn,J,H2,e,I2,T,st2,f2,hw⟩:=h2
 subst e
 exact tV (RR:=λacc C=>compPost (model X.prog X.w) X.A X.xe none (EP X pins σ Q) acc C) (Q:=Q) CS hc I2 T st2 f2 hch hw λD C s' H' m J hn _ hall q=>⟨m,hn,λh' hs'=>⟨.ref D,H',hall σ s' h' J hs',rfl,q⟩⟩
theorem nX{i:Nat}{x:Str}{pos' spos:Pos}(CS:cI X scope k caps N')(hc:X.calm=true)(hi:PI X tg iter wi)
 (hch:∀C s₀ H₀ ex,PG (cU X scope N' C s₀ H₀ ex) tg g/\PTs (cU X scope N' C s₀ H₀ ex) ifs tt/\PE (cU X scope N' C s₀ H₀ ex) elt te) (hs:∀x,foldedSetIterable iter X.env x=pure x)
 (hN:X.N.Nodup) (hx':X.N[i]? = some x) (hx:Loc X.env.scope x) (hf:X.fn x=true\/X.env.scope.names.lookup x=some .local) :
 PS X (.Assign [.Name x pos'] (.ListComp elt [⟨tg,iter,ifs,0⟩] scope pos) spos) (aFi (aBy k caps wi g tt te) (pM i)):=by
 have hb:∃b,swapsWith (.ListComp elt [⟨tg,iter,ifs,0⟩] scope pos) (some (.Name x pos')) spos.line X.env=pure b:=⟨_,rfl⟩
 obtain⟨b,hb⟩:=hb
 cases b with
 | false=>exact qW hN hx' hx (rO CS hc hi hch hs) hb hf
 | true=>
  intro pins s σ H D I h
  rw[exec_Assign_Name_used x pos' _ spos hb]
  refine wpAny_bind (wpAny_standAt (wpAny_bind ?_))
  show wpAny _ _ (comprehension (.ListComp elt [⟨tg,iter,ifs,0⟩] scope pos) scope X.env (firstIterPos [⟨tg,iter,ifs,0⟩] pos) (newList []) (firstAsync [⟨tg,iter,ifs,0⟩]) (firstIter [⟨tg,iter,ifs,0⟩] X.env) (some (assign (.Name x pos') X.env)) >>= λ_=>pure ()) _ _ s
  refine wpAny_bind (wpAny_comprehension_free (use:=some (assign (.Name x pos') X.env)) rfl hs (gR λn hn=>I.ok.has n (CS.free n hn)) CS.kind CS.loc (thn (hi pins s σ H _ I h) λxv s1 h1=>thn h1 λitv s2 h2=>?_))
  obtain⟨it,fp,tn,J,H2,e,I2,T,st2,f2,hw⟩:=h2
  subst e
  refine tV (Q:=λv H'=>D.nx (σ.set i (some v)) H') (RR:=λacc C=>compPost (model X.prog X.w) X.A X.xe (some (assign (.Name x pos') X.env)) (λ_ s'=>wpAny (model X.prog X.w) X.A (pure ()) (λ_ s'=>wpAny (model X.prog X.w) X.A (pure Flow.next) (SP X pins D) X.xe s') X.xe s') acc C) CS hc I2 T st2 f2 hch hw λD' C s' H' m J hn lt hall q=>?_
  show wpAny _ _ (assign (.Name x pos') X.env (.ref D')) _ _ s'
  refine wpAny_assign_Name (pL (v:=V.ref D') J hN hx' hx rfl (λs'' J' hsb=>?_) hf)
  obtain⟨a,sb,ha⟩:=hsb
  refine⟨m,hn.sameBut sb ?_,λh' hs'=>?_⟩
  . rcases ha with z|z
    . rw[z];exact Nat.ne_of_gt (Nat.lt_trans I2.lt lt)
    . exact Nat.ne_of_gt (Nat.lt_trans (I2.cellLt z) lt)
  . exact wpAny_pure (wpAny_pure ⟨_,H',hall _ s'' h' J' hs',q⟩)
end
end L2
end
noncomputable section
namespace Hp
open PySem PySem.Spec PyProof.Rows L2
def Rr(K:Fg)(H H':Hp)(Y:Addr->Prop)(r:Rt)(u:V):Prop:=
 if r.2.1=true then ∃a xs ds,u=.ref a/\r.1=.lst ds/\H a=none/\H' a=some (.lst xs)/\Reps K H' (λb=>b=a\/Y b\/(r.2.2=false/\H b≠none)) ds xs
 else Rep K H' (λb=>Y b\/(r.2.2=false/\H b≠none)) r.1 u
def spF(K:Fg)(P:Pg)(n:Nat)(f:Nat):Sp:=λvs H Q _=>∃(ds:List D) (Y:Addr->Prop),(∀a,Y a->H a≠none)/\Reps K H Y ds vs/\RE (call P n f ds) λr=>∀u H',Tk K H'->aL H H'->Rr K H H' Y r u->Q u H'
def spL(K:Fg)(P:Pg)(n:Nat)(f:Nat):Sp:=λvs H Q _=>mI P f=true/\∃(cs ds:List D) (p:Addr) (xs us:List V) (Y:Addr->Prop),vs=.ref p::us/\(∀a,Y a->H a≠none)/\H p=some (.lst xs) /\
 Reps K H (λb=>b=p\/Y b) cs xs/\Reps K H (λb=>b=p\/Y b) ds us/\RE (call P n f (.err 0 cs::ds)) λr=>∃d cs',aBp r.1=some (d,cs')/\∀(u:V) (H':Hp) (R2:Addr->Prop) (xs':List V),Tk K H'->Kp (λb=>b=p) H H'->R2 p->(∀b,R2 b->b=p\/H b=none)->H' p=some (.lst xs') ->
  Reps K H' (λb=>R2 b\/Y b) cs' xs'->(if r.2.1=true then ∃a ys es,u=.ref a/\d=.lst es/\H a=none/\R2 a/\H' a=some (.lst ys)/\Reps K H' (λb=>R2 b\/Y b\/(r.2.2=false/\H b≠none)) es ys
   else Rep K H' (λb=>R2 b\/Y b\/(r.2.2=false/\H b≠none)) d u)->Q u H'
def spA(K:Fg)(P:Pg)(n:Nat)(f:Nat):Sp:=λvs H Q E=>spF K P n f vs H Q E\/spL K P n f vs H Q E
def bltNames:List Str:=["len", "list", "tuple", "min", "max", "abs", "int", "str", "sum", "all", "any", "sorted", "bool", "range", "zip", "enumerate", "reversed", "set", "isinstance", "dict", "repr"]
structure Md (X:Cx) (P:Pg) (Γ:Ct) (n:Nat):Prop where
 fn:∀(f:Nat) (x:Str),Γ.fns[f]? = some x->∃fa fd ps,X.mg x=some (.ref fa)/\PySem.W.keepIn X.K (.ref fa)=true/\jE X.K fd ps []/\mW X.prog X.w X.K X.mg X.base CX0 n fa fd ps (spA X.K P n f)
 blt:∀x∈bltNames,X.mg x=none
 cns:∀(x:Str) (d:D),Γ.cns.lookup x=some d->∃u v,X.mg x=some u/\bP v u/\∀H ex,Rep X.K H ex d v
 tab:∀(i:Nat) (x:Str),Γ.tbs[i]? = some x->∃a t,X.mg x=some (.ref a)/\P.tabs[i]? = some t/\pY X.prog X.w X.K a t
structure Mc (X:Cx) (P:Pg) (Γ:Ct) (n:Nat):Prop where
 md:Md X P Γ n
 N:X.N=Γ.N
 nd:X.N.Nodup
 sc:X.env.scope.names=Γ.sc
 calm:X.calm=true
 room:jH n X.A
 xe:X.xe=λ_ _=>False
 st:∀x:Str,tL Γ x=true->X.fn x=true\/X.env.scope.names.lookup x=some .local
 fk:X.env.scope.kind=.function
section
variable {X:Cx} {P:Pg} {Γ:Ct} {n:Nat}
theorem Mc.units(M:Mc X P Γ n):X.A.units+200<cLine:=by have:=M.room.un;omega
theorem Mc.vis(M:Mc X P Γ n){x:Str}(h:aBq Γ x=true):Vis X.env.scope x:=by
 unfold aBq at h
 unfold Vis
 rw[M.sc]
 cases q:Γ.sc.lookup x with
 | none=>rw[q] at h;cases h
 | some k=>rw[q] at h;cases k <;> first|exact .inl rfl|exact .inr (.inl rfl)|exact .inr (.inr rfl)|cases h
theorem Mc.loc(M:Mc X P Γ n){x:Str}(h:tL Γ x=true):L2.Loc X.env.scope x:=by
 unfold tL at h
 unfold L2.Loc
 rw[M.sc]
 cases q:Γ.sc.lookup x with
 | none=>rw[q] at h;cases h
 | some k=>rw[q] at h;cases k <;> first|exact .inl rfl|exact .inr rfl|cases h
theorem Mc.gl(M:Mc X P Γ n){x:Str}(h:cM Γ x=true):Gl X x:=by
 unfold cM at h
 unfold Gl
 show X.env.scope.names.lookup x=_
 rw[M.sc]
 cases q:Γ.sc.lookup x with
 | none=>rw[q] at h;cases h
 | some k=>rw[q] at h;cases k <;> first|rfl|cases h
theorem aM{x:Str}(h:bW x=true):(x==("__debug__" : Str))=false:=by
 unfold bW at h
 simp only[bA,Bool.not_eq_true'] at h
 exact h.1
theorem eP{x:Str}(h:bW x=true):(x==("__classdict__" : Str))=false:=by
 unfold bW at h
 simp only[bA,Bool.not_eq_true'] at h
 exact h.2
theorem aFD:∀{d d':D},eqK d d'=true->d=d':=by
 intro d d' h
 cases d <;> cases d' <;> simp[eqK] at h <;> first|rfl|(subst h;rfl)
def aO:Expr->Bool
 | .Starred _ _=>false
 | .Slice _ _ _ _=>false
 | .Set _ _ _=>false
 | _=>true
theorem tW{α:Type}{o:Option α}{f:α->Bool}(h:oB o f=true):∃a,o=some a/\f a=true:=by
 cases o with
 | none=>cases h
 | some a=>exact⟨a,rfl,h⟩
theorem aD{α:Type}{q:α->Prop}{o:Option { a:α // q a }}{f:α->Bool}(h:oS o f=true):∃a,q a/\f a=true:=by
 cases o with
 | none=>cases h
 | some a=>exact⟨a.1,a.2,h⟩
theorem aK{c:E}{e:Expr}(h:aP Γ c e=true):aO e=true:=by
 cases c with
 | c d=>
  rcases(Bool.or_eq_true _ _).mp (show(oS (asC e) (eqC d)||oS (asN e) λx=>cM Γ x&&bW x&&oB (Γ.cns.lookup x) (eqK d))=true from h) with h|h
  . obtain⟨_,⟨_,_,rfl⟩,_⟩:=aD h;rfl
  . obtain⟨_,⟨_,rfl⟩,_⟩:=aD h;rfl
 | v i=>obtain⟨_,⟨_,rfl⟩,_⟩:=aD h;rfl
 | op o a b=>obtain⟨_,⟨_,rfl⟩,_⟩:=aD h;rfl
 | neg _=>cases h
 | nt a=>obtain⟨_,⟨_,rfl⟩,_⟩:=aD h;rfl
 | an a b=>obtain⟨_,rfl,_⟩:=aD h;rfl
 | orr a b=>obtain⟨_,rfl,_⟩:=aD h;rfl
 | ife t a b=>obtain⟨_,⟨_,rfl⟩,_⟩:=aD h;rfl
 | cmp o a b=>obtain⟨_,⟨_,rfl⟩,_⟩:=aD h;rfl
 | cmp2 o1 o2 a b c=>obtain⟨_,⟨_,rfl⟩,_⟩:=aD h;rfl
 | idx a b=>obtain⟨_,⟨_,rfl⟩,_⟩:=aD h;rfl
 | sli a lo hi=>obtain⟨_,⟨_,rfl⟩,_⟩:=aD h;rfl
 | tup es=>obtain⟨_,⟨_,_,rfl⟩,_⟩:=aD h;rfl
 | lst es=>obtain⟨_,⟨_,rfl⟩,_⟩:=aD h;rfl
 | call f es=>obtain⟨_,⟨_,_,rfl⟩,_⟩:=aD h;rfl
 | bi b es=>obtain⟨_,⟨_,_,rfl⟩,_⟩:=aD h;rfl
 | mth _ _ _=>cases h
 | isi a cs=>obtain⟨_,⟨_,_,rfl⟩,_⟩:=aD h;rfl
 | comp k caps t it cond elt=>obtain⟨_,⟨_,rfl⟩,_⟩:=aD h;rfl
 | numset _=>cases h
 | tget i a=>obtain⟨_,⟨_,_,rfl,_⟩,_⟩:=aD h;rfl
 | lzip _ _=>cases h
 | lix i k=>obtain⟨_,⟨_,rfl⟩,_⟩:=aD h;rfl
 | stp a k=>obtain⟨_,⟨_,rfl⟩,_⟩:=aD h;rfl
 | dic ks vs=>cases h
 | attr _ _=>cases h
 | callO f a i=>obtain⟨_,⟨_,_,rfl⟩,_⟩:=aD h;rfl
 | neO i a=>obtain⟨_,⟨_,rfl⟩,_⟩:=aD h;rfl
theorem aC{e:Expr}{es:List Expr}{env:Env}(h:aO e=true):starEach (e::es) env=(false,eval e env)::starEach es env:=by
 cases e <;> first|rfl|cases h
theorem iD:∀{cs:Es} {es:List Expr},chkEs Γ cs es=true->es.all aO=true
 | .nil,[],_=>rfl
 | .nil,_::_,h=>by cases h
 | .cons _ _,[],h=>by cases h
 | .cons c cs,e::es,h=>by
  simp only[chkEs,bA] at h
  rw[List.all_cons,aK h.1,iD h.2]
  rfl
theorem cN{pos:Pos}{env:Env}:∀{es:List Expr},es.all aO=true->(backTo pos (starEach es env)).any (·.1)=false
 | [],_=>rfl
 | e::es,h=>by
  rw[List.all_cons,bA] at h
  rw[aC h.1]
  show(false||(backTo pos (starEach es env)).any (·.1))=false
  rw[cN h.2]
  rfl
theorem gJ{e:Expr}(h:aO e=true):xY e:=by
 intro o i
 cases e <;> first|rfl|cases h
theorem eQ{e:Expr}{env:Env}(h:aO e=true):∀x,foldedSetIterable e env x=pure x:=by
 intro x
 cases e <;> first|rfl|cases h
theorem fQ{op:CmpOp}{e:Expr}(h:aO e=true):behindInMarks op e=false:=by
 cases e <;> first|rfl|cases h
variable {RT Y old:Addr->Prop} {σ:Sg} {pos:Pos}
abbrev WE(X:Cx)(P:Pg)(n:Nat)(RT Y old:Addr->Prop)(σ:Sg)(c:E):TE:=wE X P (call P n) RT Y old σ c
abbrev WT(X:Cx)(P:Pg)(n:Nat)(RT Y old:Addr->Prop)(σ:Sg)(c:E):TT:=wT X P (call P n) RT Y old σ c
abbrev WA(X:Cx)(P:Pg)(n:Nat)(RT Y old:Addr->Prop)(σ:Sg)(c:Es):TA:=wA X P (call P n) RT Y old σ c
theorem RE.bind'{α β:Type}{x:R α}{f:α->R β}{p:β->Prop}(h:RE (x >>= f) p):RE x λa=>RE (f a) p:=by rwa [RE.bind] at h
theorem wE.one{a:E}{σV:L2.St}{H:Hp}{p:Vl->Prop}{Q:V->Hp->Prop}(S:Sx X.K RT Y old σ σV H)(h:RE (ev P (call P n) σ a) p)
 (f:∀x u H',p x->Tk X.K H'->Sx X.K RT Y old σ σV H'->Ro X.K RT Y old σ σV H H' x u->Q u H'):WE X P n RT Y old σ a σV H Q:=
 ⟨S,h.mono λx hx u H' t r=>f x u H' hx t (S.grow r.1 t) r⟩
theorem aKP{o:Operator}{a b:E}{ea eb:Expr}(ha:PE X ea (WE X P n RT Y old σ a))(hb:PE X eb (WE X P n RT Y old σ b)):PE X (.BinOp ea o eb pos) (WE X P n RT Y old σ (.op o a b)):=by
 intro pins s σV H Q I hw
 obtain⟨S,h⟩:=hw
 have h:=RE.bind' (show RE (ev P (call P n) σ a >>= λx=>ev P (call P n) σ b >>= λy=>opD o x y) _ from h)
 refine wpAny_BinOp (thn (ha pins s σV H (λux H1=>WE X P n RT Y old σ b σV H1 λuy H2=>∃x y,Sx X.K RT Y old σ σV H2/\aL H H2/\Rv X.K RT Y old σ σV H2 x ux/\Rv X.K RT Y old σ σV H2 y uy/\(x.fr=true->∃a xs,ux=.ref a/\H2 a=some (.lst xs))/\RE (opD o x y) (Wn X RT Y old σ σV H Q)) I
  (wE.one S h λx u H1 hx t1 S1 r1=>wE.one S1 (RE.bind' hx) λy u' H2 hy t2 S2 r2=>⟨x,y,S2,r1.1.trans r2.1,(r1.rv S).grow r2.1,r2.rv S1,λhf=>?_,hy⟩)) λv s1 ⟨x',H1,I1,rx,q1⟩=>thn (hb pins s1 σV H1 _ I1 q1) λu s2 ⟨y',H2,I2,ry,q2⟩=>?_)
 . have:=r1.2
   rw[if_pos hf] at this
   obtain⟨a',xs,ds,e1,_,_,e4,_⟩:=this
   exact⟨a',xs,e1,r2.1 _ _ e4⟩
 . obtain⟨x,y,S2,sm,hx,hy,hf,h⟩:=q2
   exact tP I2 S2 rx ry hx hy hf (h.mono λv hv u H' t r=>hv u H' t (r.from sm))
theorem aBA{H:Hp}{σV:L2.St}{x:Vl}{u:V}{k:Bool}(hx:Rv X.K RT Y old σ σV H x u)(h:aAe x.d=some k):aCW X.K u H k:=by
 unfold aAe at h
 split at h
 . rename_i d;rw[hx.non d];exact(Option.some.inj h).symm
 . rename_i b d;rw[hx.bl d];exact(Option.some.inj h).symm
 . rename_i i d;rw[hx.int d];exact(Option.some.inj h).symm
 . rename_i z d
   by_cases hl:z.length<=lim
   . rw[if_pos hl] at h
     rw[hx.str d]
     refine⟨eH hl,?_⟩
     rw[<-Option.some.inj h]
     cases hz:z.length with
     | zero=>rfl
     | succ m=>simp;omega
   . rw[if_neg hl] at h;cases h
 . rename_i ds d
   obtain⟨a,xs,e,q,r⟩:=hx.tup d
   rw[e]
   refine .inr (.inl ⟨xs,q,?_⟩)
   rw[<-Option.some.inj h]
   have:=r.length
   cases ds <;> cases xs <;> first|rfl|(simp at this)
 . rename_i ds d
   obtain⟨a,xs,e,q,_,r⟩:=hx.lst d
   rw[e]
   refine .inl ⟨xs,q,?_⟩
   rw[<-Option.some.inj h]
   have:=r.length
   cases ds <;> cases xs <;> first|rfl|(simp at this)
 . cases h
theorem RE.tru{x:Vl}{p:Bool->Prop}(h:RE (fL x) p):∃k,aAe x.d=some k/\p k:=by
 unfold fL at h
 cases q:aAe x.d with
 | none=>rw[q] at h;exact h.elim
 | some k=>rw[q] at h;exact⟨k,rfl,h⟩
theorem aIq{a:E}{ea:Expr}(ha:PE X ea (WE X P n RT Y old σ a)):PE X (.UnaryOp .Not ea pos) (WE X P n RT Y old σ (.nt a)):=by
 intro pins s σV H Q I hw
 obtain⟨S,h⟩:=hw
 have h:=RE.bind' (show RE (ev P (call P n) σ a >>= λx=>fL x >>= λk=>R.ok (Vl.cl (.bl (!k)))) _ from h)
 refine UnaryOp_ (thn (ha pins s σV H (λu H1=>∃k,aCW X.K u H1 k/\Q (.bl (!k)) H1) I (wE.one S h λx u H1 hx t1 S1 r1=>?_)) λv s1 ⟨u,H1,I1,ru,k,hk,q⟩=>?_)
 . obtain⟨k,hk,hp⟩:=RE.tru (RE.bind' hx)
   exact⟨k,aBA (r1.rv S) hk,(show Wn X RT Y old σ σV H Q (Vl.cl (.bl (!k))) from hp) _ _ t1 (Ro.cl r1.1 rfl)⟩
 . refine not_of (thn (aAY pins s1 σV H1 u v (λk' H'=>k'=k/\H'=H1) I1 ru ⟨k,hk,rfl,rfl⟩) λb s2 ⟨H2,I2,e1,e2⟩=>?_)
   subst e1 e2
   exact⟨.bl (!b),H2,I2,rfl,q⟩
theorem qB{c:E}{e:Expr}(ha:PE X e (WE X P n RT Y old σ c))(he:∀whole,isTrue e X.env whole=(do let v<-whole;standAt e.pos;holding [v] (truthy v)))
 (hc:∀p,RE (tst P (call P n) σ c) p->RE (ev P (call P n) σ c) λx=>RE (fL x) p):PT X e (WT X P n RT Y old σ c):=by
 refine(aAZ ha he).imp λσV H Q t ⟨S,h⟩=>?_
 refine wE.one S (hc _ h) λx u H1 hx t1 S1 r1=>?_
 obtain⟨k,hk,hp⟩:=RE.tru hx
 exact⟨k,aBA (r1.rv S) hk,λt'=>hp _ t' r1.1⟩
theorem aIr{a b:E}{ea eb:Expr}{r:List Expr}(ha:PE X ea (WE X P n RT Y old σ a))(hb:PE X (.BoolOp .And (eb::r) pos) (WE X P n RT Y old σ b)):PE X (.BoolOp .And (ea::eb::r) pos) (WE X P n RT Y old σ (.an a b)):=by
 refine(aFd ha hb).imp λσV H Q t ⟨S,h⟩=>?_
 have h:=RE.bind' (show RE (ev P (call P n) σ a >>= λx=>(match x.d with|.bl true=>ev P (call P n) σ b|.bl false=>R.ok (Vl.cl (.bl false))|_=>.bad)) _ from h)
 refine wE.one S h λx u H1 hx t1 S1 r1=>?_
 split at hx
 . rename_i d1
   refine⟨true,(r1.rv S).bl d1,?_⟩
   rw[if_pos rfl]
   exact⟨S1,hx.mono λv hv u H' t r=>λ_=>hv u H' t (r.from r1.1)⟩
 . rename_i d1
   refine⟨false,(r1.rv S).bl d1,?_⟩
   rw[if_neg bN]
   exact λt'=>hx _ _ t' (Ro.cl r1.1 rfl)
 . exact hx.elim
theorem aED{a b:E}{ea eb:Expr}{r:List Expr}(ha:PE X ea (WE X P n RT Y old σ a))(hb:PE X (.BoolOp .Or (eb::r) pos) (WE X P n RT Y old σ b)):PE X (.BoolOp .Or (ea::eb::r) pos) (WE X P n RT Y old σ (.orr a b)):=by
 refine(aHB ha hb).imp λσV H Q t ⟨S,h⟩=>?_
 have h:=RE.bind' (show RE (ev P (call P n) σ a >>= λx=>(match x.d with|.bl true=>R.ok (Vl.cl (.bl true))|.bl false=>ev P (call P n) σ b|_=>.bad)) _ from h)
 refine wE.one S h λx u H1 hx t1 S1 r1=>?_
 split at hx
 . rename_i d1
   refine⟨true,(r1.rv S).bl d1,?_⟩
   rw[if_pos rfl]
   exact λt'=>hx _ _ t' (Ro.cl r1.1 rfl)
 . rename_i d1
   refine⟨false,(r1.rv S).bl d1,?_⟩
   rw[if_neg bN]
   exact⟨S1,hx.mono λv hv u H' t r=>λ_=>hv u H' t (r.from r1.1)⟩
 . exact hx.elim
theorem aIs{t a b:E}{et ea eb:Expr}(ht:PT X et (WT X P n RT Y old σ t))(ha:PE X ea (WE X P n RT Y old σ a))(hb:PE X eb (WE X P n RT Y old σ b)):PE X (.IfExp et ea eb pos) (WE X P n RT Y old σ (.ife t a b)):=by
 refine(aAO ht ha hb).imp λσV H Q t0 ⟨S,h⟩=>?_
 have h:=RE.bind' (show RE (tst P (call P n) σ t >>= λx=>if x=true then ev P (call P n) σ a else ev P (call P n) σ b) _ from h)
 refine⟨S,h.mono λk hk H1 t1 s1=>?_⟩
 cases k with
 | true=>rw[if_pos rfl] at hk ⊢;exact⟨S.grow s1 t1,hk.mono λv hv u H' t r=>λ_=>hv u H' t (r.from s1)⟩
 | false=>rw[if_neg bN] at hk ⊢;exact⟨S.grow s1 t1,hk.mono λv hv u H' t r=>λ_=>hv u H' t (r.from s1)⟩
def w2(X:Cx)(P:Pg)(n:Nat)(RT Y old:Addr->Prop)(σ:Sg)(σV:L2.St)(H:Hp)(p:Vl->Vl->Prop)(ux uy:V)(H2:Hp):Prop:=
 ∃x y,Sx X.K RT Y old σ σV H2/\aL H H2/\Rv X.K RT Y old σ σV H2 x ux/\Rv X.K RT Y old σ σV H2 y uy/\p x y
theorem eK(M:Mc X P Γ n)(o:CmpOp):OpR X (compareOp o) (λux uy H Q=>∃(σ:Sg) (σV:L2.St) (x y:Vl) (k:Bool),Rv X.K RT Y old σ σV H x ux/\Rv X.K RT Y old σ σV H y uy/\bL o x.d y.d=some k/\Q (.bl k) H):=by
 intro pins s σV H ux uy v u Q I rx ry h
 obtain⟨σ',σV',x,y,k,hx,hy,hk,q⟩:=h
 exact aAi I M.units rx ry hx hy hk q
theorem aIt(M:Mc X P Γ n){o:CmpOp}{a b:E}{ea eb:Expr}(ha:PE X ea (WE X P n RT Y old σ a))(hb:PE X eb (WE X P n RT Y old σ b))(hp:aO eb=true):PE X (.Compare ea [o] [eb] pos) (WE X P n RT Y old σ (.cmp o a b)):=by
 refine(xV (eK (RT:=RT) (Y:=Y) (old:=old) M o) ha hb (fQ hp)).imp λσV H Q t ⟨S,h⟩=>?_
 have h:=RE.bind' (show RE (ev P (call P n) σ a >>= λx=>ev P (call P n) σ b >>= λy=>(match bL o x.d y.d with|some k=>R.ok (Vl.cl (.bl k))|none=>.bad)) _ from h)
 refine wE.two S (h.mono λx hx=>RE.bind' hx) λx y ux uy H2 hp t2 s2 S2 hx hy=>?_
 split at hp
 . rename_i k hk
   exact⟨σ,σV,x,y,k,hx,hy,hk,λt'=>hp _ _ t' (Ro.cl s2 rfl)⟩
 . exact hp.elim
theorem fR(M:Mc X P Γ n){o:CmpOp}{a b:E}{ea eb:Expr}(ha:PE X ea (WE X P n RT Y old σ a))(hb:PE X eb (WE X P n RT Y old σ b))(hp:aO eb=true):PT X (.Compare ea [o] [eb] pos) (WT X P n RT Y old σ (.cmp o a b)):=by
 refine(qY (eK (RT:=RT) (Y:=Y) (old:=old) M o) ha hb (fQ hp)).imp λσV H Q t ⟨S,h⟩=>?_
 have h:=RE.bind' (show RE (ev P (call P n) σ a >>= λx=>ev P (call P n) σ b >>= λy=>(match bL o x.d y.d with|some k=>R.ok k|none=>.bad)) _ from h)
 refine wE.two S (h.mono λx hx=>RE.bind' hx) λx y ux uy H2 hp t2 s2 S2 hx hy=>?_
 split at hp
 . rename_i k hk
   exact⟨σ,σV,x,y,k,hx,hy,hk,k,rfl,λt'=>hp _ t' s2⟩
 . exact hp.elim
theorem aIu{a b:E}{ea eb:Expr}(ha:PE X ea (WE X P n RT Y old σ a))(hb:PE X eb (WE X P n RT Y old σ b))(hp:aO eb=true):PE X (.Subscript ea eb pos) (WE X P n RT Y old σ (.idx a b)):=by
 refine(xZ vZ ha hb (gJ hp)).imp λσV H Q t ⟨S,h⟩=>?_
 have h:=RE.bind' (show RE (ev P (call P n) σ a >>= λx=>ev P (call P n) σ b >>= λy=>bV x y) _ from h)
 refine wE.two S (h.mono λx hx=>RE.bind' hx) λx y ux uy H2 hp t2 s2 S2 hx hy=>?_
 exact pZ t2 hx hy (hp.mono λv hv u H' t r=>hv u H' t (r.from s2))
theorem tX:PA X [] (WA X P n RT Y old σ .nil):=dR.imp λσV H Q t ⟨S,h⟩ t'=>h [] H t' (aL.refl H) rfl
theorem jM{c:E}{cs:Es}{e:Expr}{es:List Expr}(ha:PE X e (WE X P n RT Y old σ c))(hr:PA X es (WA X P n RT Y old σ cs))(hp:aO e=true):PA X (e::es) (WA X P n RT Y old σ (.cons c cs)):=by
 refine(cQ ha hr (aC hp)).imp λσV H Q t ⟨S,h⟩=>?_
 have h:=RE.bind' (show RE (ev P (call P n) σ c >>= λx=>evs P (call P n) σ cs >>= λxs=>R.ok (x::xs)) _ from h)
 refine wE.one S h λx u H1 hx t1 S1 r1=>⟨S1,(RE.bind' hx).mono λvs hv us H2 t2 s2 r2 t'=>?_⟩
 exact hv (u::us) H2 t' (r1.1.trans s2) ⟨u,us,rfl,(r1.rv S).grow s2,r2⟩
theorem rP:∀{cs:Es} {es:List Expr} {vs:List Vl},chkEs Γ cs es=true->evs P (call P n) σ cs=.ok vs->vs.length=es.length
 | .nil,[],vs,_,h=>by cases(show R.ok []=R.ok vs from h);rfl
 | .nil,_::_,_,h,_=>by cases h
 | .cons _ _,[],_,h,_=>by cases h
 | .cons c cs,e::es,vs,hc,h=>by
  simp only[chkEs,bA] at hc
  have h:(ev P (call P n) σ c >>= λx=>evs P (call P n) σ cs >>= λxs=>R.ok (x::xs))=R.ok vs:=h
  cases q1:ev P (call P n) σ c with
  | ok x=>
   cases q2:evs P (call P n) σ cs with
   | ok xs=>
    rw[q1] at h
    have h:(evs P (call P n) σ cs >>= λxs=>R.ok (x::xs))=R.ok vs:=h
    rw[q2] at h
    cases(show R.ok (x::xs)=R.ok vs from h)
    rw[lC,lC,rP hc.2 q2]
   | exc z=>rw[q1] at h;have h:(evs P (call P n) σ cs >>= λxs=>R.ok (x::xs))=R.ok vs:=h;rw[q2] at h;cases h
   | bad=>rw[q1] at h;have h:(evs P (call P n) σ cs >>= λxs=>R.ok (x::xs))=R.ok vs:=h;rw[q2] at h;cases h
  | exc z=>rw[q1] at h;cases h
  | bad=>rw[q1] at h;cases h
theorem RE.eq{α:Type}{x:R α}{p:α->Prop}(h:RE x p):∃a,x=.ok a/\p a:=by
 cases x with
 | ok a=>exact⟨a,rfl,h⟩
 | exc e=>exact h.elim
 | bad=>exact h.elim
theorem aIv{cs:Es}{es:List Expr}{k:Nat}(ha:PA X es (WA X P n RT Y old σ cs))(hc:chkEs Γ cs es=true)(hl:es.length<=1000):PE X (.Tuple es k pos) (WE X P n RT Y old σ (.tup cs)):=by
 refine(aBa ha).imp λσV H Q t ⟨S,h⟩=>?_
 have h:=RE.bind' (show RE (evs P (call P n) σ cs >>= λvs=>R.ok (pW vs)) _ from h)
 obtain⟨vs,e,hv⟩:=h.eq
 refine⟨S,?_⟩
 show RE (evs P (call P n) σ cs) _
 rw[e]
 intro us H1 t1 s1 r1
 have hn:us.length<=sizeLine:=by rw[<-r1.length,rP hc e,sizeLine_eq];omega
 exact⟨hn,λp hp t'=>(show Wn X RT Y old σ σV H Q (pW vs) from hv) _ _ t' ((Ro.tup hp rfl rfl r1.all).from s1)⟩
theorem aIw{cs:Es}{es:List Expr}(ha:PA X es (WA X P n RT Y old σ cs))(hc:chkEs Γ cs es=true)(hl:es.length<=1000):PE X (.List es pos) (WE X P n RT Y old σ (.lst cs)):=by
 refine(vV ha).imp λσV H Q t ⟨S,h⟩=>?_
 have h:=RE.bind' (show RE (evs P (call P n) σ cs >>= λvs=>R.ok (nS vs)) _ from h)
 obtain⟨vs,e,hv⟩:=h.eq
 refine⟨S,?_⟩
 show RE (evs P (call P n) σ cs) _
 rw[e]
 intro us H1 t1 s1 r1
 have hn:us.length<=sizeLine:=by rw[<-r1.length,rP hc e,sizeLine_eq];omega
 exact⟨hn,λp hp t'=>(show Wn X RT Y old σ σV H Q (nS vs) from hv) _ _ t' ((Ro.fresh hp t' rfl rfl (S.grow s1 t1) r1.all).from s1)⟩
theorem yH:∀b:Bi,aBr b=true->bootBuiltins (jI b)=some (aEC b):=by
 intro b hb
 cases b <;> first|kernel_rfl|cases hb
theorem dS:∀b:Bi,jI b∈bltNames:=by
 intro b
 cases b <;> decide +kernel
theorem eR:∀b:Bi,jI b ≠ "__name__" := by
 intro b
 cases b <;> decide +kernel
theorem aKQ(M:Mc X P Γ n){b:Bi}{cs:Es}{x:Str}{p:Pos}{e:Expr}{es:List Expr}(hb:aBr b=true)(hx:jI b=x)(hg:cM Γ x=true)(ho:bW x=true)(ha:PA X (e::es) (WA X P n RT Y old σ cs))(hp:(e::es).all aO=true) :
 PE X (.Call (.Name x p) (e::es) [] pos) (WE X P n RT Y old σ (.bi b cs)):=by
 subst hx
 have hp':aO e=true/\es.all aO=true:=by simpa using hp
 have body:∀(f:PE X (.Call (.Name (jI b) p) (e::es) [] pos) (tCB (rBi X b) (WA X P n RT Y old σ cs))),PE X (.Call (.Name (jI b) p) (e::es) [] pos) (WE X P n RT Y old σ (.bi b cs)):=λf=>f.imp λσV H Q t ⟨S,h⟩=>by
  have h:=RE.bind' (show RE (evs P (call P n) σ cs >>= λvs=>biD b vs) _ from h)
  refine⟨S,h.mono λvs hv us H1 t1 s1 r1=>?_⟩
  exact tS hb (S.grow s1 t1) r1 (hv.mono λv hv u H' t r=>hv u H' t (r.from s1))
 refine body ?_
 have r:=yF M.calm M.room.gd M.units b hb
 have bo:=yH b hb
 cases b with
 | len=>exact tD r (M.gl hg) (M.md.blt _ (dS _)) bo ha (eR _) (aM ho) (aC hp'.1) (cN hp'.2)
 | min=>exact tD r (M.gl hg) (M.md.blt _ (dS _)) bo ha (eR _) (aM ho) (aC hp'.1) (cN hp'.2)
 | list=>exact iO r (M.gl hg) (M.md.blt _ (dS _)) bo ha (eR _) (aM ho) (aC hp'.1) (cN hp'.2)
 | tuple=>exact iO r (M.gl hg) (M.md.blt _ (dS _)) bo ha (eR _) (aM ho) (aC hp'.1) (cN hp'.2)
 | int=>exact iO r (M.gl hg) (M.md.blt _ (dS _)) bo ha (eR _) (aM ho) (aC hp'.1) (cN hp'.2)
 | _=>cases hb
theorem aDs{σV:L2.St}{H H1 H':Hp}{vs:List Vl}{r:Rt}{u:V}(S1:Sx X.K RT Y old σ σV H1)(s1:aL H H1)(s':aL H1 H')(h:Rr X.K H1 H' (λb=>H1 b≠none/\exV RT Y old σ σV (aV vs) (cC vs) b) r u) :
 Ro X.K RT Y old σ σV H H' (gY vs r) u:=by
 obtain⟨d,fr,pa⟩:=r
 have key:∀b,exV RT Y old σ σV (gY vs (d,fr,pa)).pa (gY vs (d,fr,pa)).al b->(H1 b≠none/\exV RT Y old σ σV (aV vs) (cC vs) b)\/(pa=false/\H1 b≠none):=by
  intro b z
  have tk:=exV.trk S1 z
  cases pa with
  | true=>exact .inl ⟨tk,z⟩
  | false=>exact .inr ⟨rfl,tk⟩
 have efr:(gY vs (d,fr,pa)).fr=fr:=by unfold gY;split <;> rfl
 have ed:(gY vs (d,fr,pa)).d=d:=by unfold gY;split <;> rfl
 refine⟨s1.trans s',?_⟩
 rw[efr]
 unfold Rr at h
 cases fr with
 | true=>
  rw[if_pos rfl] at h ⊢
  obtain⟨a,xs,ds,e1,e2,e3,e4,rr⟩:=h
  exact⟨a,xs,ds,e1,by rw[ed];exact e2,s1.free e3,e4,rr.weak λb z=>z.elim (λz=>.inl z) λz=>.inr (key b z)⟩
 | false=>
  rw[if_neg bN] at h ⊢
  unfold Rv
  rw[ed]
  exact Rep.weak h key
theorem aBB{f:Nat}{cs:Es}{σV:L2.St}{H:Hp}{Q:VK}(S:Sx X.K RT Y old σ σV H)(h:RE (ev P (call P n) σ (.call f cs)) (Wn X RT Y old σ σV H Q)) :
 WA X P n RT Y old σ cs σV H λus H1=>spA X.K P n f (us++[]) H1 (λv H'=>Tk X.K H'->Q v H') E0:=by
 have h:=RE.bind' (show RE (evs P (call P n) σ cs >>= λvs=>call P n f (vs.map (·.d)) >>= λr=>R.ok (gY vs r)) _ from h)
 refine⟨S,h.mono λvs hv us H1 t1 s1 r1=>?_⟩
 have S1:=S.grow s1 t1
 refine .inl ⟨vs.map (·.d),λb=>H1 b≠none/\exV RT Y old σ σV (aV vs) (cC vs) b,λa z=>z.1,by rw[List.append_nil];exact r1.all.weak λa z=>z.2,(RE.bind' hv).mono λr hr u H' t' s' rr _=>?_⟩
 exact(show Wn X RT Y old σ σV H Q (gY vs r) from hr) u H' t' (aDs S1 s1 s' rr)
theorem aFE(M:Mc X P Γ n){f:Nat}{cs:Es}{x:Str}{p:Pos}{es:List Expr}(hf:Γ.fns[f]? = some x)(hg:cM Γ x=true)(ho:bW x=true)(ha:PA X es (WA X P n RT Y old σ cs))(hp:es.all aO=true)(hc:chkEs Γ cs es=true) :
 PE X (.Call (.Name x p) es [] pos) (WE X P n RT Y old σ (.call f cs)):=by
 obtain⟨fa,fd,ps,h1,h2,h3,h4⟩:=M.md.fn f x hf
 cases es with
 | cons e es=>
  have hp':aO e=true/\es.all aO=true:=by simpa using hp
  exact(rA h4 M.room (M.gl hg) h1 h2 h3 .nil yB ha (aM ho) (aC hp'.1) (cN hp'.2)).imp λσV H Q t ⟨S,h⟩=>aBB S h
 | nil=>
  cases cs with
  | cons _ _=>cases hc
  | nil=>
   refine(aBc h4 M.room (M.gl hg) h1 h2 h3 .nil yB (aM ho)).imp λσV H Q t ⟨S,h⟩=>?_
   exact(aBB S h).2 [] H t (aL.refl H) rfl
theorem nC{i:Nat}{dss:List (List D)}(h:eW σ i=some dss):σ[i]? = some (.own2 dss):=by
 unfold eW at h
 split at h
 . rename_i e
   cases h
   exact e
 . cases h
theorem Rws.rep{K:Fg}{H:Hp}:∀{dss:List (List D)} {bs:List Addr},Rws K H dss bs->Reps K H (λ_=>False) (dss.map .lst) (bs.map V.ref)
 | [],_,h=>by rw[show _=[] from h];rfl
 | ds::dss,_,h=>by
  obtain⟨b,r,xs,rfl,h1,h2,h3,h4⟩:=h
  exact⟨.ref b,r.map V.ref,rfl,⟨b,xs,rfl,SqL.of h1,λz=>z,h3⟩,Rws.rep h4⟩
theorem aDt(M:Mc X P Γ n){f i:Nat}{a:E}{x y:Str}{p q:Pos}{ea:Expr}(hf:Γ.fns[f]? = some x)(hg:cM Γ x=true)(ho:bW x=true)(hy:bC Γ i y=true)(ha:PE X ea (WE X P n RT Y old σ a))(hp:aO ea=true) :
 PE X (.Call (.Name x p) [ea,.Name y q] [] pos) (WE X P n RT Y old σ (.callO f a i)):=by
 obtain⟨fa,fd,ps,h1,h2,h3,h4⟩:=M.md.fn f x hf
 unfold bC at hy
 simp only[bA] at hy
 obtain⟨⟨y1,y2⟩,y3⟩:=hy
 refine(rA h4 M.room (M.gl hg) h1 h2 h3 .nil yB (cQ ha (cQ (lH (by rw[M.N];exact eq_of_beq y1) (M.vis y2) (aM y3) (eP y3)) dR rfl) (aC hp)) (aM ho) (aC hp) (cN rfl)).imp λσV H Q t ⟨S,h⟩=>?_
 have h:=RE.bind' (show RE (ev P (call P n) σ a >>= λx=>(match eW σ i with
  | some dss=>call P n f [x.d,o2D dss] >>= λr=>R.iff (!r.2.2) (R.ok (Vl.mk r.1 r.2.1 false []))
  | none=>.bad)) _ from h)
 refine wE.one S h λx u H1 hx t1 S1 r1=>?_
 cases e:eW σ i with
 | none=>rw[e] at hx;exact hx.elim
 | some dss=>
  rw[e] at hx
  have hx:RE (call P n f [x.d,o2D dss] >>= λr=>R.iff (!r.2.2) (R.ok (Vl.mk r.1 r.2.1 false []))) (λv=>∀(u:V) (H':Hp),Tk X.K H'->Ro X.K RT Y old σ σV H H' v u->Q u H'):=hx
  obtain⟨b,bs,g1,g2,g3,g4,g5⟩:=S1.lx.at2 i dss (nC e)
  refine⟨.ref b,g1,.inl ⟨[x.d,o2D dss],λ_=>False,λ_ z=>z.elim,?_,(RE.bind' hx).mono λr hr u' H' t' s' rr _=>?_⟩⟩
  . exact⟨u,[.ref b],rfl,Rep.weak (r1.rv S) λ_ z=>z.elim,.ref b,[],rfl,⟨b,bs.map V.ref,rfl,SqL.of g2,λz=>z,g5.rep⟩,rfl⟩
  . obtain⟨hc,hw⟩:=RE.iff hr
    have hc:r.2.2=false:=by simpa using hc
    refine(show Wn X RT Y old σ σV H Q ⟨r.1,r.2.1,false,[]⟩ from hw) u' H' t' ⟨r1.1.trans s',?_⟩
    unfold Rr at rr
    have key:∀c,exV RT Y old σ σV false [] c->False\/r.2.2=false/\H1 c≠none:=λc z=>.inr ⟨hc,exV.trk S1 z⟩
    split at rr
    . rename_i hf
      rw[if_pos hf]
      obtain⟨c,xs,ds,e1,e2,e3,e4,rr⟩:=rr
      exact⟨c,xs,ds,e1,e2,r1.1.free e3,e4,rr.weak λd z=>z.elim .inl λz=>.inr (key d z)⟩
    . rename_i hf
      rw[if_neg hf]
      exact Rep.weak rr key
theorem aIx(M:Mc X P Γ n){i:Nat}{a:E}{y:Str}{q:Pos}{ea:Expr}(hy:bC Γ i y=true)(ha:PE X ea (WE X P n RT Y old σ a))(hp:aO ea=true):PT X (.Compare (.Name y q) [.NotEq] [ea] pos) (WT X P n RT Y old σ (.neO i a)):=by
 unfold bC at hy
 simp only[bA] at hy
 obtain⟨⟨y1,y2⟩,y3⟩:=hy
 refine(qY (eK (RT:=λ_=>False) (Y:=λ_=>False) (old:=λ_=>False) M .NotEq) (lH (by rw[M.N];exact eq_of_beq y1) (M.vis y2) (aM y3) (eP y3)) ha (fQ hp)).imp λσV H Q t ⟨S,h⟩=>?_
 have h:=RE.bind' (show RE (ev P (call P n) σ a >>= λx=>(match eW σ i with
  | some dss=>(match bL .NotEq (o2D dss) x.d with
   | some k=>R.ok k
   | none=>.bad)
  | none=>.bad)) _ from h)
 cases e:eW σ i with
 | none=>rw[e] at h;obtain⟨_,_,h⟩:=h.eq;exact h.elim
 | some dss=>
  rw[e] at h
  obtain⟨b,bs,g1,g2,g3,g4,g5⟩:=S.lx.at2 i dss (nC e)
  refine⟨.ref b,g1,wE.one S h λx u H1 hx t1 S1 r1=>?_⟩
  have hx:RE (match bL .NotEq (o2D dss) x.d with
   | some k=>R.ok k
   | none=>.bad) _:=hx
  split at hx
  . rename_i k hk
    have g:Rep X.K H (λ_=>False) (o2D dss) (.ref b):=⟨b,bs.map V.ref,rfl,SqL.of g2,λz=>z,g5.rep⟩
    exact⟨σ,σV,⟨o2D dss,false,true,[]⟩,x,k,(g.grow r1.1).weak λc z=>by rcases z with z|z|z <;> first|exact z.1|exact z|exact z.2,(r1.rv S).weak λc z=>by rcases z with z|z|z <;> first|exact z.1.elim|exact z.elim|exact z.2.elim,hk,k,rfl,λt'=>hx _ t' r1.1⟩
  . exact hx.elim
theorem aFF(M:Mc X P Γ n){i:Nat}{a:E}{m x:Str}{p ap:Pos}{ea:Expr}(hm:m=("get" : Str))(hx:Γ.tbs[i]? = some x)(hg:cM Γ x=true)(ho:bW x=true)(hl:(ap.endLine==pos.line)=true)
 (ha:PE X ea (WE X P n RT Y old σ a)) (hp:aO ea=true):PE X (.Call (.Attribute (.Name x p) m ap) [ea] [] pos) (WE X P n RT Y old σ (.tget i a)):=by
 subst hm
 obtain⟨b,t,h1,h2,h3⟩:=M.md.tab i x hx
 refine(aDl h3 (M.gl hg) h1 (aM ho) ha hl (aC hp)).imp λσV H Q tk ⟨S,h⟩=>?_
 have h:=RE.bind' (show RE (ev P (call P n) σ a >>= λx=>(match x.d,P.tabs[i]? with|.str k,some t=>R.ok (Vl.cl ((t.lookup k).getD .non))|_,_=>.bad)) _ from h)
 refine wE.one S h λy u H1 hy t1 S1 r1=>?_
 rw[h2] at hy
 cases hd:y.d with
 | str k=>
  rw[hd] at hy
  have hu:u=.str k:=by
   have z:=r1.rv S
   unfold Rv at z
   rw[hd] at z
   exact z
  exact⟨k,hu,λv hv t'=>(show Wn X RT Y old σ σV H Q (Vl.cl ((t.lookup k).getD .non)) from hy) v H1 t' (Ro.val r1.1 (hv H1))⟩
 | _=>rw[hd] at hy;exact hy.elim
theorem aAm{c:Cl}{cv:Value}{x:Str}(hc:tU c=some cv)(hx:wG Γ c=some x):bootBuiltins x=some cv/\x∈bltNames/\x ≠ "__name__" := by
 cases c <;> cases hc <;> cases hx <;> exact⟨by kernel_rfl,by decide +kernel,by decide +kernel⟩
theorem aIy(M:Mc X P Γ n){a:E}{c:Cl}{cv:Value}{f x:Str}{pf py:Pos}{ea:Expr}(hf:f=("isinstance" : Str))(hg:cM Γ f=true)(hc:tU c=some cv)(hx:wG Γ c=some x)(hgx:cM Γ x=true)(hox:bW x=true)
 (ha:PE X ea (WE X P n RT Y old σ a)) (hp:aO ea=true):PE X (.Call (.Name f pf) [ea,.Name x py] [] pos) (WE X P n RT Y old σ (.isi a [c])):=by
 subst hf
 intro pins s σV H Q I hw
 obtain⟨S,h⟩:=hw
 have h:=RE.bind' (show RE (ev P (call P n) σ a >>= λx=>(match isI [c] P x.d with|some k=>R.ok (Vl.cl (.bl k))|none=>.bad)) _ from h)
 obtain⟨b1,b2,b3⟩:=aAm hc hx
 refine wpAny_Call_Name_kw (hX I (M.gl hg) (M.md.blt _ (by decide +kernel)) (show bootBuiltins "isinstance" = some (.builtin "isinstance") by kernel_rfl) ?_ (by decide +kernel) (by decide +kernel))
 refine PyProof.Rows.callWith_builtin1 ?_ (aC hp) rfl
 rw[aC hp]
 show wpAny _ _ (spliced ((false,eval ea X.env)::backTo pos (starEach [.Name x py] X.env))) _ _ s
 refine Calls.spliced_cons (thn (ha pins s σV H (λu H1=>∃y k,Rv X.K RT Y old σ σV H1 y u/\isI [c] P y.d=some k/\Q (.bl k) H1) I (wE.one S h λy u H1 hy t1 S1 r1=>?_)) λv s1 ⟨u,H1,I1,ru,y,k,hy,hk,q⟩=>?_)
 . split at hy
   . rename_i k hk
     exact⟨y,k,r1.rv S,hk,(show Wn X RT Y old σ σV H Q (Vl.cl (.bl k)) from hy) _ _ t1 (Ro.cl r1.1 rfl)⟩
   . exact hy.elim
 . show wpAny _ _ (spliced ((false,eval (.Name x py) X.env)::backTo pos (starEach [] X.env))) _ _ s1
   refine Calls.spliced_cons (hX I1 (M.gl hgx) (M.md.blt _ b2) b1 (Calls.spliced_nil ?_) b3 (aM hox))
   exact aAl P I1 ru hy hc hk q
end
section
variable {X:Cx} {P:Pg} {n:Nat} {RT Y old:Addr->Prop} {σ:Sg} {pos:Pos}
end
section
variable {X:Cx} {P:Pg} {Γ:Ct} {n:Nat} {RT Y old:Addr->Prop} {σ:Sg} {pos:Pos}
theorem nY{o o':CmpOp}{eb ec:Expr}(hq:aO ec=true):lastMarks [o,o'] [eb,ec]=false:=fQ hq
theorem aFG(M:Mc X P Γ n){o o':CmpOp}{a b c:E}{ea eb ec:Expr}(ha:PE X ea (WE X P n RT Y old σ a))(hb:PE X eb (WE X P n RT Y old σ b))(hc:PE X ec (WE X P n RT Y old σ c))(hq:aO ec=true) :
 PE X (.Compare ea [o,o'] [eb,ec] pos) (WE X P n RT Y old σ (.cmp2 o o' a b c)):=by
 refine(aAW (eK (RT:=RT) (Y:=Y) (old:=old) M o) (eK (RT:=RT) (Y:=Y) (old:=old) M o') ha hb hc (nY hq)).imp λσV H Q t ⟨S,h⟩=>?_
 have h:=RE.bind' (show RE (ev P (call P n) σ a >>= λx=>ev P (call P n) σ b >>= λy=>(match bL o x.d y.d with
  | some true=>ev P (call P n) σ c >>= λz=>(match bL o' y.d z.d with|some k=>R.ok (Vl.cl (.bl k))|none=>.bad)
  | some false=>R.ok (Vl.cl (.bl false))
  | none=>.bad)) _ from h)
 refine wE.two S (h.mono λx hx=>RE.bind' hx) λx y ux uy H2 hp t2 s2 S2 hx hy=>?_
 split at hp
 . rename_i hk
   refine⟨σ,σV,x,y,true,hx,hy,hk,true,rfl,?_⟩
   rw[if_pos rfl]
   refine wE.one S2 (RE.bind' hp) λz u H3 hz t3 S3 r3=>?_
   split at hz
   . rename_i k' hk'
     exact⟨σ,σV,y,z,k',hy.grow r3.1,r3.rv S2,hk',λt'=>hz _ _ t' (Ro.cl (s2.trans r3.1) rfl)⟩
   . exact hz.elim
 . rename_i hk
   refine⟨σ,σV,x,y,false,hx,hy,hk,false,rfl,?_⟩
   rw[if_neg bN]
   exact λt'=>hp _ _ t' (Ro.cl s2 rfl)
 . exact hp.elim
theorem aFH(M:Mc X P Γ n){o o':CmpOp}{a b c:E}{ea eb ec:Expr}(ha:PE X ea (WE X P n RT Y old σ a))(hb:PE X eb (WE X P n RT Y old σ b))(hc:PE X ec (WE X P n RT Y old σ c))(hq:aO ec=true) :
 PT X (.Compare ea [o,o'] [eb,ec] pos) (WT X P n RT Y old σ (.cmp2 o o' a b c)):=by
 refine(aAX (eK (RT:=RT) (Y:=Y) (old:=old) M o) (eK (RT:=RT) (Y:=Y) (old:=old) M o') ha hb hc (nY hq)).imp λσV H Q t ⟨S,h⟩=>?_
 have h:=RE.bind' (show RE (ev P (call P n) σ a >>= λx=>ev P (call P n) σ b >>= λy=>(match bL o x.d y.d with
  | some true=>ev P (call P n) σ c >>= λz=>(match bL o' y.d z.d with|some k=>R.ok k|none=>.bad)
  | some false=>R.ok false
  | none=>.bad)) _ from h)
 refine wE.two S (h.mono λx hx=>RE.bind' hx) λx y ux uy H2 hp t2 s2 S2 hx hy=>?_
 split at hp
 . rename_i hk
   refine⟨σ,σV,x,y,true,hx,hy,hk,true,rfl,?_⟩
   rw[if_pos rfl]
   refine wE.one S2 (RE.bind' hp) λz u H3 hz t3 S3 r3=>?_
   split at hz
   . rename_i k' hk'
     exact⟨σ,σV,y,z,k',hy.grow r3.1,r3.rv S2,hk',k',rfl,λt'=>hz _ t' (s2.trans r3.1)⟩
   . exact hz.elim
 . rename_i hk
   refine⟨σ,σV,x,y,false,hx,hy,hk,false,rfl,?_⟩
   rw[if_neg bN]
   exact⟨false,rfl,λt'=>hp _ t' s2⟩
 . exact hp.elim
theorem kB{a:E}{ea:Expr}(ha:PT X ea (WT X P n RT Y old σ a)):PT X (.UnaryOp .Not ea pos) (WT X P n RT Y old σ (.nt a)):=by
 refine(aFc ha).imp λσV H Q t ⟨S,h⟩=>?_
 have h:=RE.bind' (show RE (tst P (call P n) σ a >>= λx=>R.ok (!x)) _ from h)
 exact⟨S,h.mono λk hk H1 t1 s1 t'=>(show ∀H',Tk X.K H'->aL H H'->Q (!k) H' from hk) _ t' s1⟩
theorem aBC{e:Expr}{t t':TT}(h:PW X e t)(f:∀σV H Q,Tk X.K H->t' σV H Q->t σV H λv H'=>Tk X.K H'->Q v H'):PW X e t':=λwh pins s σV H Q I hw=>
 thn (h wh pins s σV H _ I (f σV H Q I.tk hw)) λk s' ⟨H',I',q⟩=>⟨H',I',q I'.tk⟩
theorem aIz{a b:E}{ea eb:Expr}{r:List Expr}(ha:PT X ea (WT X P n RT Y old σ a))(hb:PW X (.BoolOp .And (eb::r) pos) (WT X P n RT Y old σ b)):PW X (.BoolOp .And (ea::eb::r) pos) (WT X P n RT Y old σ (.an a b)):=by
 refine aBC (aFb ha hb) λσV H Q t ⟨S,h⟩=>?_
 have h:=RE.bind' (show RE (tst P (call P n) σ a >>= λx=>if x=true then tst P (call P n) σ b else R.ok false) _ from h)
 refine⟨S,h.mono λk hk H1 t1 s1=>?_⟩
 cases k with
 | true=>rw[if_pos rfl] at hk ⊢;exact⟨S.grow s1 t1,hk.mono λv hv H' t s' _=>hv H' t (s1.trans s')⟩
 | false=>rw[if_neg bN] at hk ⊢;exact λt'=>(show ∀H',Tk X.K H'->aL H H'->Q false H' from hk) _ t' s1
theorem aEE{a b:E}{ea eb:Expr}{r:List Expr}(ha:PT X ea (WT X P n RT Y old σ a))(hb:PW X (.BoolOp .Or (eb::r) pos) (WT X P n RT Y old σ b)):PW X (.BoolOp .Or (ea::eb::r) pos) (WT X P n RT Y old σ (.orr a b)):=by
 refine aBC (aHz ha hb) λσV H Q t ⟨S,h⟩=>?_
 have h:=RE.bind' (show RE (tst P (call P n) σ a >>= λx=>if x=true then R.ok true else tst P (call P n) σ b) _ from h)
 refine⟨S,h.mono λk hk H1 t1 s1=>?_⟩
 cases k with
 | true=>rw[if_pos rfl] at hk ⊢;exact λt'=>(show ∀H',Tk X.K H'->aL H H'->Q true H' from hk) _ t' s1
 | false=>rw[if_neg bN] at hk ⊢;exact⟨S.grow s1 t1,hk.mono λv hv H' t s' _=>hv H' t (s1.trans s')⟩
def wO(X:Cx)(P:Pg)(n:Nat)(RT Y old:Addr->Prop)(σ:Sg)(cs:Es):TO:=λσV H Q=>Sx X.K RT Y old σ σV H/\RE (evs P (call P n) σ cs) λvs=>
 (vs=[]/\∀H',Tk X.K H'->aL H H'->Q none H')\/∃v i,vs=[v]/\v.d=.int i/\∀H',Tk X.K H'->aL H H'->Q (some i) H'
theorem aBD{e:Option Expr}{t t':TO}(h:PO X e t)(f:∀σV H Q,Tk X.K H->t' σV H Q->t σV H λv H'=>Tk X.K H'->Q v H'):PO X e t':=λpins s σV H Q I hw=>
 thn (h pins s σV H _ I (f σV H Q I.tk hw)) λu s' ⟨o,H',I',r,q⟩=>⟨o,H',I',r,q I'.tk⟩
theorem aIA:PO X none (wO X P n RT Y old σ .nil):=aBD aCZ λσV H Q t ⟨S,h⟩ t'=>by
 rcases(show([]:List Vl)=[]/\_\/_ from h) with⟨_,q⟩|⟨v,i,e,_⟩
 . exact q H t' (aL.refl H)
 . cases e
theorem aIB{c:E}{e:Expr}(ha:PE X e (WE X P n RT Y old σ c)):PO X (some e) (wO X P n RT Y old σ (.cons c .nil)):=by
 refine aBD (aDa ha) λσV H Q t ⟨S,h⟩=>?_
 have h:=RE.bind' (show RE (ev P (call P n) σ c >>= λx=>evs P (call P n) σ .nil >>= λxs=>R.ok (x::xs)) _ from h)
 refine wE.one S h λx u H1 hx t1 S1 r1=>?_
 rcases(show([x]:List Vl)=[]/\_\/∃v i,([x]:List Vl)=[v]/\_/\_ from hx) with⟨e,_⟩|⟨v,i,e,hd,q⟩
 . cases e
 . cases e
   exact⟨i,(r1.rv S).int hd,λt'=>q _ t' r1.1⟩
theorem aIC{a:E}{lo hi:Es}{ea:Expr}{el eh:Option Expr}{p2:Pos}(ha:PE X ea (WE X P n RT Y old σ a))(hl:PO X el (wO X P n RT Y old σ lo))(hh:PO X eh (wO X P n RT Y old σ hi)) :
 PE X (.Subscript ea (.Slice el eh none p2) pos) (WE X P n RT Y old σ (.sli a lo hi)):=by
 refine(aBe (aFC (X:=X)) ha hl hh).imp λσV H Q t ⟨S,h⟩=>?_
 have h:=RE.bind' (show RE (ev P (call P n) σ a >>= λx=>evs P (call P n) σ lo >>= λl=>evs P (call P n) σ hi >>= λh=>(match l,h with
  | [],[]=>eG x none none
  | [l],[]=>(match l.d with|.int l=>R.iff (aG l) (eG x (some l) none)|_=>.bad)
  | [],[h]=>(match h.d with|.int h=>R.iff (aG h) (eG x none (some h))|_=>.bad)
  | [l],[h]=>(match l.d,h.d with|.int l,.int h=>R.iff (aG l&&aG h) (eG x (some l) (some h))|_,_=>.bad)
  | _,_=>.bad)) _ from h)
 refine wE.one S h λx u H1 hx t1 S1 r1=>?_
 have hx:=RE.bind' hx
 refine⟨S1,hx.mono λl hl=>?_⟩
 have hl:=RE.bind' hl
 have up:∀(L:Option Int) (H2:Hp),Tk X.K H2->aL H1 H2->(RE (evs P (call P n) σ hi) λh=>(h=[]/\RE (eG x L none) (Wn X RT Y old σ σV H Q))\/∃v i,h=[v]/\v.d=.int i/\RE (eG x L (some i)) (Wn X RT Y old σ σV H Q)) ->
  wO X P n RT Y old σ hi σV H2 λhv H3=>aBg X.K u L hv H3 (λv H'=>Tk X.K H'->Q v H')\/aBf X.K u L hv H3 (λv H'=>Tk X.K H'->Q v H')\/tR X.K u L hv H3 (λv H'=>Tk X.K H'->Q v H')\/aBt u L hv H3 (λv H'=>Tk X.K H'->Q v H'):=by
  intro L H2 t2 s2 hh
  refine⟨S1.grow s2 t2,hh.mono λhv hq=>?_⟩
  have fin:∀(U:Option Int) (H3:Hp),Tk X.K H3->aL H2 H3->RE (eG x L U) (Wn X RT Y old σ σV H Q) ->
   aBg X.K u L U H3 (λv H'=>Tk X.K H'->Q v H')\/aBf X.K u L U H3 (λv H'=>Tk X.K H'->Q v H')\/tR X.K u L U H3 (λv H'=>Tk X.K H'->Q v H')\/aBt u L U H3 (λv H'=>Tk X.K H'->Q v H'):=λU H3 t3 s3 hs=>
   aAk (S1.grow (s2.trans s3) t3) t3 ((r1.rv S).grow (s2.trans s3)) (hs.mono λv hv u H' t r=>hv u H' t (r.from (r1.1.trans (s2.trans s3))))
  rcases hq with⟨e,hs⟩|⟨v,i,e,hd,hs⟩
  . exact .inl ⟨e,λH3 t3 s3=>fin none H3 t3 s3 hs⟩
  . exact .inr ⟨v,i,e,hd,λH3 t3 s3=>fin (some i) H3 t3 s3 hs⟩
 match l,hl with
 | [],hl=>
  refine .inl ⟨rfl,λH2 t2 s2=>up none H2 t2 s2 (hl.mono λh hh=>?_)⟩
  match h,hh with
  | [],hh=>exact .inl ⟨rfl,hh⟩
  | [h],hh=>
   have hh:RE (match h.d with|.int h=>R.iff (aG h) (eG x none (some h))|_=>.bad) _:=hh
   split at hh
   . rename_i i hd
     exact .inr ⟨h,i,rfl,hd,hh.iff.2⟩
   . exact hh.elim
  | _::_::_,hh=>exact hh.elim
 | [l],hl=>
  have hd:∃i,l.d=.int i:=by
   obtain⟨h,_,hh⟩:=hl.eq
   match h,hh with
   | [],hh=>
    have hh:RE (match l.d with|.int l=>R.iff (aG l) (eG x (some l) none)|_=>.bad) _:=hh
    split at hh
    . rename_i i hd;exact⟨i,hd⟩
    . exact hh.elim
   | [h],hh=>
    have hh:RE (match l.d,h.d with|.int l,.int h=>R.iff (aG l&&aG h) (eG x (some l) (some h))|_,_=>.bad) _:=hh
    split at hh
    . rename_i i j hd _;exact⟨i,hd⟩
    . exact hh.elim
   | _::_::_,hh=>exact hh.elim
  obtain⟨i,hd⟩:=hd
  refine .inr ⟨l,i,rfl,hd,λH2 t2 s2=>up (some i) H2 t2 s2 (hl.mono λh hh=>?_)⟩
  match h,hh with
  | [],hh=>
   have hh:RE (match l.d with|.int l=>R.iff (aG l) (eG x (some l) none)|_=>.bad) _:=hh
   rw[hd] at hh
   exact .inl ⟨rfl,hh.iff.2⟩
  | [h],hh=>
   have hh:RE (match l.d,h.d with|.int l,.int h=>R.iff (aG l&&aG h) (eG x (some l) (some h))|_,_=>.bad) _:=hh
   rw[hd] at hh
   split at hh
   . rename_i i' j e1 e2
     cases e1
     exact .inr ⟨h,j,rfl,e2,hh.iff.2⟩
   . exact hh.elim
  | _::_::_,hh=>exact hh.elim
 | _::_::_,hl=>exact(by
     obtain⟨h,_,hh⟩:=hl.eq
     match h,hh with
     | [],hh=>exact hh.elim
     | [_],hh=>exact hh.elim
     | _::_::_,hh=>exact hh.elim)
end
end Hp
end
noncomputable section
namespace L2
open PySem PySem.Spec PyProof.Rows
set_option maxRecDepth 100000
instance:LawfulBEq Key where
 eq_of_beq:=λ{a b} h=>by
  cases a with
  | inl x=>cases b with
   | inl y=>exact congrArg Sum.inl (eq_of_beq (show(x==y)=true from h))
   | inr y=>cases h
  | inr x=>cases b with
   | inl y=>cases h
   | inr y=>exact congrArg Sum.inr (eq_of_beq (show(x==y)=true from h))
 rfl:=λ{a}=>by
  cases a with
  | inl x=>exact(beq_self_eq_true x:(x==x)=true)
  | inr x=>exact(beq_self_eq_true x:(x==x)=true)
def aFI(prog:Program)(w:World)(vs:List Value)(ks:List Key):Prop:=Paired (λv k=>(dX prog w).is k v=true) vs ks
theorem aFI.get{prog:Program}{w:World}:∀{vs:List Value} {ks:List Key},aFI prog w vs ks->∀{i:Nat} {v:Value},vs[i]? = some v->∃k,ks[i]? = some k/\(dX prog w).is k v=true
 | _,_,.nil,_,_,h=>by simp at h
 | _,_,.cons r _,0,_,h=>by simp at h;subst h;exact⟨_,rfl,r⟩
 | _,_,.cons _ t,i+1,v,h=>by
  obtain⟨k,h1,h2⟩:=aFI.get t (i:=i) (v:=v) (by simpa using h)
  exact⟨k,by simpa using h1,h2⟩
section
variable {prog:Program} {w:World} {A:Around} {R:Result->Shared->Prop} {I:Addr} {fp wr:List Addr} {G:Array GenState->Array GenState->Prop} {n:Nat} {P:Nat->Value->Prop} {St:Nat->Shared->Prop}
end
section
variable {prog:Program} {w:World} {A:Around} {E:Value->Shared->Prop} {s:Shared}
end
end L2
end
noncomputable section
namespace Hp
open PySem PySem.Spec PyProof.Rows L2
section
variable {X:Cx} {P:Pg} {Γ:Ct} {n:Nat} {RT Y old:Addr->Prop} {σ:Sg} {pos:Pos} {K:Fg} {H:Hp}
end
end Hp
end
noncomputable section
namespace L2
open PySem PySem.Spec PyProof.Rows
section
variable {X:Cx} {pins:List (Addr×Obj)} {σ:St} {H:Hp} {s:Shared} {h':Heap}
theorem Inv.turnsNew{its:List Addr}{T:Addr}{o:HO}{t':Nat}(I:Inv X pins σ H s)(f:∀b∈its,jU X pins H b)(k:∀b o,b∉its->s.heap.get? b=some o->h'.get? b=some o)(there:∀b∈its,∃o,h'.get? b=some o)
 (hT:s.heap.objs.size<=T) (new:eA X.prog X.w (upd H T o) h' T o):Inv X pins σ (upd H T o) { s with heap:=h',toks:=t' }:=by
 have nit:∀b u,H b=some u->b∉its:=λb u e z=>by rw[(f b z).1] at e;cases e
 have hn:H T=none:=I.hok.fresh hT
 have neT:∀b o,s.heap.get? b=some o->b≠T:=λb o e=>Nat.ne_of_lt (Nat.lt_of_lt_of_le (Heap.lt_size e) hT)
 refine I.step (g':=s.gens) (d':=s.drawn) (ch:=its) (λb hb=>?_) (λb o _ _ hc e _=>k b o hc e) (λb o _ _ hc e _=>⟨o.slots,k b o hc e⟩) (λb o _ e n=>by rw[aJ (neT b o e)];exact n)
  (λb o hc e=>⟨o,k b o hc e⟩) (λb xs e=>by rw[aJ (bK e hn)];exact e) (λb o u e=>by rw[aJ (bK e hn)];exact e) (λb ps e=>⟨#[],by rw[aJ (bK e hn),e];simp⟩) (λm hm=>?_) (λb u e=>?_) I.bare
 . obtain⟨_,f1,f2,f3,f4,f5⟩:=f b hb
   exact⟨f3,f1,f4,f5⟩
 . obtain⟨o,es,ep,ho,r⟩:=hm
   exact⟨o,es,ep,k _ o (λz=>(f _ z).2.1 rfl) ho,r⟩
 . by_cases hb:b=T
   . subst hb
     rw[aY] at e
     cases e
     exact new
   . rw[aJ hb] at e
     refine(I.hok b u e).stay (λc v hc q=>k c v ?_ q) (λc q=>by rw[aJ (bK q hn)];exact q) λc xs q=>by rw[aJ (bK q hn)];exact q
     rcases hc with z|z
     . rw[z];exact nit b u e
     . exact nit c _ z
theorem Inv.turns{its:List Addr}{t':Nat}(I:Inv X pins σ H s)(f:∀b∈its,jU X pins H b)(k:∀b o,b∉its->s.heap.get? b=some o->h'.get? b=some o):Inv X pins σ H { s with heap:=h',toks:=t' }:=by
 have nit:∀b u,H b=some u->b∉its:=λb u e z=>by rw[(f b z).1] at e;cases e
 refine I.step (g':=s.gens) (d':=s.drawn) (ch:=its) (λb hb=>?_) (λb o _ _ hc e _=>k b o hc e) (λb o _ _ hc e _=>⟨o.slots,k b o hc e⟩) (λb o _ e n=>n)
  (λb o hc e=>⟨o,k b o hc e⟩) (λb xs e=>e) (λb o u e=>e) (λb ps e=>⟨#[],by rw[e];simp⟩) (λm hm=>?_) (λb u e=>?_) I.bare
 . obtain⟨_,f1,f2,f3,f4,f5⟩:=f b hb
   exact⟨f3,f1,f4,f5⟩
 . obtain⟨o,es,ep,ho,r⟩:=hm
   exact⟨o,es,ep,k _ o (λz=>(f _ z).2.1 rfl) ho,r⟩
 . refine(I.hok b u e).stay (λc v hc q=>k c v ?_ q) (λc q=>q) λc xs q=>q
   rcases hc with z|z
   . rw[z];exact nit b u e
   . exact nit c _ z
theorem Inv.newK(I:Inv X pins σ H s):X.K.lookup s.heap.objs.size=none:=by
 cases q:X.K.lookup s.heap.objs.size with
 | none=>rfl
 | some o=>exact absurd (Heap.lt_size (I.bk _ o (I.ok.mod.kin _ o q))) (Nat.lt_irrefl _)
def Sq(k:Bool)(K:PySem.W.Frag)(H:Hp)(a:Addr)(xs:List V):Prop:=match k with
 | true=>SqL K H a xs
 | false=>SqT K H a xs
def dI(k:Bool)(h:Heap)(a:Addr)(its:Array Value):Prop:=match k with
 | true=>h.IsList a its
 | false=>h.IsTuple a its
def cE(k:Bool)(h:Heap)(it a:Addr)(i:Nat):Prop:=match k with
 | true=>h.IsListIter it a i
 | false=>h.IsTupleIter it a i
theorem dI.at{k:Bool}{h:Heap}{a:Addr}{its:Array Value}(q:dI k h a its)(e:∀o,h.get? a=some o->h'.get? a=some o):dI k h' a its:=by
 cases k with
 | true=>exact Heap.IsList.at q e
 | false=>exact Heap.IsTuple.at q e
theorem cE.at{k:Bool}{h:Heap}{a it:Addr}{i:Nat}(q:cE k h it a i)(e:∀o,h.get? it=some o->h'.get? it=some o):cE k h' it a i:=by
 cases k with
 | true=>exact Heap.IsListIter.at q e
 | false=>exact Heap.IsTupleIter.at q e
theorem cE.obj{k:Bool}{h:Heap}{a it:Addr}{i:Nat}(q:cE k h it a i):∃o,h.get? it=some o/\∀v,o.data≠.cell v:=by
 cases k with
 | true=>obtain⟨o,e,c,d⟩:=q;exact⟨o,e,λv z=>by rw[d] at z;cases z⟩
 | false=>obtain⟨o,e,c,d⟩:=q;exact⟨o,e,λv z=>by rw[d] at z;cases z⟩
theorem Inv.sq{k:Bool}{a:Addr}{xs:List V}(I:Inv X pins σ H s)(h:Sq k X.K H a xs):∃its:List Value,aU xs its/\dI k s.heap a its.toArray/\xs.length<=sizeLine:=by
 cases k with
 | true=>obtain⟨its,r,p,z⟩:=I.list h;exact⟨its,r,p.isList,z⟩
 | false=>obtain⟨its,r,p,z⟩:=I.tuple h;exact⟨its,r,p,z⟩
theorem Inv.sq_inj{k:Bool}{a:Addr}{xs ys:List V}(I:Inv X pins σ H s)(h:Sq k X.K H a xs)(h':Sq k X.K H a ys):xs=ys:=by
 cases k with
 | true=>exact I.list_inj h h'
 | false=>exact I.tuple_inj h h'
theorem Sq.there{k:Bool}{K:PySem.W.Frag}{a:Addr}{xs:List V}(h:Sq k K H a xs):H a≠none\/∃o,K.lookup a=some o:=by
 cases k with
 | true=>
  rcases h with(h|⟨o,h⟩)|⟨o,its,n,q,_⟩
  . exact .inl (by rw[h];simp)
  . exact .inl (by rw[h];simp)
  . exact .inr ⟨_,q⟩
 | false=>
  rcases h with(h|⟨o,h⟩)|⟨o,its,n,q,_⟩
  . exact .inl (by rw[h];simp)
  . exact .inl (by rw[h];simp)
  . exact .inr ⟨_,q⟩
theorem Inv.sqNe{k:Bool}{a b:Addr}{xs:List V}(I:Inv X pins σ H s)(h:Sq k X.K H a xs)(f:jU X pins H b):a≠b:=by
 intro e
 subst e
 rcases h.there with z|⟨o,z⟩
 . exact z f.1
 . have hb:=I.ok.mod.kin a o z
   rcases f.2.2.2.1 with q|q
   . exact I.ok.noex a o hb q
   . exact absurd (Nat.lt_of_lt_of_le (Heap.lt_size hb) (Nat.le_trans I.ok.bsz q)) (Nat.lt_irrefl _)
end
section
variable {prog:Program} {w:World} {A:Around} {E:Value->Shared->Prop} {s:Shared}
theorem kC{it l:Addr}{i:Nat}{items}{x:Value}{Q:Value->Shared->Prop}(hit:s.heap.IsTupleIter it l i)
 (hl:s.heap.IsTuple l items) (hx:items[i]? = some x)
 (hQ:∀h',h'.IsTupleIter it l (i+1)->Heap.SameBut it s.heap h'->Q x { s with heap:=h' }) :
 wpAny (model prog w) A (Builtin.SmallTypes.nextOf (.ref it)) Q E s:=by
 obtain⟨o,ho,hc,hd⟩:=id hit
 obtain⟨ol,hol,_,nl,hdl⟩:=hl
 unfold Builtin.SmallTypes.nextOf
 refine wpAny_bind (wpAny_callSpecial?_slot (name:=Str.ofString "__next__") hit.typeIs F.slot_tuple_iterator_next
  (wpAny_call_entry F.slot_tuple_iterator_next hit.typeIs F.entry_tuple_iterator_next ?_ (F.args_tuple_iterator_next_1 _)))
 show wpAny _ _ (field (.ref it) 0 >>= _) _ _ s
 refine wpAny_bind (wpAny_field ho hd (x:=.ref l) rfl ?_)
 show wpAny _ _ (if (Value.ref l==Value.none)=true then _ else _) _ _ s
 rw[if_neg (show ¬ ((Value.ref l==Value.none)=true) from bN)]
 show wpAny _ _ (field (.ref it) 1 >>= _) _ _ s
 refine wpAny_bind (wpAny_field ho hd (x:=.int i 0) rfl ?_)
 show wpAny _ _ (seqItems? (.ref l) >>= _) _ _ s
 refine wpAny_bind (wpAny_seqItems hol hdl ?_)
 simp only[Int.toNat_natCast,hx]
 refine wpAny_bind (wpAny_setField ho hd (by simp) (wpAny_pure ⟨x,rfl,wpAny_pure (hQ _ ?_ (Heap.SameBut.update ..))⟩))
 exact⟨_,Heap.get?_update_self _ ho (Obj.isFreed_of_fields (Obj.data_mapFields hd _)),(Obj.cls_mapFields ..).trans hc,by
  rw[Obj.data_mapFields hd];simp[rawInt]⟩
theorem lK{it l:Addr}{i:Nat}{items}{Q:Value->Shared->Prop}(hh:A.handled=none)
 (hit:s.heap.IsTupleIter it l i) (hl:s.heap.IsTuple l items) (hx:items[i]? = none)
 (hE:∀h' e,Heap.ExtBut it s.heap h'->(∃o,h'.get? e=some o/\o.cls=.type "StopIteration")->E (.ref e) { s with heap:=h' }) :
 wpAny (model prog w) A (Builtin.SmallTypes.nextOf (.ref it)) Q E s:=by
 obtain⟨o,ho,hc,hd⟩:=id hit
 obtain⟨ol,hol,_,nl,hdl⟩:=hl
 unfold Builtin.SmallTypes.nextOf
 refine wpAny_bind (wpAny_callSpecial?_slot (name:=Str.ofString "__next__") hit.typeIs F.slot_tuple_iterator_next
  (wpAny_call_entry F.slot_tuple_iterator_next hit.typeIs F.entry_tuple_iterator_next ?_ (F.args_tuple_iterator_next_1 _)))
 show wpAny _ _ (field (.ref it) 0 >>= _) _ _ s
 refine wpAny_bind (wpAny_field ho hd (x:=.ref l) rfl ?_)
 show wpAny _ _ (if (Value.ref l==Value.none)=true then _ else _) _ _ s
 rw[if_neg (show ¬ ((Value.ref l==Value.none)=true) from bN)]
 show wpAny _ _ (field (.ref it) 1 >>= _) _ _ s
 refine wpAny_bind (wpAny_field ho hd (x:=.int i 0) rfl ?_)
 show wpAny _ _ (seqItems? (.ref l) >>= _) _ _ s
 refine wpAny_bind (wpAny_seqItems hol hdl ?_)
 simp only[Int.toNat_natCast,hx]
 refine wpAny_bind (wpAny_rule (wpAny_bind (wpAny_setField ho hd (by simp) ?_)))
 show wpAny _ _ (newExc (.type "StopIteration") [] >>= _) _ _ _
 refine wpAny_bind ?_
 simp only[newExc,newTuple]
 refine wpAny_bind (wpAny_newObj_type ?_ (by size_fits))
 refine wpAny_bind (m:=firstArgMember _ _) (wpAny_of_eq (a:=Value.none) (by first|rfl|(simp only[firstArgMember];rfl)) ?_)
 refine wpAny_newObj_type ?_ (by size_fits)
 simp only[raiseNew]
 refine wpAny_bind (wpAny_handled ?_)
 first|rw[show A.in1.handled=none from hh]|rw[hh]
 refine wpAny_bind (wpAny_pure (wpAny_throw ?_))
 exact hE _ _ (((Heap.SameBut.update ..).extBut.push _).push _) ⟨_,Heap.get?_push_size _ rfl,rfl⟩
theorem fC{k:Bool}{it l:Addr}{i:Nat}{items:Array Value}{x:Value}{Q:Value->Shared->Prop}(hit:cE k s.heap it l i)(hl:dI k s.heap l items)(hx:items[i]? = some x)
 (hQ:∀h',cE k h' it l (i+1)->Heap.SameBut it s.heap h'->Q x { s with heap:=h' }):wpAny (model prog w) A (Builtin.SmallTypes.nextOf (.ref it)) Q E s:=by
 cases k with
 | true=>exact wpAny_nextOf_list_item hit hl hx hQ
 | false=>exact kC hit hl hx hQ
theorem jN{k:Bool}{it l:Addr}{i:Nat}{items:Array Value}{Q:Value->Shared->Prop}(hh:A.handled=none)(hit:cE k s.heap it l i)(hl:dI k s.heap l items)(hx:items[i]? = none)
 (hE:∀h' e,Heap.ExtBut it s.heap h'->(∃o,h'.get? e=some o/\o.cls=.type "StopIteration")->E (.ref e) { s with heap:=h' }):wpAny (model prog w) A (Builtin.SmallTypes.nextOf (.ref it)) Q E s:=by
 cases k with
 | true=>exact wpAny_nextOf_list_end hh hit hl hx hE
 | false=>exact lK hh hit hl hx hE
theorem aAn{ka kb:Bool}{z TI TO i1 i2 l1 l2:Addr}{k1 k2:Nat}{xs ys:Array Value}{x y a b:Value}{Q:Value->Shared->Prop}(D:ZipApart z TI TO i1 i2 l1 l2)
 (hz:IsZip s.heap z TI TO .none) (hTI:IsPair s.heap TI (.ref i1) (.ref i2)) (hTO:IsPair s.heap TO a b)
 (h1:cE ka s.heap i1 l1 k1) (h2:cE kb s.heap i2 l2 k2) (hl1:dI ka s.heap l1 xs) (hl2:dI kb s.heap l2 ys) (hx:xs[k1]? = some x) (hy:ys[k2]? = some y)
 (hQ:∀h',IsZip h' z TI TO (rawInt s.heap.objs.size)->IsPair h' TO x y->cE ka h' i1 l1 (k1+1)->cE kb h' i2 l2 (k2+1)->IsPair h' s.heap.objs.size x y->h'.objs.size=s.heap.objs.size+1 ->
  (∀c o,c≠z->c≠TO->c≠i1->c≠i2->s.heap.get? c=some o->h'.get? c=some o)->Q (.ref s.heap.objs.size) { s with heap:=h' }) :
 wpAny (model prog w) A (Builtin.«zip.__next__» ⟨[.ref z],[]⟩) (λfin s'=>∃v,fin=.done (.ret v)/\Q v s') E s:=by
 show wpAny _ _ (field (.ref z) 2 >>= _) _ _ _
 refine wpAny_bind (wpAny_field hz rfl (x:=.bool false) rfl ?_)
 show wpAny _ _ (field (.ref z) 3 >>= _) _ _ _
 refine wpAny_bind (wpAny_field hz rfl (x:=.ref TI) rfl ?_)
 refine wpAny_bind (wpAny_seqItems hTI rfl ?_)
 show wpAny _ _ (Builtin.SmallTypes.ownedTupleIsFree (.ref z) >>= _) _ _ _
 refine wpAny_bind ?_
 unfold Builtin.SmallTypes.ownedTupleIsFree
 refine wpAny_bind (wpAny_field hz rfl (x:=.none) rfl (wpAny_pure ?_))
 simp only[if_true]
 refine wpAny_bind (wpAny_rule ?_)
 refine wpAny_bind (wpAny_field hz rfl (x:=.ref TO) rfl ?_)
 refine wpAny_bind (wpAny_setField_rec hz (by simp) λh₁ hz₁ hs₁=>?_)
 replace hz₁:IsZip h₁ z TI TO .ellipsis:=hz₁
 refine wpAny_bind ?_
 simp only[List.zipIdx_cons,List.zipIdx_nil,List.forIn_cons,List.forIn_nil]
 refine wpAny_bind (wpAny_bind (wpAny_onRaise ?_))
 show wpAny _ _ (Builtin.SmallTypes.nextOf (.ref i1) >>= _) _ _ _
 refine wpAny_bind (fC (h1.at λo e=>hs₁.extBut _ _ D.i1z e) (hl1.at λo e=>hs₁.extBut _ _ D.l1z e) hx λh₂ h1₂ hs₂=>wpAny_pure ?_)
 have hTO₂:IsPair h₂ TO a b:=hs₂.extBut _ _ D.TOi1 (hs₁.extBut _ _ D.TOz hTO)
 refine wpAny_bind (wpAny_seqItems hTO₂ rfl ?_)
 refine wpAny_bind (wpAny_updateSeq_pair hTO₂ λh₃ hTO₃ hs₃=>?_)
 replace hTO₃:IsPair h₃ TO x b:=hTO₃
 refine wpAny_bind (wpAny_letGo (wpAny_pure ?_))
 refine wpAny_bind (wpAny_bind (wpAny_onRaise ?_))
 show wpAny _ _ (Builtin.SmallTypes.nextOf (.ref i2) >>= _) _ _ _
 refine wpAny_bind (fC (h2.at λo e=>hs₃.extBut _ _ D.TOi2.symm (hs₂.extBut _ _ D.i12.symm (hs₁.extBut _ _ D.i2z e)))
  (hl2.at λo e=>hs₃.extBut _ _ D.l2TO (hs₂.extBut _ _ D.l2i1 (hs₁.extBut _ _ D.l2z e))) hy λh₄ h2₄ hs₄=>wpAny_pure ?_)
 have hTO₄:IsPair h₄ TO x b:=hs₄.extBut _ _ D.TOi2 hTO₃
 refine wpAny_bind (wpAny_seqItems hTO₄ rfl ?_)
 refine wpAny_bind (wpAny_updateSeq_pair hTO₄ λh₅ hTO₅ hs₅=>?_)
 replace hTO₅:IsPair h₅ TO x y:=hTO₅
 refine wpAny_bind (wpAny_letGo (wpAny_pure (wpAny_pure ?_)))
 refine wpAny_bind (wpAny_seqItems hTO₅ rfl ?_)
 refine wpAny_bind (wpAny_newTuple ?_)
 have hsz:h₅.objs.size=s.heap.objs.size:=by rw[hs₅.1,hs₄.1,hs₃.1,hs₂.1,hs₁.1]
 have hz₅:IsZip h₅ z TI TO .ellipsis:=hs₅.extBut _ _ D.TOz.symm (hs₄.extBut _ _ D.i2z.symm (hs₃.extBut _ _ D.TOz.symm (hs₂.extBut _ _ D.i1z.symm hz₁)))
 have hk₅:∀c o,c≠z->c≠TO->c≠i1->c≠i2->s.heap.get? c=some o->h₅.get? c=some o:=λc o c1 c2 c3 c4 e=>
  hs₅.extBut _ _ c2 (hs₄.extBut _ _ c4 (hs₃.extBut _ _ c2 (hs₂.extBut _ _ c3 (hs₁.extBut _ _ c1 e))))
 have h1₅:cE ka h₅ i1 l1 (k1+1):=h1₂.at λo e=>hs₅.extBut _ _ D.TOi1.symm (hs₄.extBut _ _ D.i12 (hs₃.extBut _ _ D.TOi1.symm e))
 have h2₅:cE kb h₅ i2 l2 (k2+1):=h2₄.at λo e=>hs₅.extBut _ _ D.TOi2.symm e
 have hzlt:z<h₅.objs.size:=Heap.lt_size hz₅
 have hTOlt:TO<h₅.objs.size:=Heap.lt_size hTO₅
 show wpAny _ _ (Builtin.SmallTypes.ownedTupleHandOut (.ref z) (.ref h₅.objs.size) >>= _) _ _ _
 refine wpAny_bind ?_
 unfold Builtin.SmallTypes.ownedTupleHandOut
 have hz₆:IsZip (h₅.push { cls:=.type "tuple",data:=.seq #[x,y] }) z TI TO .ellipsis:=Heap.get?_push_of_some _ hz₅
 refine wpAny_bind (wpAny_setField_rec hz₆ (by simp) λh₇ hz₇ hs₇=>?_)
 replace hz₇:IsZip h₇ z TI TO (rawInt h₅.objs.size):=hz₇
 refine wpAny_setField_rec hz₇ (by simp) λh₈ hz₈ hs₈=>?_
 replace hz₈:IsZip h₈ z TI TO (rawInt h₅.objs.size):=hz₈
 have up:∀c o,c≠z->h₅.get? c=some o->h₈.get? c=some o:=λc o c1 e=>hs₈.extBut _ _ c1 (hs₇.extBut _ _ c1 (Heap.get?_push_of_some _ e))
 have hT₈:IsPair h₈ h₅.objs.size x y:=hs₈.extBut _ _ (Nat.ne_of_gt hzlt) (hs₇.extBut _ _ (Nat.ne_of_gt hzlt) (Heap.get?_push_size _ rfl))
 have hz8:h₈.objs.size=h₅.objs.size+1:=by rw[hs₈.1,hs₇.1,Heap.size_push]
 rw[hsz] at hz₈ hT₈ hz8
 refine wpAny_pure ⟨_,rfl,?_⟩
 show Q (.ref h₅.objs.size) _
 rw[hsz]
 exact hQ h₈ hz₈ (up _ _ D.TOz hTO₅) (h1₅.at λo e=>up _ o D.i1z e) (h2₅.at λo e=>up _ o D.i2z e) hT₈ hz8 λc o c1 c2 c3 c4 e=>up c o c1 (hk₅ c o c1 c2 c3 c4 e)
theorem aBE{ka kb:Bool}{z TI TO i1 i2 l1 l2:Addr}{k1 k2:Nat}{xs ys:Array Value}{a b:Value}{Q:Fin->Shared->Prop}(hh:A.handled=none)(D:ZipApart z TI TO i1 i2 l1 l2)
 (hz:IsZip s.heap z TI TO .none) (hTI:IsPair s.heap TI (.ref i1) (.ref i2)) (hTO:IsPair s.heap TO a b)
 (h1:cE ka s.heap i1 l1 k1) (h2:cE kb s.heap i2 l2 k2) (hl1:dI ka s.heap l1 xs) (hl2:dI kb s.heap l2 ys) (hend:xs[k1]? = none\/ys[k2]? = none)
 (hE:∀h' e,(∀c o,c≠z->c≠TO->c≠i1->c≠i2->s.heap.get? c=some o->h'.get? c=some o)->(∃o,h'.get? e=some o/\o.cls=.type "StopIteration")->E (.ref e) { s with heap:=h' }) :
 wpAny (model prog w) A (Builtin.«zip.__next__» ⟨[.ref z],[]⟩) Q E s:=by
 show wpAny _ _ (field (.ref z) 2 >>= _) _ _ _
 refine wpAny_bind (wpAny_field hz rfl (x:=.bool false) rfl ?_)
 show wpAny _ _ (field (.ref z) 3 >>= _) _ _ _
 refine wpAny_bind (wpAny_field hz rfl (x:=.ref TI) rfl ?_)
 refine wpAny_bind (wpAny_seqItems hTI rfl ?_)
 show wpAny _ _ (Builtin.SmallTypes.ownedTupleIsFree (.ref z) >>= _) _ _ _
 refine wpAny_bind ?_
 unfold Builtin.SmallTypes.ownedTupleIsFree
 refine wpAny_bind (wpAny_field hz rfl (x:=.none) rfl (wpAny_pure ?_))
 simp only[if_true]
 refine wpAny_bind (wpAny_rule ?_)
 refine wpAny_bind (wpAny_field hz rfl (x:=.ref TO) rfl ?_)
 refine wpAny_bind (wpAny_setField_rec hz (by simp) λh₁ hz₁ hs₁=>?_)
 replace hz₁:IsZip h₁ z TI TO .ellipsis:=hz₁
 refine wpAny_bind ?_
 simp only[List.zipIdx_cons,List.zipIdx_nil,List.forIn_cons,List.forIn_nil]
 refine wpAny_bind (wpAny_bind (wpAny_onRaise ?_))
 show wpAny _ _ (Builtin.SmallTypes.nextOf (.ref i1) >>= _) _ _ _
 cases hx:xs[k1]? with
 | none=>
  refine wpAny_bind (jN hh (h1.at λo e=>hs₁.extBut _ _ D.i1z e) (hl1.at λo e=>hs₁.extBut _ _ D.l1z e) hx λh₂ e hs₂ he=>?_)
  obtain⟨oe,hoe,hce⟩:=he
  have hz₂:IsZip h₂ z TI TO .ellipsis:=hs₂ _ _ D.i1z.symm hz₁
  have hez:e≠z:=λx=>by subst x;rw[hz₂] at hoe;cases hoe;simp at hce
  refine wpAny_setField_rec hz₂ (by simp) λh₃ _ hs₃=>hE h₃ e (λc o c1 _ c3 _ x=>hs₃.extBut _ _ c1 (hs₂ _ _ c3 (hs₁.extBut _ _ c1 x))) ⟨oe,hs₃.extBut _ _ hez hoe,hce⟩
 | some x=>
  have hy:ys[k2]? = none:=by rcases hend with h|h;rw[hx] at h;cases h;exact h
  refine wpAny_bind (fC (h1.at λo e=>hs₁.extBut _ _ D.i1z e) (hl1.at λo e=>hs₁.extBut _ _ D.l1z e) hx λh₂ h1₂ hs₂=>wpAny_pure ?_)
  have hTO₂:IsPair h₂ TO a b:=hs₂.extBut _ _ D.TOi1 (hs₁.extBut _ _ D.TOz hTO)
  refine wpAny_bind (wpAny_seqItems hTO₂ rfl ?_)
  refine wpAny_bind (wpAny_updateSeq_pair hTO₂ λh₃ hTO₃ hs₃=>?_)
  refine wpAny_bind (wpAny_letGo (wpAny_pure ?_))
  refine wpAny_bind (wpAny_bind (wpAny_onRaise ?_))
  show wpAny _ _ (Builtin.SmallTypes.nextOf (.ref i2) >>= _) _ _ _
  refine wpAny_bind (jN hh (h2.at λo e=>hs₃.extBut _ _ D.TOi2.symm (hs₂.extBut _ _ D.i12.symm (hs₁.extBut _ _ D.i2z e)))
   (hl2.at λo e=>hs₃.extBut _ _ D.l2TO (hs₂.extBut _ _ D.l2i1 (hs₁.extBut _ _ D.l2z e))) hy λh₄ e hs₄ he=>?_)
  obtain⟨oe,hoe,hce⟩:=he
  have hz₄:IsZip h₄ z TI TO .ellipsis:=hs₄ _ _ D.i2z.symm (hs₃.extBut _ _ D.TOz.symm (hs₂.extBut _ _ D.i1z.symm hz₁))
  have hez:e≠z:=λx=>by subst x;rw[hz₄] at hoe;cases hoe;simp at hce
  refine wpAny_setField_rec hz₄ (by simp) λh₅ _ hs₅=>hE h₅ e (λc o c1 c2 c3 c4 x=>hs₅.extBut _ _ c1 (hs₄ _ _ c4 (hs₃.extBut _ _ c2 (hs₂.extBut _ _ c3 (hs₁.extBut _ _ c1 x))))) ⟨oe,hs₅.extBut _ _ hez hoe,hce⟩
theorem mY{ka kb:Bool}{z TI TO i1 i2 l1 l2:Addr}{k1 k2:Nat}{xs ys:Array Value}{x y a b:Value}{Q:Option Value->Shared->Prop}(D:ZipApart z TI TO i1 i2 l1 l2)
 (hz:IsZip s.heap z TI TO .none) (hTI:IsPair s.heap TI (.ref i1) (.ref i2)) (hTO:IsPair s.heap TO a b)
 (h1:cE ka s.heap i1 l1 k1) (h2:cE kb s.heap i2 l2 k2) (hl1:dI ka s.heap l1 xs) (hl2:dI kb s.heap l2 ys) (hx:xs[k1]? = some x) (hy:ys[k2]? = some y)
 (hQ:∀h',IsZip h' z TI TO (rawInt s.heap.objs.size)->IsPair h' TO x y->cE ka h' i1 l1 (k1+1)->cE kb h' i2 l2 (k2+1)->IsPair h' s.heap.objs.size x y->h'.objs.size=s.heap.objs.size+1 ->
  (∀c o,c≠z->c≠TO->c≠i1->c≠i2->s.heap.get? c=some o->h'.get? c=some o)->Q (some (.ref s.heap.objs.size)) { s with heap:=h' }) :
 wpAny (model prog w) A (pyNext (.ref z)) Q E s:=by
 have hT:s.TypeIs (.ref z) "zip" := ⟨_,hz,rfl⟩
 unfold pyNext
 exact wpAny_bind (wpAny_attempt (wpAny_callSpecial?_slot (name:=Str.ofString "__next__") hT F.slot_zip_next
  (wpAny_call_entry F.slot_zip_next hT F.entry_zip_next
   (aAn D hz hTI hTO h1 h2 hl1 hl2 hx hy λh' a1 a2 a3 a4 a5 a6 a7=>wpAny_pure (hQ h' a1 a2 a3 a4 a5 a6 a7)) (F.args_zip_next_1 _))))
theorem nZ{ka kb:Bool}{z TI TO i1 i2 l1 l2:Addr}{k1 k2:Nat}{xs ys:Array Value}{a b:Value}{Q:Option Value->Shared->Prop}(hh:A.handled=none)(D:ZipApart z TI TO i1 i2 l1 l2)
 (hz:IsZip s.heap z TI TO .none) (hTI:IsPair s.heap TI (.ref i1) (.ref i2)) (hTO:IsPair s.heap TO a b)
 (h1:cE ka s.heap i1 l1 k1) (h2:cE kb s.heap i2 l2 k2) (hl1:dI ka s.heap l1 xs) (hl2:dI kb s.heap l2 ys) (hend:xs[k1]? = none\/ys[k2]? = none)
 (hQ:∀h',(∀c o,c≠z->c≠TO->c≠i1->c≠i2->s.heap.get? c=some o->h'.get? c=some o)->Q none { s with heap:=h' }):wpAny (model prog w) A (pyNext (.ref z)) Q E s:=by
 have hT:s.TypeIs (.ref z) "zip" := ⟨_,hz,rfl⟩
 unfold pyNext
 refine wpAny_bind (wpAny_attempt (wpAny_callSpecial?_slot (name:=Str.ofString "__next__") hT F.slot_zip_next
  (wpAny_call_entry F.slot_zip_next hT F.entry_zip_next (aBE hh D hz hTI hTO h1 h2 hl1 hl2 hend λh' e hk he=>?_) (F.args_zip_next_1 _))))
 obtain⟨o,ho,hc⟩:=he
 refine wpAny_bind (wpAny_isInstance (T:= "StopIteration") (b:=true) ⟨o,ho,hc⟩ isSubtype_stop ?_)
 exact wpAny_pure (hQ _ hk)
end
def gU(k:Bool)(l:Addr):Obj:=match k with
 | true=>{ cls:=.type "list_iterator",data:=.fields #[.ref l,.int 0 0] }
 | false=>{ cls:=.type "tuple_iterator",data:=.fields #[.ref l,.int 0 0] }
abbrev zH1(k:Bool)(h:Heap)(l1:Addr):Heap:=h.push (gU k l1)
abbrev zH2(ka kb:Bool)(h:Heap)(l1 l2:Addr):Heap:=(zH1 ka h l1).push (gU kb l2)
abbrev zH3(ka kb:Bool)(h:Heap)(l1 l2:Addr):Heap:=(zH2 ka kb h l1 l2).push { cls:=.type "tuple",data:=.seq #[.ref h.objs.size,.ref (zH1 ka h l1).objs.size] }
abbrev zH4(ka kb:Bool)(h:Heap)(l1 l2:Addr):Heap:=(zH3 ka kb h l1 l2).push { cls:=.type "tuple",data:=.seq #[.none,.none] }
abbrev zH5(ka kb:Bool)(h:Heap)(l1 l2:Addr):Heap:=(zH4 ka kb h l1 l2).push { cls:=.type "zip",data:=.fields #[.none,.bool false,.bool false,.ref (zH2 ka kb h l1 l2).objs.size,.ref (zH3 ka kb h l1 l2).objs.size] }
theorem iS{prog:Program}{w:World}{A:Around}{E:Value->Shared->Prop}{s:Shared}{k:Bool}{l:Addr}{items:Array Value}{Q:Value->Shared->Prop}(hl:dI k s.heap l items)
 (hQ:Q (.ref s.heap.objs.size) { s with heap:=s.heap.push (gU k l) }):wpAny (model prog w) A (pyIter (.ref l)) Q E s:=by
 cases k with
 | true=>exact wpAny_pyIter_list hl hQ
 | false=>exact wpAny_pyIter_tuple hl hQ
theorem wL(ka kb:Bool)(l1 l2:Addr)(xs ys:Array Value) :
 Meets (Builtin.«zip.__new__» ⟨[.type "zip",.ref l1,.ref l2],[]⟩) (λ_ R s=>dI ka s.heap l1 xs/\dI kb s.heap l2 ys /\
  R (.ok (.ret (.ref (zH4 ka kb s.heap l1 l2).objs.size))) { s with heap:=zH5 ka kb s.heap l1 l2 }):=
 .of_wp λprog w A R s h=>by
  obtain⟨hp,g,d,tk,os⟩:=s;obtain⟨hl1,hl2,h⟩:=h
  have hsub:=sub_zip
  have hL1:dI ka (Shared.heap ⟨hp,g,d,tk,os⟩) l1 xs:=hl1
  have hL2:dI kb (Shared.heap ⟨hp.push (gU ka l1),g,d,tk,os⟩) l2 ys:=hl2.at λo e=>Heap.get?_push_of_some _ e
  wp_walk using iS hL1,iS hL2
  exact⟨_,rfl,h⟩
theorem oA{k:Bool}{h:Heap}{it a:Addr}(e:h.get? it=some (gU k a)):cE k h it a 0:=by
 cases k with
 | true=>exact⟨_,e,rfl,rfl⟩
 | false=>exact⟨_,e,rfl,rfl⟩
theorem aAo{prog:Program}{w:World}{A:Around}{E:Value->Shared->Prop}{s:Shared}{ka kb:Bool}{l1 l2:Addr}{xs ys:Array Value}{Q:Value->Shared->Prop}(hl1:dI ka s.heap l1 xs)(hl2:dI kb s.heap l2 ys)
 (h:∀h',IsZip h' (s.heap.objs.size+4) (s.heap.objs.size+2) (s.heap.objs.size+3) .none->IsPair h' (s.heap.objs.size+2) (.ref s.heap.objs.size) (.ref (s.heap.objs.size+1)) ->
  IsPair h' (s.heap.objs.size+3) .none .none->cE ka h' s.heap.objs.size l1 0->cE kb h' (s.heap.objs.size+1) l2 0->h'.objs.size=s.heap.objs.size+5 ->
  (∀c o,s.heap.get? c=some o->h'.get? c=some o)->Q (.ref (s.heap.objs.size+4)) { s with heap:=h' }) :
 wpAny (model prog w) A (call (.type "zip") [.ref l1,.ref l2]) Q E s:=by
 refine callType_new F.called_zip (by decide) (F.typeCall_zip_2 _ _) (F.newCall_zip_2 _ _) (λobj=>F.args_object_init_3 obj _ _) F.entry_zip_new
  (wL ka kb l1 l2 xs ys) ⟨hl1,hl2,?_⟩
 have z1:(zH1 ka s.heap l1).objs.size=s.heap.objs.size+1:=Heap.size_push ..
 have z2:(zH2 ka kb s.heap l1 l2).objs.size=s.heap.objs.size+2:=by rw[Heap.size_push,z1]
 have z3:(zH3 ka kb s.heap l1 l2).objs.size=s.heap.objs.size+3:=by rw[Heap.size_push,z2]
 have z4:(zH4 ka kb s.heap l1 l2).objs.size=s.heap.objs.size+4:=by rw[Heap.size_push,z3]
 have z5:(zH5 ka kb s.heap l1 l2).objs.size=s.heap.objs.size+5:=by rw[Heap.size_push,z4]
 have nf:∀k l,(gU k l).isFreed=false:=by intro k l;cases k <;> rfl
 have g5:(zH5 ka kb s.heap l1 l2).get? (zH4 ka kb s.heap l1 l2).objs.size=some _:=Heap.get?_push_size _ rfl
 have g4:(zH5 ka kb s.heap l1 l2).get? (zH3 ka kb s.heap l1 l2).objs.size=some _:=Heap.get?_push_of_some _ (Heap.get?_push_size _ rfl)
 have g3:(zH5 ka kb s.heap l1 l2).get? (zH2 ka kb s.heap l1 l2).objs.size=some _:=Heap.get?_push_of_some _ (Heap.get?_push_of_some _ (Heap.get?_push_size _ rfl))
 have g2:(zH5 ka kb s.heap l1 l2).get? (zH1 ka s.heap l1).objs.size=some _:=Heap.get?_push_of_some _ (Heap.get?_push_of_some _ (Heap.get?_push_of_some _ (Heap.get?_push_size _ (nf _ _))))
 have g1:(zH5 ka kb s.heap l1 l2).get? s.heap.objs.size=some _:=Heap.get?_push_of_some _ (Heap.get?_push_of_some _ (Heap.get?_push_of_some _ (Heap.get?_push_of_some _ (Heap.get?_push_size _ (nf _ _)))))
 show _/\_
 rw[z2,z3,z4] at g5
 rw[z1,z2] at g3
 rw[z3] at g4
 rw[z1] at g2
 rw[z4]
 exact⟨⟨_,g5,rfl⟩,h _ g5 g3 g4 (oA g1) (oA g2) z5 λc o x=>
  Heap.get?_push_of_some _ (Heap.get?_push_of_some _ (Heap.get?_push_of_some _ (Heap.get?_push_of_some _ (Heap.get?_push_of_some _ x))))⟩
def Itz(K:PySem.W.Frag)(ka kb:Bool)(a b:Addr):It:=
 ⟨λi H=>∃xs ys x y,Sq ka K H a xs/\Sq kb K H b ys/\xs[i]? = some x/\ys[i]? = some y,
  λi H v H'=>∃p x y,v=.ref p/\H p=none/\K.lookup p=none/\H'=upd H p (.tup [x,y])/\∀xs ys,Sq ka K H a xs->Sq kb K H b ys->xs[i]? = some x/\ys[i]? = some y,
  λi H=>∃xs ys,Sq ka K H a xs/\Sq kb K H b ys/\(xs.length<=i\/ys.length<=i)⟩
structure aDu (z TI TO i1 i2:Addr):Prop where
 TIz:TI≠z
 TOz:TO≠z
 i1z:i1≠z
 i2z:i2≠z
 TITO:TI≠TO
 TIi1:TI≠i1
 TIi2:TI≠i2
 TOi1:TO≠i1
 TOi2:TO≠i2
 i12:i1≠i2
theorem aDu.apart{X:Cx}{pins:List (Addr×Obj)}{σ:St}{H:Hp}{s:Shared}{ka kb:Bool}{a b z TI TO i1 i2:Addr}{xs ys:List V}(F:aDu z TI TO i1 i2)(I:Inv X pins σ H s)(f:∀c∈[z,TI,TO,i1,i2],jU X pins H c)
 (ha:Sq ka X.K H a xs) (hb:Sq kb X.K H b ys):ZipApart z TI TO i1 i2 a b:=
 ⟨F.TIz,F.TOz,F.i1z,F.i2z,F.TITO,F.TIi1,F.TIi2,F.TOi1,F.TOi2,F.i12,I.sqNe ha (f z (by simp)),I.sqNe ha (f TO (by simp)),I.sqNe ha (f i1 (by simp)),I.sqNe ha (f i2 (by simp)),
  I.sqNe hb (f z (by simp)),I.sqNe hb (f TO (by simp)),I.sqNe hb (f i1 (by simp)),I.sqNe hb (f i2 (by simp))⟩
theorem aBF{P:Program}{w:World}{K:PySem.W.Frag}{ka kb:Bool}{elts:List Expr}{tk:Nat}{tp:Pos}{z TI TO i1 i2 a b:Addr}(F:aDu z TI TO i1 i2) :
 sX P w K (.Tuple elts tk tp) (Itz K ka kb a b) [z,TI,TO,i1,i2] z (λi h=>IsZip h z TI TO .none/\IsPair h TI (.ref i1) (.ref i2)/\(∃u v,IsPair h TO u v)/\cE ka h i1 a i/\cE kb h i2 b i) where
 mem:=by simp
 obj:=λi h st c hc=>by
  obtain⟨hz,hTI,⟨u,v,hTO⟩,h1,h2⟩:=st
  have hc':c=z\/c=TI\/c=TO\/c=i1\/c=i2:=by simpa using hc
  rcases hc' with rfl|rfl|rfl|rfl|rfl
  . exact⟨_,hz,λv z=>by cases(show Data.fields _=Data.cell v from z)⟩
  . exact⟨_,hTI,λv z=>by cases(show Data.seq _ _=Data.cell v from z)⟩
  . exact⟨_,hTO,λv z=>by cases(show Data.seq _ _=Data.cell v from z)⟩
  . exact h1.obj
  . exact h2.obj
 keep:=λi h h' st k=>by
  obtain⟨hz,hTI,⟨u,v,hTO⟩,h1,h2⟩:=st
  exact⟨k z (by simp) _ hz,k TI (by simp) _ hTI,⟨u,v,k TO (by simp) _ hTO⟩,h1.at λo e=>k i1 (by simp) o e,h2.at λo e=>k i2 (by simp) o e⟩
 item:=by
  intro X hP hw hK hc i pins s σ H E I hf st hg
  subst hP hw hK
  obtain⟨hz,hTI,⟨u,v,hTO⟩,h1,h2⟩:=st
  obtain⟨xs,ys,x,y,ha,hb,hx,hy⟩:=hg
  obtain⟨as,ra,pa,_⟩:=I.sq ha
  obtain⟨bs,rb,pb,_⟩:=I.sq hb
  obtain⟨ux,hux,rx⟩:=ra.get hx
  obtain⟨uy,huy,ry⟩:=rb.get hy
  have D:=F.apart I hf ha hb
  refine mY D hz hTI hTO h1 h2 pa pb (x:=ux) (y:=uy) (by simpa using hux) (by simpa using huy) λh' a1 a2 a3 a4 a5 a6 hk=>?_
  refine⟨_,rfl,wpAny_letOwnedTupleGo_zip (s:={ s with heap:=h' }) a1 λh'' hz' hs'=>?_⟩
  have hTne:s.heap.objs.size≠z:=Nat.ne_of_gt (Heap.lt_size hz)
  have hk2:∀c o,c∉[z,TI,TO,i1,i2]->s.heap.get? c=some o->h''.get? c=some o:=λc o hc e=>by
   have hc':c≠z/\c≠TI/\c≠TO/\c≠i1/\c≠i2:=by simpa using hc
   exact hs'.extBut _ _ hc'.1 (hk c o hc'.1 hc'.2.2.1 hc'.2.2.2.1 hc'.2.2.2.2 e)
  have tI:IsPair h'' TI (.ref i1) (.ref i2):=hs'.extBut _ _ F.TIz (hk _ _ F.TIz F.TITO F.TIi1 F.TIi2 hTI)
  have tO:IsPair h'' TO ux uy:=hs'.extBut _ _ F.TOz a2
  have t1:cE ka h'' i1 a (i+1):=a3.at λo e=>hs'.extBut _ _ F.i1z e
  have t2:cE kb h'' i2 b (i+1):=a4.at λo e=>hs'.extBut _ _ F.i2z e
  have tT:IsPair h'' s.heap.objs.size ux uy:=hs'.extBut _ _ hTne a5
  have hn:H s.heap.objs.size=none:=I.fresh
  have I1:Inv X pins σ (upd H s.heap.objs.size (.tup [x,y])) { s with heap:=h'' }:=by
   refine I.turnsNew (t':=s.toks) hf hk2 (λc hc=>?_) (Nat.le_refl _) ⟨by show 2<=sizeLine;rw[sizeLine_eq];decide,[ux,uy],.cons rx (.cons ry .nil),_,tT,rfl,_,rfl⟩
   have hc':c=z\/c=TI\/c=TO\/c=i1\/c=i2:=by simpa using hc
   rcases hc' with rfl|rfl|rfl|rfl|rfl
   . exact⟨_,hz'⟩
   . exact⟨_,tI⟩
   . exact⟨_,tO⟩
   . obtain⟨o,e,_⟩:=t1.obj;exact⟨o,e⟩
   . obtain⟨o,e,_⟩:=t2.obj;exact⟨o,e⟩
  refine⟨.ref s.heap.objs.size,_,I1,rfl,⟨_,x,y,rfl,hn,I.newK,rfl,λxs' ys' ha' hb'=>?_⟩,⟨hz',tI,⟨_,_,tO⟩,t1,t2⟩,λc hc=>?_⟩
  . rw[I.sq_inj ha' ha,I.sq_inj hb' hb]
    exact⟨hx,hy⟩
  . rw[aJ (Nat.ne_of_lt ?_)]
    . exact(hf c hc).1
    . obtain⟨o,e,_⟩:∃o,s.heap.get? c=some o/\True:=by
       have hc':c=z\/c=TI\/c=TO\/c=i1\/c=i2:=by simpa using hc
       rcases hc' with rfl|rfl|rfl|rfl|rfl
       . exact⟨_,hz,trivial⟩
       . exact⟨_,hTI,trivial⟩
       . exact⟨_,hTO,trivial⟩
       . obtain⟨o,e,_⟩:=h1.obj;exact⟨o,e,trivial⟩
       . obtain⟨o,e,_⟩:=h2.obj;exact⟨o,e,trivial⟩
      exact Heap.lt_size e
 done:=by
  intro X hP hw hK hc i pins s σ H E I hf st hg
  subst hP hw hK
  obtain⟨hz,hTI,⟨u,v,hTO⟩,h1,h2⟩:=st
  obtain⟨xs,ys,ha,hb,hend⟩:=hg
  obtain⟨as,ra,pa,_⟩:=I.sq ha
  obtain⟨bs,rb,pb,_⟩:=I.sq hb
  have la:=ra.length
  have lb:=rb.length
  refine nZ (I.ok.hd hc) (F.apart I hf ha hb) hz hTI hTO h1 h2 pa pb ?_ λh' hk=>⟨rfl,I.turns (t':=s.toks) hf λc o hc e=>?_⟩
  . rcases hend with q|q
    . exact .inl (by simp;omega)
    . exact .inr (by simp;omega)
  . have hc':c≠z/\c≠TI/\c≠TO/\c≠i1/\c≠i2:=by simpa using hc
    exact hk c o hc'.1 hc'.2.2.1 hc'.2.2.2.1 hc'.2.2.2.2 e
 self:=λ_ _ _ _ _ st h=>wpAny_pyIter_zip st.1 h
def aKR(K:PySem.W.Frag)(ta:TA):TI:=λσ H R=>ta σ H λvs H1=>∃(ka kb:Bool) (a b:Addr) (xs ys:List V),vs=[.ref a,.ref b]/\Sq ka K H1 a xs/\Sq kb K H1 b ys/\R (Itz K ka kb a b) H1
theorem aBG:bootBuiltins "zip" = some (.type "zip"):=by kernel_rfl
theorem aBH(n:Nat):aDu (n+4) (n+2) (n+3) n (n+1) where
 TIz:=by simp
 TOz:=by simp
 i1z:=by simp
 i2z:=by simp
 TITO:=by simp
 TIi1:=by simp
 TIi2:=by simp
 TOi1:=by simp
 TOi2:=by simp
 i12:=by simp
theorem aFJ{X:Cx}{a b:Expr}{ta:TA}{p pos:Pos}{elts:List Expr}{tk:Nat}{tp:Pos}(hg:Gl X "zip")(hm:X.mg "zip" = none)(ha:PA X [a,b] ta)(hs:starEach [a,b] X.env=[(false,eval a X.env),(false,eval b X.env)])(hs2:starEach [b] X.env=[(false,eval b X.env)]) :
 PI X (.Tuple elts tk tp) (.Call (.Name "zip" p) [a,b] [] pos) (aKR X.K ta):=by
 intro pins s σ H R I h
 refine Call_ (hX I hg hm aBG (PyProof.Rows.callWith_type1 (thn (ha pos pins s σ H _ I h) λus s1 ⟨vs,H1,I1,r1,q1⟩=>?_) (by rw[hs,hs2]) (by rw[hs2];rfl)))
 obtain⟨ka,kb,a1,b1,xs,ys,e,q1,q2,q⟩:=q1
 subst e
 cases r1 with
 | cons r rr=>
  cases rr with
  | cons r' rr=>
   cases rr
   cases r
   cases r'
   obtain⟨as,ra,pa,_⟩:=I1.sq q1
   obtain⟨bs,rb,pb,_⟩:=I1.sq q2
   refine aAo pa pb λh' hz hTI hTO h1 h2 hsz hk=>wpAny_pyIter_zip (s:={ s1 with heap:=h' }) hz ?_
   refine⟨s1.heap.objs.size+4,_,_,_,H1,rfl,I1.kept (t':=s1.toks) hk,aBF (aBH _),⟨hz,hTI,⟨_,_,hTO⟩,h1,h2⟩,λc hc=>?_,q⟩
   have hc':c=s1.heap.objs.size+4\/c=s1.heap.objs.size+2\/c=s1.heap.objs.size+3\/c=s1.heap.objs.size\/c=s1.heap.objs.size+1:=by simpa using hc
   have hle:s1.heap.objs.size<=c:=by rcases hc' with rfl|rfl|rfl|rfl|rfl <;> omega
   exact I1.fpOk hle (I1.hok.fresh hle)
def Its(x:Str):It:=⟨λi _=>i<x.cps.size,λi H v H'=>H'=H/\∃c,x.cps[i]? = some c/\v=.str ⟨#[c]⟩,λi _=>x.cps.size<=i⟩
theorem tY{P:Program}{w:World}{K:PySem.W.Frag}{tg:Expr}{it:Addr}{x:Str}{t:Tok}{ty:String}(hn:["enumerate", "zip", "dict_itemiterator", "dict_reverseitemiterator", "odict_iterator", "itertools.zip_longest", "itertools.pairwise"].contains ty=false)
 (W:∀A':Around,A'.handled=none->Walks P w A' it [it] [it] x.cps.size (SignAt x) (λi h=>h.IsStrIter it ty x t i))
 (S:∀(A:Around) (i:Nat) (s:Shared) (Q:Value->Shared->Prop) (E:Value->Shared->Prop),s.heap.IsStrIter it ty x t i->Q (.ref it) s->wpAny (model P w) A (pyIter (.ref it)) Q E s):sX P w K tg (Its x) [it] it (λi h=>i<=x.cps.size/\h.IsStrIter it ty x t i) where
 mem:=by simp
 obj:=λi h st b hb=>by
  have e:b=it:=by simpa using hb
  subst e
  obtain⟨_,o,e,c,d⟩:=st
  exact⟨o,e,λv z=>by rw[d] at z;cases z⟩
 keep:=λi h h' st k=>by
  obtain⟨hi,o,e,c,d⟩:=st
  exact⟨hi,o,k it (by simp) o e,c,d⟩
 item:=by
  intro X hP hw hK hc i pins s σ H E I hf st hg
  subst hP hw hK
  obtain⟨f0,f1,f2,f3,f4,f5⟩:=hf it (by simp)
  refine(W X.A (I.ok.hd hc)).item i s _ _ hg st.2 λv h' tk hv st' kk=>?_
  obtain⟨c,u,hcc,rfl⟩:=hv
  have I1:Inv X pins σ H { s with heap:=h',toks:=tk }:=I.turned (λb o hb e=>kk b o (by simpa using hb) e) f0 f1 f3 f4 f5
  obtain⟨o,e,oc,od⟩:=id st'
  exact⟨_,rfl,nO (s:={ s with heap:=h',toks:=tk }) e oc od hn ⟨.str ⟨#[c]⟩,H,I1,⟨u,rfl⟩,⟨rfl,c,hcc,rfl⟩,⟨hg,st'⟩,λb hb=>(hf b hb).1⟩⟩
 done:=by
  intro X hP hw hK hc i pins s σ H E I hf st hg
  subst hP hw hK
  obtain⟨f0,f1,f2,f3,f4,f5⟩:=hf it (by simp)
  have e:i=x.cps.size:=Nat.le_antisymm st.1 hg
  subst e
  exact(W X.A (I.ok.hd hc)).done s _ _ st.2 λh' tk eb=>⟨rfl,I.turned (λb o hb e=>eb b o (by simpa using hb) e) f0 f1 f3 f4 f5⟩
 self:=λA i s Q E st h=>S A i s Q E st.2 h
theorem aFK{X:Cx}{tg l:Expr}{tl:TE}(hl:PE X l tl):PI X tg l (λσ H R=>tl σ H λx H1=>(∃a,x=.ref a/\(((∃xs,SqL X.K H1 a xs)/\R (Itl X.K a) H1)\/((∃xs,SqT X.K H1 a xs)/\R (Itt X.K a) H1)))\/∃z,x=.str z/\R (Its z) H1):=by
 intro pins s σ H R I h
 refine thn (hl pins s σ H _ I h) λv s1 ⟨x,H1,I1,r1,q1⟩=>?_
 rcases q1 with⟨a,e,q⟩|⟨z,e,q⟩
 . subst e
   cases r1
   rcases q with⟨⟨xs,hq⟩,q⟩|⟨⟨xs,hq⟩,q⟩
   . obtain⟨its,rv,p,hz⟩:=I1.list hq
     refine wpAny_pyIter_list p.isList ?_
     refine⟨s1.heap.objs.size,[s1.heap.objs.size],_,_,H1,rfl,I1.kept (t':=s1.toks) λb o e=>Heap.get?_push_of_some _ e,pN a _,⟨_,Heap.get?_push_size _ rfl,rfl,rfl⟩,λb hb=>?_,q⟩
     have e:b=s1.heap.objs.size:=by simpa using hb
     subst e
     exact I1.fpOk (Nat.le_refl _) (I1.hok.fresh (Nat.le_refl _))
   . obtain⟨its,rv,p,hz⟩:=I1.tuple hq
     refine wpAny_pyIter_tuple (show s1.heap.IsTuple a its.toArray from p) ?_
     refine⟨s1.heap.objs.size,[s1.heap.objs.size],_,_,H1,rfl,I1.kept (t':=s1.toks) λb o e=>Heap.get?_push_of_some _ e,vQ a _,⟨_,Heap.get?_push_size _ rfl,rfl,rfl⟩,λb hb=>?_,q⟩
     have e:b=s1.heap.objs.size:=by simpa using hb
     subst e
     exact I1.fpOk (Nat.le_refl _) (I1.hok.fresh (Nat.le_refl _))
 . subst e
   obtain⟨t,rfl⟩:=r1
   cases ha:z.cps.all (·<128) with
   | false=>
    refine wpAny_pyIter_wide ha ⟨s1.heap.objs.size,[s1.heap.objs.size],_,_,H1,rfl,I1.kept (t':=s1.toks) λb o e=>Heap.get?_push_of_some _ e,tY (ty:= "str_iterator") (x:=z) (t:=t) (by decide) (λA' hA=>Walks.strWide hA _ z t) (λA i s Q E st h=>wpAny_pyIter_striter_wide st h),⟨Nat.zero_le _,_,Heap.get?_push_size _ rfl,rfl,rfl⟩,λb hb=>?_,q⟩
    have e:b=s1.heap.objs.size:=by simpa using hb
    subst e
    exact I1.fpOk (Nat.le_refl _) (I1.hok.fresh (Nat.le_refl _))
   | true=>
    refine wpAny_pyIter_ascii ha ⟨s1.heap.objs.size,[s1.heap.objs.size],_,_,H1,rfl,I1.kept (t':=s1.toks) λb o e=>Heap.get?_push_of_some _ e,tY (ty:= "str_ascii_iterator") (x:=z) (t:=t) (by decide) (λA' hA=>Walks.strAscii hA _ z t) (λA i s Q E st h=>wpAny_pyIter_striter_ascii st h),⟨Nat.zero_le _,_,Heap.get?_push_size _ rfl,rfl,rfl⟩,λb hb=>?_,q⟩
    have e:b=s1.heap.objs.size:=by simpa using hb
    subst e
    exact I1.fpOk (Nat.le_refl _) (I1.hok.fresh (Nat.le_refl _))
section
variable {prog:Program} {w:World} {A:Around} {E:Value->Shared->Prop} {s:Shared}
theorem aBI{k:Bool}{e it l:Addr}{i:Nat}{xs:Array Value}{x old:Value}{Q:Value->Shared->Prop}(he:IsEnum s.heap e it i old)(hit:cE k s.heap it l i)(hl:dI k s.heap l xs)(hx:xs[i]? = some x)(hne:e≠it)
 (hQ:∀h',IsEnumOut h' e it ((i:Int)+1) x s.heap.objs.size->cE k h' it l (i+1)->h'.get? s.heap.objs.size=some { cls:=.type "tuple",data:=.seq #[.int i s.toks,x] }->h'.objs.size=s.heap.objs.size+1 ->
  (∀b o,b≠e->b≠it->s.heap.get? b=some o->h'.get? b=some o)->Q (.ref s.heap.objs.size) { s with heap:=h',toks:=s.toks+1 }) :
 wpAny (model prog w) A (Builtin.«enumerate.__next__» ⟨[.ref e],[]⟩) (λfin s'=>∃v,fin=.done (.ret v)/\Q v s') E s:=by
 obtain⟨hp,g,d,tk,os⟩:=s
 refine wpAny_bind (m:=field (.ref e) 2) (wpAny_field he rfl (x:=.ref it) rfl (wpAny_bind (fC hit hl hx λh1 i1 s1=>?_)))
 have s1:Heap.SameBut it hp h1:=s1
 have e1:IsEnum h1 e it i old:=(s1.2 e hne).trans he
 refine wpAny_bind (m:=field (.ref e) 3) (wpAny_field e1 rfl (x:=rawInt i) rfl (wpAny_bind (m:=field (.ref e) 4) (wpAny_field e1 rfl (x:=.none) rfl (wpAny_bind (m:=mkInt i) (wpAny_mkInt ?_)))))
 refine wpAny_bind (m:=setField (.ref e) 3 (rawInt ((i:Int)+1))) (s:=⟨h1,g,d,tk+1,os⟩) (wpAny_setField_rec e1 (by simp) λh2 e2 s2=>?_)
 have s2:Heap.SameBut e h1 h2:=s2
 have e2:IsEnum h2 e it ((i:Int)+1) old:=e2
 refine wpAny_bind (m:=setField (.ref e) 4 .none) (s:=⟨h2,g,d,tk+1,os⟩) (wpAny_setField_rec e2 (by simp) λh3 e3 s3=>?_)
 have s3:Heap.SameBut e h2 h3:=s3
 have e3:IsEnum h3 e it ((i:Int)+1) old:=e3
 refine wpAny_bind (m:=newTuple [.int i tk,x]) (s:=⟨h3,g,d,tk+1,os⟩) (wpAny_newTuple ?_)
 have e4:IsEnum (h3.push { cls:=.type "tuple",data:=.seq #[.int i tk,x] }) e it ((i:Int)+1) old:=Heap.get?_push_of_some _ e3
 generalize q4:h3.push { cls:=.type "tuple",data:=.seq #[.int i tk,x] }=h4 at e4
 have z3:h3.objs.size=hp.objs.size:=by rw[s3.1,s2.1,s1.1]
 have lt:e<hp.objs.size:=Heap.lt_size he
 have t4:h4.get? hp.objs.size=some { cls:=.type "tuple",data:=.seq #[.int i tk,x] }:=by rw[<-q4,<-z3];exact Heap.get?_push_size _ rfl
 have z4:h4.objs.size=hp.objs.size+1:=by rw[<-q4,Heap.size_push,z3]
 have k4:∀b o,b≠e->b≠it->hp.get? b=some o->h4.get? b=some o:=λb o n1 n2 hb=>by
  rw[<-q4];exact Heap.get?_push_of_some _ (s3.extBut b o n1 (s2.extBut b o n1 (s1.extBut b o n2 hb)))
 have i4:cE k h4 it l (i+1):=i1.at λo ho=>by rw[<-q4];exact Heap.get?_push_of_some _ (s3.extBut _ _ hne.symm (s2.extBut _ _ hne.symm ho))
 rw[z3]
 refine wpAny_bind (m:=Builtin.SmallTypes.ownedTupleIsFree (.ref e)) (s:=⟨h4,g,d,tk+1,os⟩) ?_
 unfold Builtin.SmallTypes.ownedTupleIsFree
 refine wpAny_bind (wpAny_field e4 rfl (x:=.none) rfl (wpAny_pure ?_))
 simp only[if_true]
 refine wpAny_bind (wpAny_rule (wpAny_bind (wpAny_field e4 rfl (x:=old) rfl (wpAny_bind (wpAny_setField_rec e4 (by simp) λh5 e5 s5=>?_)))))
 have s5:Heap.SameBut e h4 h5:=s5
 have e5:IsEnum h5 e it ((i:Int)+1) x:=e5
 refine wpAny_bind (m:=Builtin.SmallTypes.ownedTupleHandOut (.ref e) (.ref hp.objs.size)) (s:=⟨h5,g,d,tk+1,os⟩) ?_
 unfold Builtin.SmallTypes.ownedTupleHandOut
 refine wpAny_bind (wpAny_setField_rec e5 (by simp) λh6 e6 s6=>?_)
 have s6:Heap.SameBut e h5 h6:=s6
 have e6:IsEnumOut h6 e it ((i:Int)+1) x hp.objs.size:=e6
 refine wpAny_setField_rec e6 (by simp) λh7 e7 s7=>?_
 have s7:Heap.SameBut e h6 h7:=s7
 have e7:IsEnumOut h7 e it ((i:Int)+1) x hp.objs.size:=e7
 have up:∀b o,b≠e->h4.get? b=some o->h7.get? b=some o:=λb o n hb=>s7.extBut _ _ n (s6.extBut _ _ n (s5.extBut _ _ n hb))
 exact wpAny_bind (wpAny_letGo (wpAny_pure ⟨_,rfl,hQ h7 e7 (i4.at λo ho=>up _ _ hne.symm ho) (up _ _ (Nat.ne_of_gt lt) t4) (by rw[s7.1,s6.1,s5.1,z4]) λb o n1 n2 hb=>up b o n1 (k4 b o n1 n2 hb)⟩))
theorem tZ{k:Bool}{e it l:Addr}{i:Nat}{xs:Array Value}{x old:Value}{Q:Option Value->Shared->Prop}(he:IsEnum s.heap e it i old)(hit:cE k s.heap it l i)(hl:dI k s.heap l xs)(hx:xs[i]? = some x)(hne:e≠it)
 (hQ:∀h',IsEnumOut h' e it ((i:Int)+1) x s.heap.objs.size->cE k h' it l (i+1)->h'.get? s.heap.objs.size=some { cls:=.type "tuple",data:=.seq #[.int i s.toks,x] }->h'.objs.size=s.heap.objs.size+1 ->
  (∀b o,b≠e->b≠it->s.heap.get? b=some o->h'.get? b=some o)->Q (some (.ref s.heap.objs.size)) { s with heap:=h',toks:=s.toks+1 }):wpAny (model prog w) A (pyNext (.ref e)) Q E s:=by
 have T:s.TypeIs (.ref e) "enumerate" := ⟨_,he,rfl⟩
 unfold pyNext
 exact wpAny_bind (wpAny_attempt (wpAny_callSpecial?_slot (name:=Str.ofString "__next__") T F.slot_enumerate_next (wpAny_call_entry F.slot_enumerate_next T F.entry_enumerate_next (aBI he hit hl hx hne λh' a b c d k=>wpAny_pure (hQ h' a b c d k)) (F.args_enumerate_next_1 _))))
theorem wM{k:Bool}{e it l:Addr}{i:Nat}{xs:Array Value}{old:Value}{Q:Option Value->Shared->Prop}(hh:A.handled=none)(he:IsEnum s.heap e it i old)(hit:cE k s.heap it l i)(hl:dI k s.heap l xs)(hx:xs[i]? = none)
 (hQ:∀h',Heap.ExtBut it s.heap h'->Q none { s with heap:=h' }):wpAny (model prog w) A (pyNext (.ref e)) Q E s:=by
 have T:s.TypeIs (.ref e) "enumerate" := ⟨_,he,rfl⟩
 unfold pyNext
 refine wpAny_bind (wpAny_attempt (wpAny_callSpecial?_slot (name:=Str.ofString "__next__") T F.slot_enumerate_next (wpAny_call_entry F.slot_enumerate_next T F.entry_enumerate_next ?_ (F.args_enumerate_next_1 _))))
 refine wpAny_bind (m:=field (.ref e) 2) (wpAny_field he rfl (x:=.ref it) rfl (wpAny_bind (jN hh hit hl hx λh' x g ⟨o,ho,hc⟩=>?_)))
 exact wpAny_bind (wpAny_isInstance (T:= "StopIteration") (b:=true) ⟨o,ho,hc⟩ isSubtype_stop (wpAny_pure (hQ _ g)))
end
def aBJ(it:Addr):Obj:={ cls:=.type "enumerate",data:=.fields #[.none,.bool false,.ref it,rawInt 0,.none,.none] }
theorem aAp(k:Bool)(l:Addr)(xs:Array Value)(ol:Obj):Meets (Builtin.«enumerate.__new__» ⟨[.type "enumerate",.ref l],[]⟩) (λ_ R s=>s.heap.get? l=some ol/\dI k s.heap l xs /\
 R (.ok (.ret (.ref (s.heap.push (gU k l)).objs.size))) { s with heap:=(s.heap.push (gU k l)).push (aBJ s.heap.objs.size) }):=
 .of_wp λprog w A R s h=>by
  obtain⟨hp,g,d,tk,os⟩:=s;obtain⟨ho,hl,h⟩:=h
  have hsub:=sub_enumerate
  have hL:dI k (Shared.heap ⟨hp,g,d,tk,os⟩) l xs:=hl
  wp_walk using PySem.AutoSeq1.wpAny_loadPart' ho
  refine wpAny_stack_any λst=>wpAny_pure ?_
  split
  . rename_i c _ _ _ _ _
    cases(c==Value.type "enumerate") <;> (wp_walk using PySem.AutoSeq1.wpAny_loadPart' ho,iS hL;exact⟨_,rfl,h⟩)
  . wp_walk using PySem.AutoSeq1.wpAny_loadPart' ho,iS hL
    exact⟨_,rfl,h⟩
theorem aBK{prog:Program}{w:World}{A:Around}{E:Value->Shared->Prop}{s:Shared}{k:Bool}{l:Addr}{xs:Array Value}{Q:Value->Shared->Prop}(hl:dI k s.heap l xs)
 (h:∀h',IsEnum h' (s.heap.objs.size+1) s.heap.objs.size 0 .none->cE k h' s.heap.objs.size l 0->(∀b o,s.heap.get? b=some o->h'.get? b=some o)->Q (.ref (s.heap.objs.size+1)) { s with heap:=h' }) :
 wpAny (model prog w) A (call (.type "enumerate") [.ref l]) Q E s:=by
 obtain⟨ol,ho⟩:∃ol,s.heap.get? l=some ol:=by
  cases k with
  | true=>obtain⟨o,e,_⟩:=hl;exact⟨o,e⟩
  | false=>obtain⟨o,e,_⟩:=hl;exact⟨o,e⟩
 refine callType_new F.called_enumerate (by decide) (F.typeCall_enumerate_1 _) (F.newCall_enumerate_1 _) (λobj=>F.args_object_init_2 obj _) F.entry_enumerate_new (aAp k l xs ol) ⟨ho,hl,?_⟩
 have z:(s.heap.push (gU k l)).objs.size=s.heap.objs.size+1:=Heap.size_push ..
 have nf:(gU k l).isFreed=false:=by cases k <;> rfl
 have g2:((s.heap.push (gU k l)).push (aBJ s.heap.objs.size)).get? (s.heap.push (gU k l)).objs.size=some (aBJ s.heap.objs.size):=Heap.get?_push_size _ rfl
 show _/\_
 rw[z] at g2 ⊢
 exact⟨⟨_,g2,rfl⟩,h _ g2 (oA (Heap.get?_push_of_some _ (Heap.get?_push_size _ nf))) λb o x=>Heap.get?_push_of_some _ (Heap.get?_push_of_some _ x)⟩
def Ite(K:PySem.W.Frag)(k:Bool)(a:Addr):It:=
 ⟨λi H=>∃xs x,Sq k K H a xs/\xs[i]? = some x,
  λi H v H'=>∃p x,v=.ref p/\H p=none/\K.lookup p=none/\H'=upd H p (.tup [.int i,x])/\∀xs,Sq k K H a xs->xs[i]? = some x,
  λi H=>∃xs,Sq k K H a xs/\xs.length<=i⟩
theorem aDv{P:Program}{w:World}{K:PySem.W.Frag}{k:Bool}{elts:List Expr}{tk:Nat}{tp:Pos}{e it a:Addr}(ne:e≠it) :
 sX P w K (.Tuple elts tk tp) (Ite K k a) [e,it] e (λi h=>(∃old,IsEnum h e it i old)/\cE k h it a i) where
 mem:=by simp
 obj:=λi h st c hc=>by
  obtain⟨⟨old,he⟩,h1⟩:=st
  have hc':c=e\/c=it:=by simpa using hc
  rcases hc' with rfl|rfl
  . exact⟨_,he,λv z=>by cases(show Data.fields _=Data.cell v from z)⟩
  . exact h1.obj
 keep:=λi h h' st kp=>by
  obtain⟨⟨old,he⟩,h1⟩:=st
  exact⟨⟨old,kp e (by simp) _ he⟩,h1.at λo q=>kp it (by simp) o q⟩
 item:=by
  intro X hP hw hK hc i pins s σ H E I hf st hg
  subst hP hw hK
  obtain⟨⟨old,he⟩,h1⟩:=st
  obtain⟨xs,x,ha,hx⟩:=hg
  obtain⟨as,ra,pa,_⟩:=I.sq ha
  obtain⟨ux,hux,rx⟩:=ra.get hx
  refine tZ he h1 pa (x:=ux) (by simpa using hux) ne λh' a1 a2 a3 a4 hk=>?_
  refine⟨_,rfl,wpAny_letOwnedTupleGo_enum (s:={ s with heap:=h',toks:=s.toks+1 }) a1 λh'' e' hs'=>?_⟩
  have lt:s.heap.objs.size≠e:=Nat.ne_of_gt (Heap.lt_size he)
  have hk2:∀c o,c∉[e,it]->s.heap.get? c=some o->h''.get? c=some o:=λc o hc q=>by
   have hc':c≠e/\c≠it:=by simpa using hc
   exact hs'.extBut _ _ hc'.1 (hk c o hc'.1 hc'.2 q)
  have t1:cE k h'' it a (i+1):=a2.at λo q=>hs'.extBut _ _ ne.symm q
  have tT:h''.get? s.heap.objs.size=some { cls:=.type "tuple",data:=.seq #[.int i s.toks,ux] }:=hs'.extBut _ _ lt a3
  have hn:H s.heap.objs.size=none:=I.fresh
  have I1:Inv X pins σ (upd H s.heap.objs.size (.tup [.int i,x])) { s with heap:=h'',toks:=s.toks+1 }:=by
   refine I.turnsNew (t':=s.toks+1) hf hk2 (λc hc=>?_) (Nat.le_refl _) ⟨by show 2<=sizeLine;rw[sizeLine_eq];decide,[.int i s.toks,ux],.cons ⟨_,rfl⟩ (.cons rx .nil),_,tT,rfl,_,rfl⟩
   have hc':c=e\/c=it:=by simpa using hc
   rcases hc' with rfl|rfl
   . exact⟨_,e'⟩
   . obtain⟨o,q,_⟩:=t1.obj;exact⟨o,q⟩
  refine⟨.ref s.heap.objs.size,_,I1,rfl,⟨_,x,rfl,hn,I.newK,rfl,λxs' ha'=>?_⟩,⟨⟨_,e'⟩,t1⟩,λc hc=>?_⟩
  . rw[I.sq_inj ha' ha]
    exact hx
  . rw[aJ (Nat.ne_of_lt ?_)]
    . exact(hf c hc).1
    . have hc':c=e\/c=it:=by simpa using hc
      rcases hc' with rfl|rfl
      . exact Heap.lt_size he
      . obtain⟨o,q,_⟩:=h1.obj;exact Heap.lt_size q
 done:=by
  intro X hP hw hK hc i pins s σ H E I hf st hg
  subst hP hw hK
  obtain⟨⟨old,he⟩,h1⟩:=st
  obtain⟨xs,ha,hend⟩:=hg
  obtain⟨as,ra,pa,_⟩:=I.sq ha
  have la:=ra.length
  refine wM (I.ok.hd hc) he h1 pa (by simp;omega) λh' hk=>⟨rfl,I.turns (t':=s.toks) hf λc o hc q=>hk c o ?_ q⟩
  have hc':c≠e/\c≠it:=by simpa using hc
  exact hc'.2
 self:=λ_ _ _ _ _ st h=>let ⟨_,q⟩:=st.1;wpAny_pyIter_enum q h
def iEn(K:PySem.W.Frag)(ta:TA):TI:=λσ H R=>ta σ H λvs H1=>∃(k:Bool) (a:Addr) (xs:List V),vs=[.ref a]/\Sq k K H1 a xs/\R (Ite K k a) H1
theorem aAq:bootBuiltins "enumerate" = some (.type "enumerate"):=by kernel_rfl
theorem aDw{X:Cx}{a:Expr}{ta:TA}{p pos:Pos}{elts:List Expr}{tk:Nat}{tp:Pos}(hg:Gl X "enumerate")(hm:X.mg "enumerate" = none)(ha:PA X [a] ta)(hs:starEach [a] X.env=[(false,eval a X.env)]) :
 PI X (.Tuple elts tk tp) (.Call (.Name "enumerate" p) [a] [] pos) (iEn X.K ta):=by
 intro pins s σ H R I h
 refine Call_ (hX I hg hm aAq (PyProof.Rows.callWith_type1 (thn (ha pos pins s σ H _ I h) λus s1 ⟨vs,H1,I1,r1,q1⟩=>?_) (by rw[hs];rfl) rfl))
 obtain⟨k,a1,xs,e,q1,q⟩:=q1
 subst e
 cases r1 with
 | cons r rr=>
  cases rr
  cases r
  obtain⟨as,ra,pa,_⟩:=I1.sq q1
  refine aBK pa λh' he h1 hk=>wpAny_pyIter_enum (s:={ s1 with heap:=h' }) he ?_
  refine⟨s1.heap.objs.size+1,_,_,_,H1,rfl,I1.kept (t':=s1.toks) hk,aDv (Nat.succ_ne_self _),⟨⟨_,he⟩,h1⟩,λc hc=>?_,q⟩
  have hc':c=s1.heap.objs.size+1\/c=s1.heap.objs.size:=by simpa using hc
  have hle:s1.heap.objs.size<=c:=by rcases hc' with rfl|rfl <;> omega
  exact I1.fpOk hle (I1.hok.fresh hle)
abbrev aFL(h:Heap)(z TI TO:Addr)(f0:Value)(f1:Bool):Prop:=
 h.get? z=some { cls:=.type "zip",dict:=none,data:=.fields #[f0,.bool f1,.bool false,.ref TI,.ref TO],slots:=#[] }
section
variable {prog:Program} {w:World} {A:Around} {E:Value->Shared->Prop} {s:Shared}
end
structure aLH (ka kb:Bool) (z TI TO i1 i2 l1 l2 S:Nat) (xs ys:Array Value) (i:Nat) (h:Heap) (acc:Array Value) (c:Nat):Prop where
 zip:(i=0/\IsZip h z TI TO .none/\∃u v,IsPair h TO u v)\/∃(t:Nat) (f:Bool) (ot:Obj),aFL h z TI TO (rawInt t) f/\h.get? t=some ot/\t≠z/\t≠i1/\t≠i2/\t≠S
 TI:IsPair h TI (.ref i1) (.ref i2)
 i1:cE ka h i1 l1 i
 i2:cE kb h i2 l2 i
 l1:dI ka h l1 xs
 l2:dI kb h l2 ys
 lst:h.get? S=some { cls:=.type "list",dict:=none,data:=.seq acc c,slots:=#[] }
 size:h.objs.size=S+1+i
 acc:acc=((List.range i).map λj=>Value.ref (S+1+j)).toArray
 pair:∀j,j<i->∃x y,xs[j]? = some x/\ys[j]? = some y/\IsPair h (S+1+j) x y
section
variable {prog:Program} {w:World} {A:Around} {s:Shared} {R:Result->Shared->Prop}
variable {ka kb:Bool} {z TI TO i1 i2 l1 l2 S:Nat} {xs ys:Array Value}
end
section
variable {prog:Program} {w:World} {A:Around} {E:Value->Shared->Prop} {s:Shared} {R:Result->Shared->Prop}
variable {ka kb:Bool} {z TI TO i1 i2 l1 l2:Nat} {xs ys:Array Value}
structure wN (ka kb:Bool) (z TI TO i1 i2 l1 l2:Nat) (xs ys:Array Value) (h:Heap):Prop where
 zip:IsZip h z TI TO .none
 TI:IsPair h TI (.ref i1) (.ref i2)
 TO:∃u v,IsPair h TO u v
 i1:cE ka h i1 l1 0
 i2:cE kb h i2 l2 0
 l1:dI ka h l1 xs
 l2:dI kb h l2 ys
theorem wN.at{h h':Heap}(Z:wN ka kb z TI TO i1 i2 l1 l2 xs ys h)(k:∀b o,b=z\/b=TI\/b=TO\/b=i1\/b=i2\/b=l1\/b=l2->h.get? b=some o->h'.get? b=some o):wN ka kb z TI TO i1 i2 l1 l2 xs ys h' where
 zip:=k _ _ (by simp) Z.zip
 TI:=k _ _ (by simp) Z.TI
 TO:=let ⟨u,v,q⟩:=Z.TO;⟨u,v,k _ _ (by simp) q⟩
 i1:=Z.i1.at λo e=>k _ _ (by simp) e
 i2:=Z.i2.at λo e=>k _ _ (by simp) e
 l1:=Z.l1.at λo e=>k _ _ (by simp) e
 l2:=Z.l2.at λo e=>k _ _ (by simp) e
end
section
variable {X:Cx} {pins:List (Addr×Obj)} {σ:St} {H H':Hp} {s:Shared} {h':Heap}
structure Lz (H H':Hp) (l:Nat) (xs ys:List V):Prop where
 same:∀b u,H b=some u->H' b=some u
 free:H l=none
 lst:H' l=some (.lst ((List.range (min xs.length ys.length)).map λj=>.ref (l+1+j)))
 pair:∀(j:Nat) (x y:V),xs[j]? = some x->ys[j]? = some y->H' (l+1+j)=some (.tup [x,y])
end
end L2
end
noncomputable section
namespace Hp
open PySem PySem.Spec PyProof.Rows L2
theorem Kp.refl(R:Addr->Prop)(H:Hp):Kp R H H:=λ_ _ h _=>h
theorem Kp.same{R:Addr->Prop}{H H':Hp}(s:aL H H'):Kp R H H':=λa o h _=>s a o h
theorem Kp.trans{R:Addr->Prop}{H H1 H2:Hp}(a:Kp R H H1)(b:Kp R H1 H2):Kp R H H2:=λc o h n=>b c o (a c o h n) n
section
variable {K:Fg} {RT Y old R:Addr->Prop} {σ:Sg} {σV:L2.St} {H H':Hp}
theorem Kp.seqL(k:Kp R H H'){a:Addr}{xs:List V}(n:¬ R a)(h:SqL K H a xs):SqL K H' a xs:=by
 rcases h with(h|⟨o,h⟩)|h
 . exact .inl (.inl (k _ _ h n))
 . exact .inl (.inr ⟨o,k _ _ h n⟩)
 . exact .inr h
theorem Kp.seqT(k:Kp R H H')(hR:∀a,R a->∃ys,H a=some (.lst ys)){a:Addr}{xs:List V}(h:SqT K H a xs):SqT K H' a xs:=by
 rcases h with(h|⟨o,h⟩)|h
 . refine .inl (.inl (k _ _ h λz=>?_))
   obtain⟨ys,e⟩:=hR a z
   rw[h] at e;cases e
 . refine .inl (.inr ⟨o,k _ _ h λz=>?_⟩)
   obtain⟨ys,e⟩:=hR a z
   rw[h] at e;cases e
 . exact .inr h
theorem Reps.kp{ex:Addr->Prop}{ds:List D}{xs:List V}(r:Reps K H ex ds xs)(k:Kp R H H')(hR:∀a,R a->∃ys,H a=some (.lst ys))(hx:∀a,R a->ex a):Reps K H' ex ds xs:=
 r.keep λa o e hl=>k a o e λz=>by
  obtain⟨ys,e'⟩:=hR a z
  rw[e] at e'
  cases e'
  exact hl ys rfl (hx a z)
theorem Rep.kp{ex:Addr->Prop}{d:D}{x:V}(r:Rep K H ex d x)(k:Kp R H H')(hR:∀a,R a->∃ys,H a=some (.lst ys))(hx:∀a,R a->ex a):Rep K H' ex d x:=
 r.keep λa o e hl=>k a o e λz=>by
  obtain⟨ys,e'⟩:=hR a z
  rw[e] at e'
  cases e'
  exact hl ys rfl (hx a z)
def rtF(RT:Addr->Prop)(σ:Sg)(σV:L2.St)(al:List Nat)(a:Addr):Prop:=RT a/\¬ alR σ σV al a
theorem dU:∀(al:List Nat) (σ:Sg) (i:Nat),(freeze σ al)[i]? = (σ[i]?).map λs=>if i∈al then s.freeze else s
 | [],σ,i=>by cases q:σ[i]? <;> simp[freeze,q]
 | j::al,σ,i=>by
  rw[freeze,dU al]
  cases qj:σ[j]? with
  | none=>
   simp only
   cases q:σ[i]? with
   | none=>rfl
   | some s=>
    have hne:i≠j:=λe=>by subst e;rw[q] at qj;cases qj
    simp[hne]
  | some sj=>
   simp only
   by_cases hij:i=j
   . subst hij
     have hl:i<σ.length:=(List.getElem?_eq_some_iff.mp qj).1
     rw[List.getElem?_set_self hl,qj]
     simp only[Option.map_some,List.mem_cons,true_or,if_true]
     split
     . cases sj <;> rfl
     . rfl
   . rw[List.getElem?_set_ne (Ne.symm hij)]
     simp[hij]
theorem oC:∀(al:List Nat) (σ:Sg),(freeze σ al).length=σ.length
 | [],σ=>rfl
 | j::al,σ=>by
  rw[freeze,oC al]
  split
  . rw[List.length_set]
  . rfl
theorem freeze_sh{al:List Nat}{i:Nat}{pa:Bool}{d:D}(h:(freeze σ al)[i]? = some (.sh pa d)):σ[i]? = some (.sh pa d)\/∃ds,i∈al/\σ[i]? = some (.own pa ds)/\d=.lst ds:=by
 rw[dU] at h
 cases q:σ[i]? with
 | none=>rw[q] at h;cases h
 | some s=>
  rw[q] at h
  have h:(if i∈al then s.freeze else s)=.sh pa d:=Option.some.inj h
  split at h
  . rename_i hi
    cases s with
    | dead=>cases h
    | sh pa' d'=>cases h;exact .inl rfl
    | own pa' ds'=>cases h;exact .inr ⟨ds',hi,rfl,rfl⟩
    | lent _=>cases h
    | own2 _=>cases h
  . exact .inl (by rw[h])
theorem dW{al:List Nat}{i:Nat}{pa:Bool}{ds:List D}(h:(freeze σ al)[i]? = some (.own pa ds)):σ[i]? = some (.own pa ds)/\i∉al:=by
 rw[dU] at h
 cases q:σ[i]? with
 | none=>rw[q] at h;cases h
 | some s=>
  rw[q] at h
  have h:(if i∈al then s.freeze else s)=.own pa ds:=Option.some.inj h
  split at h
  . cases s <;> cases h
  . rename_i hi
    exact⟨by rw[h],hi⟩
theorem uA{al:List Nat}{i:Nat}{ds:List D}(h:(freeze σ al)[i]? = some (.lent ds)):σ[i]? = some (.lent ds):=by
 rw[dU] at h
 cases q:σ[i]? with
 | none=>rw[q] at h;cases h
 | some s=>
  rw[q] at h
  have h:(if i∈al then s.freeze else s)=.lent ds:=Option.some.inj h
  split at h
  . cases s with
    | lent d=>exact congrArg some h
    | _=>cases h
  . rw[h]
theorem uB{al:List Nat}{i:Nat}{ds:List (List D)}(h:(freeze σ al)[i]? = some (.own2 ds)):σ[i]? = some (.own2 ds):=by
 rw[dU] at h
 cases q:σ[i]? with
 | none=>rw[q] at h;cases h
 | some s=>
  rw[q] at h
  have h:(if i∈al then s.freeze else s)=.own2 ds:=Option.some.inj h
  split at h
  . cases s with
    | own2 d=>exact congrArg some h
    | _=>cases h
  . rw[h]
theorem Sx.frz(S:Sx K RT Y old σ σV H)(al:List Nat):Sx K (rtF RT σ σV al) Y old (freeze σ al) σV H where
 sh:=λi pa d h=>by
  rcases freeze_sh h with h|⟨ds,hi,ho,e⟩
  . obtain⟨v,h1,h2⟩:=S.sh i pa d h
    exact⟨v,h1,h2.weak λa z=>z.elim (λz=>.inl z.1) .inr⟩
  . subst e
    obtain⟨a,xs,h1,h2,h3,h4,h5⟩:=S.own i pa ds ho
    refine⟨.ref a,h1,a,xs,rfl,SqL.of h2,?_,h5.weak λa z=>z.elim (λz=>.inl z.1) .inr⟩
    rintro (z|z|⟨_,z⟩)
    . exact z.2 ⟨i,hi,⟨pa,ds,ho⟩,h1⟩
    . exact h4 (S.yo a z)
    . exact h4 z
 own:=λi pa ds h=>by
  obtain⟨h,hi⟩:=dW h
  obtain⟨a,xs,h1,h2,h3,h4,h5⟩:=S.own i pa ds h
  refine⟨a,xs,h1,h2,⟨h3,?_⟩,h4,h5.weak λa z=>z.elim (λz=>.inl z.1) .inr⟩
  rintro ⟨j,hj,⟨pa',ds',q⟩,q'⟩
  have:=S.inj i j pa pa' ds ds' a h q h1 q'
  subst this
  exact hi hj
 trk:=λa z=>S.trk a (z.elim (λz=>.inl z.1) .inr)
 yo:=S.yo
 tk:=S.tk
 rt:=λa z=>S.rt a z.1
 inj:=λi j pa pa' ds ds' a h1 h2 h3 h4=>S.inj i j pa pa' ds ds' a (dW h1).1 (dW h2).1 h3 h4
 len:=by rw[oC];exact S.len
 lx:=S.lx.imp id (λ_ _ e=>⟨uA e,rfl⟩) (λ_ _ _ _ _ _ e=>e) (λa xs e z o=>⟨e,z,λ⟨j,_,⟨pa,ds,q⟩,q'⟩=>by
  obtain⟨b,ys,h1,h2,h3,h4,h5⟩:=S.own j pa ds q
  rw[q'] at h1
  cases h1
  exact h4 o⟩) (λ_ _ r=>r.weak λa z=>z.imp (·.1) id) (λ_ _ e=>⟨uB e,rfl⟩) (λ_ _ _ _ _ _ e=>e) (λp xs e z=>⟨e,⟨z.1,λ⟨j,_,⟨pa,ds,q⟩,q'⟩=>z.2.2 j pa ds q q'⟩,z.2.1,λk pa ds q=>z.2.2 k pa ds (dW q).1⟩) λ_ _ r=>r
theorem Tk.new{p:Addr}{o:HO}(t:Tk K H)(h:K.lookup p=none):Tk K (upd H p o):=λb hb=>by
 by_cases e:b=p
 . rw[e];exact h
 . rw[aJ e] at hb;exact t b hb
def Nw(K:Fg)(H:Hp)(a:Addr):Prop:=H a=none/\K.lookup a=none
theorem yI{a:Addr}{xs:List V}(q:SqL K H a xs):¬ Nw K H a:=by
 rintro ⟨n,k⟩
 rcases q with(q|⟨o,q⟩)|⟨o,its,m,q,_⟩
 . rw[n] at q;cases q
 . rw[n] at q;cases q
 . rw[k] at q;cases q
theorem Reps.outN{ex:Addr->Prop}{d:List D}{v:List V}(h:Reps K H ex d v):Reps K H (λb=>ex b\/Nw K H b) d v:=
 Reps.imp (λ_ _ q=>q) (λb xs nb q=>⟨λz=>z.elim nb (yI q),q⟩) (λ_ _ q=>q) d v h
theorem RvN.sub{ex:Addr->Prop}{v:Vl}{d:D}{x:V}(h:Rep K H' (λa=>exV RT Y old σ σV v.pa v.al a\/ex a) d x):Rep K H' (λa=>exV RT Y old σ σV (v.sub d).pa (v.sub d).al a\/ex a) (v.sub d).d x:=by
 unfold Vl.sub
 by_cases hn:noL d=true
 . rw[if_pos hn]
   exact Rep.free d x hn h
 . rw[if_neg hn]
   exact h
structure pJ (K:Fg) (RT Y old:Addr->Prop) (σ:Sg) (σV:L2.St) (H1:Hp) (J:L2.It) (xs:List Vl) (al:List Nat):Prop where
 sub:∀v∈xs,∀j∈v.al,j∈al
 nofr:∀v∈xs,v.fr=false
 ok:∀(R:Addr->Prop),(∀b,R b->rtF RT σ σV al b)->∀(i:Nat) (H:Hp),Kp R H1 H->(i<xs.length->J.go i H)/\(xs.length<=i->J.stop i H)/\∀x H',J.yld i H x H'->∀v,xs[i]? = some v->aL H H'/\(Tk K H->Tk K H')/\Rep K H' (λa=>exV RT Y old σ σV v.pa v.al a\/Nw K H1 a) v.d x
theorem rQ{v:Vl}{d:D}:∀j∈(v.sub d).al,j∈v.al:=by
 unfold Vl.sub Vl.cl
 split
 . intro j hj;cases hj
 . intro j hj;exact hj
theorem oD{v:Vl}{d:D}:(v.sub d).fr=false:=by
 unfold Vl.sub Vl.cl
 split <;> rfl
theorem iT{x:Vl}{ds:List D}{i:Nat}{v:Vl}(h:(items x ds)[i]? = some v):∃d,ds[i]? = some d/\v=x.sub d:=by
 unfold items at h
 rw[List.getElem?_map] at h
 cases q:ds[i]? with
 | none=>rw[q] at h;cases h
 | some d=>rw[q] at h;exact⟨d,rfl,(Option.some.inj h).symm⟩
theorem iE{al:List Nat}{pa:Bool}{b:Addr}(h:rtF RT σ σV al b):exV RT Y old σ σV pa al b:=.inl h
theorem mL:∀(as bs:List D),(gE as bs).length=min as.length bs.length
 | [],_=>by simp[gE]
 | _::_,[]=>by simp[gE]
 | _::as,_::bs=>by
  rw[gE,lC,mL as bs,lC,lC]
  omega
theorem uC:∀{as bs:List D} {i:Nat} {a b:D},as[i]? = some a->bs[i]? = some b->(gE as bs)[i]? = some (.tup [a,b])
 | [],_,_,_,_,h,_=>by simp at h
 | _::_,[],_,_,_,_,h=>by simp at h
 | _::_,_::_,0,_,_,h,h'=>by
  simp at h h'
  subst h h'
  rfl
 | _::as,_::bs,i+1,a,b,h,h'=>by
  have:=uC (as:=as) (bs:=bs) (i:=i) (a:=a) (b:=b) (by simpa using h) (by simpa using h')
  simpa[gE] using this
theorem aDx(S:Sx K RT Y old σ σV H){x:Vl}{ds:List D}{a:Addr}{xs:List V}(q:SqL K H a xs)(n:¬ exV RT Y old σ σV x.pa x.al a)(r:Reps K H (exV RT Y old σ σV x.pa x.al) ds xs) :
 pJ K RT Y old σ σV H (Itl K a) (items x ds) x.al where
 sub:=λv hv j hj=>by
  obtain⟨d,_,e⟩:=List.mem_map.mp hv
  subst e
  exact rQ j hj
 nofr:=λv hv=>by
  obtain⟨d,_,e⟩:=List.mem_map.mp hv
  subst e
  exact oD
 ok:=λR hR i H1 k=>by
  have q1:SqL K H1 a xs:=k.seqL (λz=>n (iE (hR a z))) q
  have r1:Reps K H1 (λa=>exV RT Y old σ σV x.pa x.al a\/Nw K H a) ds xs:=r.outN.kp k (λb z=>S.rt b (hR b z).1) λb z=>.inl (iE (hR b z))
  have hl:(items x ds).length=xs.length:=by unfold items;rw[lM,r.length]
  refine⟨λhi=>⟨xs,xs[i]'(by omega),q1,List.getElem?_eq_getElem (by omega)⟩,λhi=>⟨xs,q1,by omega⟩,λy H' hy v hv=>?_⟩
  obtain⟨e,hy⟩:=hy
  subst e
  obtain⟨d,hd,e⟩:=iT hv
  subst e
  obtain⟨y',hy',ry⟩:=r1.get hd
  rw[hy xs q1] at hy'
  cases hy'
  exact⟨aL.refl _,id,RvN.sub ry⟩
theorem aFM(S:Sx K RT Y old σ σV H){x:Vl}{ds:List D}{a:Addr}{xs:List V}(q:SqT K H a xs)(r:Reps K H (exV RT Y old σ σV x.pa x.al) ds xs) :
 pJ K RT Y old σ σV H (Itt K a) (items x ds) x.al where
 sub:=λv hv j hj=>by
  obtain⟨d,_,e⟩:=List.mem_map.mp hv
  subst e
  exact rQ j hj
 nofr:=λv hv=>by
  obtain⟨d,_,e⟩:=List.mem_map.mp hv
  subst e
  exact oD
 ok:=λR hR i H1 k=>by
  have q1:SqT K H1 a xs:=k.seqT (λb z=>S.rt b (hR b z).1) q
  have r1:Reps K H1 (λa=>exV RT Y old σ σV x.pa x.al a\/Nw K H a) ds xs:=r.outN.kp k (λb z=>S.rt b (hR b z).1) λb z=>.inl (iE (hR b z))
  have hl:(items x ds).length=xs.length:=by unfold items;rw[lM,r.length]
  refine⟨λhi=>⟨xs,xs[i]'(by omega),q1,List.getElem?_eq_getElem (by omega)⟩,λhi=>⟨xs,q1,by omega⟩,λy H' hy v hv=>?_⟩
  obtain⟨e,hy⟩:=hy
  subst e
  obtain⟨d,hd,e⟩:=iT hv
  subst e
  obtain⟨y',hy',ry⟩:=r1.get hd
  rw[hy xs q1] at hy'
  cases hy'
  exact⟨aL.refl _,id,RvN.sub ry⟩
theorem rR{lo:Int}{m:Nat}{xs:List Vl}(hx:xs=((List.range m).map λ(k:Nat)=>Vl.cl (.int (lo+(k:Int))))):pJ K RT Y old σ σV H (Itr lo m) xs [] where
 sub:=λv hv j hj=>by
  subst hx
  obtain⟨d,_,e⟩:=List.mem_map.mp hv
  subst e
  exact hj
 nofr:=λv hv=>by
  subst hx
  obtain⟨d,_,e⟩:=List.mem_map.mp hv
  subst e
  rfl
 ok:=λR hR i H1 k=>by
  have hl:xs.length=m:=by rw[hx,lM,List.length_range]
  refine⟨λhi=>(show i<m by omega),λhi=>(show m<=i by omega),λy H' hy v hv=>?_⟩
  obtain⟨e,hy⟩:=hy
  subst e hy
  subst hx
  rw[List.getElem?_map] at hv
  have hi:i<m:=by
   have:=(List.getElem?_eq_some_iff.mp (show((List.range m).map λ(k:Nat)=>Vl.cl (.int (lo+(k:Int))))[i]? = some v by rw[List.getElem?_map];exact hv)).1
   simpa using this
  rw[List.getElem?_range hi] at hv
  cases hv
  exact⟨aL.refl _,id,rfl⟩
theorem aFN{z:Str}{xs:List Vl}(hx:xs=(z.cps.toList.map λn=>Vl.cl (.str ⟨#[n]⟩))):pJ K RT Y old σ σV H (Its z) xs [] where
 sub:=λv hv j hj=>by
  subst hx
  obtain⟨d,_,e⟩:=List.mem_map.mp hv
  subst e
  exact hj
 nofr:=λv hv=>by
  subst hx
  obtain⟨d,_,e⟩:=List.mem_map.mp hv
  subst e
  rfl
 ok:=λR hR i H1 k=>by
  have hl:xs.length=z.cps.size:=by rw[hx,lM,Array.length_toList]
  refine⟨λhi=>(show i<z.cps.size by omega),λhi=>(show z.cps.size<=i by omega),λy H' hy v hv=>?_⟩
  obtain⟨e,c,hc,hy⟩:=hy
  subst e hy
  subst hx
  rw[List.getElem?_map,Array.getElem?_toList,hc] at hv
  cases hv
  exact⟨aL.refl _,id,rfl⟩
theorem aFO(S:Sx K RT Y old σ σV H){ka kb:Bool}{as bs:List D}{a b:Addr}{xs ys:List V}{pa:Bool}{al:List Nat}(qa:Sq ka K H a xs)(qb:Sq kb K H b ys)(na:ka=true->¬ exV RT Y old σ σV pa al a)(nb:kb=true->¬ exV RT Y old σ σV pa al b)
 (ra:Reps K H (exV RT Y old σ σV pa al) as xs) (rb:Reps K H (exV RT Y old σ σV pa al) bs ys):pJ K RT Y old σ σV H (Itz K ka kb a b) (items ⟨.non,false,pa,al⟩ (gE as bs)) al where
 sub:=λv hv j hj=>by
  obtain⟨d,_,e⟩:=List.mem_map.mp hv
  subst e
  exact rQ j hj
 nofr:=λv hv=>by
  obtain⟨d,_,e⟩:=List.mem_map.mp hv
  subst e
  exact oD
 ok:=λR hR i H1 k=>by
  have keep:∀{kk:Bool} {c:Addr} {zs:List V},(kk=true->¬ exV RT Y old σ σV pa al c)->Sq kk K H c zs->Sq kk K H1 c zs:=by
   intro kk c zs nn q
   cases kk with
   | true=>exact k.seqL (λz=>nn rfl (iE (hR c z))) q
   | false=>exact k.seqT (λb z=>S.rt b (hR b z).1) q
  have qa1:=keep na qa
  have qb1:=keep nb qb
  have ra1:Reps K H1 (λa=>exV RT Y old σ σV pa al a\/Nw K H a) as xs:=ra.outN.kp k (λb z=>S.rt b (hR b z).1) λb z=>.inl (iE (hR b z))
  have rb1:Reps K H1 (λa=>exV RT Y old σ σV pa al a\/Nw K H a) bs ys:=rb.outN.kp k (λb z=>S.rt b (hR b z).1) λb z=>.inl (iE (hR b z))
  have hl:(items ⟨.non,false,pa,al⟩ (gE as bs)).length=min xs.length ys.length:=by unfold items;rw[lM,mL,ra.length,rb.length]
  have ge:∀(h1:i<xs.length) (h2:i<ys.length),True:=λ_ _=>trivial
  refine⟨λhi=>?_,λhi=>⟨xs,ys,qa1,qb1,by omega⟩,λy H' hy v hv=>?_⟩
  . have h1:i<xs.length:=by omega
    have h2:i<ys.length:=by omega
    exact⟨xs,ys,xs[i],ys[i],qa1,qb1,List.getElem?_eq_getElem h1,List.getElem?_eq_getElem h2⟩
  . obtain⟨p,x,y',rfl,hp,hk,rfl,hh⟩:=hy
    obtain⟨hx,hy⟩:=hh xs ys qa1 qb1
    obtain⟨d,hd,e⟩:=iT hv
    subst e
    obtain⟨d1,hd1,rd1⟩:=ra1.get' hx
    obtain⟨d2,hd2,rd2⟩:=rb1.get' hy
    rw[uC hd1 hd2] at hd
    cases hd
    have sm:aL H1 (upd H1 p (.tup [x,y'])):=aL.new hp
    refine⟨sm,λtk=>tk.new hk,RvN.sub (v:=⟨.non,false,pa,al⟩) ?_⟩
    exact⟨p,[x,y'],rfl,SqT.of aY,.cons (rd1.grow sm) (.cons (rd2.grow sm) .nil)⟩
theorem kE:∀(as:List D) (j:Int),(eZ j as).length=as.length
 | [],_=>rfl
 | _::as,j=>by rw[eZ,lC,kE as,lC]
theorem qC:∀{as:List D} {i:Nat} {j:Int} {a:D},as[i]? = some a->(eZ j as)[i]? = some (.tup [.int (j+(i:Int)),a])
 | [],_,_,_,h=>by simp at h
 | _::_,0,j,_,h=>by
  simp at h
  subst h
  simp[eZ]
 | _::as,i+1,j,a,h=>by
  have:=qC (as:=as) (i:=i) (j:=j+1) (a:=a) (by simpa using h)
  rw[eZ,gS,this]
  have e:j+1+(i:Int)=j+((i+1:Nat):Int):=by omega
  rw[e]
theorem aDy(S:Sx K RT Y old σ σV H){k:Bool}{as:List D}{a:Addr}{xs:List V}{x:Vl}(qa:Sq k K H a xs)(na:k=true->¬ exV RT Y old σ σV x.pa x.al a)(ra:Reps K H (exV RT Y old σ σV x.pa x.al) as xs) :
 pJ K RT Y old σ σV H (Ite K k a) (items x (eZ 0 as)) x.al where
 sub:=λv hv j hj=>by
  obtain⟨d,_,e⟩:=List.mem_map.mp hv
  subst e
  exact rQ j hj
 nofr:=λv hv=>by
  obtain⟨d,_,e⟩:=List.mem_map.mp hv
  subst e
  exact oD
 ok:=λR hR i H1 kp=>by
  have qa1:Sq k K H1 a xs:=by
   cases k with
   | true=>exact kp.seqL (λz=>na rfl (iE (hR a z))) qa
   | false=>exact kp.seqT (λb z=>S.rt b (hR b z).1) qa
  have ra1:Reps K H1 (λa=>exV RT Y old σ σV x.pa x.al a\/Nw K H a) as xs:=ra.outN.kp kp (λb z=>S.rt b (hR b z).1) λb z=>.inl (iE (hR b z))
  have hl:(items x (eZ 0 as)).length=xs.length:=by unfold items;rw[lM,kE,ra.length]
  refine⟨λhi=>⟨xs,xs[i]'(by omega),qa1,List.getElem?_eq_getElem (by omega)⟩,λhi=>⟨xs,qa1,by omega⟩,λy H' hy v hv=>?_⟩
  obtain⟨p,z,rfl,hp,hk,rfl,hh⟩:=hy
  obtain⟨d,hd,e⟩:=iT hv
  subst e
  obtain⟨d1,hd1,rd1⟩:=ra1.get' (hh xs qa1)
  rw[qC hd1,Int.zero_add] at hd
  cases hd
  have sm:aL H1 (upd H1 p (.tup [.int i,z])):=aL.new hp
  refine⟨sm,λtk=>tk.new hk,RvN.sub (v:=x) ?_⟩
  exact⟨p,[.int i,z],rfl,SqT.of aY,.cons rfl (.cons (rd1.grow sm) .nil)⟩
end
section
variable {X:Cx} {P:Pg} {Γ:Ct} {n:Nat} {RT Y old:Addr->Prop} {σ:Sg} {tg:Expr}
def wI(X:Cx)(P:Pg)(n:Nat)(RT Y old:Addr->Prop)(σ:Sg)(it:Hp.It):TI:=λσV H R=>Sx X.K RT Y old σ σV H/\RE (walk P (call P n) σ it) λxs=>∀J H1,Tk X.K H1->aL H H1->pJ X.K RT Y old σ σV H1 J xs.1 xs.2->R J H1
theorem oE{iter:Expr}{t t':TI}(h:PI X tg iter t)(f:∀σV H R,Tk X.K H->t' σV H R->t σV H λJ H'=>Tk X.K H'->R J H'):PI X tg iter t':=λpins s σV H R I hw=>
 thn (h pins s σV H _ I (f σV H R I.tk hw)) λv s1 h1=>thn h1 λitv s2 ⟨it,fp,tn,J,H',e,I',T,st,fo,q⟩=>⟨it,fp,tn,J,H',e,I',T,st,fo,q I'.tk⟩
theorem aID{c:E}{e:Expr}(ha:PE X e (WE X P n RT Y old σ c)):PI X tg e (wI X P n RT Y old σ (.seq c)):=by
 refine oE (aFK ha) λσV H RR t ⟨S,h⟩=>?_
 have h:=RE.bind' (show RE (ev P (call P n) σ c >>= λx=>(match x.d with
  | .lst ds=>R.ok (items x ds,x.al)
  | .tup ds=>R.ok (items x ds,x.al)
  | .str a=>R.iff (decide (a.length<=lim)) (R.ok (a.cps.toList.map λn=>Vl.cl (.str ⟨#[n]⟩),[]))
  | _=>.bad)) _ from h)
 refine wE.one S h λx u H1 hx t1 S1 r1=>?_
 have rv:=r1.rv S
 split at hx
 . rename_i ds d1
   obtain⟨a,xs,e,q,nn,r⟩:=rv.lst d1
   exact .inl ⟨a,e,.inl ⟨⟨xs,q⟩,λt'=>hx _ _ t' r1.1 (aDx S1 q nn r)⟩⟩
 . rename_i ds d1
   obtain⟨a,xs,e,q,r⟩:=rv.tup d1
   exact .inl ⟨a,e,.inr ⟨⟨xs,q⟩,λt'=>hx _ _ t' r1.1 (aFM S1 q r)⟩⟩
 . rename_i z d1
   obtain⟨c,hx⟩:=hx.iff
   exact .inr ⟨z,rv.str d1,λt'=>hx _ _ t' r1.1 (aFN rfl)⟩
 . exact hx.elim
theorem gK(i j:Int):(cA i j).map Vl.cl=(List.range (j-i).toNat).map λ(k:Nat)=>Vl.cl (.int (i+(k:Int))):=by
 unfold cA
 rw[List.map_map]
 rfl
theorem fS{k:Int}(h:aG k=true):-(2 ^ 62)<=k/\k<2 ^ 62:=by
 unfold aG at h
 simp only[bA,decide_eq_true_eq] at h
 exact h
theorem aFP(M:Mc X P Γ n){b:E}{e:Expr}{f:Str}{p pos:Pos}(hf:f=("range" : Str))(hg:cM Γ f=true)(ha:PE X e (WE X P n RT Y old σ b))(hp:aO e=true):PI X tg (.Call (.Name f p) [e] [] pos) (wI X P n RT Y old σ (.rng (.c (.int 0)) b)):=by
 subst hf
 refine oE (lI (M.gl hg) (M.md.blt _ (by decide +kernel)) (jM ha tX hp) (aC hp)) λσV H RR t ⟨S,h⟩=>?_
 have h:RE (ev P (call P n) σ b) λy=>RE (match (D.int 0),y.d with|.int i,.int j=>R.iff (aG i&&aG j) (R.ok ((cA i j).map Vl.cl,[]))|_,_=>.bad) _:=
  RE.bind' (show RE (ev P (call P n) σ b >>= λy=>(match (D.int 0),y.d with|.int i,.int j=>R.iff (aG i&&aG j) (R.ok ((cA i j).map Vl.cl,[]))|_,_=>.bad)) _ from h)
 refine⟨S,?_⟩
 show RE (ev P (call P n) σ b >>= λx=>evs P (call P n) σ .nil >>= λxs=>R.ok (x::xs)) _
 rw[RE.bind]
 refine h.mono λy hy=>?_
 split at hy
 . rename_i i j e1 e2
   cases e1
   obtain⟨c,hy⟩:=hy.iff
   rw[bA] at c
   have c2:=fS c.2
   intro us H1 t1 s1 r1
   obtain⟨u,r',eu,ru,hr⟩:=r1
   rw[show r'=[] from hr] at eu
   subst eu
   refine⟨j,by rw[ru.int e2],c2.1,c2.2,λt'=>hy _ _ t' s1 (rR ?_)⟩
   rw[gK]
   simp
 . exact hy.elim
theorem aFQ(M:Mc X P Γ n){a b:E}{ea eb:Expr}{f:Str}{p pos:Pos}(hf:f=("range" : Str))(hg:cM Γ f=true)(ha:PE X ea (WE X P n RT Y old σ a))(hb:PE X eb (WE X P n RT Y old σ b))(hpa:aO ea=true)(hpb:aO eb=true) :
 PI X tg (.Call (.Name f p) [ea,eb] [] pos) (wI X P n RT Y old σ (.rng a b)):=by
 subst hf
 refine oE (zV (M.gl hg) (M.md.blt _ (by decide +kernel)) (jM ha (jM hb tX hpb) hpa) (by rw[aC hpa,aC hpb];rfl) (aC hpb)) λσV H RR t ⟨S,h⟩=>?_
 have h:=RE.bind' (show RE (ev P (call P n) σ a >>= λx=>ev P (call P n) σ b >>= λy=>(match x.d,y.d with|.int i,.int j=>R.iff (aG i&&aG j) (R.ok ((cA i j).map Vl.cl,[]))|_,_=>.bad)) _ from h)
 refine⟨S,?_⟩
 show RE (ev P (call P n) σ a >>= λx=>evs P (call P n) σ (.cons b .nil) >>= λxs=>R.ok (x::xs)) _
 rw[RE.bind]
 refine h.mono λx hx=>?_
 rw[RE.bind]
 show RE (ev P (call P n) σ b >>= λx=>evs P (call P n) σ .nil >>= λxs=>R.ok (x::xs)) _
 rw[RE.bind]
 refine(RE.bind' hx).mono λy hy=>?_
 split at hy
 . rename_i i j e1 e2
   obtain⟨c,hy⟩:=hy.iff
   rw[bA] at c
   have c1:=fS c.1
   have c2:=fS c.2
   intro us H1 t1 s1 r1
   obtain⟨u,r',eu,ru,u2,r2,eu2,ru2,hr⟩:=r1
   rw[show r2=[] from hr] at eu2
   subst eu2
   subst eu
   refine⟨i,j,by rw[ru.int e1,ru2.int e2],⟨c1.1,c1.2,c2.1,c2.2⟩,λt'=>hy _ _ t' s1 (rR ?_)⟩
   rw[gK]
 . exact hy.elim
theorem wP{σV:L2.St}{H:Hp}{x:Vl}{u:V}{ds:List D}(hx:Rv X.K RT Y old σ σV H x u)(h:gF x.d=some ds):∃(k:Bool) (a:Addr) (xs:List V),u=.ref a/\Sq k X.K H a xs/\(k=true->¬ exV RT Y old σ σV x.pa x.al a)/\Reps X.K H (exV RT Y old σ σV x.pa x.al) ds xs:=by
 unfold gF at h
 split at h
 . rename_i ds' d1
   cases h
   obtain⟨a,xs,e,q,nn,r⟩:=hx.lst d1
   exact⟨true,a,xs,e,q,λ_=>nn,r⟩
 . rename_i ds' d1
   cases h
   obtain⟨a,xs,e,q,r⟩:=hx.tup d1
   exact⟨false,a,xs,e,q,(λz=>absurd z bN),r⟩
 . cases h
theorem aIE(M:Mc X P Γ n){a b:E}{ea eb:Expr}{f:Str}{p pos:Pos}{elts:List Expr}{tk:Nat}{tp:Pos}(hf:f=("zip" : Str))(hg:cM Γ f=true)(ha:PE X ea (WE X P n RT Y old σ a))(hb:PE X eb (WE X P n RT Y old σ b))(hpa:aO ea=true)(hpb:aO eb=true) :
 PI X (.Tuple elts tk tp) (.Call (.Name f p) [ea,eb] [] pos) (wI X P n RT Y old σ (.zip a b)):=by
 subst hf
 refine oE (aFJ (M.gl hg) (M.md.blt _ (by decide +kernel)) (jM ha (jM hb tX hpb) hpa) (by rw[aC hpa,aC hpb];rfl) (aC hpb)) λσV H RR t ⟨S,h⟩=>?_
 have h:=RE.bind' (show RE (ev P (call P n) σ a >>= λx=>ev P (call P n) σ b >>= λy=>(match gF x.d,gF y.d with
  | some as,some bs=>R.ok (items ⟨.non,false,x.pa||y.pa,x.al++y.al⟩ (gE as bs),x.al++y.al)
  | _,_=>.bad)) _ from h)
 refine⟨S,?_⟩
 show RE (ev P (call P n) σ a >>= λx=>evs P (call P n) σ (.cons b .nil) >>= λxs=>R.ok (x::xs)) _
 rw[RE.bind]
 refine h.mono λx hx=>?_
 rw[RE.bind]
 show RE (ev P (call P n) σ b >>= λx=>evs P (call P n) σ .nil >>= λxs=>R.ok (x::xs)) _
 rw[RE.bind]
 refine(RE.bind' hx).mono λy hy=>?_
 split at hy
 . rename_i as bs e1 e2
   intro us H1 t1 s1 r1
   obtain⟨u,r',eu,ru,u2,r2,eu2,ru2,hr⟩:=r1
   rw[show r2=[] from hr] at eu2
   subst eu2
   subst eu
   obtain⟨ka,a1,xs,rfl,qa,na,ra⟩:=wP ru e1
   obtain⟨kb,b1,ys,rfl,qb,nb,rb⟩:=wP ru2 e2
   have S1:=S.grow s1 t1
   have w1:∀c,exV RT Y old σ σV (x.pa||y.pa) (x.al++y.al) c->exV RT Y old σ σV x.pa x.al c:=λc z=>z.mono (λhp=>by rw[hp];rfl) λj hj=>List.mem_append_left _ hj
   have w2:∀c,exV RT Y old σ σV (x.pa||y.pa) (x.al++y.al) c->exV RT Y old σ σV y.pa y.al c:=λc z=>z.mono (λhp=>by rw[hp,Bool.or_true]) λj hj=>List.mem_append_right _ hj
   exact⟨ka,kb,a1,b1,xs,ys,rfl,qa,qb,λt'=>hy _ _ t' s1 (aFO S1 qa qb (λhk z=>na hk (w1 _ z)) (λhk z=>nb hk (w2 _ z)) (ra.weak w1) (rb.weak w2))⟩
 . exact hy.elim
theorem aFR(M:Mc X P Γ n){a:E}{ea:Expr}{f:Str}{p pos:Pos}{elts:List Expr}{tk:Nat}{tp:Pos}(hf:f=("enumerate" : Str))(hg:cM Γ f=true)(ha:PE X ea (WE X P n RT Y old σ a))(hpa:aO ea=true) :
 PI X (.Tuple elts tk tp) (.Call (.Name f p) [ea] [] pos) (wI X P n RT Y old σ (.enum a)):=by
 subst hf
 refine oE (aDw (M.gl hg) (M.md.blt _ (by decide +kernel)) (jM ha tX hpa) (aC hpa)) λσV H RR t ⟨S,h⟩=>?_
 have h:=RE.bind' (show RE (ev P (call P n) σ a >>= λx=>(match gF x.d with|some as=>R.ok (items x (eZ 0 as),x.al)|none=>.bad)) _ from h)
 refine⟨S,?_⟩
 show RE (ev P (call P n) σ a >>= λx=>evs P (call P n) σ .nil >>= λxs=>R.ok (x::xs)) _
 rw[RE.bind]
 refine h.mono λx hx=>?_
 split at hx
 . rename_i as e1
   intro us H1 t1 s1 r1
   obtain⟨u,r',eu,ru,hr⟩:=r1
   rw[show r'=[] from hr] at eu
   subst eu
   obtain⟨k,a1,xs,rfl,qa,na,ra⟩:=wP ru e1
   exact⟨k,a1,xs,rfl,qa,λt'=>hx _ _ t' s1 (aDy (S.grow s1 t1) qa na ra)⟩
 . exact hx.elim
end
section
variable {X:Cx} {P:Pg} {n:Nat} {Γ:Ct} {RT Y old:Addr->Prop} {σ:Sg}
end
def gs:List Nat->TGs
 | []=>aHG
 | i::is=>aEr (pM i) (gs is)
def gT(K:Fg):T->TG
 | .n i=>pM i
 | .t is=>aHH K is.length (gs is)
section
variable {K:Fg} {RT Y old:Addr->Prop} {σ:Sg} {σV:L2.St} {H H':Hp}
theorem set_some{α:Type}{l:List α}{i j:Nat}{x y:α}(e:(l.set i x)[j]? = some y):(i=j/\x=y/\i<l.length)\/(i≠j/\l[j]? = some y):=by
 by_cases hij:i=j
 . subst hij
   have hl:i<(l.set i x).length:=(List.getElem?_eq_some_iff.mp e).1
   rw[List.length_set] at hl
   rw[List.getElem?_set_self hl] at e
   cases e
   exact .inl ⟨rfl,rfl,hl⟩
 . rw[List.getElem?_set_ne hij] at e
   exact .inr ⟨hij,e⟩
theorem Sx.setSh(S:Sx K RT Y old σ σV H){i:Nat}{pa:Bool}{d:D}{u:V}(h:Rep K H (λa=>RT a\/exB Y old pa a) d u):Sx K RT Y old (σ.set i (.sh pa d)) (σV.set i (some u)) H where
 sh:=λj pa' d' e=>by
  rcases set_some e with⟨rfl,e,hl⟩|⟨hij,e⟩
  . cases e
    exact⟨u,List.getElem?_set_self (by rw[<-S.len];exact hl),h⟩
  . obtain⟨v,h1,h2⟩:=S.sh j pa' d' e
    exact⟨v,by rw[List.getElem?_set_ne hij];exact h1,h2⟩
 own:=λj pa' ds e=>by
  rcases set_some e with⟨rfl,e,hl⟩|⟨hij,e⟩
  . cases e
  . obtain⟨a,xs,h1,h2⟩:=S.own j pa' ds e
    exact⟨a,xs,by rw[List.getElem?_set_ne hij];exact h1,h2⟩
 trk:=S.trk
 yo:=S.yo
 tk:=S.tk
 rt:=S.rt
 inj:=λj j' pa' pa'' ds ds' a e1 e2 e3 e4=>by
  rcases set_some e1 with⟨_,e,_⟩|⟨n1,e1⟩
  . cases e
  rcases set_some e2 with⟨_,e,_⟩|⟨n2,e2⟩
  . cases e
  rw[List.getElem?_set_ne n1] at e3
  rw[List.getElem?_set_ne n2] at e4
  exact S.inj j j' pa' pa'' ds ds' a e1 e2 e3 e4
 len:=by rw[List.length_set,List.length_set];exact S.len
 lx:=S.lx.imp id (λj ds e=>by
  rcases set_some e with⟨_,z,_⟩|⟨hij,e⟩
  . cases z
  . exact⟨e,List.getElem?_set_ne hij⟩) (λ_ _ _ _ _ _ e=>e) (λ_ _ e z _=>⟨e,z⟩) (λ_ _ r=>r) (λj ds e=>by
  rcases set_some e with⟨_,z,_⟩|⟨hij,e⟩
  . cases z
  . exact⟨e,List.getElem?_set_ne hij⟩) (λ_ _ _ _ _ _ e=>e) (λp xs e z=>⟨e,z.1,z.2.1,λk pa' ds q=>by
  rcases set_some q with⟨_,w,_⟩|⟨hij,q⟩
  . cases w
  . rw[List.getElem?_set_ne hij];exact z.2.2 k pa' ds q⟩) λ_ _ r=>r
theorem Rep.out{ex:Addr->Prop}{d:D}{v:V}{a:Addr}(h:Rep K H ex d v)(n:H a=none)(k:K.lookup a=none):Rep K H (λb=>b=a\/ex b) d v:=
 Rep.imp (λ_ _ q=>q) (λb xs nb q=>⟨λz=>z.elim (λz=>by
  subst z
  rcases q with(q|⟨o,q⟩)|⟨o,its,m,q,_⟩
  . rw[n] at q;cases q
  . rw[n] at q;cases q
  . rw[k] at q;cases q) nb,q⟩) (λ_ _ q=>q) d v h
theorem Reps.out{ex:Addr->Prop}{d:List D}{v:List V}{a:Addr}(h:Reps K H ex d v)(n:H a=none)(k:K.lookup a=none):Reps K H (λb=>b=a\/ex b) d v:=
 Reps.imp (λ_ _ q=>q) (λb xs nb q=>⟨λz=>z.elim (λz=>by
  subst z
  rcases q with(q|⟨o,q⟩)|⟨o,its,m,q,_⟩
  . rw[n] at q;cases q
  . rw[n] at q;cases q
  . rw[k] at q;cases q) nb,q⟩) (λ_ _ q=>q) d v h
theorem Sx.storeOwn(S:Sx K RT Y old σ σV H){i:Nat}{a:Addr}{xs:List V}{ds:List D}{pa:Bool}(s:aL H H')(t:Tk K H')(hn:H a=none)(ha:H' a=some (.lst xs))(r:Reps K H' (λb=>(RT b\/b=a)\/exB Y old pa b) ds xs) :
 Sx K (λb=>RT b\/b=a) Y old (σ.set i (.own pa ds)) (σV.set i (some (.ref a))) H' where
 sh:=λj pa' d' e=>by
  rcases set_some e with⟨rfl,e,hl⟩|⟨hij,e⟩
  . cases e
  . obtain⟨v,h1,h2⟩:=S.sh j pa' d' e
    refine⟨v,by rw[List.getElem?_set_ne hij];exact h1,((h2.out hn (t a (by rw[ha];simp))).grow s).weak λb z=>?_⟩
    rcases z with(z|z)|z
    . exact .inr (.inl z)
    . exact .inl z
    . exact .inr (.inr z)
 own:=λj pa' ds' e=>by
  rcases set_some e with⟨rfl,e,hl⟩|⟨hij,e⟩
  . cases e
    exact⟨a,xs,List.getElem?_set_self (by rw[<-S.len];exact hl),ha,.inr rfl,λz=>S.trk a (.inr (.inr z)) hn,r⟩
  . obtain⟨a',xs',h1,h2,h3,h4,h5⟩:=S.own j pa' ds' e
    refine⟨a',xs',by rw[List.getElem?_set_ne hij];exact h1,s _ _ h2,.inl h3,h4,((h5.out hn (t a (by rw[ha];simp))).grow s).weak λb z=>?_⟩
    rcases z with(z|z)|z
    . exact .inr (.inl z)
    . exact .inl z
    . exact .inr (.inr z)
 trk:=λb z q=>by
  rcases z with(z|z)|z
  . exact S.trk b (.inl z) (s.free q)
  . rw[z,ha] at q;cases q
  . exact S.trk b (.inr z) (s.free q)
 yo:=S.yo
 tk:=t
 rt:=λb z=>by
  rcases z with z|z
  . obtain⟨ys,e⟩:=S.rt b z
    exact⟨ys,s _ _ e⟩
  . rw[z];exact⟨xs,ha⟩
 inj:=λj j' pa' pa'' ds1 ds2 c e1 e2 e3 e4=>by
  have fr:∀{j:Nat} {pa:Bool} {ds:List D},σ[j]? = some (.own pa ds)->σV[j]? = some (some (.ref a))->False:=λ{j pa ds} e q=>by
   obtain⟨a',xs',h1,h2,_⟩:=S.own j pa ds e
   rw[q] at h1
   cases h1
   rw[hn] at h2;cases h2
  rcases set_some e1 with⟨rfl,e,hl⟩|⟨n1,e1⟩
  . rcases set_some e2 with⟨rfl,_,_⟩|⟨n2,e2⟩
    . rfl
    . rw[List.getElem?_set_self (by rw[<-S.len];exact hl)] at e3
      cases e3
      rw[List.getElem?_set_ne n2] at e4
      exact(fr e2 e4).elim
  . rw[List.getElem?_set_ne n1] at e3
    rcases set_some e2 with⟨rfl,e,hl⟩|⟨n2,e2⟩
    . rw[List.getElem?_set_self (by rw[<-S.len];exact hl)] at e4
      cases e4
      exact(fr e1 e3).elim
    . rw[List.getElem?_set_ne n2] at e4
      exact S.inj j j' pa' pa'' ds1 ds2 c e1 e2 e3 e4
 len:=by rw[List.length_set,List.length_set];exact S.len
 lx:=S.lx.imp id (λj ds e=>by
  rcases set_some e with⟨_,z,_⟩|⟨hij,e⟩
  . cases z
  . exact⟨e,List.getElem?_set_ne hij⟩) (λ_ _ _ _ _ _ e=>e) (λb ys e z _=>⟨s _ _ e,.inl z⟩) (λds ys r=>((r.out hn (t a (by rw[ha];simp))).grow s).weak λb z=>by
    rcases z with(z|z)|z
    . exact .inr (.inl z)
    . exact .inl z
    . exact .inr (.inr z)) (λj ds e=>by
  rcases set_some e with⟨_,z,_⟩|⟨hij,e⟩
  . cases z
  . exact⟨e,List.getElem?_set_ne hij⟩) (λ_ _ _ _ _ _ e=>e) (λp ys e z=>⟨s _ _ e,.inl z.1,z.2.1,λk pa' ds q v=>by
  rcases set_some q with⟨rfl,w,hl⟩|⟨hij,q⟩
  . rw[List.getElem?_set_self (by rw[<-S.len];exact hl)] at v
    cases v
    rw[hn] at e;cases e
  . rw[List.getElem?_set_ne hij] at v;exact z.2.2 k pa' ds q v⟩) λ_ _ r=>aL.seqT s r
theorem fT{v:Vl}(h:v.fr=false):v.slot=.sh v.pa v.d:=by
 unfold Vl.slot
 rw[h]
theorem yJ{v:Vl}{ds:List D}(h:v.fr=true)(hd:v.d=.lst ds):v.slot=.own v.pa ds:=by
 unfold Vl.slot
 rw[h,hd]
theorem Sx.store(S:Sx K RT Y old σ σV H){v:Vl}{u:V}(ro:Ro K RT Y old σ σV H H' v u)(t:Tk K H')(i:Nat) :
 ∃RT',Sx K RT' Y old ((freeze σ v.al).set i v.slot) (σV.set i (some u)) H'/\∀b,RT' b->RT b\/H b=none:=by
 by_cases hf:v.fr=true
 . obtain⟨s,h⟩:=ro
   rw[if_pos hf] at h
   obtain⟨a,xs,ds,e1,e2,e3,e4,r⟩:=h
   subst e1
   rw[yJ hf e2]
   refine⟨_,(S.frz v.al).storeOwn s t e3 e4 (r.weak λb z=>?_),λb z=>z.elim (λz=>.inl z.1) λz=>.inr (by rw[z];exact e3)⟩
   rcases z with(z|z)|z
   . exact .inr (.inl z)
   . exact .inl z
   . exact .inr (.inr z)
 . rw[fT (by simpa using hf)]
   exact⟨_,((S.grow ro.1 t).frz v.al).setSh (ro.rv S),λb z=>.inl z.1⟩
theorem aEF:∀{is:List Nat} {us:List V} {σV:L2.St} {H:Hp} {Q:L2.St->Hp->Prop},is.length=us.length->Q ((is.zip us).foldl (λs p=>s.set p.1 (some p.2)) σV) H->gs is us σV H Q
 | [],[],_,_,_,_,h=>⟨rfl,h⟩
 | [],_::_,_,_,_,e,_=>by simp at e
 | _::_,[],_,_,_,e,_=>by simp at e
 | i::is,u::us,σV,H,Q,e,h=>⟨u,us,rfl,aEF (is:=is) (us:=us) (by simpa using e) h⟩
theorem uD{v:Vl}{d:D}:(v.sub d).slot=.sh (!noL d&&v.pa) d:=by
 rw[fT oD]
 unfold Vl.sub Vl.cl
 split
 . rename_i h;rw[h];rfl
 . rename_i h
   have:noL d=false:=by simpa using h
   rw[this];rfl
theorem Sx.setAll{v:Vl}:∀{is:List Nat} {ds:List D} {us:List V} {σ:Sg} {σV:L2.St},Sx K RT Y old σ σV H->Reps K H (λa=>RT a\/exB Y old v.pa a) ds us ->
 Sx K RT Y old ((is.zip ds).foldl (λσ p=>σ.set p.1 (v.sub p.2).slot) σ) ((is.zip us).foldl (λs p=>s.set p.1 (some p.2)) σV) H
 | [],_,_,_,_,S,_=>S
 | _::_,[],us,_,_,S,r=>by rw[show us=[] from r];exact S
 | i::is,d::ds,us,σ,σV,S,r=>by
  obtain⟨x,r',e,h1,h2⟩:=r
  subst e
  refine Sx.setAll (v:=v) (is:=is) (ds:=ds) (us:=r') ?_ h2
  show Sx K RT Y old (σ.set i (v.sub d).slot) (σV.set i (some x)) H
  rw[uD]
  refine S.setSh ?_
  cases hn:noL d with
  | true=>exact Rep.free d x hn h1
  | false=>exact h1
theorem lL{α:Type}{β:Type}(f:β->α):∀{is:List Nat} {bs:List β} {l:List α} {j:Nat},j∉is->((is.zip bs).foldl (λs p=>s.set p.1 (f p.2)) l)[j]? = l[j]?
 | [],_,_,_,_=>rfl
 | _::_,[],_,_,_=>rfl
 | i::is,b::bs,l,j,h=>by
  have h':i≠j/\j∉is:=by
   refine⟨λe=>h (by simp[e]),λz=>h (List.mem_cons_of_mem _ z)⟩
  rw[List.zip_cons_cons,List.foldl_cons,lL f (is:=is) (bs:=bs) h'.2,List.getElem?_set_ne h'.1]
theorem uE{α:Type}{β:Type}(f:β->α):∀{is:List Nat} {bs:List β} {l:List α},((is.zip bs).foldl (λs p=>s.set p.1 (f p.2)) l).length=l.length
 | [],_,_=>rfl
 | _::_,[],_=>rfl
 | i::is,b::bs,l=>by rw[List.zip_cons_cons,List.foldl_cons,uE f (is:=is) (bs:=bs),List.length_set]
theorem fold_mem{α:Type}{β:Type}(f:β->α):∀{is:List Nat} {bs:List β} {l:List α} {j:Nat} {x:α},((is.zip bs).foldl (λs p=>s.set p.1 (f p.2)) l)[j]? = some x->l[j]? = some x\/∃b,x=f b
 | [],_,_,_,_,h=>.inl h
 | _::_,[],_,_,_,h=>.inl h
 | i::is,b::bs,l,j,x,h=>by
  rw[List.zip_cons_cons,List.foldl_cons] at h
  rcases fold_mem f (is:=is) (bs:=bs) h with q|q
  . rcases set_some q with⟨_,e,_⟩|⟨_,e⟩
    . exact .inr ⟨b,e.symm⟩
    . exact .inl e
  . exact .inr q
theorem oF{v:Vl}{is:List Nat}{σ2:Sg}(e:bG σ v (.t is)=.ok σ2):∃ds,v.d=.tup ds/\ds.length=is.length/\σ2=(is.zip ds).foldl (λσ p=>σ.set p.1 (v.sub p.2).slot) σ:=by
 unfold bG at e
 simp only at e
 split at e
 . rename_i ds hd
   split at e
   . rename_i hl
     cases e
     exact⟨ds,hd,hl,rfl⟩
   . cases e
 . cases e
theorem oG{v:Vl}{i:Nat}{σ2:Sg}(e:bG σ v (.n i)=.ok σ2):σ2=σ.set i v.slot:=by
 cases(show R.ok (σ.set i v.slot)=R.ok σ2 from e)
 rfl
theorem aBL{v:Vl}{t:T}{σ2:Sg}{j:Nat}(e:bG σ v t=.ok σ2)(h:j∉tIx t):σ2[j]? = σ[j]? := by
 cases t with
 | n i=>
  rw[oG e]
  exact List.getElem?_set_ne λz=>h (by simp[tIx,z])
 | t is=>
  obtain⟨ds,_,_,e⟩:=oF e
  rw[e]
  exact lL (λd=>(v.sub d).slot) h
theorem uF{v:Vl}{t:T}{σ2:Sg}(e:bG σ v t=.ok σ2):σ2.length=σ.length:=by
 cases t with
 | n i=>rw[oG e,List.length_set]
 | t is=>
  obtain⟨ds,_,_,e⟩:=oF e
  rw[e]
  exact uE (λd=>(v.sub d).slot)
theorem aBM{v:Vl}{t:T}{σ2:Sg}{j:Nat}{pa:Bool}{ds:List D}(hf:v.fr=false)(e:bG σ v t=.ok σ2)(h:σ2[j]? = some (.own pa ds)):σ[j]? = some (.own pa ds):=by
 cases t with
 | n i=>
  rw[oG e,fT hf] at h
  rcases set_some h with⟨_,e,_⟩|⟨_,e⟩
  . cases e
  . exact e
 | t is=>
  obtain⟨ds',_,_,e⟩:=oF e
  rw[e] at h
  rcases fold_mem (λd=>(v.sub d).slot) h with q|⟨b,q⟩
  . exact q
  . rw[uD] at q;cases q
theorem yK(S:Sx K RT Y old σ σV H){t:T}{v:Vl}{u:V}{Q:L2.St->Hp->Prop}{σ2:Sg}(hfr:v.fr=false)(h:Rep K H (λa=>RT a\/exB Y old v.pa a) v.d u)(e:bG σ v t=.ok σ2)
 (q:∀σ2V,Sx K RT Y old σ2 σ2V H->(∀j,j∉tIx t->σ2V[j]? = σV[j]?)->Q σ2V H):gT K t u σV H Q:=by
 cases t with
 | n i=>
  rw[oG e,fT hfr] at q
  exact q _ (S.setSh h) λj hj=>List.getElem?_set_ne λz=>hj (by simp[tIx,z])
 | t is=>
  obtain⟨ds,hd,hl,e⟩:=oF e
  rw[hd] at h
  obtain⟨a,xs,rfl,hq,r⟩:=h
  have l2:=r.length
  refine⟨a,xs,rfl,hq,by omega,aEF (by omega) (q _ ?_ λj hj=>?_)⟩
  . rw[e];exact S.setAll r
  . exact lL (λd=>some d) hj
end
section
variable {X:Cx} {P:Pg} {Γ:Ct} {n:Nat} {RT Y old:Addr->Prop} {σ:Sg} {tg:Expr} {pos:Pos}
theorem uG(M:Mc X P Γ n):∀{is:List Nat} {es:List Expr},is.length=es.length->((is.zip es).all λp=>match p.2 with|.Name x _=>bD Γ p.1 x|_=>false)=true ->
 PGs X es (gs is)/\(assignEach es X.env).length=is.length/\(assignEach es X.env).findIdx? (·.1)=none
 | [],[],_,_=>⟨aCS,rfl,rfl⟩
 | [],_::_,e,_=>by simp at e
 | _::_,[],e,_=>by simp at e
 | i::is,e::es,hl,h=>by
  rw[List.zip_cons_cons,List.all_cons,bA] at h
  obtain⟨h1,h2,h3⟩:=uG M (is:=is) (es:=es) (by simpa using hl) h.2
  cases e with
  | Name x p=>
   have hs:bD Γ i x=true:=h.1
   unfold bD at hs
   simp only[bA,beq_iff_eq] at hs
   have e1:assignEach (.Name x p::es) X.env=(false,assign (.Name x p) X.env)::assignEach es X.env:=rfl
   refine⟨aAT (nA M.nd (by rw[M.N];exact hs.1.1) (M.loc hs.1.2) (M.st x hs.1.2)) h1 (by rw[e1];rfl),?_,?_⟩
   . rw[e1,lC,lC,h2]
   . rw[e1,List.findIdx?_cons]
     simp[h3]
  | _=>cases h.1
theorem wQ(M:Mc X P Γ n){t:T}(h:jJ Γ t tg=true):PG X tg (gT X.K t):=by
 cases t with
 | n i=>
  cases tg with
  | Name x p=>
   have hs:bD Γ i x=true:=h
   unfold bD at hs
   simp only[bA,beq_iff_eq] at hs
   exact nA M.nd (by rw[M.N];exact hs.1.1) (M.loc hs.1.2) (M.st x hs.1.2)
  | _=>cases h
 | t is=>
  cases tg with
  | Tuple es k p=>
   have h:(is.length==es.length&&(is.zip es).all λp=>match p.2 with|.Name x _=>bD Γ p.1 x|_=>false)=true:=h
   rw[bA,beq_iff_eq] at h
   obtain⟨h1,h2,h3⟩:=uG M h.1 h.2
   exact aFh M.calm h1 h2 h3
  | _=>cases h
def ch0(k:Nat)(caps:List Nat)(σ:Sg):Sg:=List.replicate k .dead++caps.map λi=>(σ[i]?).getD .dead
theorem ch0_get{k:Nat}{caps:List Nat}{σ:Sg}{j:Nat}{s:Sl}(h:(ch0 k caps σ)[j]? = some s):s=.dead\/∃j' i,j=k+j'/\caps[j']? = some i/\σ[i]? = some s:=by
 unfold ch0 at h
 by_cases hj:j<k
 . rw[List.getElem?_append_left (by simpa using hj),List.getElem?_replicate,if_pos hj] at h
   cases h
   exact .inl rfl
 . rw[List.getElem?_append_right (by simpa using hj),List.length_replicate,List.getElem?_map] at h
   cases e:caps[j-k]? with
   | none=>rw[e] at h;cases h
   | some i=>
    rw[e] at h
    have h':(σ[i]?).getD .dead=s:=Option.some.inj h
    cases q:σ[i]? with
    | none=>rw[q] at h';exact .inl h'.symm
    | some z=>rw[q] at h';exact .inr ⟨j-k,i,by omega,e,by rw[q];exact congrArg some h'⟩
theorem uH{k:Nat}{caps:List Nat}{σ:Sg}{j:Nat}{s:Sl}(hj:j<k)(h:(ch0 k caps σ)[j]? = some s):s=.dead:=by
 unfold ch0 at h
 rw[List.getElem?_append_left (by simpa using hj),List.getElem?_replicate,if_pos hj] at h
 cases h
 rfl
theorem nD{k:Nat}{caps:List Nat}{σV:L2.St}{j i:Nat}{v:V}(e:caps[j]? = some i)(h:σV[i]? = some (some v)):(gI k caps σV)[k+j]? = some (some v):=by
 unfold gI
 rw[List.getElem?_append_right (by simp),List.length_replicate,List.getElem?_map,Nat.add_sub_cancel_left,e]
 show some ((σV[i]?).getD none)=_
 rw[h];rfl
theorem kF{k:Nat}{caps:List Nat}{σV:L2.St}{j i:Nat}{v:V}(e:caps[j]? = some i)(h:(gI k caps σV)[k+j]? = some (some v)):σV[i]? = some (some v):=by
 unfold gI at h
 rw[List.getElem?_append_right (by simp),List.length_replicate,List.getElem?_map,Nat.add_sub_cancel_left,e] at h
 have h':(σV[i]?).getD none=some v:=Option.some.inj h
 cases q:σV[i]? with
 | none=>rw[q] at h';cases h'
 | some z=>rw[q] at h';exact congrArg some h'
theorem fU{α:Type}:∀{l:List α},l.Nodup->∀{i j:Nat} {x:α},l[i]? = some x->l[j]? = some x->i=j
 | [],_,_,_,_,h,_=>by simp at h
 | a::l,hn,0,0,_,_,_=>rfl
 | a::l,hn,0,j+1,x,h1,h2=>by
  have e:a=x:=by simpa using h1
  have:x∈l:=mG (by simpa using h2)
  subst e
  exact absurd this (List.nodup_cons.mp hn).1
 | a::l,hn,i+1,0,x,h1,h2=>by
  have e:a=x:=by simpa using h2
  have:x∈l:=mG (by simpa using h1)
  subst e
  exact absurd this (List.nodup_cons.mp hn).1
 | a::l,hn,i+1,j+1,x,h1,h2=>congrArg (·+1) (fU (List.nodup_cons.mp hn).2 (i:=i) (j:=j) (x:=x) (by simpa using h1) (by simpa using h2))
theorem Sx.child{K:Fg}{σV:L2.St}{H:Hp}(S:Sx K RT Y old σ σV H){k:Nat}{caps:List Nat}(nd:caps.Nodup):Sx K RT Y old (ch0 k caps σ) (gI k caps σV) H where
 sh:=λj pa d e=>by
  rcases ch0_get e with z|⟨j',i,rfl,hc,hs⟩
  . cases z
  . obtain⟨v,h1,h2⟩:=S.sh i pa d hs
    exact⟨v,nD hc h1,h2⟩
 own:=λj pa ds e=>by
  rcases ch0_get e with z|⟨j',i,rfl,hc,hs⟩
  . cases z
  . obtain⟨a,xs,h1,h2⟩:=S.own i pa ds hs
    exact⟨a,xs,nD hc h1,h2⟩
 trk:=S.trk
 yo:=S.yo
 tk:=S.tk
 rt:=S.rt
 inj:=λj1 j2 pa pa' ds ds' a e1 e2 e3 e4=>by
  rcases ch0_get e1 with z|⟨j1',i1,rfl,hc1,hs1⟩
  . cases z
  rcases ch0_get e2 with z|⟨j2',i2,rfl,hc2,hs2⟩
  . cases z
  have:=S.inj i1 i2 pa pa' ds ds' a hs1 hs2 (kF hc1 e3) (kF hc2 e4)
  subst this
  rw[fU nd hc1 hc2]
 len:=by
  unfold ch0 gI
  rw[lA,lA,lM,lM,List.length_replicate,List.length_replicate]
 lx:=S.lx.imp (λj=>(caps[j-k]?).getD 0) (λj ds e=>by
  rcases ch0_get e with z|⟨j',i,rfl,hc,hs⟩
  . cases z
  . rw[Nat.add_sub_cancel_left,hc]
    refine⟨hs,?_⟩
    obtain⟨a,xs,h1,_⟩:=S.lx.at' i ds hs
    rw[nD hc h1]
    exact h1.symm) (λj1 j2 ds ds' e1 e2 q=>by
  rcases ch0_get e1 with z|⟨j1',i1,rfl,hc1,_⟩
  . cases z
  rcases ch0_get e2 with z|⟨j2',i2,rfl,hc2,_⟩
  . cases z
  rw[Nat.add_sub_cancel_left,Nat.add_sub_cancel_left,hc1,hc2] at q
  have q:i1=i2:=q
  subst q
  rw[fU nd hc1 hc2]) (λ_ _ e z _=>⟨e,z⟩) (λ_ _ r=>r) (λj ds e=>by
  rcases ch0_get e with z|⟨j',i,rfl,hc,hs⟩
  . cases z
  . rw[Nat.add_sub_cancel_left,hc]
    refine⟨hs,?_⟩
    obtain⟨a,xs,h1,_⟩:=S.lx.at2 i ds hs
    rw[nD hc h1]
    exact h1.symm) (λj1 j2 ds ds' e1 e2 q=>by
  rcases ch0_get e1 with z|⟨j1',i1,rfl,hc1,_⟩
  . cases z
  rcases ch0_get e2 with z|⟨j2',i2,rfl,hc2,_⟩
  . cases z
  rw[Nat.add_sub_cancel_left,Nat.add_sub_cancel_left,hc1,hc2] at q
  have q:i1=i2:=q
  subst q
  rw[fU nd hc1 hc2]) (λp xs e z=>⟨e,z.1,z.2.1,λj pa ds q w=>by
  rcases ch0_get q with v|⟨j',i,rfl,hc,hs⟩
  . cases v
  . exact z.2.2 i pa ds hs (kF hc w)⟩) λ_ _ r=>r
theorem Sx.forget{K:Fg}{σ':Sg}{σV:L2.St}{H:Hp}(S:Sx K RT Y old σ σV H)(hl:σ'.length=σ.length)(h:∀(j:Nat) (s:Sl),σ'[j]? = some s->s=.dead\/σ[j]? = some s):Sx K RT Y old σ' σV H where
 sh:=λj pa d e=>by
  rcases h j _ e with z|z
  . cases z
  . exact S.sh j pa d z
 own:=λj pa d e=>by
  rcases h j _ e with z|z
  . cases z
  . exact S.own j pa d z
 trk:=S.trk
 yo:=S.yo
 tk:=S.tk
 rt:=S.rt
 inj:=λj1 j2 pa pa' ds ds' a e1 e2 e3 e4=>by
  rcases h j1 _ e1 with z|z1
  . cases z
  rcases h j2 _ e2 with z|z2
  . cases z
  exact S.inj j1 j2 pa pa' ds ds' a z1 z2 e3 e4
 len:=by rw[hl];exact S.len
 lx:=S.lx.imp id (λj ds e=>(h j _ e).elim (λz=>by cases z) λz=>⟨z,rfl⟩) (λ_ _ _ _ _ _ e=>e) (λ_ _ e z _=>⟨e,z⟩) (λ_ _ r=>r) (λj ds e=>(h j _ e).elim (λz=>by cases z) λz=>⟨z,rfl⟩) (λ_ _ _ _ _ _ e=>e) (λp xs e z=>⟨e,z.1,z.2.1,λk pa ds q=>(h k _ q).elim (λw=>by cases w) λw=>z.2.2 k pa ds w⟩) λ_ _ r=>r
def wTs(X:Cx)(P:Pg)(n:Nat)(RT Y old:Addr->Prop)(σ:Sg)(cs:Es):TT:=λσV H Q=>Sx X.K RT Y old σ σV H/\RE (tsts P (call P n) σ cs) λk=>∀H',Tk X.K H'->aL H H'->Q k H'
theorem aFS:PTs X [] (wTs X P n RT Y old σ .nil):=λpins s σV H Q I ⟨S,h⟩=>yG pins s σV H Q I ((show ∀H',Tk X.K H'->aL H H'->Q true H' from h) H I.tk (aL.refl H))
theorem aFT{c:E}{e:Expr}(h:PT X e (WT X P n RT Y old σ c)):PTs X [e] (wTs X P n RT Y old σ (.cons c .nil)):=λpins s σV H Q I ⟨S,hh⟩=>aDr h pins s σV H Q I ⟨S,by
 have hh:=RE.bind' (show RE (tst P (call P n) σ c >>= λx=>if x=true then tsts P (call P n) σ .nil else R.ok false) _ from hh)
 refine hh.mono λk hk=>?_
 cases k with
 | true=>exact hk
 | false=>exact hk⟩
theorem Rvs.append{K:Fg}{σV:L2.St}{H:Hp}:∀{vs ws:List Vl} {us zs:List V},Rvs K RT Y old σ σV H vs us->Rvs K RT Y old σ σV H ws zs->Rvs K RT Y old σ σV H (vs++ws) (us++zs)
 | [],_,_,_,h,q=>by rw[show _=[] from h];exact q
 | v::vs,_,_,_,h,q=>by
  obtain⟨u,r,e,h1,h2⟩:=h
  subst e
  exact⟨u,_,rfl,h1,Rvs.append h2 q⟩
def lv(k:Nat)(caps al:List Nat)(v:Vl):Vl:=⟨v.d,false,v.pa,al++v.al.filterMap λj=>caps[j-k]?⟩
theorem uI{f:Vl->R (Option Vl)}{x:Vl}{xs rs:List Vl}(h:dC f (x::xs)=.ok rs):∃y ys,f x=.ok y/\dC f xs=.ok ys/\rs=(match y with|some y=>y::ys|none=>ys):=by
 have h:(f x >>= λy=>dC f xs >>= λys=>(match y with|some y=>R.ok (y::ys)|none=>R.ok ys))=R.ok rs:=h
 cases q1:f x with
 | ok y=>
  rw[q1] at h
  have h:(dC f xs >>= λys=>(match y with|some y=>R.ok (y::ys)|none=>R.ok ys))=R.ok rs:=h
  cases q2:dC f xs with
  | ok ys=>
   rw[q2] at h
   refine⟨y,ys,rfl,rfl,?_⟩
   cases y with
   | none=>cases(show R.ok ys=R.ok rs from h);rfl
   | some y=>cases(show R.ok (y::ys)=R.ok rs from h);rfl
  | exc z=>rw[q2] at h;cases h
  | bad=>rw[q2] at h;cases h
 | exc z=>rw[q1] at h;cases h
 | bad=>rw[q1] at h;cases h
theorem R.bind_ok{α β:Type}{x:R α}{f:α->R β}{b:β}(h:(x >>= f)=.ok b):∃a,x=.ok a/\f a=.ok b:=by
 cases x with
 | ok a=>exact⟨a,rfl,h⟩
 | exc z=>cases h
 | bad=>cases h
theorem aBN{k:Nat}{caps:List Nat}{t:T}{it:Hp.It}{cond:Es}{elt:E}(hnd:caps.Nodup)(hk:∀i∈tIx t,i<k){σV:L2.St}{H:Hp}{Q:VK}(hw:WE X P n RT Y old σ (.comp k caps t it cond elt) σV H Q) :
 aBy k caps (wI X P n RT Y old σ it) (gT X.K t) (λσV H Q=>∃RT Y old σ1,wTs X P n RT Y old σ1 cond σV H Q) (λσV H Q=>∃RT Y old σ1,WE X P n RT Y old σ1 elt σV H Q) σV H λv H'=>Tk X.K H'->Q v H':=by
 obtain⟨S,h⟩:=hw
 let f:List Nat->Vl->R (Option Vl):=λal x=>bG (ch0 k caps (freeze σ al)) x t >>= λσ1=>tsts P (call P n) σ1 cond >>= λb=>if b=true then (ev P (call P n) σ1 elt >>= λy=>R.ok (some y)) else R.ok none
 have h:=RE.bind' (show RE (walk P (call P n) σ it >>= λxs=>dC (f xs.2) xs.1 >>= λvs=>R.iff (decide (vs.length<=lim)) (R.ok (hZ k caps xs.2 vs))) (Wn X RT Y old σ σV H Q) from h)
 refine⟨S,h.mono λxs hx J H1 t1 s1 ok=>?_⟩
 obtain⟨vs,evs,hv⟩:=(RE.bind' hx).eq
 obtain⟨hl,hq⟩:=hv.iff
 have hl:=of_decide_eq_true hl
 have hq:Wn X RT Y old σ σV H Q (hZ k caps xs.2 vs):=hq
 have S1:=S.grow s1 t1
 have Sf:=S1.frz xs.2
 refine⟨λi m ys σ1V Hc=>m=xs.1.length-i/\i<=xs.1.length/\aL H1 Hc/\Tk X.K Hc/\Sx X.K (rtF RT σ σV xs.2) Y old (ch0 k caps (freeze σ xs.2)) σ1V Hc/\(∀j,k<=j->σ1V[j]? = (gI k caps σV)[j]?) /\
  ∃ws rs,vs=ws++rs/\dC (f xs.2) (xs.1.drop i)=.ok rs/\Rvs X.K RT Y old σ σV Hc (ws.map (lv k caps xs.2)) ys,⟨_,rfl,Nat.zero_le _,aL.refl _,t1,Sf.child hnd,λ_ _=>rfl,[],vs,rfl,evs,rfl⟩,?_⟩
 rintro i m ys σ1V Hc ⟨hm,hi,sc,tc,Sc,hcap,ws,rs,evs',ego,rvs⟩
 have okc:=ok.ok (λ_=>False) (λ_ z=>z.elim) i Hc (Kp.same sc)
 have hly:=rvs.length
 rw[lM] at hly
 have hws:ws.length<=vs.length:=by rw[evs',lA];omega
 by_cases hlt:i<xs.1.length
 . refine .inr ⟨okc.1 hlt,by rw[<-hly,sizeLine_eq];have:lim=1000000:=rfl;omega,λx H' hy=>?_⟩
   have hxi:xs.1[i]? = some xs.1[i]:=List.getElem?_eq_getElem hlt
   obtain⟨sm,tkf,rv⟩:=okc.2.2 x H' hy xs.1[i] hxi
   have rv:Rep X.K H' (exV RT Y old σ σV xs.1[i].pa xs.1[i].al) xs.1[i].d x:=Rep.weak rv λa z=>.inl z
   rw[List.drop_eq_getElem_cons hlt] at ego
   obtain⟨yo,ys',ef,ego',ers⟩:=uI ego
   obtain⟨σ1,eσ,ef⟩:=R.bind_ok ef
   obtain⟨b,eb,ef⟩:=R.bind_ok ef
   have hmem:xs.1[i]∈xs.1:=List.getElem_mem hlt
   have hnf:=ok.nofr _ hmem
   have rep:Rep X.K H' (λa=>rtF RT σ σV xs.2 a\/exB Y old xs.1[i].pa a) xs.1[i].d x:=Rep.weak rv λa z=>by
    rcases z with z|z
    . exact .inl ⟨z.1,λq=>z.2 (q.mono (ok.sub _ hmem))⟩
    . exact .inr z
   refine yK (Sc.grow sm (tkf tc)) hnf rep eσ λσ2V S2 hkeep=>⟨_,_,_,σ1,S2,?_⟩
   rw[eb]
   intro H3 t3 s3
   have capk:∀j,k<=j->σ2V[j]? = (gI k caps σV)[j]? := λj hj=>by
    rw[hkeep j λz=>absurd (hk j z) (Nat.not_lt.mpr hj),hcap j hj]
   have back:∀{H5:Hp},Sx X.K (rtF RT σ σV xs.2) Y old σ1 σ2V H5->Sx X.K (rtF RT σ σV xs.2) Y old (ch0 k caps (freeze σ xs.2)) σ2V H5:=λ{H5} S5=>S5.forget (uF eσ).symm λj s hs=>by
    by_cases hj:j∈tIx t
    . exact .inl (uH (hk j hj) hs)
    . exact .inr (by rw[aBL eσ hj];exact hs)
   cases b with
   | false=>
    rw[if_neg bN] at ef ⊢
    cases(show R.ok none=R.ok yo from ef)
    have ers:rs=ys':=ers
    subst ers
    exact⟨_,by omega,rfl,hlt,sc.trans (sm.trans s3),t3,back (S2.grow s3 t3),capk,ws,rs,evs',ego',rvs.grow (sm.trans s3)⟩
   | true=>
    rw[if_pos rfl] at ef ⊢
    obtain⟨y,ey,ef⟩:=R.bind_ok ef
    cases(show R.ok (some y)=R.ok yo from ef)
    have ers:rs=y::ys':=ers
    subst ers
    refine⟨_,_,_,σ1,S2.grow s3 t3,?_⟩
    rw[ey]
    intro u H4 t4 ro4
    have s4:=ro4.1
    have rv4:Rep X.K H4 (exV (rtF RT σ σV xs.2) Y old σ1 σ2V y.pa y.al) y.d u:=ro4.rv (S2.grow s3 t3)
    refine⟨_,by omega,rfl,hlt,sc.trans (sm.trans (s3.trans s4)),t4,back ((S2.grow s3 t3).grow s4 t4),capk,ws++[y],ys',by rw[evs'];simp,ego',?_⟩
    rw[List.map_append]
    refine(rvs.grow (sm.trans (s3.trans s4))).append ⟨u,[],rfl,?_,rfl⟩
    show Rep X.K H4 (exV RT Y old σ σV y.pa (xs.2++y.al.filterMap λj=>caps[j-k]?)) y.d u
    refine rv4.weak λc z=>?_
    rcases z with⟨z1,z2⟩|z
    . refine .inl ⟨⟨z1,λq=>z2 (q.mono λj hj=>List.mem_append_left _ hj)⟩,λq=>z2 ?_⟩
      obtain⟨j,hj,⟨pa,ds,ho⟩,hV⟩:=q
      have ho:=aBM hnf eσ ho
      rcases ch0_get ho with z|⟨j',i',rfl,hc,hs⟩
      . cases z
      . rw[capk _ (Nat.le_add_right _ _)] at hV
        refine⟨i',List.mem_append_right _ (List.mem_filterMap.mpr ⟨k+j',hj,by rw[Nat.add_sub_cancel_left];exact hc⟩),⟨pa,ds,(dW hs).1⟩,kF hc hV⟩
    . exact .inr z
 . have hie:i=xs.1.length:=by omega
   subst hie
   rw[List.drop_length] at ego
   cases(show R.ok []=R.ok rs from ego)
   rw[List.append_nil] at evs'
   subst evs'
   refine .inl ⟨okc.2.1 (Nat.le_refl _),by rw[<-hly];exact eH hl,λp hp t'=>hq _ _ t' ?_⟩
   have Sc':=S.grow (s1.trans sc) tc
   have emap:(vs.map (lv k caps xs.2)).map (·.d)=vs.map (·.d):=by rw[List.map_map];rfl
   have rr:Reps X.K Hc (exV RT Y old σ σV (aV vs) (xs.2++(cC vs).filterMap λj=>caps[j-k]?)) (vs.map (·.d)) ys:=by
    rw[<-emap]
    refine rvs.reps λv hv=>?_
    obtain⟨w,hw,e⟩:=List.mem_map.mp hv
    subst e
    refine⟨λz=>iA hw z,λj hj=>?_⟩
    rcases List.mem_append.mp hj with z|z
    . exact List.mem_append_left _ z
    . obtain⟨j',hj',e⟩:=List.mem_filterMap.mp z
      exact List.mem_append_right _ (List.mem_filterMap.mpr ⟨j',mK hw j' hj',e⟩)
   unfold hZ
   split
   . rename_i hn
     exact(Ro.fresh hp t' rfl rfl Sc' (Reps.free _ _ hn rr)).from (s1.trans sc)
   . exact(Ro.fresh hp t' rfl rfl Sc' rr).from (s1.trans sc)
theorem aFU(M:Mc X P Γ n){k:Nat}{caps:List Nat}{t:T}{it:Hp.It}{cond:Es}{elt:E}{e iter:Expr}{ifs:List Expr}{scope:Scope}{N':List Str}(CS:cI X scope k caps N')(hnd:caps.Nodup)(hk:∀i∈tIx t,i<k)
 (hi:PI X tg iter (wI X P n RT Y old σ it))
 (hch:∀C s₀ H₀ ex,PG (cU X scope N' C s₀ H₀ ex) tg (gT X.K t)/\(∀RT Y old σ1,PTs (cU X scope N' C s₀ H₀ ex) ifs (wTs X P n RT Y old σ1 cond))/\∀RT Y old σ1,PE (cU X scope N' C s₀ H₀ ex) e (WE X P n RT Y old σ1 elt))
 (hs:∀x,foldedSetIterable iter X.env x=pure x):PE X (.ListComp e [⟨tg,iter,ifs,0⟩] scope pos) (WE X P n RT Y old σ (.comp k caps t it cond elt)):=by
 refine(rO (g:=gT X.K t) (tt:=λσV H Q=>∃RT Y old σ1,wTs X P n RT Y old σ1 cond σV H Q) (te:=λσV H Q=>∃RT Y old σ1,WE X P n RT Y old σ1 elt σV H Q) CS M.calm hi (λC s₀ H₀ ex=>?_) hs).imp λσV H Q t0 hw=>aBN hnd hk hw
 . obtain⟨h1,h2,h3⟩:=hch C s₀ H₀ ex
   exact⟨h1,λpins s σV H Q I ⟨RT,Y,old,σ1,hw⟩=>h2 RT Y old σ1 pins s σV H Q I hw,λpins s σV H Q I ⟨RT,Y,old,σ1,hw⟩=>h3 RT Y old σ1 pins s σV H Q I hw⟩
end
section
variable {X:Cx} {P:Pg} {Γ:Ct} {n:Nat} {RT Y old:Addr->Prop} {σ:Sg} {tg:Expr} {pos:Pos}
theorem aIF(M:Mc X P Γ n){i:Nat}{k:E}{x:Str}{p:Pos}{ix:Expr}(hx:bC Γ i x=true)(hk:PE X ix (WE X P n RT Y old σ k))(hp:aO ix=true):PE X (.Subscript (.Name x p) ix pos) (WE X P n RT Y old σ (.lix i k)):=by
 have hpe:PE X (.Name x p) (aCO i):=by
  unfold bC at hx
  simp only[bA] at hx
  obtain⟨⟨h1,h2⟩,h3⟩:=hx
  exact lH (by rw[M.N];exact eq_of_beq h1) (M.vis h2) (aM h3) (eP h3)
 refine(xZ vZ hpe hk (gJ hp)).imp λσV H Q t ⟨S,h⟩=>?_
 obtain⟨y,ey,h⟩:=(RE.bind' (show RE (ev P (call P n) σ k >>= λy=>(match σ[i]? with|some (.lent ds)=>bV ⟨.lst ds,false,true,[]⟩ y|_=>.bad)) _ from h)).eq
 cases e:σ[i]? with
 | none=>rw[e] at h;exact h.elim
 | some sl=>
  rw[e] at h
  cases sl with
  | lent ds=>
   have h:RE (bV ⟨.lst ds,false,true,[]⟩ y) _:=h
   obtain⟨a,xs,h1,h2,h3,h4,h5⟩:=S.lx.at' i ds e
   refine⟨.ref a,h1,S,?_⟩
   rw[ey]
   intro uy H1 t1 r1
   unfold bV at h
   cases hd:y.d with
   | int j=>
    rw[hd] at h
    have h:RE (match Hp.ixN ds.length j with|some j=>(match ds[j]? with|some d=>R.ok (Vl.sub ⟨.lst ds,false,true,[]⟩ d)|none=>.bad)|none=>.bad) _:=h
    cases hj:Hp.ixN ds.length j with
    | none=>rw[hj] at h;exact h.elim
    | some m=>
     rw[hj] at h
     cases hm:ds[m]? with
     | none=>simp only[hm] at h;exact h.elim
     | some d=>
      simp only[hm] at h
      obtain⟨v,hv,rv⟩:=(h5.grow r1.1).get hm
      have rv:Rep X.K H1 (exV RT Y old σ σV true []) d v:=rv.weak λb z=>z.imp (·.1) id
      refine .inl ⟨a,xs,j,v,rfl,(r1.rv S).int hd,SqL.of (r1.1 _ _ h2),?_,λt'=>h v H1 t' ((Rv.ofSub (x:=⟨.lst ds,false,true,[]⟩) rv).from r1.1)⟩
      unfold atI
      rw[<-h5.length,<-lJ,hj]
      exact hv
   | _=>rw[hd] at h;exact h.elim
  | _=>exact h.elim
theorem oH:∀{ds:List D},noLs ds=true↔∀d∈ds,noL d=true
 | []=>by simp[noLs]
 | d::ds=>by simp[noLs,oH (ds:=ds)]
theorem wR{ds:List D}{k:Nat}(h:noLs ds=true):noLs (cB k ds)=true:=by
 rw[oH] at h ⊢
 intro d hd
 obtain⟨m,_,e⟩:=List.mem_filterMap.mp hd
 exact h d (mG e)
theorem wU(its:List Value){k:Nat}(hk:0<k):slicePick its.toArray none none (some (k:Int))=(cB k its).toArray:=by
 unfold slicePick sliceBounds sliceRange cB
 have hk':(k:Int)>0:=by omega
 simp only[Option.getD_some,if_pos hk',List.size_toArray]
 congr 1
 rw[List.filterMap_map]
 have e:(if (0:Int)<(its.length:Int) then ((its.length:Int)-0+(k:Int)-1) / (k:Int) else 0).toNat=(its.length+k-1) / k:=by
  by_cases h0:0<its.length
  . rw[if_pos (by omega)]
    have:(its.length:Int)-0+(k:Int)-1=((its.length+k-1:Nat):Int):=by omega
    rw[this,<-Int.natCast_ediv,Int.toNat_natCast]
  . rw[if_neg (by omega)]
    have:its.length=0:=by omega
    rw[this]
    exact(Nat.div_eq_of_lt (by omega)).symm
 rw[e]
 congr 1
 funext m
 show its.toArray[((0:Int)+(k:Int)*(m:Int)).toNat]? = _
 have:((0:Int)+(k:Int)*(m:Int)).toNat=m*k:=by
  rw[Int.zero_add,<-Int.natCast_mul,Int.toNat_natCast,Nat.mul_comm]
 rw[this]
 simp
theorem aAr{α:Type}(k:Nat)(xs:List α)(hk:0<k):(cB k xs).length<=xs.length:=by
 unfold cB
 refine Nat.le_trans (List.length_filterMap_le _ _) ?_
 rw[List.length_range]
 cases h:xs.length with
 | zero=>exact Nat.le_of_eq (Nat.div_eq_of_lt (by omega))
 | succ m=>
  refine Nat.div_le_of_le_mul ?_
  have:m+1<=k*(m+1):=Nat.le_mul_of_pos_left _ hk
  have:k*(m+1)=k*m+k:=by rw[Nat.mul_succ]
  have:m<=k*m:=Nat.le_mul_of_pos_left _ hk
  omega
theorem lO{xs:List V}{us:List Value}(r:aU xs us):∀L:List Nat,aU (L.filterMap λm=>xs[m]?) (L.filterMap λm=>us[m]?)
 | []=>.nil
 | m::L=>by
  cases e:xs[m]? with
  | none=>
   rw[List.filterMap_cons_none e,List.filterMap_cons_none (r.none_of e)]
   exact lO r L
  | some x=>
   obtain⟨u,hu,ru⟩:=r.get e
   rw[List.filterMap_cons_some e,List.filterMap_cons_some hu]
   exact .cons ru (lO r L)
theorem lP{K:Fg}{H:Hp}{ex:Addr->Prop}{ds:List D}{xs:List V}(r:Reps K H ex ds xs):∀L:List Nat,Reps K H ex (L.filterMap λm=>ds[m]?) (L.filterMap λm=>xs[m]?)
 | []=>.nil
 | m::L=>by
  cases e:ds[m]? with
  | none=>
   have e2:xs[m]? = none:=by
    rw[List.getElem?_eq_none_iff] at e ⊢
    rw[<-r.length];exact e
   rw[List.filterMap_cons_none e,List.filterMap_cons_none e2]
   exact lP r L
  | some d=>
   obtain⟨x,hx,rx⟩:=r.get e
   rw[List.filterMap_cons_some e,List.filterMap_cons_some hx]
   exact .cons rx (lP r L)
theorem gL{α:Type}(k:Nat)(xs:List α):cB k xs=((List.range ((xs.length+k-1) / k)).map (·*k)).filterMap λm=>xs[m]? := by
 unfold cB
 rw[List.filterMap_map]
 rfl
theorem aIG{a:E}{k:Nat}{ea:Expr}{kk:Nat}{p p2:Pos}(ha:PE X ea (WE X P n RT Y old σ a)):PE X (.Subscript ea (.Slice none none (some (.Constant (.int k) kk p)) p2) pos) (WE X P n RT Y old σ (.stp a k)):=by
 intro pins s σV H Q I hw
 obtain⟨S,h⟩:=hw
 have h:=RE.bind' (show RE (ev P (call P n) σ a >>= λx=>(match x.d with
  | .lst ds=>R.iff (decide (0<k)) (R.ok (⟨.lst (cB k ds),true,x.pa&&!noLs ds,if noLs ds then [] else x.al⟩:Vl))
  | _=>.bad)) _ from h)
 refine Subscript_ (thn (ha pins s σV H (λu H1=>∃a' xs,u=.ref a'/\SqL X.K H1 a' xs/\0<k/\∀p,H1 p=none->Tk X.K (upd H1 p (.lst (cB k xs)))->Q (.ref p) (upd H1 p (.lst (cB k xs)))) I (wE.one S h λx u H1 hx t1 S1 r1=>?_)) λv s1 ⟨x,H1,I1,r1,a',xs,e,hq,hk,q⟩=>?_)
 . split at hx
   . rename_i ds d1
     obtain⟨hk,hx⟩:=hx.iff
     have hk:=of_decide_eq_true hk
     obtain⟨a',xs,e,qq,_,r⟩:=(r1.rv S).lst d1
     refine⟨a',xs,e,qq,hk,λp hp t'=>(show Wn X RT Y old σ σV H Q _ from hx) _ _ t' ((Ro.fresh hp t' rfl rfl S1 ?_).from r1.1)⟩
     have rr:=lP r ((List.range ((ds.length+k-1) / k)).map (·*k))
     rw[<-gL,r.length,<-gL] at rr
     by_cases hn:noLs ds=true
     . have hn2:noLs (cB k ds)=true:=wR hn
       exact Reps.free _ _ hn2 rr
     . show Reps X.K H1 (exV RT Y old σ σV (x.pa&&!noLs ds) (if noLs ds=true then [] else x.al)) _ _
       have hn':noLs ds=false:=by simpa using hn
       rw[hn',if_neg bN,Bool.not_false,Bool.and_true]
       exact rr
   . exact hx.elim
 . subst e
   cases r1
   refine wpAny_Slice ?_
   rw[evalPart_none]
   refine wpAny_pure (wpAny_pure ?_)
   rw[evalPart_some]
   refine thn (aAM pins s1 σV H1 (λv H'=>v=.int k/\H'=H1) I1 ⟨rfl,rfl⟩) λvk s2 ⟨y,H2,I2,r2,e1,e2⟩=>?_
   subst e1 e2
   obtain⟨tk,rfl⟩:=r2
   have I3:L2.Inv X pins σV H2 { s2 with heap:=s2.heap.push { cls:=.type "slice",data:=.fields #[.none,.none,.int k tk] } }:=I2.kept (t':=s2.toks) λb ob q=>Heap.get?_push_of_some _ q
   obtain⟨its,rv,ht,hz⟩:=I3.list hq
   have hlen:=rv.length
   refine tail_any (ops:=[.ref a',.ref s2.heap.objs.size]) ht.isList.typeIs slot_list_getitem.lookup ?_ (by with_unfolding_all rfl)
   refine wpAny_getItem_list_slice ht.isList (Heap.IsSliceOf.new ..) .none .none (.int k tk) (by intro z;have:=Option.some.inj z;omega) ?_ (by rw[List.size_toArray] <;> omega)
   rw[wU its hk]
   have l2:aU (cB k xs) (cB k its):=by
    have:=lO rv ((List.range ((xs.length+k-1) / k)).map (·*k))
    rw[<-gL,hlen,<-gL] at this
    exact this
   have I4:=I3.laid (t':=s2.toks) (o:=.lst (cB k xs)) (h':=_) (λb ob q=>Heap.get?_push_of_some _ q) (Nat.le_refl _) ⟨Nat.le_trans (aAr k xs hk) hz,_,0,l2,Heap.get?_push_size _ rfl⟩
   exact⟨.ref _,_,I4,rfl,q _ (I3.hok.fresh (Nat.le_refl _)) I4.tk⟩
end
end Hp
end
noncomputable section
set_option maxHeartbeats 8000000
namespace Hp
open PySem PySem.Spec PyProof.Rows L2
section
variable {P:Pg} {n:Nat}
theorem uJ{X:Cx}{Γ:Ct}(M:Mc X P Γ n)(scope:Scope):(relabel scope X.env).names=jW Γ.sc scope.names:=by
 unfold relabel jW
 simp only
 refine List.map_congr_left λp hp=>?_
 obtain⟨m,k⟩:=p
 have e1:(X.env.scope.kind==ScopeKind.function)=true:=by rw[M.fk];rfl
 have e2:X.env.kindOf m=Γ.sc.lookup m:=by unfold Env.kindOf;rw[M.sc]
 simp only[e1,e2,Bool.and_true]
abbrev chN(Γ:Ct)(tg:Expr)(caps:List Nat):List Str:=dD tg++caps.filterMap λi=>Γ.N[i]?
abbrev oI(Γ:Ct)(tg:Expr)(caps:List Nat)(scope:Scope):Ct:={ Γ with N:=chN Γ tg caps,sc:=jW Γ.sc scope.names,fn:=false }
structure aAs (Γ:Ct) (tg:Expr) (caps:List Nat) (scope:Scope) (k:Nat) (t:T):Prop where
 len:(dD tg).length=k
 lt:∀i∈caps,i<Γ.N.length
 ndc:caps.Nodup
 kind:scope.kind=.function
 nd:(chN Γ tg caps).Nodup
 cap:∀x∈caps.filterMap (λi=>Γ.N[i]?),scope.names.lookup x=some .free/\Γ.sc.lookup x=some .cell
 all:∀p∈scope.names,p.2≠.cell/\(p.2=.local->scope.names.lookup p.1=some .local)/\(p.2=.free->Γ.sc.lookup p.1=some .cell)
 tk:∀i∈tIx t,i<k
theorem rS{N:List Str}:∀{caps:List Nat},(∀i∈caps,i<N.length)->∀{j i:Nat},caps[j]? = some i->(caps.filterMap λi=>N[i]?)[j]? = N[i]?/\(caps.filterMap λi=>N[i]?).length=caps.length
 | [],_,_,_,h=>by simp at h
 | c::cs,hl,j,i,h=>by
  have hc:N[c]? = some N[c]! := by
   have:=hl c List.mem_cons_self
   simp[this]
  rw[List.filterMap_cons_some hc]
  have hl':∀i∈cs,i<N.length:=λi hi=>hl i (List.mem_cons_of_mem _ hi)
  have len:(cs.filterMap λi=>N[i]?).length=cs.length:=by
   cases cs with
   | nil=>rfl
   | cons c' cs'=>exact(rS hl' (j:=0) (i:=c') rfl).2
  refine⟨?_,by rw[lC,lC,len]⟩
  cases j with
  | zero=>
   have e:c=i:=by simpa using h
   subst e
   rw[gZ,hc]
  | succ j=>
   rw[gS]
   exact(rS hl' (j:=j) (i:=i) (by simpa using h)).1
theorem aFV{N:List Str}{caps:List Nat}(h:∀i∈caps,i<N.length):(caps.filterMap λi=>N[i]?).length=caps.length:=by
 cases caps with
 | nil=>rfl
 | cons c cs=>exact(rS h (j:=0) (i:=c) rfl).2
theorem aAs.scope{X:Cx}{Γ:Ct}{tg:Expr}{caps:List Nat}{scope:Scope}{k:Nat}{t:T}(O:aAs Γ tg caps scope k t)(M:Mc X P Γ n):cI X scope k caps (chN Γ tg caps) where
 kind:=O.kind
 nocell:=λy hy=>(O.all y hy).1
 loc:=λy hy e=>(O.all y hy).2.1 e
 free:=λm hm=>.inl (by
  have:=(O.all _ hm).2.2 rfl
  show X.env.scope.names.lookup m=_
  rw[M.sc];exact this)
 len:=by rw[lA,O.len,aFV O.lt]
 cap:=λj i e=>by
  have hi:=O.lt i (mG e)
  have hx:Γ.N[i]? = some Γ.N[i]:=List.getElem?_eq_getElem hi
  have hg:=(rS O.lt e).1
  rw[hx] at hg
  obtain⟨h1,h2⟩:=O.cap _ (mG hg)
  refine⟨Γ.N[i],?_,by rw[M.N];exact hx,h1,?_⟩
  . show(dD tg++_)[k+j]? = _
    rw[List.getElem?_append_right (by rw[O.len];omega),O.len,Nat.add_sub_cancel_left]
    exact hg
  . show X.env.scope.names.lookup _=_
    rw[M.sc];exact h2
 ndp:=M.nd
theorem aAs.mc{X:Cx}{Γ:Ct}{tg:Expr}{caps:List Nat}{scope:Scope}{k:Nat}{t:T}(O:aAs Γ tg caps scope k t)(M:Mc X P Γ n)(C:Addr)(s₀:Shared)(H₀:Hp)(ex:List Addr) :
 Mc (cU X scope (chN Γ tg caps) C s₀ H₀ ex) P (oI Γ tg caps scope) n where
 md:=⟨M.md.fn,M.md.blt,M.md.cns,M.md.tab⟩
 N:=rfl
 nd:=O.nd
 sc:=uJ M scope
 calm:=M.calm
 room:=M.room
 xe:=rfl
 st:=λx h=>.inr (by
  show(relabel scope X.env).names.lookup x=_
  rw[uJ M scope]
  unfold tL at h
  have h:(match (jW Γ.sc scope.names).lookup x with|some .local=>true|some .cell=>false|_=>false)=true:=h
  split at h
  . rename_i e;exact e
  . cases h
  . cases h)
 fk:=O.kind
theorem uK{Γ:Ct}{tt:Bool}{a b:E}{e:Expr}:chkI Γ tt (.rng a b) e=oS (jK e) λp=>(p.1==("range" : Str))&&cM Γ p.1&&(match p.2 with
 | [x]=>wH a&&aP Γ b x
 | [x,y]=>aP Γ a x&&aP Γ b y
 | _=>false):=rfl
theorem uL{Γ:Ct}{tt:Bool}{a b:E}{e:Expr}:chkI Γ tt (.zip a b) e=oS (jK e) λp=>(match p.2 with
 | [x,y]=>tt&&(p.1==("zip" : Str))&&cM Γ p.1&&aP Γ a x&&aP Γ b y
 | _=>false):=rfl
theorem qD{Γ:Ct}{tt:Bool}{a:E}{e:Expr}:chkI Γ tt (.enum a) e=oS (jK e) λp=>(match p.2 with
 | [x]=>tt&&(p.1==("enumerate" : Str))&&cM Γ p.1&&aP Γ a x
 | _=>false):=rfl
theorem gM{Γ:Ct}{tt:Bool}{it:Hp.It}{e:Expr}(h:chkI Γ tt it e=true):aO e=true:=by
 cases it with
 | seq c=>exact aK (c:=c) (by exact h)
 | rng a b=>rw[uK] at h;obtain⟨_,⟨_,_,rfl⟩,_⟩:=aD h;rfl
 | zip a b=>rw[uL] at h;obtain⟨_,⟨_,_,rfl⟩,_⟩:=aD h;rfl
 | enum a=>rw[qD] at h;obtain⟨_,⟨_,_,rfl⟩,_⟩:=aD h;rfl
 | rng3 a b c=>cases h
 | rev a=>cases h
theorem aDz{X:Cx}{e:Expr}{c:E}{RT Y old:Addr->Prop}{σ:Sg}(h:tst P (call P n) σ c=.bad):PT X e (WT X P n RT Y old σ c):=λpins s σV H Q I ⟨S,hh⟩=>by
 rw[h] at hh
 exact hh.elim
theorem cV{a b c:Bool}(h:(a&&b&&c)=true):a=true/\b=true/\c=true:=by
 cases a <;> cases b <;> cases c <;> first|exact⟨rfl,rfl,rfl⟩|cases h
theorem dA{a b:Bool}(h:(a&&b)=true):a=true/\b=true:=by
 cases a <;> cases b <;> first|exact⟨rfl,rfl⟩|cases h
theorem aAt{a b c d:Bool}(h:(a&&b&&c&&d)=true):a=true/\b=true/\c=true/\d=true:=by
 obtain⟨h1,h2,h3⟩:=cV h
 obtain⟨h1,h4⟩:=dA h1
 exact⟨h1,h4,h2,h3⟩
theorem aBO{a b c d e:Bool}(h:(a&&b&&c&&d&&e)=true):a=true/\b=true/\c=true/\d=true/\e=true:=by
 obtain⟨h1,h2,h3,h4⟩:=aAt h
 obtain⟨h1,h5⟩:=dA h1
 exact⟨h1,h5,h2,h3,h4⟩
theorem rT{Γ:Ct}{k:Nat}{caps:List Nat}{t:T}{it:Hp.It}{cond:Es}{elt:E}{e:Expr}(h:aP Γ (.comp k caps t it cond elt) e=true) :
 ∃el tg iter ifs scope pos,e=.ListComp el [⟨tg,iter,ifs,0⟩] scope pos/\aAs Γ tg caps scope k t/\ifs.length<=1/\jJ (oI Γ tg caps scope) t tg=true/\chkI Γ (nU tg) it iter=true/\chkEs (oI Γ tg caps scope) cond ifs=true/\aP (oI Γ tg caps scope) elt el=true:=by
 obtain⟨⟨el,gens,scope⟩,h1,g⟩:=aD h
 clear h
 obtain⟨pos,rfl⟩:=h1
 have h:=g
 clear g
 rcases gens with _|⟨⟨tg,iter,ifs,as⟩,_|⟨_,_⟩⟩
 . cases h
 . have h:(as==0&&(dD tg).length==k&&(caps.all λi=>decide (i<Γ.N.length))&&decide caps.Nodup&&scope.kind==.function&&decide (dD tg++caps.filterMap λi=>Γ.N[i]?).Nodup &&
    ((caps.filterMap λi=>Γ.N[i]?).all λx=>scope.names.lookup x==some .free&&Γ.sc.lookup x==some .cell) &&
    (scope.names.all λp=>p.2 != .cell&&(p.2 != .local||scope.names.lookup p.1==some .local)&&(p.2 != .free||Γ.sc.lookup p.1==some .cell)) &&
    ((tIx t).all λi=>decide (i<k))&&decide (ifs.length<=1) &&
    jJ (oI Γ tg caps scope) t tg&&chkI Γ (nU tg) it iter&&chkEs (oI Γ tg caps scope) cond ifs&&aP (oI Γ tg caps scope) elt el)=true:=by
    exact h
   simp only[bA,beq_iff_eq,List.all_eq_true,decide_eq_true_eq,Bool.or_eq_true,bne_iff_ne,ne_eq] at h
   obtain⟨⟨⟨⟨⟨⟨⟨⟨⟨⟨⟨⟨⟨h0,h1⟩,h2⟩,h3⟩,h4⟩,h5⟩,h6⟩,h7⟩,h8⟩,h9⟩,h10⟩,h11⟩,h12⟩,h13⟩:=h
   subst h0
   refine⟨el,tg,iter,ifs,scope,pos,rfl,⟨h1,h2,h3,h4,h5,h6,λp hp=>?_,h8⟩,h9,h10,h11,h12,h13⟩
   obtain⟨⟨q1,q2⟩,q3⟩:=h7 p hp
   exact⟨q1,λe=>q2.resolve_left λz=>z e,λe=>q3.resolve_left λz=>z e⟩
 . cases h
abbrev PEc(P:Pg)(n:Nat)(c:E):Prop:=∀{X:Cx} {Γ:Ct},Mc X P Γ n->∀{e:Expr},aP Γ c e=true->∀(RT Y old:Addr->Prop) (σ:Sg),PE X e (WE X P n RT Y old σ c)
abbrev PTc(P:Pg)(n:Nat)(c:E):Prop:=∀{X:Cx} {Γ:Ct},Mc X P Γ n->∀{e:Expr},aP Γ c e=true->∀(RT Y old:Addr->Prop) (σ:Sg),PT X e (WT X P n RT Y old σ c)
abbrev PWc(P:Pg)(n:Nat)(c:E):Prop:=∀{X:Cx} {Γ:Ct},Mc X P Γ n->∀{o:BoolOp} {xs:List Expr} {pos:Pos},aP Γ c (.BoolOp o xs pos)=true->∀(RT Y old:Addr->Prop) (σ:Sg),PW X (.BoolOp o xs pos) (WT X P n RT Y old σ c)
structure Q3 (P:Pg) (n:Nat) (c:E):Prop where
 e:PEc P n c
 t:PTc P n c
 w:PWc P n c
structure QA (P:Pg) (n:Nat) (cs:Es):Prop where
 a:∀{X:Cx} {Γ:Ct},Mc X P Γ n->∀{es:List Expr},chkEs Γ cs es=true->∀(RT Y old:Addr->Prop) (σ:Sg),PA X es (WA X P n RT Y old σ cs)
 o:∀{X:Cx} {Γ:Ct},Mc X P Γ n->∀{e:Option Expr},chkO Γ cs e=true->∀(RT Y old:Addr->Prop) (σ:Sg),PO X e (wO X P n RT Y old σ cs)
 ts:∀{X:Cx} {Γ:Ct},Mc X P Γ n->∀{es:List Expr},es.length<=1->chkEs Γ cs es=true->∀(RT Y old:Addr->Prop) (σ:Sg),PTs X es (wTs X P n RT Y old σ cs)
abbrev QI(P:Pg)(n:Nat)(it:Hp.It):Prop:=∀{X:Cx} {Γ:Ct},Mc X P Γ n->∀{tg e:Expr},chkI Γ (nU tg) it e=true->∀(RT Y old:Addr->Prop) (σ:Sg),PI X tg e (wI X P n RT Y old σ it)
theorem Q3.of{c:E}(h:PEc P n c)(hd:∀σ,tst P (call P n) σ c=.bad)(hw:∀{Γ:Ct} {o:BoolOp} {xs:List Expr} {pos:Pos},aP Γ c (.BoolOp o xs pos)=false):Q3 P n c:=
 ⟨h,λ{X Γ} M {e} z RT Y old σ=>aDz (hd σ),λ{X Γ} M {o xs pos} z RT Y old σ=>absurd (hw.symm.trans z) bN⟩
theorem n_c{d:D}:Q3 P n (.c d):=by
 have h0:∀{Γ:Ct} {e:Expr},aP Γ (.c d) e=true->(∃c k p,e=.Constant c k p/\eqC d c=true)\/∃x p,e=.Name x p/\cM Γ x=true/\bW x=true/\∃d',Γ.cns.lookup x=some d'/\eqK d d'=true:=λ{Γ e} h=>by
  rcases(Bool.or_eq_true _ _).mp (show(oS (asC e) (eqC d)||oS (asN e) λx=>cM Γ x&&bW x&&oB (Γ.cns.lookup x) (eqK d))=true from h) with h|h
  . obtain⟨c,h1,g⟩:=aD h
    clear h
    obtain⟨k,p,rfl⟩:=h1
    have h:=g
    clear g
    exact .inl ⟨c,k,p,rfl,h⟩
  . obtain⟨x,h1,g⟩:=aD h
    clear h
    obtain⟨p,rfl⟩:=h1
    have h:=g
    clear g
    obtain⟨h1,h2,h3⟩:=cV h
    obtain⟨d',q1,q2⟩:=tW h3
    exact .inr ⟨x,p,rfl,h1,h2,d',q1,q2⟩
 have k:PEc P n (.c d):=λ{X Γ} M {e} h RT Y old σ=>by
  rcases h0 h with⟨c,j,p,rfl,g⟩|⟨x,p,rfl,h1,h2,d',q,h3⟩
  . exact s_c g
  . have e:=aFD h3
    subst e
    obtain⟨u,v,m,r,hr⟩:=M.md.cns x d q
    refine(xR (M.gl h1) m r (aM h2)).imp λσV H Q t ⟨S,hh⟩ t'=>?_
    exact(show Wn _ RT Y old σ σV H Q (Vl.cl d) from hh) v H t' (Ro.val (aL.refl H) (hr H))
 refine⟨k,λ{X Γ} M {e} h RT Y old σ=>?_,λ{X Γ} M {o xs pos} h RT Y old σ=>absurd h bN⟩
 refine qB (k M h RT Y old σ) ?_ λp hp=>hp
 rcases h0 h with⟨c,j,p,rfl,h⟩|⟨x,p,rfl,_⟩ <;> (intro _;rfl)
theorem n_v{i:Nat}:Q3 P n (.v i):=by
 have k:PEc P n (.v i):=λ{X Γ} M {e} h RT Y old σ=>by
  obtain⟨x,h1,g⟩:=aD h
  clear h
  obtain⟨p,rfl⟩:=h1
  have h:=g
  clear g
  have h:bC _ i x=true:=h
  unfold bC at h
  obtain⟨h1,h2,h3⟩:=cV h
  exact s_v (by rw[M.N];exact eq_of_beq h1) (M.vis h2) (aM h3) (eP h3)
 refine⟨k,λ{X Γ} M {e} h RT Y old σ=>?_,λ{X Γ} M {o xs pos} h RT Y old σ=>absurd h bN⟩
 refine qB (k M h RT Y old σ) ?_ λp hp=>RE.bind' (show RE (aX σ i >>= λx=>fL x) p from hp)
 obtain⟨x,⟨p,rfl⟩,_⟩:=aD h
 intro _;rfl
theorem aKS{o:Operator}{a b:E}(ha:Q3 P n a)(hb:Q3 P n b):Q3 P n (.op o a b):=Q3.of (λ{X Γ} M {e} h RT Y old σ=>by
 obtain⟨⟨l,o',r⟩,h1,g⟩:=aD h
 clear h
 obtain⟨p,rfl⟩:=h1
 have h:=g
 clear g
 obtain⟨h1,h2,h3⟩:=cV h
 have e:o=o':=eq_of_beq h1
 subst e
 exact aKP (ha.e M h2 RT Y old σ) (hb.e M h3 RT Y old σ)) (λ_=>rfl) rfl
theorem aKT{a:E}(ha:Q3 P n a):Q3 P n (.nt a):=by
 have h0:∀{Γ:Ct} {e:Expr},aP Γ (.nt a) e=true->∃x p,e=.UnaryOp .Not x p/\aP Γ a x=true:=λ{Γ e} h=>by
  obtain⟨⟨o,x⟩,h1,g⟩:=aD h
  clear h
  obtain⟨p,rfl⟩:=h1
  have h:=g
  clear g
  obtain⟨h1,h2⟩:=dA h
  have e:o=.Not:=eq_of_beq h1
  subst e
  exact⟨x,p,rfl,h2⟩
 refine⟨λ{X Γ} M {e} h RT Y old σ=>?_,λ{X Γ} M {e} h RT Y old σ=>?_,λ{X Γ} M {o xs pos} h RT Y old σ=>absurd h bN⟩
 . obtain⟨x,p,rfl,g⟩:=h0 h
   exact aIq (ha.e M g RT Y old σ)
 . obtain⟨x,p,rfl,g⟩:=h0 h
   exact kB (ha.t M g RT Y old σ)
theorem yL{Γ:Ct}{a b:E}{w:BoolOp}{xs:List Expr}{p:Pos}(h:(match xs with
 | [x,y]=>aP Γ a x&&aP Γ b y
 | x::y::z::r=>aP Γ a x&&aP Γ b (.BoolOp w (y::z::r) p)
 | _=>false)=true):∃x y r,xs=x::y::r/\aP Γ a x=true/\((r=[]/\aP Γ b y=true)\/aP Γ b (.BoolOp w (y::r) p)=true):=by
 rcases xs with _|⟨x,_|⟨y,_|⟨z,r⟩⟩⟩
 . cases h
 . cases h
 . obtain⟨h1,h2⟩:=dA h
   exact⟨x,y,[],rfl,h1,.inl ⟨rfl,h2⟩⟩
 . obtain⟨h1,h2⟩:=dA h
   exact⟨x,y,z::r,rfl,h1,.inr h2⟩
theorem aKU{a b:E}(ha:Q3 P n a)(hb:Q3 P n b):Q3 P n (.an a b):=by
 have kw:PWc P n (.an a b):=λ{X Γ} M {o xs pos} h RT Y old σ=>by
  obtain⟨h1,h2⟩:=dA h
  have e:o=.And:=eq_of_beq h1
  subst e
  obtain⟨x,y,r,rfl,g1,g2⟩:=yL h2
  rcases g2 with⟨rfl,g2⟩|g2
  . exact aIz (ha.t M g1 RT Y old σ) (aCP (hb.t M g2 RT Y old σ))
  . exact aIz (ha.t M g1 RT Y old σ) (hb.w M g2 RT Y old σ)
 refine⟨λ{X Γ} M {e} h RT Y old σ=>?_,λ{X Γ} M {e} h RT Y old σ=>?_,kw⟩
 . obtain⟨⟨o,xs,pos⟩,h1,g⟩:=aD h
   clear h
   obtain rfl:=h1
   have h:=g
   clear g
   obtain⟨h1,h2⟩:=dA h
   have e:o=.And:=eq_of_beq h1
   subst e
   obtain⟨x,y,r,e,g1,g2⟩:=yL h2
   have e:xs=x::y::r:=e
   subst e
   rcases g2 with⟨rfl,g2⟩|g2
   . exact aIr (ha.e M g1 RT Y old σ) (aAN (hb.e M g2 RT Y old σ))
   . exact aIr (ha.e M g1 RT Y old σ) (hb.e M g2 RT Y old σ)
 . obtain⟨⟨o,xs,pos⟩,rfl,_⟩:=aD h
   exact(kw M h RT Y old σ).pt
theorem aIH{a b:E}(ha:Q3 P n a)(hb:Q3 P n b):Q3 P n (.orr a b):=by
 have kw:PWc P n (.orr a b):=λ{X Γ} M {o xs pos} h RT Y old σ=>by
  obtain⟨h1,h2⟩:=dA h
  have e:o=.Or:=eq_of_beq h1
  subst e
  obtain⟨x,y,r,rfl,g1,g2⟩:=yL h2
  rcases g2 with⟨rfl,g2⟩|g2
  . exact aEE (ha.t M g1 RT Y old σ) (aFa (hb.t M g2 RT Y old σ))
  . exact aEE (ha.t M g1 RT Y old σ) (hb.w M g2 RT Y old σ)
 refine⟨λ{X Γ} M {e} h RT Y old σ=>?_,λ{X Γ} M {e} h RT Y old σ=>?_,kw⟩
 . obtain⟨⟨o,xs,pos⟩,h1,g⟩:=aD h
   clear h
   obtain rfl:=h1
   have h:=g
   clear g
   obtain⟨h1,h2⟩:=dA h
   have e:o=.Or:=eq_of_beq h1
   subst e
   obtain⟨x,y,r,e,g1,g2⟩:=yL h2
   have e:xs=x::y::r:=e
   subst e
   rcases g2 with⟨rfl,g2⟩|g2
   . exact aED (ha.e M g1 RT Y old σ) (aAN (hb.e M g2 RT Y old σ))
   . exact aED (ha.e M g1 RT Y old σ) (hb.e M g2 RT Y old σ)
 . obtain⟨⟨o,xs,pos⟩,rfl,_⟩:=aD h
   exact(kw M h RT Y old σ).pt
theorem aII{t a b:E}(ht:Q3 P n t)(ha:Q3 P n a)(hb:Q3 P n b):Q3 P n (.ife t a b):=Q3.of (λ{X Γ} M {e} h RT Y old σ=>by
 obtain⟨⟨t',a',b'⟩,h1,g⟩:=aD h
 clear h
 obtain⟨p,rfl⟩:=h1
 have h:=g
 clear g
 obtain⟨h1,h2,h3⟩:=cV h
 exact aIs (ht.t M h1 RT Y old σ) (ha.e M h2 RT Y old σ) (hb.e M h3 RT Y old σ)) (λ_=>rfl) rfl
theorem aIJ{o:CmpOp}{a b:E}(ha:Q3 P n a)(hb:Q3 P n b):Q3 P n (.cmp o a b):=by
 have h0:∀{Γ:Ct} {e:Expr},aP Γ (.cmp o a b) e=true->∃l r p,e=.Compare l [o] [r] p/\aP Γ a l=true/\aP Γ b r=true:=λ{Γ e} h=>by
  obtain⟨⟨l,os,rs⟩,h1,g⟩:=aD h
  clear h
  obtain⟨p,rfl⟩:=h1
  have h:=g
  clear g
  rcases os with _|⟨o',_|⟨_,_⟩⟩
  . cases h
  . rcases rs with _|⟨r,_|⟨_,_⟩⟩
    . cases h
    . obtain⟨h1,h2,h3⟩:=cV h
      have e:o=o':=eq_of_beq h1
      subst e
      exact⟨l,r,p,rfl,h2,h3⟩
    . cases h
  . cases h
 refine⟨λ{X Γ} M {e} h RT Y old σ=>?_,λ{X Γ} M {e} h RT Y old σ=>?_,λ{X Γ} M {o xs pos} h RT Y old σ=>absurd h bN⟩
 . obtain⟨l,r,p,rfl,h2,h3⟩:=h0 h
   exact aIt M (ha.e M h2 RT Y old σ) (hb.e M h3 RT Y old σ) (aK h3)
 . obtain⟨l,r,p,rfl,h2,h3⟩:=h0 h
   exact fR M (ha.e M h2 RT Y old σ) (hb.e M h3 RT Y old σ) (aK h3)
theorem aFW{o1 o2:CmpOp}{a b c:E}(ha:Q3 P n a)(hb:Q3 P n b)(hc:Q3 P n c):Q3 P n (.cmp2 o1 o2 a b c):=by
 have h0:∀{Γ:Ct} {e:Expr},aP Γ (.cmp2 o1 o2 a b c) e=true->∃l m r p,e=.Compare l [o1,o2] [m,r] p/\aP Γ a l=true/\aP Γ b m=true/\aP Γ c r=true:=λ{Γ e} h=>by
  obtain⟨⟨l,os,rs⟩,h1,g⟩:=aD h
  clear h
  obtain⟨p,rfl⟩:=h1
  have h:=g
  clear g
  rcases os with _|⟨o1',_|⟨o2',_|⟨_,_⟩⟩⟩
  . cases h
  . cases h
  . rcases rs with _|⟨m,_|⟨r,_|⟨_,_⟩⟩⟩
    . cases h
    . cases h
    . obtain⟨h1,h2,h3,h4,h5⟩:=aBO h
      have e:o1=o1':=eq_of_beq h1
      subst e
      have e:o2=o2':=eq_of_beq h2
      subst e
      exact⟨l,m,r,p,rfl,h3,h4,h5⟩
    . cases h
  . cases h
 refine⟨λ{X Γ} M {e} h RT Y old σ=>?_,λ{X Γ} M {e} h RT Y old σ=>?_,λ{X Γ} M {o xs pos} h RT Y old σ=>absurd h bN⟩
 . obtain⟨l,m,r,p,rfl,h3,h4,h5⟩:=h0 h
   exact aFG M (ha.e M h3 RT Y old σ) (hb.e M h4 RT Y old σ) (hc.e M h5 RT Y old σ) (aK h5)
 . obtain⟨l,m,r,p,rfl,h3,h4,h5⟩:=h0 h
   exact aFH M (ha.e M h3 RT Y old σ) (hb.e M h4 RT Y old σ) (hc.e M h5 RT Y old σ) (aK h5)
theorem aIK{a b:E}(ha:Q3 P n a)(hb:Q3 P n b):Q3 P n (.idx a b):=by
 have k:PEc P n (.idx a b):=λ{X Γ} M {e} h RT Y old σ=>by
  obtain⟨⟨x,i⟩,h1,g⟩:=aD h
  clear h
  obtain⟨p,rfl⟩:=h1
  have h:=g
  clear g
  obtain⟨h1,h2⟩:=dA h
  exact aIu (ha.e M h1 RT Y old σ) (hb.e M h2 RT Y old σ) (aK h2)
 refine⟨k,λ{X Γ} M {e} h RT Y old σ=>?_,λ{X Γ} M {o xs pos} h RT Y old σ=>absurd h bN⟩
 refine qB (k M h RT Y old σ) ?_ λp hp=>?_
 . obtain⟨⟨x,i⟩,⟨p,rfl⟩,_⟩:=aD h
   intro _;rfl
 . have hp:=RE.bind' (show RE (ev P (call P n) σ a >>= λx=>ev P (call P n) σ b >>= λy=>bV x y >>= λz=>fL z) p from hp)
   show RE (ev P (call P n) σ a >>= λx=>ev P (call P n) σ b >>= λy=>bV x y) _
   rw[RE.bind]
   refine hp.mono λx hx=>?_
   rw[RE.bind]
   exact(RE.bind' hx).mono λy hy=>RE.bind' hy
theorem aIL{a:E}{lo hi:Es}(ha:Q3 P n a)(hl:QA P n lo)(hh:QA P n hi):Q3 P n (.sli a lo hi):=Q3.of (λ{X Γ} M {e} h RT Y old σ=>by
 obtain⟨⟨x,i⟩,h1,g⟩:=aD h
 clear h
 obtain⟨p,rfl⟩:=h1
 have h:=g
 clear g
 obtain⟨⟨l,u⟩,h1,g⟩:=aD h
 clear h
 obtain⟨p2,e2⟩:=h1
 have h:=g
 clear g
 have e2:i=.Slice l u none p2:=e2
 subst e2
 obtain⟨h1,h2,h3⟩:=cV h
 exact aIC (ha.e M h1 RT Y old σ) (hl.o M h2 RT Y old σ) (hh.o M h3 RT Y old σ)) (λ_=>rfl) rfl
theorem aIM{es:Es}(ha:QA P n es):Q3 P n (.tup es):=Q3.of (λ{X Γ} M {e} h RT Y old σ=>by
 obtain⟨xs,h1,g⟩:=aD h
 clear h
 obtain⟨k,p,rfl⟩:=h1
 have h:=g
 clear g
 obtain⟨h1,h2⟩:=dA h
 exact aIv (ha.a M h2 RT Y old σ) h2 (of_decide_eq_true h1)) (λ_=>rfl) rfl
theorem aIN{es:Es}(ha:QA P n es):Q3 P n (.lst es):=Q3.of (λ{X Γ} M {e} h RT Y old σ=>by
 obtain⟨xs,h1,g⟩:=aD h
 clear h
 obtain⟨p,rfl⟩:=h1
 have h:=g
 clear g
 obtain⟨h1,h2⟩:=dA h
 exact aIw (ha.a M h2 RT Y old σ) h2 (of_decide_eq_true h1)) (λ_=>rfl) rfl
theorem aFX{f:Nat}{es:Es}(ha:QA P n es):Q3 P n (.call f es):=by
 have k:PEc P n (.call f es):=λ{X Γ} M {e} h RT Y old σ=>by
  obtain⟨⟨x,xs⟩,h1,g⟩:=aD h
  clear h
  obtain⟨p1,p2,rfl⟩:=h1
  have h:=g
  clear g
  obtain⟨h1,h2,h3,h4⟩:=aAt h
  exact aFE M (eq_of_beq h1) h2 h3 (ha.a M h4 RT Y old σ) (iD h4) h4
 refine⟨k,λ{X Γ} M {e} h RT Y old σ=>?_,λ{X Γ} M {o xs pos} h RT Y old σ=>absurd h bN⟩
 refine qB (k M h RT Y old σ) ?_ λp hp=>?_
 . obtain⟨⟨x,xs⟩,⟨p1,p2,rfl⟩,_⟩:=aD h
   intro _;rfl
 . have hp:=RE.bind' (show RE (evs P (call P n) σ es >>= λvs=>call P n f (vs.map (·.d)) >>= λr=>fL (gY vs r)) p from hp)
   show RE (evs P (call P n) σ es >>= λvs=>call P n f (vs.map (·.d)) >>= λr=>R.ok (gY vs r)) _
   rw[RE.bind]
   refine hp.mono λx hx=>?_
   rw[RE.bind]
   exact(RE.bind' hx).mono λy hy=>hy
theorem aKV{b:Bi}{es:Es}(ha:QA P n es):Q3 P n (.bi b es):=by
 have k:PEc P n (.bi b es):=λ{X Γ} M {e} h RT Y old σ=>by
  obtain⟨⟨x,xs⟩,h1,g⟩:=aD h
  clear h
  obtain⟨p1,p2,rfl⟩:=h1
  have h:=g
  clear g
  obtain⟨h,h6⟩:=dA h
  obtain⟨h1,h2,h3,h4,h5⟩:=aBO h
  cases xs with
  | nil=>cases h5
  | cons y ys=>exact aKQ M h1 (eq_of_beq h2) h3 h4 (ha.a M h6 RT Y old σ) (iD h6)
 refine⟨k,λ{X Γ} M {e} h RT Y old σ=>?_,λ{X Γ} M {o xs pos} h RT Y old σ=>absurd h bN⟩
 refine qB (k M h RT Y old σ) ?_ λp hp=>?_
 . obtain⟨⟨x,xs⟩,⟨p1,p2,rfl⟩,_⟩:=aD h
   intro _;rfl
 . have hp:=RE.bind' (show RE (evs P (call P n) σ es >>= λvs=>biD b vs >>= λx=>fL x) p from hp)
   show RE (evs P (call P n) σ es >>= λvs=>biD b vs) _
   rw[RE.bind]
   exact hp.mono λx hx=>RE.bind' hx
theorem aIO{a:E}{cs:List Cl}(ha:Q3 P n a):Q3 P n (.isi a cs):=by
 have k:PEc P n (.isi a cs):=λ{X Γ} M {e} h RT Y old σ=>by
  obtain⟨⟨f,xs⟩,h1,g⟩:=aD h
  clear h
  obtain⟨p1,p2,rfl⟩:=h1
  have h:=g
  clear g
  rcases cs with _|⟨c,_|⟨_,_⟩⟩
  . cases h
  . rcases xs with _|⟨x,_|⟨y,_|⟨_,_⟩⟩⟩
    . cases h
    . cases h
    . obtain⟨h1,h2,h3,h4,h5⟩:=aBO h
      unfold aEz at h5
      split at h5
      . rename_i z p3
        obtain⟨q1,q2,q3⟩:=cV h5
        have hc:∃cv,tU c=some cv:=by cases c <;> first|exact⟨_,rfl⟩|cases h3
        obtain⟨cv,hc⟩:=hc
        exact aIy M (eq_of_beq h1) h2 hc (eq_of_beq q1) q2 q3 (ha.e M h4 RT Y old σ) (aK h4)
      . cases h5
    . cases h
  . cases h
 refine⟨k,λ{X Γ} M {e} h RT Y old σ=>?_,λ{X Γ} M {o xs pos} h RT Y old σ=>absurd h bN⟩
 refine qB (k M h RT Y old σ) ?_ λp hp=>?_
 . obtain⟨⟨x,xs⟩,⟨p1,p2,rfl⟩,_⟩:=aD h
   intro _;rfl
 . have hp:=RE.bind' (show RE (ev P (call P n) σ a >>= λx=>(match isI cs P x.d with|some k=>R.ok k|none=>.bad)) p from hp)
   show RE (ev P (call P n) σ a >>= λx=>(match isI cs P x.d with|some k=>R.ok (Vl.cl (.bl k))|none=>.bad)) _
   rw[RE.bind]
   refine hp.mono λx hx=>?_
   cases q:isI cs P x.d with
   | none=>rw[q] at hx;exact hx.elim
   | some k=>rw[q] at hx;exact hx
theorem aFY{k:Nat}{caps:List Nat}{t:T}{it:Hp.It}{cond:Es}{elt:E}(hi:QI P n it)(hc:QA P n cond)(he:Q3 P n elt):Q3 P n (.comp k caps t it cond elt):=Q3.of (λ{X Γ} M {e} h RT Y old σ=>by
 obtain⟨el,tg,iter,ifs,scope,pos,rfl,O,h1,h2,h3,h4,h5⟩:=rT h
 refine aFU M (O.scope M) O.ndc O.tk (hi M h3 RT Y old σ) (λC s₀ H₀ ex=>?_) (eQ (gM h3))
 have M':=O.mc M C s₀ H₀ ex
 exact⟨wQ M' h2,λRT Y old σ1=>hc.ts M' h1 h4 RT Y old σ1,λRT Y old σ1=>he.e M' h5 RT Y old σ1⟩) (λ_=>rfl) rfl
theorem aFZ{i:Nat}{a:E}(ha:Q3 P n a):Q3 P n (.tget i a):=Q3.of (λ{X Γ} M {e} h RT Y old σ=>by
 obtain⟨⟨o,m,xs,l⟩,h1,g⟩:=aD h
 clear h
 obtain⟨ap,cp,rfl,hl⟩:=h1
 have h:=g
 clear g
 obtain⟨x,h1,g⟩:=aD h
 clear h
 obtain⟨p,e2⟩:=h1
 have h:=g
 clear g
 have e2:o=.Name x p:=e2
 subst e2
 obtain⟨h,h6⟩:=dA h
 obtain⟨h1,h2,h3,h4,h5⟩:=aBO h
 rw[show l=true from h5] at hl
 rcases xs with _|⟨y,_|⟨_,_⟩⟩
 . cases h6
 . exact aFF M (eq_of_beq h1) (eq_of_beq h2) h3 h4 hl (ha.e M h6 RT Y old σ) (aK h6)
 . cases h6) (λ_=>rfl) rfl
theorem lQ{c:E}(h:∀{Γ:Ct} {e:Expr},aP Γ c e=false):Q3 P n c:=
 ⟨λ{X Γ} M {e} z=>absurd (h.symm.trans z) bN,λ{X Γ} M {e} z=>absurd (h.symm.trans z) bN,λ{X Γ} M {o xs pos} z=>absurd (h.symm.trans z) bN⟩
theorem aIP:QA P n .nil:=by
 refine⟨λ{X Γ} M {es} h RT Y old σ=>?_,λ{X Γ} M {e} h RT Y old σ=>?_,λ{X Γ} M {es} hl h RT Y old σ=>?_⟩
 . cases es with
   | nil=>exact tX
   | cons _ _=>exact nf h
 . cases e with
   | none=>exact aIA
   | some _=>exact nf h
 . cases es with
   | nil=>exact aFS
   | cons _ _=>exact nf h
theorem aGa{c:E}{cs:Es}(hc:Q3 P n c)(hs:QA P n cs):QA P n (.cons c cs):=by
 refine⟨λ{X Γ} M {es} h RT Y old σ=>?_,λ{X Γ} M {e} h RT Y old σ=>?_,λ{X Γ} M {es} hl h RT Y old σ=>?_⟩
 . cases es with
   | nil=>exact nf h
   | cons e es=>
    obtain⟨h1,h2⟩:=dA h
    exact jM (hc.e M h1 RT Y old σ) (hs.a M h2 RT Y old σ) (aK h1)
 . cases cs with
   | nil=>cases e with
    | none=>exact nf h
    | some e=>exact aIB (hc.e M (by exact h) RT Y old σ)
   | cons _ _=>cases e <;> exact nf h
 . cases es with
   | nil=>exact nf h
   | cons e es=>
    obtain⟨h1,h2⟩:=dA h
    cases es with
    | nil=>cases cs with
     | nil=>exact aFT (hc.t M h1 RT Y old σ)
     | cons _ _=>exact absurd h2 bN
    | cons _ _=>simp at hl
theorem aIQ{c:E}(hc:Q3 P n c):QI P n (.seq c):=λ{X Γ} M {tg e} h RT Y old σ=>aID (hc.e M (by exact h) RT Y old σ)
theorem aIR{a b:E}(ha:Q3 P n a)(hb:Q3 P n b):QI P n (.rng a b):=λ{X Γ} M {tg e} h RT Y old σ=>by
 rw[uK] at h
 obtain⟨⟨f,xs⟩,h1,g⟩:=aD h
 clear h
 obtain⟨p1,p2,rfl⟩:=h1
 have h:=g
 clear g
 obtain⟨h1,h2,h3⟩:=cV h
 rcases xs with _|⟨x,_|⟨y,_|⟨_,_⟩⟩⟩
 . cases h3
 . obtain⟨h3,h4⟩:=dA h3
   have ez:a=.c (.int 0):=by
    unfold wH at h3
    split at h3
    . rw[eq_of_beq h3]
    . cases h3
   rw[ez]
   exact aFP M (eq_of_beq h1) h2 (hb.e M h4 RT Y old σ) (aK h4)
 . obtain⟨h3,h4⟩:=dA h3
   exact aFQ M (eq_of_beq h1) h2 (ha.e M h3 RT Y old σ) (hb.e M h4 RT Y old σ) (aK h3) (aK h4)
 . cases h3
theorem aIS{a b:E}(ha:Q3 P n a)(hb:Q3 P n b):QI P n (.zip a b):=λ{X Γ} M {tg e} h RT Y old σ=>by
 rw[uL] at h
 obtain⟨⟨f,xs⟩,h1,g⟩:=aD h
 clear h
 obtain⟨p1,p2,rfl⟩:=h1
 have h:=g
 clear g
 rcases xs with _|⟨x,_|⟨y,_|⟨_,_⟩⟩⟩
 . cases h
 . cases h
 . obtain⟨h0,h1,h2,h3,h4⟩:=aBO h
   unfold nU at h0
   split at h0
   . exact aIE M (eq_of_beq h1) h2 (ha.e M h3 RT Y old σ) (hb.e M h4 RT Y old σ) (aK h3) (aK h4)
   . cases h0
 . cases h
theorem aGb{a:E}(ha:Q3 P n a):QI P n (.enum a):=λ{X Γ} M {tg e} h RT Y old σ=>by
 rw[qD] at h
 obtain⟨⟨f,xs⟩,h1,g⟩:=aD h
 clear h
 obtain⟨p1,p2,rfl⟩:=h1
 have h:=g
 clear g
 rcases xs with _|⟨x,_|⟨_,_⟩⟩
 . cases h
 . obtain⟨h0,h1,h2,h3⟩:=aAt h
   unfold nU at h0
   split at h0
   . exact aFR M (eq_of_beq h1) h2 (ha.e M h3 RT Y old σ) (aK h3)
   . cases h0
 . cases h
theorem aDA{a:Int}{c:Const}(h:eqC (.int a) c=true):c=.int a:=by
 cases c with
 | int b=>rw[eq_of_beq (show(a==b)=true from h)]
 | _=>cases h
theorem aIT{i:Nat}{k:E}(hk:Q3 P n k):Q3 P n (.lix i k):=Q3.of (λ{X Γ} M {e} h RT Y old σ=>by
 obtain⟨⟨x,ix⟩,h1,g⟩:=aD h
 clear h
 obtain⟨p,rfl⟩:=h1
 obtain⟨y,⟨p2,e2⟩,g⟩:=aD g
 have e2:x=.Name y p2:=e2
 subst e2
 obtain⟨h1,h2⟩:=dA g
 exact aIF M h1 (hk.e M h2 RT Y old σ) (aK h2)) (λ_=>rfl) rfl
theorem aIU{a:E}{k:Nat}(ha:Q3 P n a):Q3 P n (.stp a k):=Q3.of (λ{X Γ} M {e} h RT Y old σ=>by
 obtain⟨⟨x,ix⟩,h1,g⟩:=aD h
 clear h
 obtain⟨p,rfl⟩:=h1
 obtain⟨c,⟨_,_,_,e2⟩,g⟩:=aD g
 have e2:ix=_:=e2
 subst e2
 obtain⟨h1,h2⟩:=dA g
 rw[aDA h2]
 exact aIG (ha.e M h1 RT Y old σ)) (λ_=>rfl) rfl
theorem aDB{f i:Nat}{a:E}(ha:Q3 P n a):Q3 P n (.callO f a i):=Q3.of (λ{X Γ} M {e} h RT Y old σ=>by
 obtain⟨⟨x,xs⟩,h1,g⟩:=aD h
 clear h
 obtain⟨p1,p2,rfl⟩:=h1
 have h:=g
 clear g
 obtain⟨h1,h2,h3,h4⟩:=aAt h
 rcases xs with _|⟨ea,_|⟨y,_|⟨_,_⟩⟩⟩
 . cases h4
 . cases h4
 . obtain⟨k4,h5⟩:=dA h4
   obtain⟨z,⟨q,e2⟩,h6⟩:=aD h5
   have e2:y=.Name z q:=e2
   subst e2
   exact aDt M (eq_of_beq h1) h2 h3 h6 (ha.e M k4 RT Y old σ) (aK k4)
 . cases h4) (λ_=>rfl) rfl
theorem aIV{i:Nat}{a:E}(ha:Q3 P n a):Q3 P n (.neO i a):=by
 refine⟨λ{X Γ} M {e} h RT Y old σ pins s σV H Q I hw=>hw.2.elim,λ{X Γ} M {e} h RT Y old σ=>?_,λ{X Γ} M {o xs pos} h RT Y old σ=>absurd h bN⟩
 obtain⟨⟨l,os,rs⟩,h1,g⟩:=aD h
 clear h
 obtain⟨p,rfl⟩:=h1
 have h:=g
 clear g
 rcases os with _|⟨o',_|⟨_,_⟩⟩
 . cases h
 . rcases rs with _|⟨r,_|⟨_,_⟩⟩
   . cases h
   . obtain⟨h1,h2,h3⟩:=cV h
     have e:CmpOp.NotEq=o':=eq_of_beq h1
     subst e
     obtain⟨z,⟨q,e2⟩,h6⟩:=aD h2
     have e2:l=.Name z q:=e2
     subst e2
     exact aIx M h6 (ha.e M h3 RT Y old σ) (aK h3)
   . cases h
 . cases h
theorem aEG{it:Hp.It}(z:∀Γ tt e,chkI Γ tt it e=false):QI P n it:=by
 intro X Γ M tg e h RT Y old σ
 rw[z] at h
 cases h
mutual
theorem qE:(c:E)->Q3 P n c
 | .c _=>n_c
 | .v _=>n_v
 | .op _ a b=>aKS (qE a) (qE b)
 | .neg _=>lQ rfl
 | .nt a=>aKT (qE a)
 | .an a b=>aKU (qE a) (qE b)
 | .orr a b=>aIH (qE a) (qE b)
 | .ife t a b=>aII (qE t) (qE a) (qE b)
 | .cmp _ a b=>aIJ (qE a) (qE b)
 | .cmp2 _ _ a b c=>aFW (qE a) (qE b) (qE c)
 | .idx a b=>aIK (qE a) (qE b)
 | .sli a lo hi=>aIL (qE a) (qA lo) (qA hi)
 | .tup es=>aIM (qA es)
 | .lst es=>aIN (qA es)
 | .dic _ _=>lQ rfl
 | .call _ es=>aFX (qA es)
 | .bi _ es=>aKV (qA es)
 | .mth _ _ _=>lQ rfl
 | .isi a _=>aIO (qE a)
 | .attr _ _=>lQ rfl
 | .comp _ _ _ it cond elt=>aFY (qI it) (qA cond) (qE elt)
 | .numset _=>lQ rfl
 | .tget _ a=>aFZ (qE a)
 | .lzip _ _=>lQ rfl
 | .lix _ k=>aIT (qE k)
 | .stp a _=>aIU (qE a)
 | .callO _ a _=>aDB (qE a)
 | .neO _ a=>aIV (qE a)
theorem qA:(cs:Es)->QA P n cs
 | .nil=>aIP
 | .cons c cs=>aGa (qE c) (qA cs)
theorem qI:(it:Hp.It)->QI P n it
 | .seq c=>aIQ (qE c)
 | .rng a b=>aIR (qE a) (qE b)
 | .zip a b=>aIS (qE a) (qE b)
 | .enum a=>aGb (qE a)
 | .rev _=>aEG λ_ _ _=>rfl
 | .rng3 _ _ _=>aEG λ_ _ _=>rfl
end
theorem sE(c:E):PEc P n c:=(qE c).e
theorem sT(c:E):PTc P n c:=(qE c).t
theorem sTs(cs:Es):∀{X:Cx} {Γ:Ct},Mc X P Γ n->∀{es:List Expr},es.length<=1->chkEs Γ cs es=true->∀(RT Y old:Addr->Prop) (σ:Sg),PTs X es (wTs X P n RT Y old σ cs):=(qA cs).ts
theorem sI(it:Hp.It):QI P n it:=qI it
end
end Hp
end
noncomputable section
set_option maxHeartbeats 4000000
namespace Hp
open PySem PySem.Spec PyProof.Rows L2
def dM(K:Fg)(RT Y old:Addr->Prop)(H:Hp)(σ':Sg)(Q:L2.St->Hp->Prop):Prop:=
 ∀(RT':Addr->Prop) (σV':L2.St) (H':Hp),Kp RT H H'->(∀b,RT' b->RT b\/H b=none)->Sx K RT' Y old σ' σV' H'->Q σV' H'
def Rtv(K:Fg)(Y old:Addr->Prop)(H':Hp)(v:Vl)(u:V):Prop:=
 if v.fr=true then ∃a xs ds,u=.ref a/\v.d=.lst ds/\¬ old a/\H' a=some (.lst xs)/\Reps K H' (λb=>b=a\/exB Y old v.pa b) ds xs
 else Rep K H' (exB Y old v.pa) v.d u
def aKW(K:Fg)(RT Y old:Addr->Prop)(H H':Hp)(v:Vl)(u:V):Prop:=∃(d:D) (cs:List D) (R2:Addr->Prop) (p:Addr) (xs:List V),v.d=.tup [d,.err 0 cs]/\(∀b,R2 b->RT b\/H b=none)/\R2 p/\old p/\H' p=some (.lst xs)/\Reps K H' (λb=>R2 b\/Y b) cs xs /\
 if v.fr=true then ∃a ys es,u=.ref a/\d=.lst es/\¬ old a/\R2 a/\H' a=some (.lst ys)/\Reps K H' (λb=>R2 b\/exB Y old v.pa b) es ys else Rep K H' (λb=>R2 b\/exB Y old v.pa b) d u
def mM(K:Fg)(RT Y old:Addr->Prop)(H:Hp)(v:Vl)(Q:VK):Prop:=∀(u:V) (H':Hp),Kp RT H H'->Tk K H'->Rtv K Y old H' v u\/aKW K RT Y old H H' v u->Q u H'
def OE(K:Fg)(RT Y old:Addr->Prop)(H:Hp)(o:O)(D:Ends):Prop:=match o with
 | .next σ'=>dM K RT Y old H σ' D.nx
 | .brk σ'=>dM K RT Y old H σ' D.bk
 | .cnt σ'=>dM K RT Y old H σ' D.ct
 | .ret v=>mM K RT Y old H v D.rt
 | .exc _ _=>False
 | .bad=>False
def wS(X:Cx)(RT Y old:Addr->Prop)(σ:Sg)(o:O):TS:=λD σV H=>Sx X.K RT Y old σ σV H/\OE X.K RT Y old H o D
section
variable {K:Fg} {RT RT' RT'' Y old:Addr->Prop} {σ:Sg} {σV:L2.St} {H H1 H2:Hp} {o:O} {D D':Ends}
theorem Kp.chain(a:Kp RT H H1)(s:∀b,RT' b->RT b\/H b=none)(b:Kp RT' H1 H2):Kp RT H H2:=λc o e n=>b c o (a c o e n) λz=>(s c z).elim n λq=>by rw[q] at e;cases e
theorem iU(a:Kp RT H H1)(s1:∀b,RT' b->RT b\/H b=none)(s2:∀b,RT'' b->RT' b\/H1 b=none):∀b,RT'' b->RT b\/H b=none:=λb z=>by
 rcases s2 b z with q|q
 . exact s1 b q
 . by_cases hr:RT b
   . exact .inl hr
   . refine .inr ?_
     cases e:H b with
     | none=>rfl
     | some o=>rw[a b o e hr] at q;cases q
theorem dM.mono{σ':Sg}{Q:L2.St->Hp->Prop}(a:Kp RT H H1)(s:∀b,RT' b->RT b\/H b=none)(h:dM K RT Y old H σ' Q):dM K RT' Y old H1 σ' Q:=λRT2 σV2 H2 k n S=>h RT2 σV2 H2 (a.chain s k) (iU a s n) S
theorem OE.mono(a:Kp RT H H1)(s:∀b,RT' b->RT b\/H b=none)(h:OE K RT Y old H o D):OE K RT' Y old H1 o D:=by
 cases o with
 | next σ'=>exact dM.mono a s h
 | brk σ'=>exact dM.mono a s h
 | cnt σ'=>exact dM.mono a s h
 | ret v=>exact λu H2 k t r=>(show mM K RT Y old H v D.rt from h) u H2 (a.chain s k) t (r.imp id λ⟨d,cs,R2,p,xs,e1,e2,q⟩=>⟨d,cs,R2,p,xs,e1,iU a s e2,q⟩)
 | exc x σ'=>exact h
 | bad=>exact h
theorem bH:∀b,RT b->RT b\/H b=none:=λ_ z=>.inl z
def tkE(K:Fg)(D:Ends):Ends:=⟨λσ H=>Tk K H->D.nx σ H,λv H=>Tk K H->D.rt v H,λσ H=>Tk K H->D.bk σ H,λσ H=>Tk K H->D.ct σ H⟩
theorem OE.from{α:Type}{x:R α}{f:α->O}(h:OE K RT Y old H (O.from σ x f) D):RE x λa=>OE K RT Y old H (f a) D:=by
 cases x with
 | ok a=>exact h
 | exc e=>exact h
 | bad=>exact h
end
section
variable {X:Cx} {st:Stmt} {t t':TS}
theorem aEH{pins:List (Addr×Obj)}{D:Ends}{f:Flow}{s':Shared}(h:SP X pins (tkE X.K D) f s'):SP X pins D f s':=by
 cases f with
 | next=>obtain⟨σ',H',I,q⟩:=h;exact⟨σ',H',I,q I.tk⟩
 | brk=>obtain⟨σ',H',I,q⟩:=h;exact⟨σ',H',I,q I.tk⟩
 | cont=>obtain⟨σ',H',I,q⟩:=h;exact⟨σ',H',I,q I.tk⟩
 | ret u=>obtain⟨v,σ',H',I,r,q⟩:=h;exact⟨v,σ',H',I,r,q I.tk⟩
theorem bO(h:PS X st t)(f:∀D σV H,Tk X.K H->t' D σV H->t (tkE X.K D) σV H):PS X st t':=λpins s σV H D I hw=>thn (h pins s σV H _ I (f D σV H I.tk hw)) λfl s' q=>aEH q
theorem kG{sts:List Stmt}(h:PSs X sts t)(f:∀D σV H,Tk X.K H->t' D σV H->t (tkE X.K D) σV H):PSs X sts t':=λpins s σV H D I hw=>thn (h pins s σV H _ I (f D σV H I.tk hw)) λfl s' q=>aEH q
theorem kH{Y old:Addr->Prop}{sts:List Stmt}{f:Sg->O}(h:∀RT σ,PSs X sts (wS X RT Y old σ (f σ))):PSs X sts (λD σV H=>∃RT σ,wS X RT Y old σ (f σ) D σV H):=λpins s σV H D I ⟨RT,σ,hw⟩=>h RT σ pins s σV H D I hw
end
section
variable {X:Cx} {P:Pg} {Γ:Ct} {n:Nat} {RT Y old:Addr->Prop} {σ:Sg} {pos:Pos}
theorem dM.tkE{σ':Sg}{Q:L2.St->Hp->Prop}{H:Hp}(h:dM X.K RT Y old H σ' Q):dM X.K RT Y old H σ' λσ H=>Tk X.K H->Q σ H:=λRT' σV' H' k n S _=>h RT' σV' H' k n S
theorem OE.tkE{o:O}{D:Ends}{H:Hp}(h:OE X.K RT Y old H o D):OE X.K RT Y old H o (tkE X.K D):=by
 cases o with
 | next σ'=>exact dM.tkE h
 | brk σ'=>exact dM.tkE h
 | cnt σ'=>exact dM.tkE h
 | ret v=>exact λu H2 k t r _=>(show mM X.K RT Y old H v D.rt from h) u H2 k t r
 | exc x σ'=>exact h
 | bad=>exact h
theorem aIW:PSs X [] (wS X RT Y old σ (exs P (call P n) σ .nil)):=kG xS λD σV H t ⟨S,h⟩ _=>(show dM X.K RT Y old H σ D.nx from h) RT σV H (Kp.refl RT H) bH S
theorem aGc{s:S}{ss:Ss}{x:Stmt}{xs:List Stmt}(h1:∀RT σ,PS X x (wS X RT Y old σ (ex P (call P n) σ s)))(h2:∀RT σ,PSs X xs (wS X RT Y old σ (exs P (call P n) σ ss))) :
 PSs X (x::xs) (wS X RT Y old σ (exs P (call P n) σ (.cons s ss))):=by
 refine kG (aAP (h1 RT σ) (kH h2)) λD σV H t ⟨S,h⟩=>?_
 have h:OE X.K RT Y old H ((ex P (call P n) σ s).on λσ'=>exs P (call P n) σ' ss) D:=h
 refine⟨S,?_⟩
 cases q:ex P (call P n) σ s with
 | next σ'=>
  rw[q] at h
  exact λRT' σV' H' k nn S'=>⟨RT',σ',S',(OE.mono k nn (show OE X.K RT Y old H (exs P (call P n) σ' ss) D from h)).tkE⟩
 | brk σ'=>rw[q] at h;exact OE.tkE (D:=D) (o:=.brk σ') h
 | cnt σ'=>rw[q] at h;exact OE.tkE (D:=D) (o:=.cnt σ') h
 | ret v=>rw[q] at h;exact OE.tkE (D:=D) (o:=.ret v) h
 | exc e σ'=>rw[q] at h;exact h
 | bad=>rw[q] at h;exact h
theorem aGd:PS X (.Pass pos) (wS X RT Y old σ (ex P (call P n) σ .pass)):=bO aCQ λD σV H t ⟨S,h⟩ _=>(show dM X.K RT Y old H σ D.nx from h) RT σV H (Kp.refl RT H) bH S
theorem aIX:PS X (.Break pos) (wS X RT Y old σ (ex P (call P n) σ .brk)):=bO aAQ λD σV H t ⟨S,h⟩ _=>(show dM X.K RT Y old H σ D.bk from h) RT σV H (Kp.refl RT H) bH S
theorem aIY:PS X (.Continue pos) (wS X RT Y old σ (ex P (call P n) σ .cnt)):=bO sW λD σV H t ⟨S,h⟩ _=>(show dM X.K RT Y old H σ D.ct from h) RT σV H (Kp.refl RT H) bH S
theorem aIZ{st:Stmt}{c:Nat}{k:Bool}{es:Es}:PS X st (wS X RT Y old σ (ex P (call P n) σ (.rse c k es))):=bO aAS λD σV H t ⟨S,h⟩=>by
 have h:OE X.K RT Y old H (O.from σ (evs P (call P n) σ es) λvs=>.exc (.err c (if k then vs.map (·.d) else [])) σ) D:=h
 obtain⟨vs,_,q⟩:=(OE.from h).eq
 exact q
theorem yM{pa:Bool}{al:List Nat}{σV:L2.St}{b:Addr}(h:exB Y old pa b):exV RT Y old σ σV pa al b:=.inr h
theorem Ro.rtv{H H':Hp}{σV:L2.St}{v:Vl}{u:V}(S:Sx X.K RT Y old σ σV H)(ro:Ro X.K RT Y old σ σV H H' v u):Rtv X.K Y old H' v u:=by
 unfold Rtv
 by_cases hf:v.fr=true
 . rw[if_pos hf]
   obtain⟨s,h⟩:=ro
   rw[if_pos hf] at h
   obtain⟨a,xs,ds,e1,e2,e3,e4,r⟩:=h
   exact⟨a,xs,ds,e1,e2,λz=>S.trk a (.inr (.inr z)) e3,e4,r.weak λb z=>z.elim .inl λz=>.inr (yM z)⟩
 . rw[if_neg hf]
   exact Rep.weak (ro.rv S) λb z=>yM z
theorem aJa{c:E}{e:Expr}(he:PE X e (WE X P n RT Y old σ c)):PS X (.Return (some e) pos) (wS X RT Y old σ (ex P (call P n) σ (.ret c))):=by
 refine bO (qV he) λD σV H t ⟨S,h⟩=>?_
 have h:=OE.from (show OE X.K RT Y old H (O.from σ (ev P (call P n) σ c) .ret) D from h)
 exact wE.one S h λx u H1 hx t1 S1 r1 _=>(show mM X.K RT Y old H x D.rt from hx) u H1 (Kp.same r1.1) t1 (.inl (r1.rtv S))
theorem aGe:PS X (.Return none pos) (wS X RT Y old σ (ex P (call P n) σ .retN)):=bO aCR λD σV H t ⟨S,h⟩ _=>(show mM X.K RT Y old H (.cl .non) D.rt from h) .non H (Kp.refl RT H) t (.inl rfl)
theorem aGf{i:Nat}{x:Str}{p:Pos}(M:Mc X P Γ n)(hx:bC Γ i x=true):PS X (.Return (some (.Name x p)) pos) (wS X RT Y old σ (ex P (call P n) σ (.retv i))):=by
 have hpe:PE X (.Name x p) (aCO i):=by
  unfold bC at hx
  obtain⟨h1,h2,h3⟩:=cV hx
  exact lH (by rw[M.N];exact eq_of_beq h1) (M.vis h2) (aM h3) (eP h3)
 refine bO (qV hpe) λD σV H t ⟨S,h⟩=>?_
 have h:OE X.K RT Y old H (match σ[i]? with|some (.own pa ds)=>.ret ⟨.lst ds,true,pa,[]⟩|_=>O.from σ (aX σ i) .ret) D:=h
 unfold aX at h
 cases e:σ[i]? with
 | none=>rw[e] at h;exact h.elim
 | some sl=>
  rw[e] at h
  cases sl with
  | dead=>exact h.elim
  | lent _=>exact h.elim
  | own2 _=>exact h.elim
  | own pa ds=>
   obtain⟨a,xs,h1,h2,h3,h4,h5⟩:=S.own i pa ds e
   refine⟨.ref a,h1,λ_=>(show mM X.K RT Y old H ⟨.lst ds,true,pa,[]⟩ D.rt from h) _ H (Kp.refl RT H) t (.inl ?_)⟩
   unfold Rtv
   rw[if_pos rfl]
   exact⟨a,xs,ds,rfl,rfl,h4,h2,h5.weak λb z=>z.elim (λz=>.inl (by rw[z];exact h3)) .inr⟩
  | sh pa d=>
   obtain⟨v,h1,h2⟩:=S.sh i pa d e
   refine⟨v,h1,λ_=>(show mM X.K RT Y old H ⟨d,false,pa&&!noL d,[]⟩ D.rt from h) v H (Kp.refl RT H) t (.inl ?_)⟩
   unfold Rtv
   rw[if_neg bN]
   show Rep X.K H (exB Y old (pa&&!noL d)) d v
   cases hn:noL d with
   | true=>exact Rep.free d v hn h2
   | false=>
    refine h2.weak λb z=>.inr ?_
    rw[Bool.not_false,Bool.and_true] at z
    exact z
theorem aKX{c:E}{e:Expr}(he:PE X e (WE X P n RT Y old σ c))(hs:jL e=false):PS X (.Expr e pos) (wS X RT Y old σ (ex P (call P n) σ (.ex c))):=by
 refine bO (iN he (by cases e <;> first|rfl|cases hs)) λD σV H t ⟨S,h⟩=>?_
 have h:=OE.from (show OE X.K RT Y old H (O.from σ (ev P (call P n) σ c) λ_=>.next σ) D from h)
 exact wE.one S h λx u H1 hx t1 S1 r1 _=>(show dM X.K RT Y old H σ D.nx from hx) RT σV H1 (Kp.same r1.1) bH S1
theorem aKY{c:E}{a b:Ss}{e:Expr}{xa xb:List Stmt}(hc:PT X e (WT X P n RT Y old σ c))(ha:∀RT σ,PSs X xa (wS X RT Y old σ (exs P (call P n) σ a)))(hb:∀RT σ,PSs X xb (wS X RT Y old σ (exs P (call P n) σ b))) :
 PS X (.If e xa xb pos) (wS X RT Y old σ (ex P (call P n) σ (.iff c a b))):=by
 refine bO (aAR hc (ha RT σ) (hb RT σ)) λD σV H t ⟨S,h⟩=>?_
 have h:=OE.from (show OE X.K RT Y old H (O.from σ (tst P (call P n) σ c) λk=>if k=true then exs P (call P n) σ a else exs P (call P n) σ b) D from h)
 refine⟨S,h.mono λk hk H1 t1 s1=>?_⟩
 cases k with
 | true=>rw[if_pos rfl] at hk ⊢;exact⟨S.grow s1 t1,(OE.mono (Kp.same s1) bH hk).tkE⟩
 | false=>rw[if_neg bN] at hk ⊢;exact⟨S.grow s1 t1,(OE.mono (Kp.same s1) bH hk).tkE⟩
theorem rU{σV:L2.St}{H H1:Hp}{v:Vl}{u:V}{t:T}{D:Ends}(S:Sx X.K RT Y old σ σV H)(t1:Tk X.K H1)(r1:Ro X.K RT Y old σ σV H H1 v u)(h:OE X.K RT Y old H (O.from σ (bG (freeze σ v.al) v t) .next) D):gT X.K t u σV H1 D.nx:=by
 obtain⟨σ2,e,hp⟩:=(OE.from h).eq
 have hp:dM X.K RT Y old H σ2 D.nx:=hp
 clear h
 cases t with
 | n i=>
  obtain⟨RT',S',hsub⟩:=S.store r1 t1 i
  rw[oG e] at hp
  exact hp RT' _ H1 (Kp.same r1.1) hsub S'
 | t is=>
  obtain⟨ds,hd,hl,e'⟩:=oF e
  have Sf:=(S.grow r1.1 t1).frz v.al
  have hr:Rep X.K H1 (λa=>rtF RT σ σV v.al a\/exB Y old v.pa a) v.d u:=r1.rv S
  have hf:v.fr=false\/v.fr=true:=by cases v.fr <;> simp
  rcases hf with hf|hf
  . exact yK Sf hf hr e λσ2V S2 _=>hp _ _ _ (Kp.same r1.1) (λb z=>.inl z.1) S2
  . have:=r1.2
    rw[if_pos hf] at this
    obtain⟨a,xs,ds',_,e2,_⟩:=this
    rw[hd] at e2;cases e2
theorem aGg{c:E}{e:Expr}{i:Nat}{x:Str}{p:Pos}(M:Mc X P Γ n)(hx:bD Γ i x=true)(he:PE X e (WE X P n RT Y old σ c))(hs:jL e=false):PS X (.Assign [.Name x p] e pos) (wS X RT Y old σ (ex P (call P n) σ (.set (.n i) c))):=by
 unfold bD at hx
 obtain⟨h1,h2,h3⟩:=cV hx
 refine bO (qW (i:=i) M.nd (by rw[M.N];exact eq_of_beq h1) (M.loc h2) he (by cases e <;> first|rfl|cases hs) (M.st x h2)) λD σV H t ⟨S,h⟩=>?_
 have h:=OE.from (show OE X.K RT Y old H (O.from σ (ev P (call P n) σ c) λv=>O.from σ (bG (freeze σ v.al) v (.n i)) .next) D from h)
 exact wE.one S h λv u H1 hv t1 S1 r1=>rU (t:=.n i) S t1 r1 (OE.tkE hv)
theorem aGh{c:E}{e:Expr}{is:List Nat}{es:List Expr}{k:Nat}{p:Pos}(M:Mc X P Γ n)(hx:jJ Γ (.t is) (.Tuple es k p)=true)(he:PE X e (WE X P n RT Y old σ c))(hs:wJ e=false):PS X (.Assign [.Tuple es k p] e pos) (wS X RT Y old σ (ex P (call P n) σ (.set (.t is) c))):=by
 refine bO (vP he (wQ M hx) (by cases e <;> rfl) (by cases e <;> first|rfl|cases hs)) λD σV H t ⟨S,h⟩=>?_
 have h:=OE.from (show OE X.K RT Y old H (O.from σ (ev P (call P n) σ c) λv=>O.from σ (bG (freeze σ v.al) v (.t is)) .next) D from h)
 exact wE.one S h λv u H1 hv t1 S1 r1=>rU (t:=.t is) S t1 r1 (OE.tkE hv)
theorem aAu{i:Nat}{x:Str}{p cpos:Pos}(M:Mc X P Γ n)(hx:bD Γ i x=true){k:Nat}{caps:List Nat}{t:T}{it:Hp.It}{cond:Es}{elt:E}{e tg iter:Expr}{ifs:List Expr}{scope:Scope}{N':List Str}(CS:cI X scope k caps N')(hnd:caps.Nodup)(hk:∀i∈tIx t,i<k)
 (hi:PI X tg iter (wI X P n RT Y old σ it))
 (hch:∀C s₀ H₀ ex,PG (cU X scope N' C s₀ H₀ ex) tg (gT X.K t)/\(∀RT Y old σ1,PTs (cU X scope N' C s₀ H₀ ex) ifs (wTs X P n RT Y old σ1 cond))/\∀RT Y old σ1,PE (cU X scope N' C s₀ H₀ ex) e (WE X P n RT Y old σ1 elt))
 (hs:∀x,foldedSetIterable iter X.env x=pure x):PS X (.Assign [.Name x p] (.ListComp e [⟨tg,iter,ifs,0⟩] scope cpos) pos) (wS X RT Y old σ (ex P (call P n) σ (.set (.n i) (.comp k caps t it cond elt)))):=by
 unfold bD at hx
 obtain⟨h1,h2,h3⟩:=cV hx
 refine bO (nX (g:=gT X.K t) (tt:=λσV H Q=>∃RT Y old σ1,wTs X P n RT Y old σ1 cond σV H Q) (te:=λσV H Q=>∃RT Y old σ1,WE X P n RT Y old σ1 elt σV H Q) CS M.calm hi (λC s₀ H₀ ex=>?_) hs M.nd (by rw[M.N];exact eq_of_beq h1) (M.loc h2) (M.st x h2)) λD σV H t0 ⟨S,h⟩=>?_
 . obtain⟨h1,h2,h3⟩:=hch C s₀ H₀ ex
   exact⟨h1,λpins s σV H Q I ⟨RT,Y,old,σ1,hw⟩=>h2 RT Y old σ1 pins s σV H Q I hw,λpins s σV H Q I ⟨RT,Y,old,σ1,hw⟩=>h3 RT Y old σ1 pins s σV H Q I hw⟩
 . have h:=OE.from (show OE X.K RT Y old H (O.from σ (ev P (call P n) σ (.comp k caps t it cond elt)) λv=>O.from σ (bG (freeze σ v.al) v (.n i)) .next) D from h)
   exact aBN (Q:=λv H'=>pM i v σV H' D.nx) hnd hk ⟨S,h.mono λv hv u H1 t1 r1=>rU (t:=.n i) S t1 r1 hv⟩
def fM(lt:Bool)(pa:Bool)(ds:List D):Sl:=if lt then .lent ds else .own pa ds
theorem Sx.mutH{K:Fg}{σV:L2.St}{H H':Hp}{RT':Addr->Prop}(S:Sx K RT Y old σ σV H){i:Nat}{lt pa pa':Bool}{ds ds':List D}{a:Addr}{xs':List V}(e:σ[i]? = some (fM lt pa ds))(ha:σV[i]? = some (some (.ref a)))(h1:∀b,RT b->RT' b)(h2:∀b,RT' b->RT b\/H b=none)
 (h3:∀b,RT' b->∃xs,H' b=some (.lst xs)) (t:Tk K H') (kp:Kp (λb=>b=a) H H') (hx:H' a=some (.lst xs')) (r:Reps K H' (λb=>RT' b\/exB Y old (lt||pa') b) ds' xs'):Sx K RT' Y old (σ.set i (fM lt pa' ds')) σV H':=by
 have hA:(∃xs,H a=some (.lst xs))/\RT a/\(if lt then old a else ¬ old a):=by
  cases lt with
  | true=>
   obtain⟨b,xs,g1,g2,g3,g4,_⟩:=S.lx.at' i ds e
   rw[ha] at g1
   cases g1
   exact⟨⟨xs,g2⟩,g3,g4⟩
  | false=>
   obtain⟨b,xs,g1,g2,g3,g4,_⟩:=S.own i pa ds e
   rw[ha] at g1
   cases g1
   exact⟨⟨xs,g2⟩,g3,g4⟩
 obtain⟨⟨xs,hax⟩,haR,hao⟩:=hA
 have nr:∀b ys,¬ RT b->SqL K H b ys->¬ RT' b:=λb ys n q z=>by
  rcases h2 b z with z'|z'
  . exact n z'
  . obtain⟨zs,hz⟩:=h3 b z
    exact yI q ⟨z',t b (by rw[hz];simp)⟩
 have kL:∀a',a'=a->∃ys,H a'=some (.lst ys):=λa' z=>⟨xs,by rw[z];exact hax⟩
 have tr:∀{pb:Bool} {d:List D} {v:List V},Reps K H (λb=>RT b\/exB Y old pb b) d v->Reps K H' (λb=>RT' b\/exB Y old pb b) d v:=λ{pb d v} q=>
  Reps.imp (λb ys z=>kp.seqT kL z) (λb ys n z=>⟨λw=>w.elim (nr b ys (λz=>n (.inl z)) z) λw=>n (.inr w),kp.seqL (λw=>n (.inl (by rw[w];exact haR))) z⟩) (λb ks z=>kp b _ z λw=>by rw[w,hax] at z;cases z) d v q
 have tr1:∀{pb:Bool} {d:D} {v:V},Rep K H (λb=>RT b\/exB Y old pb b) d v->Rep K H' (λb=>RT' b\/exB Y old pb b) d v:=λ{pb d v} q=>
  Rep.imp (λb ys z=>kp.seqT kL z) (λb ys n z=>⟨λw=>w.elim (nr b ys (λz=>n (.inl z)) z) λw=>n (.inr w),kp.seqL (λw=>n (.inl (by rw[w];exact haR))) z⟩) (λb ks z=>kp b _ z λw=>by rw[w,hax] at z;cases z) d v q
 have live:∀b,H b≠none->H' b≠none:=λb z q=>by
  by_cases hb:b=a
  . rw[hb,hx] at q;cases q
  . cases o:H b with
    | none=>exact z o
    | some o'=>rw[kp b o' o hb] at q;cases q
 exact {
  sh:=λj pb d q=>by
   rcases set_some q with⟨_,z,_⟩|⟨_,q⟩
   . cases lt <;> cases z
   . obtain⟨v,g1,g2⟩:=S.sh j pb d q
     exact⟨v,g1,tr1 g2⟩
  own:=λj pb dd q=>by
   rcases set_some q with⟨rfl,z,_⟩|⟨hne,q2⟩
   . cases lt with
     | true=>cases z
     | false=>
      cases z
      exact⟨a,xs',ha,hx,h1 a haR,hao,r⟩
   . obtain⟨b,ys,g1,g2,g3,g4,g5⟩:=S.own j pb dd q2
     have hb:b≠a:=λz=>by
      subst z
      cases lt with
      | true=>exact g4 hao
      | false=>exact hne (S.inj i j pa pb ds dd b e q2 ha g1)
     exact⟨b,ys,g1,kp b _ g2 hb,h1 b g3,g4,tr g5⟩
  trk:=λb z q=>by
   rcases z with z|z
   . obtain⟨ys,hy⟩:=h3 b z
     rw[hy] at q;cases q
   . exact live b (S.trk b (.inr z)) q
  yo:=S.yo
  tk:=t
  rt:=h3
  inj:=λj j' pb pb' dd dd' b q1 q2=>by
   have get:∀{j:Nat} {pb:Bool} {dd:List D},(σ.set i (fM lt pa' ds'))[j]? = some (.own pb dd)->∃p2 d2,σ[j]? = some (.own p2 d2):=λ{j pb dd} q=>by
    rcases set_some q with⟨rfl,z,_⟩|⟨_,q⟩
    . cases lt with
      | true=>cases z
      | false=>exact⟨pa,ds,e⟩
    . exact⟨pb,dd,q⟩
   obtain⟨_,_,z1⟩:=get q1
   obtain⟨_,_,z2⟩:=get q2
   exact S.inj j j' _ _ _ _ b z1 z2
  len:=by rw[List.length_set];exact S.len
  lx:={
   at':=λj dd q=>by
    rcases set_some q with⟨rfl,z,_⟩|⟨hne,q2⟩
    . cases lt with
      | false=>cases z
      | true=>
       cases z
       exact⟨a,xs',ha,hx,h1 a haR,hao,r⟩
    . obtain⟨b,ys,g1,g2,g3,g4,g5⟩:=S.lx.at' j dd q2
      have hb:b≠a:=λz=>by
       subst z
       cases lt with
       | false=>exact hao g4
       | true=>exact hne (S.lx.inj i j ds dd b e q2 ha g1)
      exact⟨b,ys,g1,kp b _ g2 hb,h1 b g3,g4,tr g5⟩
   inj:=λj j' dd dd' b q1 q2=>by
    have get:∀{j:Nat} {dd:List D},(σ.set i (fM lt pa' ds'))[j]? = some (.lent dd)->∃d2,σ[j]? = some (.lent d2):=λ{j dd} q=>by
     rcases set_some q with⟨rfl,z,_⟩|⟨_,q⟩
     . cases lt with
       | false=>cases z
       | true=>exact⟨ds,e⟩
     . exact⟨dd,q⟩
    obtain⟨_,z1⟩:=get q1
    obtain⟨_,z2⟩:=get q2
    exact S.lx.inj j j' _ _ b z1 z2
   at2:=λj dss q=>by
    rcases set_some q with⟨_,z,_⟩|⟨hne,q2⟩
    . cases lt <;> cases z
    . obtain⟨c,bs,g1,g2,g3,g4,g5⟩:=S.lx.at2 j dss q2
      have na:∀b,Pt RT old σ σV b->b≠a:=λb z w=>by
       subst w
       cases lt with
       | true=>exact z.2.1 hao
       | false=>exact z.2.2 i pa ds e ha
      have pt:∀b,Pt RT old σ σV b->Pt RT' old (σ.set i (fM lt pa' ds')) σV b:=λb z=>⟨h1 b z.1,z.2.1,λk pb dd w=>by
       rcases set_some w with⟨rfl,v,_⟩|⟨_,w⟩
       . intro u
         rw[ha] at u
         cases u
         exact na _ z rfl
       . exact z.2.2 k pb dd w⟩
      exact⟨c,bs,g1,kp c _ g2 (na c (g3 c List.mem_cons_self)),λb hb=>pt b (g3 b hb),g4,g5.imp (λb ys z=>kp.seqT kL z) λb hb xs w=>kp b _ w (na b (g3 b (List.mem_cons_of_mem _ hb)))⟩
   one:=λj j' dss dss' q1 q2=>by
    rcases set_some q1 with⟨_,z,_⟩|⟨_,q1⟩
    . cases lt <;> cases z
    rcases set_some q2 with⟨_,z,_⟩|⟨_,q2⟩
    . cases lt <;> cases z
    exact S.lx.one j j' dss dss' q1 q2 } }
theorem Sx.mutA{K:Fg}{σV:L2.St}{H:Hp}(S:Sx K RT Y old σ σV H){i:Nat}{lt pa pa':Bool}{ds ds':List D}{a:Addr}{xs':List V}(e:σ[i]? = some (fM lt pa ds))(ha:σV[i]? = some (some (.ref a)))(r:Reps K H (λb=>RT b\/exB Y old (lt||pa') b) ds' xs') :
 Sx K RT Y old (σ.set i (fM lt pa' ds')) σV (upd H a (.lst xs')):=by
 have hA:(∃xs,H a=some (.lst xs))/\RT a:=by
  cases lt with
  | true=>
   obtain⟨b,xs,g1,g2,g3,_⟩:=S.lx.at' i ds e
   rw[ha] at g1
   cases g1
   exact⟨⟨xs,g2⟩,g3⟩
  | false=>
   obtain⟨b,xs,g1,g2,g3,_⟩:=S.own i pa ds e
   rw[ha] at g1
   cases g1
   exact⟨⟨xs,g2⟩,g3⟩
 obtain⟨⟨xs,hax⟩,haR⟩:=hA
 have kp:Kp (λb=>b=a) H (upd H a (.lst xs')):=λb o q n=>by rw[aJ n];exact q
 refine S.mutH e ha (λ_ z=>z) (λ_ z=>.inl z) (λb z=>?_) (λb z=>?_) kp aY (r.kp kp (λb z=>⟨xs,by rw[z];exact hax⟩) λb z=>.inl (by rw[z];exact haR))
 . by_cases hb:b=a
   . rw[hb];exact⟨xs',aY⟩
   . rw[aJ hb];exact S.rt b z
 . by_cases hb:b=a
   . rw[hb];exact S.tk a (by rw[hax];simp)
   . rw[aJ hb] at z;exact S.tk b z
theorem Sx.mut{K:Fg}{σV:L2.St}{H:Hp}(S:Sx K RT Y old σ σV H){i:Nat}{pa pa':Bool}{ds ds':List D}{a:Addr}{xs':List V}(e:σ[i]? = some (.own pa ds))(ha:σV[i]? = some (some (.ref a)))(r:Reps K H (λb=>RT b\/exB Y old pa' b) ds' xs') :
 Sx K RT Y old (σ.set i (.own pa' ds')) σV (upd H a (.lst xs')):=S.mutA (lt:=false) e ha r
theorem Kp.upd{H H1:Hp}{a:Addr}{xs:List V}(s:aL H H1)(h:RT a):Kp RT H (upd H1 a (.lst xs)):=λb o e nn=>by
 rw[aJ λz=>nn (by rw[z];exact h)]
 exact s b o e
theorem uM{i:Nat}{pa:Bool}{ds:List D}(h:gQ σ i=some (pa,ds)):σ[i]? = some (.own pa ds):=by
 unfold gQ at h
 split at h
 . rename_i q;cases h;exact q
 . cases h
theorem rV{i:Nat}{v:Vl}{f:List D->Option (List D)}{H:Hp}{D:Ends}(h:OE X.K RT Y old H (put σ i v f) D):∃pa ds ds',σ[i]? = some (.own pa ds)/\i∉v.al/\f ds=some ds'/\ds'.length<=lim/\dM X.K RT Y old H ((freeze σ v.al).set i (.own (pa||v.pa) ds')) D.nx:=by
 unfold put at h
 split at h
 . rename_i pa ds q
   have q:=dW (uM q)
   split at h
   . rename_i ds' q2
     split at h
     . rename_i hl
       exact⟨pa,ds,ds',q.1,q.2,q2,hl,h⟩
     . exact h.elim
   . exact h.elim
 . exact h.elim
theorem kI{pa pb:Bool}{b:Addr}(h:exB Y old (pa||pb) b):exB Y old pa b:=h.imp_right λz=>⟨by cases pa <;> simp_all,z.2⟩
theorem rW{pa pb:Bool}{b:Addr}(h:exB Y old (pa||pb) b):exB Y old pb b:=h.imp_right λz=>⟨by cases pb <;> simp_all,z.2⟩
theorem kJ{i:Nat}{m:Str}{c:Expr}{xs:List Expr}(h:jB Γ i m c=some xs):∃x p ap cp,c=.Call (.Attribute (.Name x p) m ap) xs [] cp/\bC Γ i x=true/\(ap.endLine==cp.line)=true:=by
 unfold jB at h
 split at h
 . rename_i x p a ap xs' cp
   split at h
   . rename_i q
     obtain⟨q1,q2,q3⟩:=cV q
     cases h
     have e:a=m:=eq_of_beq q1
     subst e
     exact⟨x,p,ap,cp,rfl,q2,q3⟩
   . cases h
 . cases h
theorem dB{i:Nat}{x:Str}{p:Pos}(M:Mc X P Γ n)(hx:bC Γ i x=true):PE X (.Name x p) (aCO i):=by
 unfold bC at hx
 obtain⟨h1,h2,h3⟩:=cV hx
 exact lH (by rw[M.N];exact eq_of_beq h1) (M.vis h2) (aM h3) (eP h3)
theorem oJ:lim<sizeLine:=by rw[sizeLine_eq];decide
theorem kK{i:Nat}{al:List Nat}{pa:Bool}{ds:List D}{σV:L2.St}{H H1:Hp}{b:Addr}{xs:List V}(S:Sx X.K RT Y old σ σV H)(s1:aL H H1)(q1:σ[i]? = some (.own pa ds))(h1:σV[i]? = some (some (.ref b)))(h2:H b=some (.lst xs)) :
 Reps X.K H1 (λc=>rtF RT σ σV al c\/exB Y old pa c) ds xs:=by
 obtain⟨b',xs',g1,g2,g3,g4,g5⟩:=S.own i pa ds q1
 rw[h1] at g1
 cases g1
 rw[h2] at g2
 cases g2
 exact(g5.grow s1).weak λc z=>z.elim (λz=>.inl z.1) .inr
theorem kM{i:Nat}{v:Vl}{pa:Bool}{ds ds':List D}{σV:L2.St}{H H1:Hp}{b:Addr}{xs':List V}{Q:L2.St->Hp->Prop}(S:Sx X.K RT Y old σ σV H)(s1:aL H H1)(t1:Tk X.K H1)(q1:σ[i]? = some (.own pa ds))(q2:i∉v.al)(h1:σV[i]? = some (some (.ref b)))
 (r:Reps X.K H1 (λc=>rtF RT σ σV v.al c\/exB Y old (pa||v.pa) c) ds' xs') (hpost:dM X.K RT Y old H ((freeze σ v.al).set i (.own (pa||v.pa) ds')) Q):Q σV (upd H1 b (.lst xs')):=by
 obtain⟨b',xs,g1,g2,g3,g4,g5⟩:=S.own i pa ds q1
 rw[h1] at g1
 cases g1
 have e':(freeze σ v.al)[i]? = some (.own pa ds):=by
  rw[dU,q1]
  simp[q2]
 exact hpost _ σV _ (Kp.upd s1 g3) (λc z=>.inl z.1) (((S.grow s1 t1).frz v.al).mut e' h1 r)
theorem aBP{σV:L2.St}{H1:Hp}{v:Vl}{u:V}{pa:Bool}(h:Rv X.K RT Y old σ σV H1 v u):Rep X.K H1 (λc=>rtF RT σ σV v.al c\/exB Y old (pa||v.pa) c) v.d u:=Rep.weak h λc z=>z.imp id rW
theorem aJb{i:Nat}{c:E}{e a:Expr}(M:Mc X P Γ n)(hc:jB Γ i "append" e=some [a])(ha:PE X a (WE X P n RT Y old σ c))(hp:aO a=true):PS X (.Expr e pos) (wS X RT Y old σ (ex P (call P n) σ (.app i c))):=by
 obtain⟨x,p,ap,cp,rfl,hx,hl⟩:=kJ hc
 refine bO (iN (tG PySem.F.plainAttrs_list PySem.F.slot_list_append PySem.F.type_list_append iP (dB M hx) (cQ ha dR (aC hp)) rfl (by rw[aC hp];rfl) hl (aC hp) rfl)) λD σV H t ⟨S,h⟩=>?_
 have h:=OE.from (show OE X.K RT Y old H (O.from σ (ev P (call P n) σ c) λv=>put σ i v λds=>some (ds++[v.d])) D from h)
 obtain⟨v,ee,h⟩:=h.eq
 obtain⟨pa,ds,ds',q1,q2,q3,q4,hpost⟩:=rV h
 cases q3
 obtain⟨b,xs,h1,h2,h3,h4,h5⟩:=S.own i pa ds q1
 refine⟨.ref b,h1,.inl ⟨rfl,xs,SqL.of h2⟩,S,?_⟩
 rw[ee]
 intro u H1 t1 r1
 have hlen:=h5.length
 refine⟨b,xs,u,rfl,rfl,r1.1 _ _ h2,?_,λ_=>?_⟩
 . rw[lA,List.length_singleton] at q4
   have:=oJ
   omega
 . exact kM S r1.1 t1 q1 q2 h1 (((kK S r1.1 q1 h1 h2).weak λc z=>z.imp id kI).append (.cons (aBP (r1.rv S)) .nil)) hpost
theorem aJc{i:Nat}{c:E}{e a:Expr}(M:Mc X P Γ n)(hc:jB Γ i "extend" e=some [a])(ha:PE X a (WE X P n RT Y old σ c))(hp:aO a=true):PS X (.Expr e pos) (wS X RT Y old σ (ex P (call P n) σ (.ext i c))):=by
 obtain⟨x,p,ap,cp,rfl,hx,hl⟩:=kJ hc
 refine bO (iN (tG PySem.F.plainAttrs_list PySem.F.slot_list_extend PySem.F.type_list_extend aAb (dB M hx) (cQ ha dR (aC hp)) rfl (by rw[aC hp];rfl) hl (aC hp) rfl)) λD σV H t ⟨S,h⟩=>?_
 have h:=OE.from (show OE X.K RT Y old H (O.from σ (ev P (call P n) σ c) λv=>(match nT v with|some (v',ds')=>put σ i v' λds=>some (ds++ds')|none=>.bad)) D from h)
 obtain⟨v,ee,h⟩:=h.eq
 unfold nT at h
 cases hf:v.fr with
 | false=>rw[hf] at h;exact h.elim
 | true=>
  rw[hf] at h
  cases hd:v.d with
  | lst es=>
   rw[hd] at h
   obtain⟨pa,ds,ds',q1,q2,q3,q4,hpost⟩:=rV h
   cases q3
   obtain⟨b,xs,h1,h2,h3,h4,h5⟩:=S.own i pa ds q1
   refine⟨.ref b,h1,.inl ⟨rfl,xs,SqL.of h2⟩,S,?_⟩
   rw[ee]
   intro u H1 t1 r1
   have hr:=r1.2
   rw[if_pos hf] at hr
   obtain⟨a',ys,es',e1,e2,e3,e4,r⟩:=hr
   rw[hd] at e2
   cases e2
   subst e1
   have hlen:=h5.length
   have hlen2:=r.length
   refine⟨b,a',xs,ys,rfl,rfl,r1.1 _ _ h2,e4,?_,λ_=>?_⟩
   . rw[lA] at q4
     have:=oJ
     omega
   . refine kM S r1.1 t1 q1 q2 h1 (((kK S r1.1 q1 h1 h2).weak λc z=>z.imp id kI).append ?_) hpost
     have rr:=fA (r.weak λb z=>.inr z)
     exact rr.weak λc z=>z.imp id rW
  | _=>rw[hd] at h;exact h.elim
theorem aDC{i:Nat}{ck c:E}{x:Str}{p p2:Pos}{ix v:Expr}(M:Mc X P Γ n)(hx:bC Γ i x=true)(hk:PE X ix (WE X P n RT Y old σ ck))(he:PE X v (WE X P n RT Y old σ c))(hpl:aO ix=true):PS X (.Assign [.Subscript (.Name x p) ix p2] v pos) (wS X RT Y old σ (ex P (call P n) σ (.setIx i ck c))):=by
 refine bO (vP he (aAU (dB M hx) hk tF (by intro _;cases ix <;> first|rfl|cases hpl)) (by cases v <;> rfl) (by cases v <;> rfl)) λD σV H t ⟨S,h⟩=>?_
 have h:=OE.from (show OE X.K RT Y old H (O.from σ (ev P (call P n) σ c) λv=>O.from σ (ev P (call P n) σ ck) λkv=>(match kv.d with
  | .int k=>put σ i v λds=>(match ixN ds.length k with|some j=>some (ds.set j v.d)|none=>none)
  | _=>.bad)) D from h)
 refine wE.one S h λv u H1 hv t1 S1 r1=>?_
 obtain⟨kv,ek,hv⟩:=(OE.from hv).eq
 cases hd:kv.d with
 | int k=>
  rw[hd] at hv
  obtain⟨pa,ds,ds',q1,q2,q3,q4,hpost⟩:=rV hv
  obtain⟨b,xs,h1,h2,h3,h4,h5⟩:=S.own i pa ds q1
  cases hj:ixN ds.length k with
  | none=>rw[hj] at q3;cases q3
  | some j=>
   rw[hj] at q3
   cases q3
   refine⟨.ref b,h1,S1,?_⟩
   rw[ek]
   intro uk H2 t2 r2
   have hlen:=h5.length
   refine⟨b,xs,k,j,rfl,(r2.rv S1).int hd,r2.1 _ _ (r1.1 _ _ h2),by rw[<-hlen,<-lJ];exact hj,λ_=>?_⟩
   have s2:=r1.1.trans r2.1
   refine kM S s2 t2 q1 q2 h1 (((kK S s2 q1 h1 h2).weak λc z=>z.imp id kI).set j (aBP ((r1.rv S).grow r2.1))) hpost
 | _=>rw[hd] at hv;exact hv.elim
theorem Sx.move{K:Fg}{σV:L2.St}{H:Hp}(S:Sx K RT Y old σ σV H){i j:Nat}{pa:Bool}{ds:List D}{a:Addr}(e:σ[j]? = some (.own pa ds))(hij:i≠j)(ha:σV[j]? = some (some (.ref a))):Sx K RT Y old ((σ.set j .dead).set i (.own pa ds)) (σV.set i (some (.ref a))) H where
 sh:=λk pb d q=>by
  rcases set_some q with⟨_,z,_⟩|⟨n1,q⟩
  . cases z
  rcases set_some q with⟨_,z,_⟩|⟨n2,q⟩
  . cases z
  obtain⟨v,g1,g2⟩:=S.sh k pb d q
  exact⟨v,by rw[List.getElem?_set_ne n1];exact g1,g2⟩
 own:=λk pb dd q=>by
  rcases set_some q with⟨rfl,z,hl⟩|⟨n1,q⟩
  . cases z
    obtain⟨b,xs,g1,g2,g3⟩:=S.own j pa ds e
    rw[ha] at g1
    cases g1
    rw[List.length_set] at hl
    exact⟨a,xs,List.getElem?_set_self (by rw[<-S.len];exact hl),g2,g3⟩
  rcases set_some q with⟨_,z,_⟩|⟨n2,q⟩
  . cases z
  obtain⟨b,xs,g1,g2⟩:=S.own k pb dd q
  exact⟨b,xs,by rw[List.getElem?_set_ne n1];exact g1,g2⟩
 trk:=S.trk
 yo:=S.yo
 tk:=S.tk
 rt:=S.rt
 inj:=λk k' pb pb' dd dd' b q1 q2 v1 v2=>by
  have get:∀{k:Nat} {pb:Bool} {dd:List D},((σ.set j .dead).set i (.own pa ds))[k]? = some (.own pb dd)->(σV.set i (some (.ref a)))[k]? = some (some (.ref b))->(k=i/\b=a)\/(k≠i/\k≠j/\σ[k]? = some (.own pb dd)/\σV[k]? = some (some (.ref b))):=λ{k pb dd} q v=>by
   rcases set_some q with⟨rfl,z,hl⟩|⟨n1,q⟩
   . rw[List.length_set] at hl
     rw[List.getElem?_set_self (by rw[<-S.len];exact hl)] at v
     cases v
     exact .inl ⟨rfl,rfl⟩
   rcases set_some q with⟨_,z,_⟩|⟨n2,q⟩
   . cases z
   rw[List.getElem?_set_ne n1] at v
   exact .inr ⟨Ne.symm n1,Ne.symm n2,q,v⟩
  rcases get q1 v1 with⟨e1,b1⟩|⟨n1,m1,o1,w1⟩
  . rcases get q2 v2 with⟨e2,_⟩|⟨n2,m2,o2,w2⟩
    . rw[e1,e2]
    . subst b1
      exact absurd (S.inj k' j _ _ _ _ b o2 e w2 ha) m2
  . rcases get q2 v2 with⟨e2,b2⟩|⟨n2,m2,o2,w2⟩
    . subst b2
      exact absurd (S.inj k j _ _ _ _ b o1 e w1 ha) m1
    . exact S.inj k k' _ _ _ _ b o1 o2 w1 w2
 len:=by rw[List.length_set,List.length_set,List.length_set];exact S.len
 lx:=S.lx.imp id (λk dd q=>by
  rcases set_some q with⟨_,z,_⟩|⟨n1,q⟩
  . cases z
  rcases set_some q with⟨_,z,_⟩|⟨n2,q⟩
  . cases z
  exact⟨q,List.getElem?_set_ne n1⟩) (λ_ _ _ _ _ _ e=>e) (λ_ _ e z _=>⟨e,z⟩) (λ_ _ r=>r) (λk dd q=>by
  rcases set_some q with⟨_,z,_⟩|⟨n1,q⟩
  . cases z
  rcases set_some q with⟨_,z,_⟩|⟨n2,q⟩
  . cases z
  exact⟨q,List.getElem?_set_ne n1⟩) (λ_ _ _ _ _ _ e=>e) (λp xs' e' z=>⟨e',z.1,z.2.1,λk pb dd q v=>by
  rcases set_some q with⟨rfl,w,hl⟩|⟨n1,q⟩
  . rw[List.getElem?_set_self (by rw[<-S.len];simpa using hl)] at v
    cases v
    exact z.2.2 j _ _ e ha
  . rw[List.getElem?_set_ne n1] at v
    rcases set_some q with⟨_,w,_⟩|⟨n2,q⟩
    . cases w
    . exact z.2.2 k pb dd q v⟩) λ_ _ r=>r
theorem aJd{i j:Nat}{x y:Str}{p p2:Pos}(M:Mc X P Γ n)(hx:bD Γ i x=true)(hy:bC Γ j y=true):PS X (.Assign [.Name x p] (.Name y p2) pos) (wS X RT Y old σ (ex P (call P n) σ (.mov i j))):=by
 unfold bD at hx
 obtain⟨h1,h2,h3⟩:=cV hx
 refine bO (qW (i:=i) M.nd (by rw[M.N];exact eq_of_beq h1) (M.loc h2) (dB M hy) rfl (M.st x h2)) λD σV H t ⟨S,h⟩=>?_
 have h:OE X.K RT Y old H (match σ[j]? with
  | some (.own pa ds)=>if i=j then .bad else .next ((σ.set j .dead).set i (.own pa ds))
  | some (.sh pa d)=>.next (σ.set i (.sh (pa&&!noL d) d))
  | _=>.bad) D:=h
 cases e:σ[j]? with
 | none=>rw[e] at h;exact h.elim
 | some sl=>
  rw[e] at h
  cases sl with
  | dead=>exact h.elim
  | lent _=>exact h.elim
  | own2 _=>exact h.elim
  | own pa ds=>
   by_cases hij:i=j
   . have h:OE X.K RT Y old H (if i=j then .bad else .next ((σ.set j .dead).set i (.own pa ds))) D:=h
     rw[if_pos hij] at h;exact h.elim
   . have h:OE X.K RT Y old H (if i=j then .bad else .next ((σ.set j .dead).set i (.own pa ds))) D:=h
     rw[if_neg hij] at h
     obtain⟨a,xs,g1,g2⟩:=S.own j pa ds e
     exact⟨.ref a,g1,λ_=>(show dM X.K RT Y old H _ D.nx from h) RT _ H (Kp.refl RT H) bH (S.move e hij g1)⟩
  | sh pa d=>
   obtain⟨v,g1,g2⟩:=S.sh j pa d e
   refine⟨v,g1,λ_=>(show dM X.K RT Y old H (σ.set i (.sh (pa&&!noL d) d)) D.nx from h) RT _ H (Kp.refl RT H) bH (S.setSh ?_)⟩
   cases hn:noL d with
   | true=>exact Rep.free d v hn g2
   | false=>rw[Bool.not_false,Bool.and_true];exact g2
theorem qF{t:T}{b:Ss}{xs:List Vl×List Nat}{σV:L2.St}{H H1:Hp}{J:L2.It}{D:Ends}(S1:Sx X.K RT Y old σ σV H1)(k1:Kp RT H H1)(ok:pJ X.K RT Y old σ σV H1 J xs.1 xs.2)
 (hx:OE X.K RT Y old H (bZ (λσ x=>O.from σ (bG σ x t) λσ'=>exs P (call P n) σ' b) xs.1 (freeze σ xs.2)) D) :
 ∃W:Nat->Nat->L2.St->Hp->Prop,(∃m,W 0 m σV H1)/\∀i m σ H,W i m σ H ->
  (J.stop i H/\D.nx σ H)\/(J.go i H/\∃N:L2.St->Hp->Prop,(∀σ' H',N σ' H'->∃m',m'<m/\W (i+1) m' σ' H')/\∀x H',J.yld i H x H'->gT X.K t x σ H' λσ2 H2=>∃RT σ,wS X RT Y old σ (exs P (call P n) σ b) { D with nx:=N,ct:=N,bk:=D.nx } σ2 H2):=by
 let f:Sg->Vl->O:=λσ x=>O.from σ (bG σ x t) λσ'=>exs P (call P n) σ' b
 have hx:OE X.K RT Y old H (bZ f xs.1 (freeze σ xs.2)) D:=hx
 have Sf:=S1.frz xs.2
 refine⟨λi m σ1V Hc=>m=xs.1.length-i/\i<=xs.1.length/\∃RT1 σ1,Kp (rtF RT σ σV xs.2) H1 Hc/\(∀b,RT1 b->rtF RT σ σV xs.2 b\/H1 b=none)/\Sx X.K RT1 Y old σ1 σ1V Hc/\OE X.K RT1 Y old Hc (bZ f (xs.1.drop i) σ1) D,
  ⟨_,rfl,Nat.zero_le _,rtF RT σ σV xs.2,freeze σ xs.2,Kp.refl _ _,bH,Sf,OE.mono k1 (λb z=>.inl z.1) hx⟩,?_⟩
 rintro i m σ1V Hc ⟨hm,hi,RT1,σ1,kp,hsub,Sc,ho⟩
 have okc:=ok.ok (rtF RT σ σV xs.2) (λ_ z=>z) i Hc kp
 by_cases hlt:i<xs.1.length
 . refine .inr ⟨okc.1 hlt,λσ' H'=>xs.1.length-(i+1)=xs.1.length-(i+1)/\i+1<=xs.1.length/\∃RT1 σ1,Kp (rtF RT σ σV xs.2) H1 H'/\(∀b,RT1 b->rtF RT σ σV xs.2 b\/H1 b=none)/\Sx X.K RT1 Y old σ1 σ' H'/\OE X.K RT1 Y old H' (bZ f (xs.1.drop (i+1)) σ1) D,
    λσ' H' hN=>⟨_,by omega,hN⟩,λx H' hy=>?_⟩
   have hxi:xs.1[i]? = some xs.1[i]:=List.getElem?_eq_getElem hlt
   obtain⟨sm,tkf,rv⟩:=okc.2.2 x H' hy xs.1[i] hxi
   have hmem:xs.1[i]∈xs.1:=List.getElem_mem hlt
   rw[List.drop_eq_getElem_cons hlt] at ho
   have Sc':=Sc.grow sm (tkf Sc.tk)
   have rep:Rep X.K H' (λa=>RT1 a\/exB Y old xs.1[i].pa a) xs.1[i].d x:=rv.weak λa z=>by
    rcases z with z|z
    . rcases hsub a z with q|q
      . exact .inl (.inl ⟨q.1,λw=>q.2 (w.mono (ok.sub _ hmem))⟩)
      . exact .inr ⟨q,Sc.tk a (Sc.trk a (.inl z))⟩
    . exact .inl (.inr z)
   have ho:OE X.K RT1 Y old Hc (match f σ1 xs.1[i] with
    | .next σ'=>bZ f (xs.1.drop (i+1)) σ'
    | .cnt σ'=>bZ f (xs.1.drop (i+1)) σ'
    | .brk σ'=>.next σ'
    | o=>o) D:=ho
   cases hset:bG σ1 xs.1[i] t with
   | exc e=>rw[show f σ1 xs.1[i]=.exc e σ1 by show O.from σ1 (bG σ1 xs.1[i] t) _=_;rw[hset];rfl] at ho;exact ho.elim
   | bad=>rw[show f σ1 xs.1[i]=.bad by show O.from σ1 (bG σ1 xs.1[i] t) _=_;rw[hset];rfl] at ho;exact ho.elim
   | ok σ2=>
    rw[show f σ1 xs.1[i]=exs P (call P n) σ2 b by show O.from σ1 (bG σ1 xs.1[i] t) _=_;rw[hset];rfl] at ho
    refine yK Sc' (ok.nofr _ hmem) rep hset λσ2V S2 _=>⟨RT1,σ2,S2,?_⟩
    have kS:Kp RT1 Hc H':=Kp.same sm
    have again:∀{σ':Sg} {RT':Addr->Prop} {σV':L2.St} {H'':Hp},Kp RT1 H' H''->(∀b,RT' b->RT1 b\/H' b=none)->Sx X.K RT' Y old σ' σV' H''->OE X.K RT1 Y old Hc (bZ f (xs.1.drop (i+1)) σ') D ->
     (xs.1.length-(i+1)=xs.1.length-(i+1)/\i+1<=xs.1.length/\∃RT1 σ1,Kp (rtF RT σ σV xs.2) H1 H''/\(∀b,RT1 b->rtF RT σ σV xs.2 b\/H1 b=none)/\Sx X.K RT1 Y old σ1 σV' H''/\OE X.K RT1 Y old H'' (bZ f (xs.1.drop (i+1)) σ1) D):=λ{σ' RT' σV' H''} k2 s2 S3 h3=>by
     have k3:Kp RT1 Hc H'':=kS.chain bH k2
     have s3:∀b,RT' b->RT1 b\/Hc b=none:=iU kS bH s2
     exact⟨rfl,hlt,RT',σ',kp.chain hsub k3,iU kp hsub s3,S3,OE.mono k3 s3 h3⟩
    cases q:exs P (call P n) σ2 b with
    | next σ'=>rw[q] at ho;exact λRT' σV' H'' k2 s2 S3=>again k2 s2 S3 ho
    | cnt σ'=>rw[q] at ho;exact λRT' σV' H'' k2 s2 S3=>again k2 s2 S3 ho
    | brk σ'=>rw[q] at ho;exact dM.mono kS bH (show dM X.K RT1 Y old Hc σ' D.nx from ho)
    | ret v=>rw[q] at ho;exact OE.mono (o:=.ret v) kS bH ho
    | exc e σ'=>rw[q] at ho;exact ho.elim
    | bad=>rw[q] at ho;exact ho.elim
 . have hie:i=xs.1.length:=by omega
   subst hie
   rw[List.drop_length] at ho
   exact .inl ⟨okc.2.1 (Nat.le_refl _),(show dM X.K RT1 Y old Hc σ1 D.nx from ho) RT1 σ1V Hc (Kp.refl _ _) bH Sc⟩
theorem aJe{t:T}{it:Hp.It}{b:Ss}{tg iter:Expr}{body:List Stmt}(M:Mc X P Γ n)(hx:jJ Γ t tg=true)(hi:PI X tg iter (wI X P n RT Y old σ it))(hb:∀RT σ,PSs X body (wS X RT Y old σ (exs P (call P n) σ b)))(hs:∀x,foldedSetIterable iter X.env x=pure x) :
 PS X (.For tg iter body [] pos) (wS X RT Y old σ (ex P (call P n) σ (.for t it b))):=by
 have hp:PassesOwn (model X.prog X.w) X.A X.env X.xe:=by rw[M.xe];exact PassesOwn.never
 refine bO (qX hp M.calm hi (wQ M hx) (kH hb) hs) λD0 σV H t0 ⟨S,h⟩=>?_
 have h:=OE.tkE h
 revert h
 generalize tkE X.K D0=D
 intro h
 let f:Sg->Vl->O:=λσ x=>O.from σ (bG σ x t) λσ'=>exs P (call P n) σ' b
 have h:=OE.from (show OE X.K RT Y old H (O.from σ (walk P (call P n) σ it) λxs=>bZ f xs.1 (freeze σ xs.2)) D from h)
 exact⟨S,h.mono λxs hx J H1 t1 s1 ok=>qF (S.grow s1 t1) (Kp.same s1) ok hx⟩
end
section
variable {X:Cx} {P:Pg} {Γ:Ct} {n:Nat} {RT Y old:Addr->Prop} {σ:Sg} {pos:Pos} {l:Nat} {σV:L2.St} {H H1 H2 H':Hp} {K:Fg}
def KpL(RT:Addr->Prop)(σV:L2.St)(l:Nat)(H H':Hp):Prop:=Kp (λb=>σV[l]? = some (some (.ref b))/\RT b) H H'
theorem KpL.kp(h:KpL RT σV l H H'):Kp RT H H':=λa o e nn=>h a o e λz=>nn z.2
theorem KpL.trans(a:KpL RT σV l H H1)(b:KpL RT σV l H1 H2):KpL RT σV l H H2:=Kp.trans a b
theorem KpL.same(s:aL H H'):KpL RT σV l H H':=Kp.same s
theorem Sx.free(S:Sx K RT Y old σ σV H1)(k:Kp RT H H1){a:Addr}(h:H1 a=none):H a=none:=by
 cases e:H a with
 | none=>rfl
 | some o=>
  by_cases hr:RT a
  . exact absurd h (S.trk a (.inl hr))
  . rw[k a o e hr] at h;cases h
def RvL(K:Fg)(RT Y old:Addr->Prop)(H:Hp)(v:Vl)(u:V):Prop:=Rep K H (λb=>RT b\/exB Y old v.pa b) v.d u
theorem RvL.go{v:Vl}{u:V}(h:RvL K RT Y old H v u)(S:Sx K RT Y old σ σV H)(k:Kp RT H H'):RvL K RT Y old H' v u:=Rep.kp h k S.rt λb z=>.inl z
theorem RvL.nr{v:Vl}{u:V}(h:RvL K RT Y old H v u):Rv K RT Y old σ σV H v.nr u:=Rep.weak h λb z=>z.imp (·.1) id
def eX(K:Fg)(RT Y old:Addr->Prop)(H:Hp):List Vl->List V->Prop
 | [],us=>us=[]
 | v::vs,us=>∃u r,us=u::r/\RvL K RT Y old H v u/\eX K RT Y old H vs r
theorem eX.length:∀{vs:List Vl} {us:List V},eX K RT Y old H vs us->vs.length=us.length
 | [],_,h=>by rw[show _=[] from h];rfl
 | v::vs,_,h=>by
  obtain⟨u,r,e,_,h2⟩:=h
  subst e
  rw[lC,lC,eX.length h2]
theorem exB.mono{pa pb:Bool}{b:Addr}(h:exB Y old pb b)(hp:pa=true->pb=true):exB Y old pa b:=h.imp_right λz=>⟨by
 cases pa with
 | false=>rfl
 | true=>rw[hp rfl] at z;exact z.1,z.2⟩
theorem eX.reps:∀{vs:List Vl} {us:List V} {pa:Bool},eX K RT Y old H vs us->(∀v∈vs,v.pa=true->pa=true)->Reps K H (λb=>RT b\/exB Y old pa b) (vs.map (·.d)) us
 | [],_,_,h,_=>h
 | v::vs,_,_,h,q=>by
  obtain⟨u,r,e,h1,h2⟩:=h
  exact⟨u,r,e,Rep.weak h1 λb z=>z.imp id λz=>z.mono (q v List.mem_cons_self),eX.reps h2 λw hw=>q w (List.mem_cons_of_mem _ hw)⟩
structure RoL (K:Fg) (RT Y old:Addr->Prop) (σ':Sg) (σV:L2.St) (l:Nat) (H H':Hp) (v:Vl) (u:V):Prop where
 sx:Sx K RT Y old σ' σV H'
 kp:KpL RT σV l H H'
 fr:v.fr=true->∃a xs ds,u=.ref a/\v.d=.lst ds/\H a=none/\H' a=some (.lst xs)/\Sx K (λb=>RT b\/b=a) Y old σ' σV H'/\Reps K H' (λb=>(RT b\/b=a)\/exB Y old v.pa b) ds xs
 rv:RvL K RT Y old H' v u
theorem RoL.from{v:Vl}{u:V}{σ':Sg}(h:RoL K RT Y old σ' σV l H1 H' v u)(S:Sx K RT Y old σ σV H1)(k:KpL RT σV l H H1):RoL K RT Y old σ' σV l H H' v u:=
 ⟨h.sx,k.trans h.kp,λhf=>let ⟨a,xs,ds,e1,e2,e3,q⟩:=h.fr hf;⟨a,xs,ds,e1,e2,S.free k.kp e3,q⟩,h.rv⟩
theorem Sx.addR(S:Sx K RT Y old σ σV H)(s:aL H H')(t:Tk K H'){a:Addr}{xs:List V}(hn:H a=none)(ha:H' a=some (.lst xs)):Sx K (λb=>RT b\/b=a) Y old σ σV H':=by
 have hk:=t a (by rw[ha];simp)
 have w:∀{pa:Bool} b,(RT b\/b=a)\/exB Y old pa b->b=a\/RT b\/exB Y old pa b:=λ{pa} b z=>by
  rcases z with(z|z)|z
  . exact .inr (.inl z)
  . exact .inl z
  . exact .inr (.inr z)
 exact {
  sh:=λj pa d e=>let ⟨v,h1,h2⟩:=S.sh j pa d e;⟨v,h1,((h2.out hn hk).grow s).weak w⟩
  own:=λj pa ds e=>let ⟨b,ys,h1,h2,h3,h4,h5⟩:=S.own j pa ds e;⟨b,ys,h1,s _ _ h2,.inl h3,h4,((h5.out hn hk).grow s).weak w⟩
  trk:=λb z q=>by
   rcases z with(z|z)|z
   . exact S.trk b (.inl z) (s.free q)
   . rw[z,ha] at q;cases q
   . exact S.trk b (.inr z) (s.free q)
  yo:=S.yo
  tk:=t
  rt:=λb z=>by
   rcases z with z|z
   . obtain⟨ys,e⟩:=S.rt b z
     exact⟨ys,s _ _ e⟩
   . rw[z];exact⟨xs,ha⟩
  inj:=S.inj
  len:=S.len
  lx:=S.lx.imp id (λ_ _ e=>⟨e,rfl⟩) (λ_ _ _ _ _ _ e=>e) (λ_ _ e z _=>⟨s _ _ e,.inl z⟩) (λ_ _ r=>((r.out hn hk).grow s).weak w) (λ_ _ e=>⟨e,rfl⟩) (λ_ _ _ _ _ _ e=>e) (λp xs e z=>⟨s _ _ e,.inl z.1,z.2⟩) λ_ _ r=>aL.seqT s r }
theorem Sx.putOwn{a:Addr}(S0:Sx K RT Y old σ σV H)(S:Sx K (λb=>RT b\/b=a) Y old σ σV H){i:Nat}{pa:Bool}{ds:List D}{xs:List V}(hn:¬ RT a)(ho:¬ old a)(ha:H a=some (.lst xs))(r:Reps K H (λb=>(RT b\/b=a)\/exB Y old pa b) ds xs) :
 Sx K (λb=>RT b\/b=a) Y old (σ.set i (.own pa ds)) (σV.set i (some (.ref a))) H where
 sh:=λj pa' d' e=>by
  rcases set_some e with⟨rfl,e,hl⟩|⟨hij,e⟩
  . cases e
  . obtain⟨v,h1,h2⟩:=S.sh j pa' d' e
    exact⟨v,by rw[List.getElem?_set_ne hij];exact h1,h2⟩
 own:=λj pa' ds' e=>by
  rcases set_some e with⟨rfl,e,hl⟩|⟨hij,e⟩
  . cases e
    exact⟨a,xs,List.getElem?_set_self (by rw[<-S.len];exact hl),ha,.inr rfl,ho,r⟩
  . obtain⟨b,ys,h1,h2⟩:=S.own j pa' ds' e
    exact⟨b,ys,by rw[List.getElem?_set_ne hij];exact h1,h2⟩
 trk:=S.trk
 yo:=S.yo
 tk:=S.tk
 rt:=S.rt
 inj:=λj j' pa' pa'' ds1 ds2 c e1 e2 e3 e4=>by
  have fr:∀{j:Nat} {pa:Bool} {ds:List D},σ[j]? = some (.own pa ds)->σV[j]? = some (some (.ref a))->False:=λ{j pa ds} e q=>by
   obtain⟨a',xs',h1,h2,h3,_⟩:=S0.own j pa ds e
   rw[q] at h1
   cases h1
   exact hn h3
  rcases set_some e1 with⟨rfl,e,hl⟩|⟨n1,e1⟩
  . rcases set_some e2 with⟨rfl,_,_⟩|⟨n2,e2⟩
    . rfl
    . rw[List.getElem?_set_self (by rw[<-S.len];exact hl)] at e3
      cases e3
      rw[List.getElem?_set_ne n2] at e4
      exact(fr e2 e4).elim
  . rw[List.getElem?_set_ne n1] at e3
    rcases set_some e2 with⟨rfl,e,hl⟩|⟨n2,e2⟩
    . rw[List.getElem?_set_self (by rw[<-S.len];exact hl)] at e4
      cases e4
      exact(fr e1 e3).elim
    . rw[List.getElem?_set_ne n2] at e4
      exact S.inj j j' pa' pa'' ds1 ds2 c e1 e2 e3 e4
 len:=by rw[List.length_set,List.length_set];exact S.len
 lx:={
  at':=λj ds e=>by
   rcases set_some e with⟨_,z,_⟩|⟨hij,e⟩
   . cases z
   . rw[List.getElem?_set_ne hij];exact S.lx.at' j ds e
  inj:=λj j' ds ds' b e1 e2=>by
   rcases set_some e1 with⟨_,z,_⟩|⟨h1,e1⟩
   . cases z
   rcases set_some e2 with⟨_,z,_⟩|⟨h2,e2⟩
   . cases z
   rw[List.getElem?_set_ne h1,List.getElem?_set_ne h2]
   exact S.lx.inj j j' ds ds' b e1 e2
  at2:=λj dss e=>by
   rcases set_some e with⟨_,z,_⟩|⟨hij,e⟩
   . cases z
   . obtain⟨b,bs,h1,h2,h3,h4⟩:=S0.lx.at2 j dss e
     refine⟨b,bs,by rw[List.getElem?_set_ne hij];exact h1,h2,λp hp=>⟨.inl (h3 p hp).1,(h3 p hp).2.1,λk pa' ds' q v=>?_⟩,h4⟩
     rcases set_some q with⟨rfl,_,hl⟩|⟨hik,q⟩
     . rw[List.getElem?_set_self (by rw[<-S.len];exact hl)] at v
       cases v
       exact hn (h3 _ hp).1
     . rw[List.getElem?_set_ne hik] at v
       exact(h3 p hp).2.2 k pa' ds' q v
  one:=λj j' dss dss' e1 e2=>by
   rcases set_some e1 with⟨_,z,_⟩|⟨h1,e1⟩
   . cases z
   rcases set_some e2 with⟨_,z,_⟩|⟨h2,e2⟩
   . cases z
   exact S.lx.one j j' dss dss' e1 e2 }
theorem isEmpty_nil{al:List Nat}(h:al.isEmpty=true):al=[]:=by
 cases al with
 | nil=>rfl
 | cons _ _=>cases h
theorem rX{x:Vl}{u:V}(S:Sx K RT Y old σ σV H)(t:Tk K H1)(hal:x.al=[])(r:Ro K RT Y old σ σV H H1 x u):RoL K RT Y old σ σV l H H1 x u where
 sx:=S.grow r.1 t
 kp:=KpL.same r.1
 fr:=λhf=>by
  have q:=r.2
  rw[if_pos hf] at q
  obtain⟨a,xs,ds,e1,e2,e3,e4,rr⟩:=q
  refine⟨a,xs,ds,e1,e2,e3,e4,S.addR r.1 t e3 e4,rr.weak λb z=>?_⟩
  rcases z with(z|z)|z
  . refine .inr (.inl ⟨z,λ⟨j,hj,_⟩=>?_⟩)
    rw[hal] at hj
    cases hj
  . exact .inl z
  . exact .inr (.inr z)
 rv:=Rep.weak (r.rv S) λb z=>by
  rcases z with z|z
  . refine .inl ⟨z,λ⟨j,hj,_⟩=>?_⟩
    rw[hal] at hj
    cases hj
  . exact .inr z
theorem RE.noAl{v:Vl}{σ:Sg}{p:Vl×Sg->Prop}(h:RE (noAl v σ) p):v.al=[]/\p (v,σ):=by
 unfold Hp.noAl at h
 split at h
 . rename_i q;exact⟨isEmpty_nil q,h⟩
 . exact h.elim
def WL(X:Cx)(P:Pg)(n:Nat)(RT Y old:Addr->Prop)(l:Nat)(σ:Sg)(c:EL):TE:=λσV H Q=>Sx X.K RT Y old σ σV H/\RE (evl P (call P n) l σ c) λr=>∀u H',Tk X.K H'->RoL X.K RT Y old r.2 σV l H H' r.1 u->Q u H'
def WLs(X:Cx)(P:Pg)(n:Nat)(RT Y old:Addr->Prop)(l:Nat)(σ:Sg)(cs:ELs):TA:=λσV H Q=>Sx X.K RT Y old σ σV H/\RE (evls' P (call P n) l σ cs) λr=>∀us H',Tk X.K H'->Sx X.K RT Y old r.2 σV H'->KpL RT σV l H H'->eX X.K RT Y old H' r.1 us->Q us H'
theorem jO{ι:Type}{e:Expr}{t:ι->TE}(h:∀i,PE X e (t i)):PE X e (λσV H Q=>∃i,t i σV H Q):=λpins s σV H Q I ⟨i,hw⟩=>h i pins s σV H Q I hw
theorem aGi{ι:Type}{es:List Expr}{t:ι->TA}(h:∀i,PA X es (t i)):PA X es (λσV H Q=>∃i,t i σV H Q):=λpos pins s σV H Q I ⟨i,hw⟩=>h i pos pins s σV H Q I hw
theorem l_e{a:E}{e:Expr}(ha:PE X e (WE X P n RT Y old σ a)):PE X e (WL X P n RT Y old l σ (.e a)):=ha.imp λσV H Q t ⟨S,h⟩=>by
 have h:=RE.bind' (show RE (ev P (call P n) σ a >>= λx=>noAl x σ) _ from h)
 refine wE.one S h λx u H1 hx t1 S1 r1 t'=>?_
 obtain⟨hal,hx⟩:=RE.noAl hx
 exact hx u H1 t' (rX S t1 hal r1)
theorem aKZ{o:Operator}{a b:EL}{ea eb:Expr}(ha:PE X ea (WL X P n RT Y old l σ a))(hb:∀σ,PE X eb (WL X P n RT Y old l σ b)):PE X (.BinOp ea o eb pos) (WL X P n RT Y old l σ (.op o a b)):=by
 intro pins s σV H Q I hw
 obtain⟨S,h⟩:=hw
 have h:=RE.bind' (show RE (evl P (call P n) l σ a >>= λx=>evl P (call P n) l x.2 b >>= λy=>opD o x.1.nr y.1.nr >>= λz=>noAl z y.2) _ from h)
 refine wpAny_BinOp (thn (ha pins s σV H (λux H1=>∃x,RoL X.K RT Y old x.2 σV l H H1 x.1 ux/\RE (evl P (call P n) l x.2 b) λy=>RE (opD o x.1.nr y.1.nr >>= λz=>noAl z y.2) λr=>∀u H',Tk X.K H'->RoL X.K RT Y old r.2 σV l H H' r.1 u->Q u H') I
  ⟨S,h.mono λx hx u H1 t1 r1=>⟨x,r1,RE.bind' hx⟩⟩) λv s1 ⟨x',H1,I1,rx,x,r1,hx⟩=>thn (hb x.2 pins s1 σV H1 (λuy H2=>∃y,RoL X.K RT Y old y.2 σV l H1 H2 y.1 uy/\RE (opD o x.1.nr y.1.nr >>= λz=>noAl z y.2) λr=>∀u H',Tk X.K H'->RoL X.K RT Y old r.2 σV l H H' r.1 u->Q u H') I1
  ⟨r1.sx,hx.mono λy hy u H2 t2 r2=>⟨y,r2,hy⟩⟩) λu s2 ⟨y',H2,I2,ry,y,r2,hy⟩=>?_)
 refine tP I2 r2.sx rx ry (x:=x.1.nr) (y:=y.1.nr) (r1.rv.go r1.sx r2.kp.kp).nr r2.rv.nr (λz=>by cases z) ((RE.bind' hy).mono λz hz u H' t r=>?_)
 obtain⟨hal,hz⟩:=RE.noAl hz
 exact hz u H' t ((rX r2.sx t hal r).from r2.sx (r1.kp.trans r2.kp))
theorem aJf{a b:EL}{ea eb:Expr}(ha:PE X ea (WL X P n RT Y old l σ a))(hb:∀σ,PE X eb (WL X P n RT Y old l σ b))(hp:aO eb=true):PE X (.Subscript ea eb pos) (WL X P n RT Y old l σ (.idx a b)):=by
 refine(xZ vZ ha (jO hb) (gJ hp)).imp λσV H Q t ⟨S,h⟩=>?_
 have h:=RE.bind' (show RE (evl P (call P n) l σ a >>= λx=>evl P (call P n) l x.2 b >>= λy=>bV x.1.nr y.1.nr >>= λz=>noAl z y.2) _ from h)
 refine⟨S,h.mono λx hx u H1 t1 r1=>⟨x.2,r1.sx,(RE.bind' hx).mono λy hy uy H2 t2 r2=>?_⟩⟩
 refine pZ (σ:=y.2) (σV:=σV) (RT:=RT) (Y:=Y) (old:=old) t2 (x:=x.1.nr) (y:=y.1.nr) (r1.rv.go r1.sx r2.kp.kp).nr r2.rv.nr ((RE.bind' hy).mono λz hz u H' t r=>?_)
 obtain⟨hal,hz⟩:=RE.noAl hz
 exact hz u H' t ((rX r2.sx t hal r).from r2.sx (r1.kp.trans r2.kp))
theorem aJg:PA X [] (WLs X P n RT Y old l σ .nil):=dR.imp λσV H Q t ⟨S,h⟩ t'=>
 (show ∀us H',Tk X.K H'->Sx X.K RT Y old σ σV H'->KpL RT σV l H H'->eX X.K RT Y old H' [] us->Q us H' from h) [] H t' S (KpL.same (aL.refl H)) rfl
theorem aGj{c:EL}{cs:ELs}{e:Expr}{es:List Expr}(ha:PE X e (WL X P n RT Y old l σ c))(hr:∀σ,PA X es (WLs X P n RT Y old l σ cs))(hp:aO e=true):PA X (e::es) (WLs X P n RT Y old l σ (.cons c cs)):=by
 refine(cQ ha (aGi hr) (aC hp)).imp λσV H Q t ⟨S,h⟩=>?_
 have h:=RE.bind' (show RE (evl P (call P n) l σ c >>= λx=>evls' P (call P n) l x.2 cs >>= λr=>R.ok (x.1::r.1,r.2)) _ from h)
 refine⟨S,h.mono λx hx u H1 t1 r1=>⟨x.2,r1.sx,(RE.bind' hx).mono λr hr us H2 t2 S2 k2 rs t'=>?_⟩⟩
 exact(show ∀us H',Tk X.K H'->Sx X.K RT Y old r.2 σV H'->KpL RT σV l H H'->eX X.K RT Y old H' (x.1::r.1) us->Q us H' from hr) (u::us) H2 t' S2 (r1.kp.trans k2) ⟨u,us,rfl,r1.rv.go r1.sx k2.kp,rs⟩
theorem lR:∀{cs:ELs} {es:List Expr} {σ:Sg} {r:List Vl×Sg},chkELs Γ l cs es=true->evls' P (call P n) l σ cs=.ok r->r.1.length=es.length
 | .nil,[],σ,r,_,h=>by cases(show R.ok ([],σ)=R.ok r from h);rfl
 | .nil,_::_,_,_,h,_=>by cases h
 | .cons _ _,[],_,_,h,_=>by cases h
 | .cons c cs,e::es,σ,r,hc,h=>by
  simp only[chkELs,bA] at hc
  obtain⟨x,_,h⟩:=R.bind_ok (show(evl P (call P n) l σ c >>= λx=>evls' P (call P n) l x.2 cs >>= λr=>R.ok (x.1::r.1,r.2))=R.ok r from h)
  obtain⟨q,e2,h⟩:=R.bind_ok h
  cases(show R.ok (x.1::q.1,q.2)=R.ok r from h)
  rw[lC,lC,lR hc.2 e2]
theorem aJh{cs:ELs}{es:List Expr}{k:Nat}(ha:PA X es (WLs X P n RT Y old l σ cs))(hc:chkELs Γ l cs es=true)(hl:es.length<=1000):PE X (.Tuple es k pos) (WL X P n RT Y old l σ (.tup cs)):=by
 refine(aBa ha).imp λσV H Q t ⟨S,h⟩=>?_
 obtain⟨r,e,hv⟩:=(RE.bind' (show RE (evls' P (call P n) l σ cs >>= λr=>R.ok ((⟨.tup (r.1.map (·.d)),false,aV r.1,[]⟩:Vl),r.2)) _ from h)).eq
 refine⟨S,?_⟩
 rw[e]
 intro us H1 t1 S1 k1 rs
 have hn:us.length<=sizeLine:=by rw[<-rs.length,lR hc e,sizeLine_eq];omega
 refine⟨hn,λp hp t'=>(show ∀u H',Tk X.K H'->RoL X.K RT Y old r.2 σV l H H' (⟨.tup (r.1.map (·.d)),false,aV r.1,[]⟩:Vl) u->Q u H' from hv) _ _ t' ⟨S1.grow (aL.new hp) t',k1.trans (KpL.same (aL.new hp)),(λz=>by cases z),?_⟩⟩
 exact⟨p,us,rfl,SqT.of aY,(rs.reps λv hv z=>iA hv z).grow (aL.new hp)⟩
theorem yN{σ':Sg}{vs:List Vl}{us:List V}{p:Addr}(S:Sx K RT Y old σ σV H)(S1:Sx K RT Y old σ' σV H1)(k1:KpL RT σV l H H1)(rs:eX K RT Y old H1 vs us)(hp:H1 p=none)(t':Tk K (upd H1 p (.lst us))):RoL K RT Y old σ' σV l H (upd H1 p (.lst us)) ⟨.lst (vs.map (·.d)),true,aV vs,[]⟩ (.ref p):=by
 have sn:aL H1 (upd H1 p (.lst us)):=aL.new hp
 have hk:=t' p (by rw[aY];simp)
 have rr:Reps K (upd H1 p (.lst us)) (λb=>(RT b\/b=p)\/exB Y old (aV vs) b) (vs.map (·.d)) us:=(((rs.reps (pa:=aV vs) λv hv z=>iA hv z).out hp hk).grow sn).weak λb z=>by
  rcases z with(z|z)|z
  . exact .inr (.inl z)
  . exact .inl z
  . exact .inr (.inr z)
 refine⟨S1.grow sn t',k1.trans (KpL.same sn),λ_=>⟨p,us,_,rfl,rfl,S1.free k1.kp hp,aY,S1.addR sn t' hp aY,rr⟩,p,us,rfl,SqL.of aY,λz=>?_,rr.weak λb z=>z.imp .inl id⟩
 refine S1.trk p (z.imp id λz=>?_) hp
 rcases z with z|⟨_,z⟩
 . exact .inl z
 . exact .inr z
theorem aJi{cs:ELs}{es:List Expr}(ha:PA X es (WLs X P n RT Y old l σ cs))(hc:chkELs Γ l cs es=true)(hl:es.length<=1000):PE X (.List es pos) (WL X P n RT Y old l σ (.lst cs)):=by
 refine(vV ha).imp λσV H Q t ⟨S,h⟩=>?_
 obtain⟨r,e,hv⟩:=(RE.bind' (show RE (evls' P (call P n) l σ cs >>= λr=>R.ok ((⟨.lst (r.1.map (·.d)),true,aV r.1,[]⟩:Vl),r.2)) _ from h)).eq
 refine⟨S,?_⟩
 rw[e]
 intro us H1 t1 S1 k1 rs
 have hn:us.length<=sizeLine:=by rw[<-rs.length,lR hc e,sizeLine_eq];omega
 exact⟨hn,λp hp t'=>(show ∀u H',Tk X.K H'->RoL X.K RT Y old r.2 σV l H H' (⟨.lst (r.1.map (·.d)),true,aV r.1,[]⟩:Vl) u->Q u H' from hv) _ _ t' (yN S S1 k1 rs hp t')⟩
theorem aJj(M:Mc X P Γ n){o:CmpOp}{a b:EL}{ea eb:Expr}(ha:PE X ea (WL X P n RT Y old l σ a))(hb:∀σ,PE X eb (WL X P n RT Y old l σ b))(hp:aO eb=true):PE X (.Compare ea [o] [eb] pos) (WL X P n RT Y old l σ (.cmp o a b)):=by
 refine(xV (eK (RT:=RT) (Y:=Y) (old:=old) M o) ha (jO hb) (fQ hp)).imp λσV H Q t ⟨S,h⟩=>?_
 have h:=RE.bind' (show RE (evl P (call P n) l σ a >>= λx=>evl P (call P n) l x.2 b >>= λy=>(match bL o x.1.d y.1.d with
  | some k=>R.ok (Vl.cl (.bl k),y.2)
  | none=>.bad)) _ from h)
 refine⟨S,h.mono λx hx u H1 t1 r1=>⟨x.2,r1.sx,(RE.bind' hx).mono λy hy uy H2 t2 r2=>?_⟩⟩
 split at hy
 . rename_i k hk
   refine⟨y.2,σV,x.1.nr,y.1.nr,k,(r1.rv.go r1.sx r2.kp.kp).nr,r2.rv.nr,hk,λt'=>?_⟩
   exact(show ∀u H',Tk X.K H'->RoL X.K RT Y old y.2 σV l H H' (.cl (.bl k)) u->Q u H' from hy) _ _ t' ⟨r2.sx,r1.kp.trans r2.kp,(λz=>by cases z),rfl⟩
 . exact hy.elim
theorem aJk(M:Mc X P Γ n){a:EL}{e:Expr}{x:Str}{p:Pos}(hx:x=("int" : Str))(hg:cM Γ x=true)(ho:bW x=true)(ha:PE X e (WL X P n RT Y old l σ a))(hp:aO e=true):PE X (.Call (.Name x p) [e] [] pos) (WL X P n RT Y old l σ (.int a)):=by
 subst hx
 refine(iO (yF M.calm M.room.gd M.units .int rfl) (M.gl hg) (M.md.blt _ (dS .int)) (yH .int rfl) (cQ ha dR (aC hp)) (eR .int) (aM ho) (aC hp) rfl).imp λσV H Q t ⟨S,h⟩=>?_
 have h:=RE.bind' (show RE (evl P (call P n) l σ a >>= λx=>biD .int [x.1.nr] >>= λz=>noAl z x.2) _ from h)
 refine⟨S,h.mono λx hx u H1 t1 r1=>?_⟩
 refine tS (b:=.int) rfl r1.sx (vs:=[x.1.nr]) (us:=[u]) ⟨u,[],rfl,r1.rv.nr,rfl⟩ ((RE.bind' hx).mono λz hz u H' t r=>?_)
 obtain⟨hal,hz⟩:=RE.noAl hz
 exact hz u H' t ((rX r1.sx t hal r).from r1.sx r1.kp)
theorem nE{pa:Bool}{cs:List D}(S:Sx K RT Y old σ σV H)(h:bQ σ l=some (pa,cs)):∃(lt:Bool) (p:Addr) (xs:List V),σ[l]? = some (fM lt pa cs)/\σV[l]? = some (some (.ref p))/\H p=some (.lst xs)/\RT p/\Reps K H (λb=>RT b\/exB Y old pa b) cs xs/\∀pa' cs',cF σ l pa' cs'=σ.set l (fM lt pa' cs'):=by
 unfold bQ at h
 cases e:σ[l]? with
 | none=>rw[e] at h;cases h
 | some sl=>
  rw[e] at h
  cases sl with
  | own pa' ds'=>
   cases h
   obtain⟨p,xs,h1,h2,h3,h4,h5⟩:=S.own l pa cs e
   exact⟨false,p,xs,rfl,h1,h2,h3,h5,λpa' cs'=>by unfold cF;rw[e];rfl⟩
  | lent ds'=>
   cases h
   obtain⟨p,xs,h1,h2,h3,h4,h5⟩:=S.lx.at' l cs e
   exact⟨true,p,xs,rfl,h1,h2,h3,h5,λpa' cs'=>by unfold cF;rw[e];rfl⟩
  | _=>cases h
theorem aGk(M:Mc X P Γ n){f:Nat}{es:ELs}{g x:Str}{p p1:Pos}{ys:List Expr}(hf:Γ.fns[f]? = some g)(hg:cM Γ g=true)(ho:bW g=true)(hx:bC Γ l x=true)(ha:PA X ys (WLs X P n RT Y old l σ es))(hp:ys.all aO=true) :
 PE X (.Call (.Name g p) (.Name x p1::ys) [] pos) (WL X P n RT Y old l σ (.call f es)):=by
 obtain⟨fa,fd,ps,h1,h2,h3,h4⟩:=M.md.fn f g hf
 refine(rA h4 M.room (M.gl hg) h1 h2 h3 .nil yB (cQ (dB M hx) ha (aC rfl)) (aM ho) (aC rfl) (cN hp)).imp λσV H Q t ⟨S,h⟩=>?_
 obtain⟨hc,h⟩:=(show RE (R.iff ((bQ σ l).isSome&&mI P f) (evls' P (call P n) l σ es >>= λr=>(match bQ r.2 l with
  | some (pa,cs)=>call P n f (.err 0 cs::r.1.map (·.d)) >>= λq=>gG r.2 l pa r.1 q
  | none=>.bad))) _ from h).iff
 rw[bA] at hc
 obtain⟨r,er,h⟩:=(RE.bind' h).eq
 obtain⟨⟨pa0,cs0⟩,e0⟩:=Option.isSome_iff_exists.mp hc.1
 obtain⟨_,q,_,_,hq,_⟩:=nE S e0
 refine⟨.ref q,hq,S,?_⟩
 rw[er]
 intro us H1 t1 S1 k1 rs
 cases e1:bQ r.2 l with
 | none=>rw[e1] at h;exact h.elim
 | some pc=>
  obtain⟨pa,cs⟩:=pc
  rw[e1] at h
  obtain⟨rt,ec,h⟩:=(RE.bind' (show RE (call P n f (.err 0 cs::r.1.map (·.d)) >>= λq=>gG r.2 l pa r.1 q) _ from h)).eq
  obtain⟨lt,p',xs,g1,g2,g3,g4,g5,g6⟩:=nE S1 e1
  rw[hq] at g2
  cases g2
  have big:∀b,RT b\/exB Y old (pa||aV r.1) b->b=q\/(H1 b≠none/\b≠q/\(RT b\/exB Y old (pa||aV r.1) b)):=λb z=>by
   by_cases hb:b=q
   . exact .inl hb
   . refine .inr ⟨S1.trk b ?_,hb,z⟩
     rcases z with z|z|⟨_,z⟩
     . exact .inl z
     . exact .inr (.inl z)
     . exact .inr (.inr z)
  have sml:∀b,b=q\/(H1 b≠none/\b≠q/\(RT b\/exB Y old (pa||aV r.1) b))->RT b\/exB Y old (pa||aV r.1) b:=λb z=>z.elim (λz=>.inl (by rw[z];exact g4)) λz=>z.2.2
  refine .inr ⟨hc.2,cs,r.1.map (·.d),q,xs,us,λb=>H1 b≠none/\b≠q/\(RT b\/exB Y old (pa||aV r.1) b),by rw[List.append_nil],λa z=>z.1,g3,g5.weak λb z=>(sml b z).imp id kI,
   (rs.reps (pa:=pa||aV r.1) λv hv z=>by rw[iA hv z,Bool.or_true]).weak sml,?_⟩
  rw[ec]
  unfold gG at h
  cases eu:aBp rt.1 with
  | none=>rw[eu] at h;exact h.elim
  | some dc=>
   obtain⟨d,cs'⟩:=dc
   rw[eu] at h
   refine⟨d,cs',eu,λu H' R2 xs' t' kp hR hR2 hx' rr hv _=>?_⟩
   have h:∀u H',Tk X.K H'->RoL X.K RT Y old (cF r.2 l (pa||aV r.1) cs') σV l H H' (⟨d,rt.2.1,rt.2.2&&(pa||aV r.1),[]⟩:Vl) u->Q u H':=h
   rw[g6] at h
   have kL:KpL RT σV l H1 H':=λb o e z=>kp b o e λw=>z (by rw[w];exact⟨hq,g4⟩)
   have out:∀b,RT b\/exB Y old (rt.2.2&&(pa||aV r.1)) b->R2 b\/(H1 b≠none/\b≠q/\(RT b\/exB Y old (pa||aV r.1) b))\/(rt.2.2=false/\H1 b≠none):=λb z=>by
    cases hpa:rt.2.2 with
    | true=>
     rw[hpa,Bool.true_and] at z
     exact(big b z).elim (λw=>.inl (by rw[w];exact hR)) λw=>.inr (.inl w)
    | false=>
     rw[hpa,Bool.false_and] at z
     rcases z with z|z
     . exact(big b (.inl z)).elim (λw=>.inl (by rw[w];exact hR)) λw=>.inr (.inl w)
     . refine .inr (.inr ⟨rfl,S1.trk b (.inr ?_)⟩)
       rcases z with z|⟨_,z⟩
       . exact .inl z
       . exact .inr z
   have exo:∀{b},exB Y old (lt||(pa||aV r.1)) b->exB Y old (pa||aV r.1) b:=λ{b} z=>z.mono λw=>by rw[w,Bool.or_true]
   have S0:Sx X.K RT Y old (r.2.set l (fM lt (pa||aV r.1) cs')) σV H':=by
    refine S1.mutH g1 hq (λ_ z=>z) (λ_ z=>.inl z) (λb z=>?_) t' kp hx' (rr.weak λb z=>?_)
    . by_cases hb:b=q
      . exact⟨xs',by rw[hb];exact hx'⟩
      . obtain⟨zs,hz⟩:=S1.rt b z
        exact⟨zs,kp b _ hz hb⟩
    . exact(big b (z.imp id exo)).imp (λw=>by rw[w];exact hR) id
   refine h u H' t' ⟨S0,k1.trans kL,λhf=>?_,?_⟩
   . have hf:rt.2.1=true:=hf
     rw[if_pos hf] at hv
     obtain⟨a,ys',es',v1,v2,v3,v4,v5,v6⟩:=hv
     refine⟨a,ys',es',v1,v2,S1.free k1.kp v3,v5,?_,v6.weak λb z=>?_⟩
     . refine S1.mutH g1 hq (λ_ z=>.inl z) (λb z=>z.imp id λz=>by rw[z];exact v3) (λb z=>?_) t' kp hx' (rr.weak λb z=>?_)
       . rcases z with z|z
         . exact S0.rt b z
         . rw[z];exact⟨ys',v5⟩
       . rcases z with(z|z)|z
         . exact(big b (.inl z)).imp (λw=>by rw[w];exact hR) id
         . exact .inl (by rw[z];exact v4)
         . exact(big b (.inr (exo z))).imp (λw=>by rw[w];exact hR) id
     . rcases z with(z|z)|z
       . exact out b (.inl z)
       . exact .inl (by rw[z];exact v4)
       . exact out b (.inr z)
   . by_cases hf:rt.2.1=true
     . rw[if_pos hf] at hv
       obtain⟨a,ys',es',v1,v2,v3,v4,v5,v6⟩:=hv
       show Rep X.K H' (λb=>RT b\/exB Y old (rt.2.2&&(pa||aV r.1)) b) d u
       rw[v1,v2]
       refine⟨a,ys',rfl,SqL.of v5,λz=>?_,v6.weak out⟩
       have:H1 a≠none:=S1.trk a (z.imp id λz=>z.elim .inl λz=>.inr z.2)
       exact this v3
     . rw[if_neg hf] at hv
       exact Rep.weak hv out
theorem Sx.reV{K:Fg}{σV σV':L2.St}{H:Hp}(S:Sx K RT Y old σ σV H)(hl:σV'.length=σV.length)(h:∀(j:Nat) (s:Sl),σ[j]? = some s->s=.dead\/σV'[j]? = σV[j]?):Sx K RT Y old σ σV' H where
 sh:=λj pa d e=>by
  rcases h j _ e with z|z
  . cases z
  . rw[z];exact S.sh j pa d e
 own:=λj pa d e=>by
  rcases h j _ e with z|z
  . cases z
  . rw[z];exact S.own j pa d e
 trk:=S.trk
 yo:=S.yo
 tk:=S.tk
 rt:=S.rt
 inj:=λj1 j2 pa pa' ds ds' a e1 e2 e3 e4=>by
  rcases h j1 _ e1 with z|z1
  . cases z
  rcases h j2 _ e2 with z|z2
  . cases z
  rw[z1] at e3
  rw[z2] at e4
  exact S.inj j1 j2 pa pa' ds ds' a e1 e2 e3 e4
 len:=by rw[hl];exact S.len
 lx:=S.lx.imp id (λj ds e=>(h j _ e).elim (λz=>by cases z) λz=>⟨e,z⟩) (λ_ _ _ _ _ _ e=>e) (λ_ _ e z _=>⟨e,z⟩) (λ_ _ r=>r) (λj ds e=>(h j _ e).elim (λz=>by cases z) λz=>⟨e,z⟩) (λ_ _ _ _ _ _ e=>e) (λp xs e z=>⟨e,z.1,z.2.1,λk pa ds q=>(h k _ q).elim (λw=>by cases w) λw=>by rw[w];exact z.2.2 k pa ds q⟩) λ_ _ r=>r
theorem rY{f:Sg->Vl->R (Vl×Sg)}{x:Vl}{xs rs:List Vl}{σ σ':Sg}(h:dN f (x::xs) σ=.ok (rs,σ')):∃y r,f σ x=.ok y/\dN f xs y.2=.ok (r,σ')/\rs=y.1::r:=by
 obtain⟨y,e1,h⟩:=R.bind_ok (show(f σ x >>= λy=>dN f xs y.2 >>= λr=>R.ok (y.1::r.1,r.2))=R.ok (rs,σ') from h)
 obtain⟨r,e2,h⟩:=R.bind_ok h
 cases(show R.ok (y.1::r.1,r.2)=R.ok (rs,σ') from h)
 exact⟨y,r.1,e1,e2,rfl⟩
theorem eX.snoc{K:Fg}{H:Hp}{v:Vl}{u:V}(h2:RvL K RT Y old H v u):∀{vs:List Vl} {us:List V},eX K RT Y old H vs us->eX K RT Y old H (vs++[v]) (us++[u])
 | [],_,h=>by
  rw[show _=[] from h]
  exact⟨u,[],rfl,h2,rfl⟩
 | w::vs,_,h=>by
  obtain⟨x,r,e,h1,h3⟩:=h
  subst e
  exact⟨x,r++[u],rfl,h1,eX.snoc h2 h3⟩
theorem eX.go{K:Fg}{σV:L2.St}{H H':Hp}(S:Sx K RT Y old σ σV H)(k:Kp RT H H'):∀{vs:List Vl} {us:List V},eX K RT Y old H vs us->eX K RT Y old H' vs us
 | [],_,h=>h
 | v::vs,_,h=>by
  obtain⟨u,r,e,h1,h2⟩:=h
  exact⟨u,r,e,h1.go S k,eX.go S k h2⟩
theorem aDD{K:Fg}{σV:L2.St}{H:Hp}(j:Int):pJ K RT Y old σ σV H (Itr 0 j.toNat) ((cA 0 j).map .cl) []:=by
 refine rR (lo:=0) (m:=j.toNat) ?_
 rw[gK]
 simp
theorem aGl(M:Mc X P Γ n){k l':Nat}{caps:List Nat}{t:T}{c elt:EL}{e tg en:Expr}{f:Str}{p p2:Pos}{scope:Scope}{N':List Str}(CS:cI X scope k caps N')(hnd:caps.Nodup)(hk:∀i∈tIx t,i<k)(hkl:k<=l')(hcl:caps[l'-k]? = some l)
 (hf:f=("range" : Str)) (hg:cM Γ f=true) (he:PE X en (WL X P n RT Y old l σ c)) (hpl:aO en=true)
 (hch:∀C s₀ H₀ ex,PG (cU X scope N' C s₀ H₀ ex) tg (gT X.K t)/\∀RT σ1,PE (cU X scope N' C s₀ H₀ ex) e (WL X P n RT Y old l' σ1 elt)) :
 PE X (.ListComp e [⟨tg,.Call (.Name f p) [en] [] p2,[],0⟩] scope pos) (WL X P n RT Y old l σ (.comp k caps t c l' elt)):=by
 subst hf
 refine(rO (g:=gT X.K t) (tt:=λ_ H Q=>Q true H) (te:=λσV H Q=>∃RT σ1,WL X P n RT Y old l' σ1 elt σV H Q) CS M.calm (lI (M.gl hg) (M.md.blt _ (by decide +kernel)) (cQ he dR (aC hpl)) (aC hpl)) (λC s₀ H₀ ex=>⟨(hch C s₀ H₀ ex).1,yG,jO λRT=>jO ((hch C s₀ H₀ ex).2 RT)⟩) (eQ rfl)).imp λσV H Q t0 ⟨S,h⟩=>?_
 let F:Sg->Vl->R (Vl×Sg):=λσ x=>bG (ch0 k caps σ) x t >>= λσ1=>evl P (call P n) l' σ1 elt >>= λy=>(match bQ σ l,bQ y.2 l' with
  | some _,some (pa,cs)=>R.ok (y.1,cF σ l pa cs)
  | _,_=>.bad)
 have h:=RE.bind' (show RE (evl P (call P n) l σ c >>= λr=>(match r.1.d with
  | .int j=>R.iff (aG j) (dN F ((cA 0 j).map .cl) r.2 >>= λq=>R.iff (decide (q.1.length<=lim)) (.ok ((⟨.lst (q.1.map (·.d)),true,aV q.1,[]⟩:Vl),q.2)))
  | _=>.bad)) _ from h)
 refine⟨S,h.mono λr hr u H1 t1 ro=>?_⟩
 cases hd:r.1.d with
 | int jj=>
  rw[hd] at hr
  obtain⟨hs,hr⟩:=RE.iff (show RE (R.iff (aG jj) _) _ from hr)
  obtain⟨⟨vs,σe⟩,er,hr⟩:=(RE.bind' hr).eq
  obtain⟨hlen,hr⟩:=RE.iff (show RE (R.iff (decide (vs.length<=lim)) (.ok ((⟨.lst (vs.map (·.d)),true,aV vs,[]⟩:Vl),σe))) _ from hr)
  have hlen:=of_decide_eq_true hlen
  have hs:=fS hs
  have ok:pJ X.K RT Y old r.2 σV H1 (Itr 0 jj.toNat) ((cA 0 jj).map .cl) []:=aDD jj
  refine⟨jj,by rw[(ro.rv.nr (σ:=r.2) (σV:=σV)).int hd],hs.1,hs.2,?_⟩
  have S1:=ro.sx
  revert er ok S1
  generalize (cA 0 jj).map Vl.cl=xs
  intro er ok S1
  refine⟨λj m ys σ1V Hc=>m=xs.length-j/\j<=xs.length/\KpL RT σV l H1 Hc/\∃σc,Sx X.K RT Y old σc σV Hc/\σ1V.length=(gI k caps σV).length/\(∀j,k<=j->σ1V[j]? = (gI k caps σV)[j]?) /\
   ∃ws rs,vs=ws++rs/\dN F (xs.drop j) σc=.ok (rs,σe)/\eX X.K RT Y old Hc ws ys,⟨_,rfl,Nat.zero_le _,KpL.same (aL.refl _),r.2,S1,rfl,λ_ _=>rfl,[],vs,rfl,er,rfl⟩,?_⟩
  rintro j m ys σ1V Hc ⟨hm,hj,kp,σc,Sc,hln,hcap,ws,rs,evs',ego,rvs⟩
  have okc:=ok.ok RT (λb z=>⟨z,λ⟨_,hj,_⟩=>by cases hj⟩) j Hc kp.kp
  have hly:=rvs.length
  have hws:ws.length<=vs.length:=by rw[evs',lA];omega
  have hlim:lim=1000000:=rfl
  by_cases hlt:j<xs.length
  . refine .inr ⟨okc.1 hlt,by rw[<-hly,sizeLine_eq];omega,λx H' hy=>?_⟩
    have hxi:xs[j]? = some xs[j]:=List.getElem?_eq_getElem hlt
    obtain⟨sm,tkf,rv⟩:=okc.2.2 x H' hy xs[j] hxi
    have hmem:xs[j]∈xs:=List.getElem_mem hlt
    have hnf:=ok.nofr _ hmem
    rw[List.drop_eq_getElem_cons hlt] at ego
    obtain⟨y,r',ef,ego',ers⟩:=rY ego
    obtain⟨σ1,eσ,ef⟩:=R.bind_ok ef
    obtain⟨q,eq,ef⟩:=R.bind_ok ef
    have Sg:=Sc.grow sm (tkf Sc.tk)
    have rep:Rep X.K H' (λa=>RT a\/exB Y old xs[j].pa a) xs[j].d x:=rv.weak λa z=>by
     rcases z with z|z
     . exact .inl (.inl ⟨z,λw=>by
        obtain⟨j',hj',_⟩:=w
        have:=ok.sub _ hmem j' hj'
        cases this⟩)
     . exact .inl (.inr z)
    have Sch:Sx X.K RT Y old (ch0 k caps σc) σ1V H':=(Sg.child hnd).reV hln λj' s hs=>by
     by_cases hjk:j'<k
     . exact .inl (uH hjk hs)
     . exact .inr (hcap j' (Nat.le_of_not_lt hjk))
    refine yK Sch hnf rep eσ λσ2V S2 hkeep=>?_
    show(if true=true then _ else _)
    rw[if_pos rfl]
    refine⟨RT,σ1,S2,?_⟩
    rw[eq]
    intro u H4 t4 ro
    have capk:∀j,k<=j->σ2V[j]? = (gI k caps σV)[j]? := λj hj=>by
     rw[hkeep j λz=>absurd (hk j z) (Nat.not_lt.mpr hj),hcap j hj]
    cases e1:bQ σc l with
    | none=>simp only[e1] at ef;cases ef
    | some pc=>
     obtain⟨pa0,cs0⟩:=pc
     simp only[e1] at ef
     cases e2:bQ q.2 l' with
     | none=>simp only[e2] at ef;cases ef
     | some pc=>
      obtain⟨pa,cs⟩:=pc
      simp only[e2] at ef
      cases(show R.ok (q.1,cF σc l pa cs)=R.ok y from ef)
      obtain⟨lt,a,xs',g1,g2,g3,g4,g5,g6⟩:=nE ro.sx e2
      obtain⟨lt0,a0,xs0,b1,b2,b3,b4,b5,b6⟩:=nE Sg e1
      have hV:σV[l]? = some (some (.ref a)):=by
       rw[capk l' hkl] at g2
       have hl':l'=k+(l'-k):=by omega
       rw[hl'] at g2
       exact kF hcl g2
      rw[hV] at b2
      cases b2
      have kpa:Kp (λb=>b=a) H' H4:=λb o eb nb=>ro.kp b o eb λz=>nb (by
       have z1:=z.1
       rw[g2] at z1
       exact(V.ref.inj (Option.some.inj (Option.some.inj z1))).symm)
      have kL:KpL RT σV l H' H4:=λb o eb nb=>kpa b o eb λz=>nb (by rw[z];exact⟨hV,b4⟩)
      have S4:Sx X.K RT Y old (cF σc l pa cs) σV H4:=by
       rw[b6]
       refine Sg.mutH b1 hV (λ_ z=>z) (λ_ z=>.inl z) (λb z=>ro.sx.rt b z) t4 kpa g3 (g5.weak λb z=>z.imp id λz=>z.mono λw=>by rw[w,Bool.or_true])
      refine⟨xs.length-(j+1),by omega,rfl,hlt,kp.trans ((KpL.same sm).trans kL),cF σc l pa cs,S4,?_,capk,ws++[q.1],r',by rw[evs',ers];simp,ego',eX.snoc ro.rv (eX.go Sc ((Kp.same sm).trans kL.kp) rvs)⟩
      rw[<-S2.len,uF eσ]
      unfold ch0 gI
      simp
  . have hje:j=xs.length:=by omega
    subst hje
    rw[List.drop_length] at ego
    cases(show R.ok ([],σc)=R.ok (rs,σe) from ego)
    rw[List.append_nil] at evs'
    subst evs'
    refine .inl ⟨okc.2.1 (Nat.le_refl _),by rw[<-hly];exact eH hlen,λq hq t'=>?_⟩
    exact(show ∀u H',Tk X.K H'->RoL X.K RT Y old σe σV l H H' (⟨.lst (vs.map (·.d)),true,aV vs,[]⟩:Vl) u->Q u H' from hr) _ _ t' (yN S Sc (ro.kp.trans kp) rvs hq t')
 | _=>rw[hd] at hr;exact hr.elim
theorem yO{Γ:Ct}{k l l':Nat}{caps:List Nat}{t:T}{c:EL}{elt:EL}{e:Expr}(h:bM Γ l (.comp k caps t c l' elt) e=true) :
 ∃el tg f p en p2 scope pos,e=.ListComp el [⟨tg,.Call (.Name f p) [en] [] p2,[],0⟩] scope pos/\aAs Γ tg caps scope k t/\jJ (oI Γ tg caps scope) t tg=true/\(f=("range" : Str)/\cM Γ f=true/\bM Γ l c en=true)/\(k<=l'/\caps[l'-k]? = some l)/\bM (oI Γ tg caps scope) l' elt el=true:=by
 unfold bM at h
 obtain⟨⟨el,gens,scope⟩,⟨pos,rfl⟩,g⟩:=aD h
 clear h
 have h:=g
 clear g
 rcases gens with _|⟨⟨tg,iter,ifs,as⟩,_|⟨_,_⟩⟩
 . cases h
 . cases ifs with
   | cons _ _=>cases h
   | nil=>
    have h:(as==0&&(dD tg).length==k&&(caps.all λi=>decide (i<Γ.N.length))&&decide caps.Nodup&&scope.kind==.function&&decide (dD tg++caps.filterMap λi=>Γ.N[i]?).Nodup &&
     ((caps.filterMap λi=>Γ.N[i]?).all λx=>scope.names.lookup x==some .free&&Γ.sc.lookup x==some .cell) &&
     (scope.names.all λp=>p.2 != .cell&&(p.2 != .local||scope.names.lookup p.1==some .local)&&(p.2 != .free||Γ.sc.lookup p.1==some .cell)) &&
     ((tIx t).all λi=>decide (i<k)) &&
     jJ (oI Γ tg caps scope) t tg&&(oS (jK iter) λq=>(q.1==("range" : Str))&&cM Γ q.1&&(match q.2 with|[x]=>bM Γ l c x|_=>false))&&(decide (k<=l')&&(caps[l'-k]?==some l))&&bM (oI Γ tg caps scope) l' elt el)=true:=h
    simp only[bA,beq_iff_eq,List.all_eq_true,decide_eq_true_eq,Bool.or_eq_true,bne_iff_ne,ne_eq] at h
    obtain⟨⟨⟨⟨⟨⟨⟨⟨⟨⟨⟨⟨h0,h1⟩,h2⟩,h3⟩,h4⟩,h5⟩,h6⟩,h7⟩,h8⟩,h10⟩,h11⟩,h12⟩,h13⟩:=h
    subst h0
    obtain⟨⟨f,xs⟩,⟨p1,p2,e2⟩,g⟩:=aD h11
    have e2:iter=.Call (.Name f p1) xs [] p2:=e2
    subst e2
    obtain⟨g1,g2,g3⟩:=cV g
    rcases xs with _|⟨x,_|⟨_,_⟩⟩
    . cases g3
    . refine⟨el,tg,f,p1,x,p2,scope,pos,rfl,⟨h1,h2,h3,h4,h5,h6,λp hp=>?_,h8⟩,h10,⟨eq_of_beq g1,g2,g3⟩,h12,h13⟩
      obtain⟨⟨q1,q2⟩,q3⟩:=h7 p hp
      exact⟨q1,λe=>q2.resolve_left λz=>z e,λe=>q3.resolve_left λz=>z e⟩
    . cases g3
 . cases ifs <;> cases h
theorem cL{c:EL}{e:Expr}(h:bM Γ l c e=true):aO e=true:=by
 cases c with
 | e a=>exact aK (c:=a) (by exact h)
 | op o a b=>obtain⟨_,⟨_,rfl⟩,_⟩:=aD (by unfold bM at h;exact h);rfl
 | idx a b=>obtain⟨_,⟨_,rfl⟩,_⟩:=aD (by unfold bM at h;exact h);rfl
 | tup es=>obtain⟨_,⟨_,_,rfl⟩,_⟩:=aD (by unfold bM at h;exact h);rfl
 | call f es=>obtain⟨_,⟨_,_,rfl⟩,_⟩:=aD (by unfold bM at h;exact h);rfl
 | lst es=>obtain⟨_,⟨_,rfl⟩,_⟩:=aD (by unfold bM at h;exact h);rfl
 | cmp o a b=>obtain⟨_,⟨_,rfl⟩,_⟩:=aD (by unfold bM at h;exact h);rfl
 | int a=>obtain⟨_,⟨_,_,rfl⟩,_⟩:=aD (by unfold bM at h;exact h);rfl
 | comp k caps t c l' elt=>obtain⟨_,_,_,_,_,_,_,_,rfl,_⟩:=yO h;rfl
theorem kN:∀{cs:ELs} {es:List Expr},chkELs Γ l cs es=true->es.all aO=true
 | .nil,[],_=>rfl
 | .nil,_::_,h=>by cases h
 | .cons _ _,[],h=>by cases h
 | .cons c cs,e::es,h=>by
  simp only[chkELs,bA] at h
  rw[List.all_cons,cL h.1,kN h.2]
  rfl
mutual
theorem qEL{X:Cx}{Γ:Ct}{l:Nat}(M:Mc X P Γ n):(c:EL)->∀{e:Expr},bM Γ l c e=true->∀(RT:Addr->Prop) (σ:Sg),PE X e (WL X P n RT Y old l σ c)
 | .e a,e,h,RT,σ=>l_e (sE a M (by unfold bM at h;exact h) RT Y old σ)
 | .op o a b,e,h,RT,σ=>by
  unfold bM at h
  obtain⟨⟨x,o',y⟩,⟨p,rfl⟩,g⟩:=aD h
  obtain⟨h1,h2,h3⟩:=cV g
  have e:o=o':=eq_of_beq h1
  subst e
  exact aKZ (qEL M a h2 RT σ) λσ=>qEL M b h3 RT σ
 | .idx a b,e,h,RT,σ=>by
  unfold bM at h
  obtain⟨⟨x,y⟩,⟨p,rfl⟩,g⟩:=aD h
  obtain⟨h1,h2⟩:=dA g
  exact aJf (qEL M a h1 RT σ) (λσ=>qEL M b h2 RT σ) (cL h2)
 | .tup es,e,h,RT,σ=>by
  unfold bM at h
  obtain⟨xs,⟨k,p,rfl⟩,g⟩:=aD h
  obtain⟨h1,h2⟩:=dA g
  exact aJh (qELs M es h2 RT σ) h2 (of_decide_eq_true h1)
 | .call f es,e,h,RT,σ=>by
  unfold bM at h
  obtain⟨⟨g,xs⟩,⟨p1,p2,rfl⟩,q⟩:=aD h
  obtain⟨h1,h2,h3,h4⟩:=aAt q
  cases xs with
  | nil=>cases h4
  | cons x xs=>
   obtain⟨h4,h5⟩:=dA h4
   obtain⟨y,⟨p3,e3⟩,h4⟩:=aD h4
   subst e3
   exact aGk M (eq_of_beq h1) h2 h3 h4 (qELs M es h5 RT σ) (kN h5)
 | .lst es,e,h,RT,σ=>by
  unfold bM at h
  obtain⟨xs,⟨p,rfl⟩,g⟩:=aD h
  obtain⟨h1,h2⟩:=dA g
  exact aJi (qELs M es h2 RT σ) h2 (of_decide_eq_true h1)
 | .cmp o a b,e,h,RT,σ=>by
  unfold bM at h
  obtain⟨⟨x,os,rs⟩,⟨p,rfl⟩,g⟩:=aD h
  rcases os with _|⟨o',_|⟨_,_⟩⟩
  . cases g
  . rcases rs with _|⟨r,_|⟨_,_⟩⟩
    . cases g
    . obtain⟨h1,h2,h3⟩:=cV g
      have e:o=o':=eq_of_beq h1
      subst e
      exact aJj M (qEL M a h2 RT σ) (λσ=>qEL M b h3 RT σ) (cL h3)
    . cases g
  . cases g
 | .int a,e,h,RT,σ=>by
  unfold bM at h
  obtain⟨⟨g,xs⟩,⟨p1,p2,rfl⟩,q⟩:=aD h
  obtain⟨h1,h2,h3,h4⟩:=aAt q
  rcases xs with _|⟨x,_|⟨_,_⟩⟩
  . cases h4
  . exact aJk M (eq_of_beq h1) h2 h3 (qEL M a h4 RT σ) (cL h4)
  . cases h4
 | .comp k caps t c l' elt,e,h,RT,σ=>by
  obtain⟨el,tg,f,p,en,p2,scope,pos,rfl,O,g1,⟨f1,f2,f3⟩,⟨k1,k2⟩,g3⟩:=yO h
  refine aGl M (O.scope M) O.ndc O.tk k1 k2 f1 f2 (qEL M c f3 RT σ) (cL f3) λC s₀ H₀ ex=>?_
  have M':=O.mc M C s₀ H₀ ex
  exact⟨wQ M' g1,λRT σ1=>qEL (l:=l') M' elt g3 RT σ1⟩
theorem qELs{X:Cx}{Γ:Ct}{l:Nat}(M:Mc X P Γ n):(cs:ELs)->∀{es:List Expr},chkELs Γ l cs es=true->∀(RT:Addr->Prop) (σ:Sg),PA X es (WLs X P n RT Y old l σ cs)
 | .nil,[],_,RT,σ=>aJg
 | .nil,_::_,h,_,_=>by cases h
 | .cons _ _,[],h,_,_=>by cases h
 | .cons c cs,e::es,h,RT,σ=>by
  obtain⟨h1,h2⟩:=dA (show(bM Γ l c e&&chkELs Γ l cs es)=true from h)
  exact aGj (qEL M c h1 RT σ) (λσ=>qELs M cs h2 RT σ) (cL h1)
end
end
section
variable {X:Cx} {P:Pg} {Γ:Ct} {n:Nat} {RT Y old:Addr->Prop} {σ:Sg} {pos:Pos} {l:Nat}
theorem aGm{i:Nat}{ck c:E}{x:Str}{p p2:Pos}{ix v:Expr}(M:Mc X P Γ n)(hx:bC Γ i x=true)(hk:PE X ix (WE X P n RT Y old σ ck))(he:PE X v (WE X P n RT Y old σ c))(hpl:aO ix=true):PS X (.Assign [.Subscript (.Name x p) ix p2] v pos) (wS X RT Y old σ (ex P (call P n) σ (.lset i ck c))):=by
 refine bO (vP he (aAU (dB M hx) hk tF (by intro _;cases ix <;> first|rfl|cases hpl)) (by cases v <;> rfl) (by cases v <;> rfl)) λD σV H t ⟨S,h⟩=>?_
 have h:=OE.from (show OE X.K RT Y old H (O.from σ (ev P (call P n) σ c) λv=>O.from σ (ev P (call P n) σ ck) λkv=>(match σ[i]?,kv.d with
  | some (.lent ds),.int k=>(match ixN ds.length k with|some j=>if noL v.d then .next (σ.set i (.lent (ds.set j v.d))) else .bad|none=>.bad)
  | _,_=>.bad)) D from h)
 refine wE.one S h λv u H1 hv t1 S1 r1=>?_
 obtain⟨kv,ek,hv⟩:=(OE.from hv).eq
 cases e:σ[i]? with
 | none=>rw[e] at hv;exact hv.elim
 | some sl=>
  rw[e] at hv
  cases sl with
  | lent ds=>
   cases hd:kv.d with
   | int k=>
    rw[hd] at hv
    have hv:OE X.K RT Y old H (match ixN ds.length k with|some j=>if noL v.d then .next (σ.set i (.lent (ds.set j v.d))) else .bad|none=>.bad) D:=hv
    obtain⟨b,xs,h1,h2,h3,h4,h5⟩:=S.lx.at' i ds e
    cases hj:ixN ds.length k with
    | none=>rw[hj] at hv;exact hv.elim
    | some j=>
     rw[hj] at hv
     have hv:OE X.K RT Y old H (if noL v.d then .next (σ.set i (.lent (ds.set j v.d))) else .bad) D:=hv
     split at hv
     . rename_i hn
       refine⟨.ref b,h1,S1,?_⟩
       rw[ek]
       intro uk H2 t2 r2
       have hlen:=h5.length
       refine⟨b,xs,k,j,rfl,(r2.rv S1).int hd,r2.1 _ _ (r1.1 _ _ h2),by rw[<-hlen,<-lJ];exact hj,λ_=>?_⟩
       have s2:=r1.1.trans r2.1
       exact(show dM X.K RT Y old H (σ.set i (.lent (ds.set j v.d))) D.nx from hv) RT σV _ (Kp.upd s2 h3) bH ((S.grow s2 t2).mutA (lt:=true) (pa:=true) (pa':=true) e h1 ((h5.grow s2).set j (Rep.free _ _ hn ((r1.rv S).grow r2.1))))
     . exact hv.elim
   | _=>rw[hd] at hv;exact hv.elim
  | _=>exact hv.elim
theorem aDE{σ':Sg}{σV:L2.St}{H H1:Hp}{v:Vl}{u:V}(S:Sx X.K RT Y old σ σV H)(ro:RoL X.K RT Y old σ' σV l H H1 v u)(i:Nat):∃RT',Sx X.K RT' Y old (σ'.set i v.slot) (σV.set i (some u)) H1/\∀b,RT' b->RT b\/H b=none:=by
 by_cases hf:v.fr=true
 . obtain⟨a,xs,ds,e1,e2,e3,e4,S2,r⟩:=ro.fr hf
   rw[yJ hf e2,e1]
   exact⟨_,ro.sx.putOwn S2 (λz=>S.trk a (.inl z) e3) (λz=>S.trk a (.inr (.inr z)) e3) e4 r,λb z=>z.imp id λz=>by rw[z];exact e3⟩
 . rw[fT (by simpa using hf)]
   exact⟨_,ro.sx.setSh ro.rv,bH⟩
theorem Kp.rtF{H H1:Hp}{σV:L2.St}{al:List Nat}(k:Kp (rtF RT σ σV al) H H1):Kp RT H H1:=λa o e nn=>k a o e λz=>nn z.1
theorem aGn{c:EL}{e:Expr}{i:Nat}{fz:List Nat}{x:Str}{p:Pos}(M:Mc X P Γ n)(hx:bD Γ i x=true)(he:∀RT σ,PE X e (WL X P n RT Y old l σ c))(hs:jL e=false):PS X (.Assign [.Name x p] e pos) (wS X RT Y old σ (ex P (call P n) σ (.setL i l fz c))):=by
 unfold bD at hx
 obtain⟨h1,h2,h3⟩:=cV hx
 refine bO (qW (i:=i) M.nd (by rw[M.N];exact eq_of_beq h1) (M.loc h2) (jO λRT=>jO (he RT)) (by cases e <;> first|rfl|cases hs) (M.st x h2)) λD σV H t ⟨S,h⟩=>?_
 have h:=OE.from (show OE X.K RT Y old H (O.from σ (evl P (call P n) l (freeze σ fz) c) λr=>.next (r.2.set i r.1.slot)) D from h)
 refine⟨rtF RT σ σV fz,freeze σ fz,S.frz fz,h.mono λr hr u H1 t1 ro=>?_⟩
 obtain⟨RT',S',hsub⟩:=aDE (S.frz fz) ro i
 exact λ_=>(show dM X.K RT Y old H (r.2.set i r.1.slot) D.nx from hr) RT' _ H1 (Kp.rtF ro.kp.kp) (λb z=>(hsub b z).imp (·.1) id) S'
theorem aGo{i:Nat}{c:EL}{e a:Expr}(M:Mc X P Γ n)(hc:jB Γ i "append" e=some [a])(ha:PE X a (WL X P n RT Y old l σ c))(hp:aO a=true):PS X (.Expr e pos) (wS X RT Y old σ (ex P (call P n) σ (.appL i l c))):=by
 obtain⟨x,p,ap,cp,rfl,hx,hl⟩:=kJ hc
 refine bO (iN (tG PySem.F.plainAttrs_list PySem.F.slot_list_append PySem.F.type_list_append iP (dB M hx) (cQ ha dR (aC hp)) rfl (by rw[aC hp];rfl) hl (aC hp) rfl)) λD σV H t ⟨S,h⟩=>?_
 have h:OE X.K RT Y old H (if (gQ σ i).isSome then O.from σ (evl P (call P n) l σ c) λr=>put r.2 i r.1.nr λds=>some (ds++[r.1.d]) else .bad) D:=h
 split at h
 . rename_i ho
   obtain⟨⟨pa0,ds0⟩,ho⟩:=Option.isSome_iff_exists.mp ho
   have q0:=uM ho
   obtain⟨r,ee,h⟩:=(OE.from h).eq
   obtain⟨b,xs,g1,g2,g3,g4,g5⟩:=S.own i pa0 ds0 q0
   refine⟨.ref b,g1,.inl ⟨rfl,xs,SqL.of g2⟩,S,?_⟩
   rw[ee]
   intro u H1 t1 ro
   obtain⟨pa,ds,ds',q1,q2,q3,q4,hpost⟩:=rV h
   cases q3
   obtain⟨b',xs',k1,k2,k3,k4,k5⟩:=ro.sx.own i pa ds q1
   rw[g1] at k1
   cases k1
   have hlen:=k5.length
   refine⟨b,xs',u,rfl,rfl,k2,?_,λ_=>?_⟩
   . rw[lA,List.length_singleton] at q4
     have:=oJ
     omega
   . exact kM ro.sx (aL.refl H1) t1 q1 q2 g1 (((kK ro.sx (aL.refl H1) q1 g1 k2).weak λc z=>z.imp id kI).append (.cons (Rep.weak ro.rv λc z=>z.imp (·.1) rW) .nil)) (hpost.mono ro.kp.kp bH)
 . exact h.elim
theorem uN{v:Vl}{D:Ends}{H:Hp}(h:OE X.K RT Y old H (mJ v σ) D):∃cs,σ[(0:Nat)]? = some (.lent cs)/\mM X.K RT Y old H ⟨.tup [v.d,.err 0 cs],v.fr,v.pa,[]⟩ D.rt:=by
 unfold mJ at h
 split at h
 . rename_i cs e;exact⟨cs,e,h⟩
 . exact h.elim
theorem aBQ{b:Addr}(h:Y b):exB Y old true b:=.inl h
theorem aGp{c:EL}{e:Expr}(he:PE X e (WL X P n RT Y old 0 σ c)):PS X (.Return (some e) pos) (wS X RT Y old σ (ex P (call P n) σ (.retL c))):=by
 refine bO (qV he) λD σV H t ⟨S,h⟩=>?_
 have h:=OE.from (show OE X.K RT Y old H (O.from σ (evl P (call P n) 0 σ c) λr=>mJ r.1 r.2) D from h)
 refine⟨S,h.mono λr hr u H1 t1 ro _=>?_⟩
 obtain⟨cs,e0,hr⟩:=uN hr
 refine hr u H1 ro.kp.kp t1 (.inr ?_)
 by_cases hf:r.1.fr=true
 . obtain⟨a,ys,es,e1,e2,e3,e4,S2,rr⟩:=ro.fr hf
   obtain⟨p,xs,h1,h2,h3,h4,h5⟩:=S2.lx.at' 0 cs e0
   refine⟨r.1.d,cs,λb=>RT b\/b=a,p,xs,rfl,λb z=>z.imp id λz=>by rw[z];exact e3,h3,h4,h2,h5.weak λb z=>z.imp id aBQ,?_⟩
   rw[if_pos hf]
   exact⟨a,ys,es,e1,e2,λz=>S.trk a (.inr (.inr z)) e3,.inr rfl,e4,rr⟩
 . obtain⟨p,xs,h1,h2,h3,h4,h5⟩:=ro.sx.lx.at' 0 cs e0
   refine⟨r.1.d,cs,RT,p,xs,rfl,bH,h3,h4,h2,h5.weak λb z=>z.imp id aBQ,?_⟩
   rw[if_neg hf]
   exact ro.rv
theorem aDF{i:Nat}{x:Str}{p:Pos}(M:Mc X P Γ n)(hx:bC Γ i x=true):PS X (.Return (some (.Name x p)) pos) (wS X RT Y old σ (ex P (call P n) σ (.retvL i))):=by
 refine bO (qV (dB M hx)) λD σV H t ⟨S,h⟩=>?_
 have h:OE X.K RT Y old H (match σ[i]? with|some (.own pa ds)=>mJ ⟨.lst ds,true,pa,[]⟩ σ|_=>.bad) D:=h
 split at h
 . rename_i pa ds e
   obtain⟨cs,e0,hr⟩:=uN h
   obtain⟨a,ys,h1,h2,h3,h4,h5⟩:=S.own i pa ds e
   obtain⟨p,xs,g1,g2,g3,g4,g5⟩:=S.lx.at' 0 cs e0
   exact⟨.ref a,h1,λ_=>hr (.ref a) H (Kp.refl RT H) t (.inr ⟨.lst ds,cs,RT,p,xs,rfl,bH,g3,g4,g2,g5.weak λb z=>z.imp id aBQ,by rw[if_pos rfl];exact⟨a,ys,ds,rfl,rfl,h4,h3,h2,h5⟩⟩)⟩
 . exact h.elim
theorem aGq(M:Mc X P Γ n){o:CmpOp}{a:EL}{b:E}{x y:Ss}{ea eb:Expr}{xa xb:List Stmt}{p:Pos}(ha:PE X ea (WL X P n RT Y old 0 σ a))(hb:∀σ,PE X eb (WE X P n RT Y old σ b))(hp:aO eb=true)(hx:∀RT σ,PSs X xa (wS X RT Y old σ (exs P (call P n) σ x)))(hy:∀RT σ,PSs X xb (wS X RT Y old σ (exs P (call P n) σ y))) :
 PS X (.If (.Compare ea [o] [eb] p) xa xb pos) (wS X RT Y old σ (ex P (call P n) σ (.iffL o a b x y))):=by
 refine bO (aAR (qY (eK (RT:=RT) (Y:=Y) (old:=old) M o) ha (jO hb) (fQ hp)) (kH hx) (kH hy)) λD σV H t ⟨S,h⟩=>?_
 have h:=OE.from (show OE X.K RT Y old H (O.from σ (evl P (call P n) 0 σ a) λr=>O.from r.2 (ev P (call P n) r.2 b) λz=>(match bL o r.1.d z.d with
  | some k=>if k then exs P (call P n) r.2 x else exs P (call P n) r.2 y
  | none=>.bad)) D from h)
 refine⟨S,h.mono λr hr u H1 t1 ro=>⟨r.2,ro.sx,(OE.from hr).mono λz hz uz H2 t2 rz=>?_⟩⟩
 have S2:=ro.sx.grow rz.1 t2
 have k2:Kp RT H H2:=ro.kp.kp.trans (Kp.same rz.1)
 split at hz
 . rename_i k hk
   refine⟨r.2,σV,r.1.nr,z,k,(ro.rv.nr).grow rz.1,rz.rv ro.sx,hk,k,rfl,?_⟩
   cases k with
   | true=>rw[if_pos rfl] at hz ⊢;exact⟨RT,r.2,S2,(OE.mono k2 bH hz).tkE⟩
   | false=>rw[if_neg bN] at hz ⊢;exact⟨RT,r.2,S2,(OE.mono k2 bH hz).tkE⟩
 . exact hz.elim
theorem aGr{t:T}{c:EL}{b:Ss}{tg e:Expr}{body:List Stmt}{f:Str}{p p2:Pos}(M:Mc X P Γ n)(hx:jJ Γ t tg=true)(hf:f=("range" : Str))(hg:cM Γ f=true)(he:PE X e (WL X P n RT Y old 0 σ c))(hpl:aO e=true)(hb:∀RT σ,PSs X body (wS X RT Y old σ (exs P (call P n) σ b))) :
 PS X (.For tg (.Call (.Name f p) [e] [] p2) body [] pos) (wS X RT Y old σ (ex P (call P n) σ (.forL t c b))):=by
 subst hf
 have hp:PassesOwn (model X.prog X.w) X.A X.env X.xe:=by rw[M.xe];exact PassesOwn.never
 refine bO (qX hp M.calm (lI (M.gl hg) (M.md.blt _ (by decide +kernel)) (cQ he dR (aC hpl)) (aC hpl)) (wQ M hx) (kH hb) (eQ rfl)) λD0 σV H t0 ⟨S,h⟩=>?_
 have h:=OE.tkE h
 revert h
 generalize tkE X.K D0=D
 intro h
 have h:=OE.from (show OE X.K RT Y old H (O.from σ (evl P (call P n) 0 σ c) λr=>(match r.1.d with
  | .int j=>if aG j then bZ (λσ x=>O.from σ (bG σ x t) λσ'=>exs P (call P n) σ' b) ((cA 0 j).map .cl) r.2 else .bad
  | _=>.bad)) D from h)
 refine⟨S,h.mono λr hr u H1 t1 ro=>?_⟩
 cases hd:r.1.d with
 | int j=>
  rw[hd] at hr
  have hr:OE X.K RT Y old H (if aG j then bZ (λσ x=>O.from σ (bG σ x t) λσ'=>exs P (call P n) σ' b) ((cA 0 j).map .cl) r.2 else .bad) D:=hr
  split at hr
  . rename_i hs
    have hs:=fS hs
    refine⟨j,by rw[(ro.rv.nr (σ:=r.2) (σV:=σV)).int hd],hs.1,hs.2,qF (xs:=((cA 0 j).map .cl,[])) ro.sx ro.kp.kp (rR ?_) hr⟩
    rw[gK]
    simp
  . exact hr.elim
 | _=>rw[hd] at hr;exact hr.elim
end
section
variable {K:Fg}
theorem oK{ds:List D}{vs:List V}{H:Hp}{Y:Addr->Prop}{m:Nat}{R0:Addr->Prop}(hY:∀a,Y a->H a≠none)(t:Tk K H)(hR:∀a,R0 a->∃xs,H a=some (.lst xs))(r:Reps K H (λb=>R0 b\/Y b) ds vs):Sx K R0 Y (λb=>H b≠none) ((ds.map λd=>Sl.sh true d)++List.replicate m Sl.dead) (vs.map some++List.replicate m none) H:=by
 have len:=r.length
 have get:∀{i:Nat} {s:Sl},((ds.map λd=>Sl.sh true d)++List.replicate m Sl.dead)[i]? = some s->s=.dead\/∃d,s=.sh true d/\ds[i]? = some d:=λ{i s} e=>by
  by_cases hi:i<ds.length
  . rw[List.getElem?_append_left (by simpa using hi),List.getElem?_map,List.getElem?_eq_getElem hi] at e
    cases e
    exact .inr ⟨ds[i],rfl,List.getElem?_eq_getElem hi⟩
  . rw[List.getElem?_append_right (by simpa using hi),List.getElem?_replicate] at e
    split at e
    . cases e;exact .inl rfl
    . cases e
 exact {
  sh:=λi pa d e=>by
   rcases get e with z|⟨d',z,q⟩
   . cases z
   . cases z
     obtain⟨v,hv,rv⟩:=r.get q
     have hi:i<vs.length:=(List.getElem?_eq_some_iff.mp hv).1
     refine⟨v,?_,rv.weak λa z=>?_⟩
     . rw[List.getElem?_append_left (by simpa using hi),List.getElem?_map,hv];rfl
     . rcases z with z|z|⟨z,_⟩
       . exact .inl z
       . exact .inr z
       . cases z
  own:=λi pa ds' e=>by
   rcases get e with z|⟨d',z,q⟩
   . cases z
   . cases z
  trk:=λa z=>by
   rcases z with z|z|z
   . obtain⟨xs,e⟩:=hR a z
     rw[e];simp
   . exact hY a z
   . exact z
  yo:=hY
  tk:=t
  rt:=hR
  inj:=λi j pa pa' ds1 ds2 a e=>by
   rcases get e with z|⟨d',z,q⟩
   . cases z
   . cases z
  len:=by rw[lA,lA,lM,lM,List.length_replicate,List.length_replicate,len]
  lx:={
   at':=λi ds' e=>by
    rcases get e with z|⟨d',z,q⟩
    . cases z
    . cases z
   inj:=λi j ds1 ds2 a e=>by
    rcases get e with z|⟨d',z,q⟩
    . cases z
    . cases z
   at2:=λi ds' e=>by
    rcases get e with z|⟨d',z,q⟩
    . cases z
    . cases z
   one:=λi j ds1 ds2 e=>by
    rcases get e with z|⟨d',z,q⟩
    . cases z
    . cases z } }
end
section
variable {K:Fg} {H H':Hp}
theorem Rws.get:∀{dss:List (List D)} {bs:List Addr},Rws K H dss bs->dss.length=bs.length/\∀(k:Nat) (ds:List D) (c:Addr),dss[k]? = some ds->bs[k]? = some c->∃xs,H c=some (.lst xs)/\noLs ds=true/\Reps K H (λ_=>False) ds xs
 | [],_,h=>by
  rw[show _=[] from h]
  exact⟨rfl,λk ds c e=>by simp at e⟩
 | ds::dss,_,h=>by
  obtain⟨b,r,xs,rfl,h1,h2,h3,h4⟩:=h
  obtain⟨g1,g2⟩:=Rws.get h4
  refine⟨by rw[lC,lC,g1],λk ds' c e1 e2=>?_⟩
  cases k with
  | zero=>cases e1;cases e2;exact⟨xs,h1,h2,h3⟩
  | succ k=>exact g2 k ds' c e1 e2
theorem Rws.of:∀{dss:List (List D)} {bs:List Addr},dss.length=bs.length->(∀(k:Nat) (ds:List D) (c:Addr),dss[k]? = some ds->bs[k]? = some c->∃xs,H c=some (.lst xs)/\noLs ds=true/\Reps K H (λ_=>False) ds xs)->Rws K H dss bs
 | [],bs,h,_=>by
  cases bs with
  | nil=>rfl
  | cons _ _=>cases h
 | ds::dss,bs,h,g=>by
  cases bs with
  | nil=>cases h
  | cons b r=>
   obtain⟨xs,h1,h2,h3⟩:=g 0 ds b rfl rfl
   exact⟨b,r,xs,rfl,h1,h2,h3,Rws.of (by simpa using h) λk ds' c e1 e2=>g (k+1) ds' c e1 e2⟩
theorem wV{α:Type}{l:List α}{i:Nat}{x:α}(h:l[i]? = some x):l.set i x=l:=by
 apply List.ext_getElem?
 intro j
 by_cases hj:i=j
 . subst hj
   rw[List.getElem?_set_self (List.getElem?_eq_some_iff.mp h).1,h]
 . rw[List.getElem?_set_ne hj]
end
section
variable {RT Y old:Addr->Prop} {σ:Sg}
theorem Sx.put2{K:Fg}{σV:L2.St}{H H':Hp}{N:Addr->Prop}(S:Sx K RT Y old σ σV H){i:Nat}{dss:List (List D)}{a:Addr}{bs:List Addr}
 (u:∀j dd,σ[j]? = some (.own2 dd)->j=i) (t:Tk K H') (hN:∀b,N b->H b=none/\∃xs,H' b=some (.lst xs))
 (kp:∀b o,H b=some o->¬ Pt RT old σ σV b->H' b=some o) (kr:∀b,Pt RT old σ σV b->∃xs,H' b=some (.lst xs))
 (hb:∀b∈a::bs,N b\/Pt RT old σ σV b) (nd:(a::bs).Nodup) (ha:H' a=some (.lst (bs.map V.ref))) (hr:Rws K H' dss bs) :
 Sx K (λb=>RT b\/N b) Y old (σ.set i (.own2 dss)) (σV.set i (some (.ref a))) H':=by
 have np:∀b o,H b=some o->(∀xs,o≠.lst xs)->¬ Pt RT old σ σV b:=λb o e n z=>by
  obtain⟨xs,e'⟩:=S.rt b z.1
  rw[e'] at e
  cases e
  exact n xs rfl
 have kT:∀b ks,SqT K H b ks->SqT K H' b ks:=λb ks q=>by
  rcases q with(q|⟨o,q⟩)|q
  . exact .inl (.inl (kp _ _ q (np _ _ q λ_ e=>by cases e)))
  . exact .inl (.inr ⟨o,kp _ _ q (np _ _ q λ_ e=>by cases e)⟩)
  . exact .inr q
 have kL:∀b xs,¬ RT b->SqL K H b xs->¬ N b/\SqL K H' b xs:=λb xs n q=>by
  have np:¬ Pt RT old σ σV b:=λz=>n z.1
  refine⟨λz=>?_,?_⟩
  . obtain⟨z1,ys,z2⟩:=hN b z
    rcases q with(q|⟨o,q⟩)|⟨o,its,m,q,_⟩
    . rw[z1] at q;cases q
    . rw[z1] at q;cases q
    . rw[t b (by rw[z2];simp)] at q;cases q
  . rcases q with(q|⟨o,q⟩)|q
    . exact .inl (.inl (kp _ _ q np))
    . exact .inl (.inr ⟨o,kp _ _ q np⟩)
    . exact .inr q
 have kD:∀b ks,H b=some (.dK ks)->H' b=some (.dK ks):=λb ks q=>kp _ _ q (np _ _ q λ_ e=>by cases e)
 have kX:∀(pa:Bool) b xs,¬ (RT b\/exB Y old pa b)->SqL K H b xs->¬ ((RT b\/N b)\/exB Y old pa b)/\SqL K H' b xs:=λpa b xs n q=>by
  obtain⟨k1,k2⟩:=kL b xs (λz=>n (.inl z)) q
  refine⟨λz=>?_,k2⟩
  rcases z with(z|z)|z
  . exact n (.inl z)
  . exact k1 z
  . exact n (.inr z)
 have hne:∀b,H b≠none->H' b≠none:=λb q=>by
  by_cases hp:Pt RT old σ σV b
  . obtain⟨xs,e⟩:=kr b hp
    rw[e];simp
  . cases e:H b with
    | none=>exact absurd e q
    | some o=>rw[kp b o e hp];simp
 exact {
  sh:=λj pa d e=>by
   rcases set_some e with⟨_,z,_⟩|⟨hij,e⟩
   . cases z
   . obtain⟨v,h1,h2⟩:=S.sh j pa d e
     exact⟨v,by rw[List.getElem?_set_ne hij];exact h1,Rep.imp kT (kX pa) kD d v h2⟩
  own:=λj pa ds e=>by
   rcases set_some e with⟨_,z,_⟩|⟨hij,e⟩
   . cases z
   . obtain⟨b,xs,h1,h2,h3,h4,h5⟩:=S.own j pa ds e
     exact⟨b,xs,by rw[List.getElem?_set_ne hij];exact h1,kp _ _ h2 λz=>z.2.2 j pa ds e h1,.inl h3,h4,Reps.imp kT (kX pa) kD ds xs h5⟩
  trk:=λb z=>by
   rcases z with(z|z)|z
   . exact hne b (S.trk b (.inl z))
   . obtain⟨_,xs,e⟩:=hN b z
     rw[e];simp
   . exact hne b (S.trk b (.inr z))
  yo:=S.yo
  tk:=t
  rt:=λb z=>by
   rcases z with z|z
   . by_cases hp:Pt RT old σ σV b
     . exact kr b hp
     . obtain⟨xs,e⟩:=S.rt b z
       exact⟨xs,kp _ _ e hp⟩
   . exact(hN b z).2
  inj:=λj j' pa pa' ds ds' b e1 e2 e3 e4=>by
   rcases set_some e1 with⟨_,z,_⟩|⟨h1,e1⟩
   . cases z
   rcases set_some e2 with⟨_,z,_⟩|⟨h2,e2⟩
   . cases z
   rw[List.getElem?_set_ne h1] at e3
   rw[List.getElem?_set_ne h2] at e4
   exact S.inj j j' pa pa' ds ds' b e1 e2 e3 e4
  len:=by rw[List.length_set,List.length_set];exact S.len
  lx:={
   at':=λj ds e=>by
    rcases set_some e with⟨_,z,_⟩|⟨hij,e⟩
    . cases z
    . obtain⟨b,xs,h1,h2,h3,h4,h5⟩:=S.lx.at' j ds e
      exact⟨b,xs,by rw[List.getElem?_set_ne hij];exact h1,kp _ _ h2 λz=>z.2.1 h4,.inl h3,h4,Reps.imp kT (kX true) kD ds xs h5⟩
   inj:=λj j' ds ds' b e1 e2 e3 e4=>by
    rcases set_some e1 with⟨_,z,_⟩|⟨h1,e1⟩
    . cases z
    rcases set_some e2 with⟨_,z,_⟩|⟨h2,e2⟩
    . cases z
    rw[List.getElem?_set_ne h1] at e3
    rw[List.getElem?_set_ne h2] at e4
    exact S.lx.inj j j' ds ds' b e1 e2 e3 e4
   at2:=λj dd e=>by
    rcases set_some e with⟨rfl,z,hl⟩|⟨hij,e⟩
    . cases z
      refine⟨a,bs,List.getElem?_set_self (by rw[<-S.len];exact hl),ha,λb hm=>?_,nd,hr⟩
      have own:∀(p:∀(k:Nat) (pa:Bool) (ds:List D),σ[k]? = some (.own pa ds)->σV[k]?≠some (some (.ref b))) (k:Nat) (pa:Bool) (ds:List D),(σ.set i (.own2 dss))[k]? = some (.own pa ds)->(σV.set i (some (.ref a)))[k]?≠some (some (.ref b)):=λp k pa ds e=>by
       rcases set_some e with⟨_,z,_⟩|⟨hik,e⟩
       . cases z
       . rw[List.getElem?_set_ne hik];exact p k pa ds e
      rcases hb b hm with z|z
      . have z1:=(hN b z).1
        refine⟨.inr z,λo=>S.trk b (.inr (.inr o)) z1,own λk pa ds e v=>?_⟩
        obtain⟨c,xs,h1,h2,_⟩:=S.own k pa ds e
        rw[v] at h1
        cases h1
        rw[z1] at h2
        cases h2
      . exact⟨.inl z.1,z.2.1,own z.2.2⟩
    . exact absurd (u j dd e).symm hij
   one:=λj j' dd dd' e1 e2=>by
    have k:∀j dd,(σ.set i (.own2 dss))[j]? = some (.own2 dd)->j=i:=λj dd e=>by
     rcases set_some e with⟨rfl,_,_⟩|⟨_,e⟩
     . rfl
     . exact u j dd e
    rw[k j dd e1,k j' dd' e2] } }
end
section
variable {X:Cx} {P:Pg} {Γ:Ct} {n:Nat} {RT Y old:Addr->Prop} {σ:Sg} {pos:Pos}
theorem uO:∀(a b:List D),noLs (a++b)=(noLs a&&noLs b)
 | [],_=>rfl
 | x::a,b=>by
  show(noL x&&noLs (a++b))=(noL x&&noLs a&&noLs b)
  rw[uO a b,Bool.and_assoc]
theorem aGs{b:Ss}{body:List Stmt}{h0:ExceptHandler}{hs:List ExceptHandler}(M:Mc X P Γ n)(hb:PSs X body (wS X RT Y old σ (exs P (call P n) σ b))) :
 PS X (.Try body (h0::hs) [] [] pos) (wS X RT Y old σ (ex P (call P n) σ (.tryN b))):=by
 intro pins s σV H D I h
 refine wpAny_Try_except (wpAny_mono (hb pins s σV H D I h) (λf s1 q=>?_) λe s1 q=>?_)
 . cases f with
   | next=>exact wpAny_execs_nil q
   | _=>exact q
 . rw[M.xe] at q
   exact q.elim
theorem aGt{i:Nat}{e:Expr}{p2:Pos}(M:Mc X P Γ n)(hc:jB Γ i "append" e=some [.List [] p2]):PS X (.Expr e pos) (wS X RT Y old σ (ex P (call P n) σ (.app2 i))):=by
 obtain⟨x,p,ap,cp,rfl,hx,hl⟩:=kJ hc
 refine bO (iN (tG PySem.F.plainAttrs_list PySem.F.slot_list_append PySem.F.type_list_append iP (dB M hx) (cQ (vV dR) dR rfl) rfl rfl hl rfl rfl)) λD σV H t ⟨S,h⟩=>?_
 have h:OE X.K RT Y old H (match eW σ i with|some dss=>if dss.length<lim then .next (σ.set i (.own2 (dss++[[]]))) else .bad|none=>.bad) D:=h
 cases e:eW σ i with
 | none=>rw[e] at h;exact h.elim
 | some dss=>
  rw[e] at h
  have h:OE X.K RT Y old H (if dss.length<lim then .next (σ.set i (.own2 (dss++[[]]))) else .bad) D:=h
  split at h
  . rename_i hlt
    have ei:=nC e
    obtain⟨b,bs,g1,g2,g3,g4,g5⟩:=S.lx.at2 i dss ei
    obtain⟨gl,gg⟩:=g5.get
    refine⟨.ref b,g1,.inl ⟨rfl,_,SqL.of g2⟩,Nat.zero_le _,λc hc=>⟨b,bs.map V.ref,.ref c,rfl,rfl,?_,?_,λt'=>?_⟩⟩
    . rw[aJ (λz=>by rw[z,hc] at g2;cases g2)];exact g2
    . rw[lM,<-gl]
      have:=oJ
      omega
    . have hb:∀d∈b::bs,d≠c:=λd hd z=>by
       subst z
       obtain⟨xs,q⟩:=S.rt d (g3 d hd).1
       rw[hc] at q
       cases q
      have hup:∀d,d≠b->d≠c->upd (upd H c (.lst [])) b (.lst (bs.map V.ref++[V.ref c])) d=H d:=λd z1 z2=>by rw[aJ z1,aJ z2]
      have nb:∀d∈bs,d≠b:=λd hd z=>(List.nodup_cons.mp g4).1 (by rw[<-z];exact hd)
      have hcb:c≠b:=λz=>hb b List.mem_cons_self z.symm
      have S2:=S.put2 (N:=λd=>d=c) (i:=i) (dss:=dss++[[]]) (a:=b) (bs:=bs++[c]) (λj dd ej=>S.lx.one j i dd dss ej ei) t' (λd z=>by
       subst z
       exact⟨hc,[],by rw[aJ hcb,aY]⟩) (λd o eo np=>by
       rw[hup d (λz=>np (by rw[z];exact g3 b List.mem_cons_self)) (λz=>by rw[z,hc] at eo;cases eo)]
       exact eo) (λd z=>by
       by_cases hd:d=b
       . subst hd;exact⟨_,aY⟩
       . obtain⟨xs,q⟩:=S.rt d z.1
         exact⟨xs,by rw[hup d hd (λw=>by rw[w,hc] at q;cases q)];exact q⟩) (λd hd=>by
       rcases List.mem_cons.mp hd with z|z
       . exact .inr (by rw[z];exact g3 b List.mem_cons_self)
       . rcases List.mem_append.mp z with z|z
         . exact .inr (g3 d (List.mem_cons_of_mem _ z))
         . exact .inl (by simpa using z)) (by
       show((b::bs)++[c]).Nodup
       rw[List.nodup_append]
       exact⟨g4,by simp,λd hd c' hc'=>by
        have:c'=c:=by simpa using hc'
        rw[this]
        exact hb d hd⟩) (by rw[aY,List.map_append];rfl) (Rws.of (by simp[gl]) λk ds d e1 e2=>by
       by_cases hk:k<bs.length
       . rw[List.getElem?_append_left (by rw[gl];exact hk)] at e1
         rw[List.getElem?_append_left hk] at e2
         obtain⟨xs,q1,q2,q3⟩:=gg k ds d e1 e2
         have hd:=mG e2
         refine⟨xs,by rw[hup d (nb d hd) (hb d (List.mem_cons_of_mem _ hd))];exact q1,q2,Reps.noT (λb' ks q=>?_) ds xs q2 q3⟩
         have nt:∀o,H b'=some o->(∀zs,o≠.lst zs)->b'≠b/\b'≠c:=λo eo no=>⟨λz=>by rw[z,g2] at eo;cases eo;exact no _ rfl,λz=>by rw[z,hc] at eo;cases eo⟩
         rcases q with(q|⟨o,q⟩)|q
         . exact .inl (.inl (by rw[hup b' (nt _ q λ_ z=>by cases z).1 (nt _ q λ_ z=>by cases z).2];exact q))
         . exact .inl (.inr ⟨o,by rw[hup b' (nt _ q λ_ z=>by cases z).1 (nt _ q λ_ z=>by cases z).2];exact q⟩)
         . exact .inr q
       . rw[List.getElem?_append_right (by rw[gl];omega)] at e1
         rw[List.getElem?_append_right (by omega)] at e2
         have k1:k-dss.length=0:=by
          have:=(List.getElem?_eq_some_iff.mp e1).1
          simp at this
          omega
         rw[k1] at e1
         rw[<-gl,k1] at e2
         cases e1
         cases e2
         exact⟨[],by rw[aJ hcb,aY],rfl,rfl⟩)
      rw[wV g1] at S2
      refine h _ σV _ (λd o eo nr=>?_) (λd z=>z.imp id λz=>by rw[z];exact hc) S2
      rw[hup d (λz=>nr (by rw[z];exact(g3 b List.mem_cons_self).1)) (λz=>by rw[z,hc] at eo;cases eo)]
      exact eo
  . exact h.elim
theorem uP:∀{ds:List D} {dss:List (List D)},gP ds=some dss->ds=dss.map .lst/\∀es∈dss,noLs es=true
 | [],_,h=>by cases h;exact⟨rfl,λ_ z=>by cases z⟩
 | d::ds,_,h=>by
  unfold gP at h
  split at h
  . rename_i e;cases e
  . rename_i es r e
    cases e
    split at h
    . rename_i hn
      cases q:gP ds with
      | none=>rw[q] at h;cases h
      | some dss=>
       rw[q] at h
       cases h
       obtain⟨h1,h2⟩:=uP q
       refine⟨by rw[h1];rfl,λx hx=>?_⟩
       rcases List.mem_cons.mp hx with rfl|hx
       . exact hn
       . exact h2 x hx
    . cases h
  . cases h
theorem aGu{i y:Nat}{x:Str}{p cpos:Pos}(M:Mc X P Γ n)(hx:bD Γ i x=true){e tg iter:Expr}{ifs:List Expr}{scope:Scope}{N':List Str}(CS:cI X scope 1 [] N')
 (hi:PI X tg iter (wI X P n RT Y old σ (.seq (.v y))))
 (hch:∀C s₀ H₀ ex,PG (cU X scope N' C s₀ H₀ ex) tg (gT X.K (.n 0))/\(∀RT Y old σ1,PTs (cU X scope N' C s₀ H₀ ex) ifs (wTs X P n RT Y old σ1 .nil))/\∀RT Y old σ1,PE (cU X scope N' C s₀ H₀ ex) e (WE X P n RT Y old σ1 (.bi .list (.cons (.v 0) .nil))))
 (hs:∀x,foldedSetIterable iter X.env x=pure x):PS X (.Assign [.Name x p] (.ListComp e [⟨tg,iter,ifs,0⟩] scope cpos) pos) (wS X RT Y old σ (ex P (call P n) σ (.set2 i y))):=by
 unfold bD at hx
 obtain⟨h1,h2,h3⟩:=cV hx
 refine bO (nX (g:=gT X.K (.n 0)) (tt:=λσV H Q=>∃RT Y old σ1,wTs X P n RT Y old σ1 .nil σV H Q) (te:=λσV H Q=>∃RT Y old σ1,WE X P n RT Y old σ1 (.bi .list (.cons (.v 0) .nil)) σV H Q) CS M.calm hi (λC s₀ H₀ ex=>?_) hs M.nd (by rw[M.N];exact eq_of_beq h1) (M.loc h2) (M.st x h2)) λD0 σV H t0 ⟨S,h⟩=>?_
 . obtain⟨h1,h2,h3⟩:=hch C s₀ H₀ ex
   exact⟨h1,λpins s σV H Q I ⟨RT,Y,old,σ1,hw⟩=>h2 RT Y old σ1 pins s σV H Q I hw,λpins s σV H Q I ⟨RT,Y,old,σ1,hw⟩=>h3 RT Y old σ1 pins s σV H Q I hw⟩
 have h:=OE.from (show OE X.K RT Y old H (O.from σ (aX σ y) λv=>match v.d with
  | .lst ds=>(match gP ds,aBm σ with
   | some dss,true=>if ds.length<=lim then .next (σ.set i (.own2 dss)) else .bad
   | _,_=>.bad)
  | _=>.bad) D0 from h)
 obtain⟨v,ev,h⟩:=h.eq
 cases hd:v.d with
 | lst ds=>
  rw[hd] at h
  have h:OE X.K RT Y old H (match gP ds,aBm σ with
   | some dss,true=>if ds.length<=lim then .next (σ.set i (.own2 dss)) else .bad
   | _,_=>.bad) D0:=h
  cases hr:gP ds with
  | none=>rw[hr] at h;exact h.elim
  | some dss=>
   rw[hr] at h
   cases hn:aBm σ with
   | false=>rw[hn] at h;exact h.elim
   | true=>
    rw[hn] at h
    have h:OE X.K RT Y old H (if ds.length<=lim then .next (σ.set i (.own2 dss)) else .bad) D0:=h
    split at h
    . rename_i hlim
      obtain⟨rd,rn⟩:=uP hr
      have no2:∀j dd,σ[j]? = some (.own2 dd)->j=i:=λj dd ej=>by
       have:=List.all_eq_true.mp hn _ (mG ej)
       cases this
      have hw:RE (walk P (call P n) σ (.seq (.v y))) λxs=>xs=(items v ds,v.al):=by
       show RE (aX σ y >>= λx=>(match x.d with
        | .lst ds=>R.ok (items x ds,x.al)
        | .tup ds=>R.ok (items x ds,x.al)
        | .str a=>R.iff (decide (a.length<=lim)) (R.ok (a.cps.toList.map λn=>Vl.cl (.str ⟨#[n]⟩),[]))
        | _=>.bad)) _
       rw[ev]
       show RE (match v.d with
        | .lst ds=>R.ok (items v ds,v.al)
        | .tup ds=>R.ok (items v ds,v.al)
        | .str a=>R.iff (decide (a.length<=lim)) (R.ok (a.cps.toList.map λn=>Vl.cl (.str ⟨#[n]⟩),[]))
        | _=>.bad) _
       rw[hd]
       rfl
      refine⟨S,hw.mono λxs hx J H1 t1 s1 ok=>?_⟩
      subst hx
      have lenx:(items v ds).length=dss.length:=by rw[rd];simp[items]
      have lend:ds.length=dss.length:=by rw[rd];simp
      refine⟨λk m ys σ1V Hc=>m=dss.length-k/\k<=dss.length/\aL H1 Hc/\Tk X.K Hc/\σ1V.length=1/\∃bs,ys=bs.map V.ref/\bs.Nodup/\(∀b∈bs,H1 b=none)/\Rws X.K Hc (dss.take k) bs,⟨_,rfl,Nat.zero_le _,aL.refl _,t1,rfl,[],rfl,List.nodup_nil,λ_ z=>(by cases z),rfl⟩,?_⟩
      rintro k m ys σ1V Hc ⟨hm,hk,sc,tc,hl1,bs,rfl,nd,hnew,hrw⟩
      have okc:=ok.ok (λ_=>False) (λ_ z=>z.elim) k Hc (Kp.same sc)
      obtain⟨rl,rg⟩:=hrw.get
      rw[List.length_take] at rl
      by_cases hlt:k<dss.length
      . refine .inr ⟨okc.1 (by rw[lenx];exact hlt),by rw[lM,sizeLine_eq];have:lim=1000000:=rfl;omega,λu H' hy=>?_⟩
        have hdk:ds[k]? = some (.lst dss[k]):=by rw[rd,List.getElem?_map,List.getElem?_eq_getElem hlt];rfl
        obtain⟨sm,tkf,rv⟩:=okc.2.2 u H' hy (v.sub (.lst dss[k])) (by unfold items;rw[List.getElem?_map,hdk];rfl)
        have rv:Rep X.K H' (λ_=>False) (.lst dss[k]) u:=by
         have e:(v.sub (.lst dss[k])).d=.lst dss[k]:=by unfold Vl.sub Vl.cl;split <;> rfl
         rw[e] at rv
         exact rv.weak λ_ z=>z.elim
        have t2:=tkf tc
        have es:σ1V.set 0 (some u)=[some u]:=by
         cases σ1V with
         | nil=>cases hl1
         | cons a r=>cases r with
          | nil=>rfl
          | cons _ _=>cases hl1
        have key:∀Q:L2.St->Hp->Prop,Q [some u] H'->gT X.K (.n 0) u σ1V H' Q:=λQ q=>by
         show Q (σ1V.set 0 (some u)) H'
         rw[es]
         exact q
        refine key _ ?_
        have Sc:∀{H3:Hp},aL H' H3->Tk X.K H3->Sx X.K (λ_=>False) (λ_=>False) (λb=>H3 b≠none) [.sh true (.lst dss[k])] [some u] H3:=λ{H3} s3 t3=>
         oK (ds:=[.lst dss[k]]) (vs:=[u]) (m:=0) (R0:=λ_=>False) (Y:=λ_=>False) (λ_ z=>z.elim) t3 (λ_ z=>z.elim) ⟨u,[],rfl,(rv.grow s3).weak λ_ z=>z.elim id id,rfl⟩
        refine⟨_,_,_,_,Sc (aL.refl _) t2,λH3 t3 s3=>?_⟩
        dsimp only;rw[if_pos rfl]
        have nk:noLs dss[k]=true:=rn _ (List.getElem_mem hlt)
        refine⟨_,_,_,_,Sc s3 t3,?_⟩
        show RE (R.ok (Vl.mk (.lst dss[k]) true ((true&&!noL (.lst dss[k]))&&!noLs dss[k]) (if noLs dss[k] then [] else []))) _
        intro u4 H4 t4 ro4
        have hf:=ro4.2
        rw[if_pos rfl] at hf
        obtain⟨c,zs,es',e1,e2,e3,e4,rr⟩:=hf
        cases e2
        subst e1
        have s4:aL Hc H4:=sm.trans (s3.trans ro4.1)
        have hcn:Hc c=none:=sm.free (s3.free e3)
        refine⟨_,by omega,rfl,hlt,sc.trans s4,t4,rfl,bs++[c],by simp,?_,?_,?_⟩
        . rw[List.nodup_append]
          refine⟨nd,by simp,λa ha b hb=>?_⟩
          have:b=c:=by simpa using hb
          subst this
          intro z
          subst z
          obtain⟨xs,q⟩:=hrw.lst a ha
          rw[hcn] at q
          cases q
        . intro b hb
          rcases List.mem_append.mp hb with z|z
          . exact hnew b z
          . have:b=c:=by simpa using z
            rw[this]
            exact sc.free hcn
        . refine Rws.of (by rw[List.length_take,lA,List.length_singleton];omega) λj es b g1 g2=>?_
          by_cases hj:j<bs.length
          . rw[List.getElem?_append_left hj] at g2
            rw[List.getElem?_take,if_pos (by omega)] at g1
            obtain⟨xs,q1,q2,q3⟩:=rg j es b (by rw[List.getElem?_take,if_pos (by omega)];exact g1) g2
            exact⟨xs,s4 _ _ q1,q2,q3.grow s4⟩
          . rw[List.getElem?_append_right (by omega)] at g2
            have hj0:j-bs.length=0:=by
             have:=(List.getElem?_eq_some_iff.mp g2).1
             simp at this
             omega
            rw[hj0] at g2
            cases g2
            have hjk:j=k:=by omega
            subst hjk
            rw[List.getElem?_take,if_pos (Nat.lt_succ_self j),List.getElem?_eq_getElem hlt] at g1
            cases g1
            exact⟨zs,e4,nk,rr.weak λ_ z=>z.elim⟩
      . have hke:k=dss.length:=by omega
        subst hke
        rw[List.take_length] at hrw rg
        refine .inl ⟨okc.2.1 (by rw[lenx];exact Nat.le_refl _),by rw[lM,sizeLine_eq];have:lim=1000000:=rfl;omega,λa ha=>?_⟩
        intro t'
        have s2:aL H Hc:=s1.trans sc
        have hup:∀d,d≠a->upd Hc a (.lst (bs.map V.ref)) d=Hc d:=λd z=>aJ z
        have nba:∀d∈bs,d≠a:=λd hd z=>by
         obtain⟨xs,q⟩:=hrw.lst d hd
         rw[z,ha] at q
         cases q
        have s3:aL Hc (upd Hc a (.lst (bs.map V.ref))):=λd o eo=>by rw[hup d (λz=>by rw[z,ha] at eo;cases eo)];exact eo
        have S2:=S.put2 (N:=λd=>d=a\/d∈bs) (i:=i) (dss:=dss) (a:=a) (bs:=bs) no2 t' (λd z=>by
         rcases z with z|z
         . subst z;exact⟨s2.free ha,_,aY⟩
         . obtain⟨xs,q⟩:=hrw.lst d z
           exact⟨s1.free (hnew d z),xs,s3 _ _ q⟩) (λd o eo _=>s3 _ _ (s2 _ _ eo)) (λd z=>by
         obtain⟨xs,q⟩:=S.rt d z.1
         exact⟨xs,s3 _ _ (s2 _ _ q)⟩) (λd hd=>.inl ((List.mem_cons.mp hd).imp id id)) (List.nodup_cons.mpr ⟨λhm=>nba a hm rfl,nd⟩) aY (hrw.imp (λ_ _ q=>aL.seqT s3 q) λd _ xs q=>s3 _ _ q)
        refine h _ _ _ (Kp.same (s2.trans s3)) (λd z=>z.imp id λz=>?_) S2
        rcases z with z|z
        . rw[z];exact s2.free ha
        . exact s1.free (hnew d z)
    . exact h.elim
 | _=>rw[hd] at h;exact h.elim
theorem aDG{i r:Nat}{z x y:Str}{p1 p2 p3 p4 p5:Pos}{c ix:Expr}(M:Mc X P Γ n)(hz:bD Γ r z=true)(hx:bC Γ i x=true)(hc:jB Γ r "append" c=some [.Subscript (.Name y p5) ix p4])(hy:bC Γ r y=true)(hi:∀RT σ,PE X ix (WE X P n RT Y old σ (.c (.int 0))))(hpl:aO ix=true) :
 PS X (.For (.Name z p1) (.Name x p2) [.Expr c p3] [] pos) (wS X RT Y old σ (ex P (call P n) σ (.grow2 i r))):=by
 obtain⟨w,p,ap,cp,rfl,hw,hl⟩:=kJ hc
 have hp:PassesOwn (model X.prog X.w) X.A X.env X.xe:=by rw[M.xe];exact PassesOwn.never
 unfold bD at hz
 obtain⟨z1,z2,z3⟩:=cV hz
 refine bO (qX hp M.calm (xU (dB M hx)) (nA M.nd (by rw[M.N];exact eq_of_beq z1) (M.loc z2) (M.st z z2)) (xT (iN (tG PySem.F.plainAttrs_list PySem.F.slot_list_append PySem.F.type_list_append iP (dB M hw)
  (cQ (xZ yA (dB M hy) (tb:=λσV H Q=>∃RT σ,WE X P n RT Y old σ (.c (.int 0)) σV H Q) (λpins s σV H Q I ⟨RT,σ,hw⟩=>hi RT σ pins s σV H Q I hw) (gJ hpl)) dR rfl) rfl rfl hl rfl rfl)))) λD0 σV H t ⟨S,h⟩=>?_
 have h:=OE.tkE h
 revert h
 generalize tkE X.K D0=Dn
 intro h
 let g:List D->List D:=λds=>ds++[ds.headD .non]
 have h:OE X.K RT Y old H (match eW σ i with|some dss=>if i≠r/\r<σ.length/\∀ds∈dss,ds≠[]/\ds.length<lim then .next ((σ.set r .dead).set i (.own2 (dss.map g))) else .bad|none=>.bad) Dn:=h
 cases e:eW σ i with
 | none=>rw[e] at h;exact h.elim
 | some dss=>
  rw[e] at h
  have h:OE X.K RT Y old H (if i≠r/\r<σ.length/\∀ds∈dss,ds≠[]/\ds.length<lim then .next ((σ.set r .dead).set i (.own2 (dss.map g))) else .bad) Dn:=h
  split at h
  . rename_i hh
    obtain⟨hir,hrl,hds⟩:=hh
    have ei:=nC e
    have hil:i<σ.length:=(List.getElem?_eq_some_iff.mp ei).1
    obtain⟨b,bs,g1,g2,g3,g4,g5⟩:=S.lx.at2 i dss ei
    refine⟨.ref b,g1,b,rfl,⟨_,SqL.of g2⟩,?_⟩
    have mapinj:∀{l l':List Addr},l.map V.ref=l'.map V.ref->l=l':=λ{l l'} q=>by
     have:=congrArg (List.map λv=>match v with|V.ref a=>a|_=>0) q
     simpa[List.map_map,Function.comp_def] using this
    refine sZ (xs:=bs.map V.ref) (λk σV' H'=>∃ess:List (List D),(∀j,ess[j]? = if j<k then (dss[j]?).map g else dss[j]?)/\Sx X.K RT Y old ((σ.set r .dead).set i (.own2 ess)) σV' H'/\Kp RT H H'/\σV'[i]? = some (some (.ref b))/\H' b=some (.lst (bs.map V.ref))) ?_ (λk σV' H' _ q=>?_) (λk v σV' H' ev q=>?_) (λσV' H' q=>?_)
    . refine⟨dss,λj=>by rw[if_neg (Nat.not_lt_zero j)],?_,Kp.refl _ _,g1,g2⟩
      rw[wV (show(σ.set r .dead)[i]? = some (.own2 dss) by rw[List.getElem?_set_ne (Ne.symm hir)];exact ei)]
      refine S.forget (by rw[List.length_set]) λj s hs=>?_
      rcases set_some hs with⟨_,q,_⟩|⟨_,q⟩
      . exact .inl q.symm
      . exact .inr q
    . obtain⟨_,_,_,_,_,q⟩:=q
      exact SqL.of q
    . obtain⟨ess,he,S',kp',v1,v2⟩:=q
      rw[List.getElem?_map] at ev
      cases hk:bs[k]? with
      | none=>rw[hk] at ev;cases ev
      | some c=>
       rw[hk] at ev
       have ev:v=.ref c:=(Option.some.inj ev).symm
       subst ev
       have e':((σ.set r .dead).set i (.own2 ess))[i]? = some (.own2 ess):=List.getElem?_set_self (by rw[List.length_set];exact hil)
       obtain⟨b',bs',q1,q2,q3,q4,q5⟩:=S'.lx.at2 i ess e'
       rw[v1] at q1
       cases q1
       rw[v2] at q2
       have:bs'=bs:=mapinj (by injection q2 with q2;injection q2 with q2;exact q2.symm)
       subst this
       obtain⟨ql,qg⟩:=q5.get
       have hkl:k<ess.length:=by rw[ql];exact(List.getElem?_eq_some_iff.mp hk).1
       have hek:ess[k]? = some ess[k]:=List.getElem?_eq_getElem hkl
       have hdk:dss[k]? = some ess[k]:=by rw[<-hek,he k,if_neg (Nat.lt_irrefl k)]
       generalize hds':ess[k]=ds at hek hdk
       obtain⟨ys,y1,y2,y3⟩:=qg k ds c hek hk
       obtain⟨n1,n2⟩:=hds ds (mG hdk)
       have hcm:c∈bs':=mG hk
       have hcb:c≠b:=λz=>(List.nodup_cons.mp q4).1 (by rw[<-z];exact hcm)
       have rl:r<σV'.length:=by
        have:=S'.len
        rw[List.length_set,List.length_set] at this
        omega
       have S2:Sx X.K RT Y old ((σ.set r .dead).set i (.own2 ess)) (σV'.set r (some (.ref c))) H':=S'.reV (by rw[List.length_set]) λj s hs=>by
        by_cases hj:r=j
        . subst hj
          rw[List.getElem?_set_ne hir,List.getElem?_set_self hrl] at hs
          exact .inl (Option.some.inj hs).symm
        . exact .inr (List.getElem?_set_ne hj)
       have vr:(σV'.set r (some (.ref c)))[r]? = some (some (.ref c)):=List.getElem?_set_self rl
       refine⟨.ref c,vr,.inl ⟨rfl,ys,SqL.of y1⟩,.ref c,vr,RT,_,S2,λu H1 t1 r1=>?_⟩
       have hu:u=.int 0:=(r1.rv S2).int rfl
       subst hu
       have s1:=r1.1
       cases ds with
       | nil=>exact absurd rfl n1
       | cons d0 dr=>
        obtain⟨y0,yr,rfl,rd0,rdr⟩:=y3
        refine⟨c,y0::yr,0,y0,rfl,rfl,SqL.of (s1 _ _ y1),(by simp[atI,L2.ixN]),c,y0::yr,y0,rfl,rfl,s1 _ _ y1,?_,?_⟩
        . have:=rdr.length
          have l0:=oJ
          simp only[lC] at n2 ⊢
          omega
        . have S3:=S2.grow s1 t1
          have t2:Tk X.K (upd H1 c (.lst (y0::yr++[y0]))):=λd hd=>by
           by_cases hdc:d=c
           . subst hdc;exact t1 d (by rw[s1 _ _ y1];simp)
           . rw[aJ hdc] at hd;exact t1 d hd
          have pc:=q3
          have ptc:∀d∈b::bs',Pt RT old ((σ.set r .dead).set i (.own2 ess)) (σV'.set r (some (.ref c))) d:=λd hd=>⟨(q3 d hd).1,(q3 d hd).2.1,λk pa ds' ek=>by
           have hrk:r≠k:=λw=>by
            subst w
            rw[List.getElem?_set_ne hir,List.getElem?_set_self hrl] at ek
            cases ek
           rw[List.getElem?_set_ne hrk]
           exact(q3 d hd).2.2 k pa ds' ek⟩
          have nl:∀d o,H1 d=some o->(∀zs,o≠.lst zs)->d≠c:=λd o eo no w=>by
           rw[w,s1 _ _ y1] at eo
           cases eo
           exact no _ rfl
          have kT:∀d ks,SqT X.K H' d ks->SqT X.K (upd H1 c (.lst (y0::yr++[y0]))) d ks:=λd ks q=>by
           rcases aL.seqT s1 q with(q|⟨o,q⟩)|q
           . exact .inl (.inl (by rw[aJ (nl _ _ q λ_ w=>by cases w)];exact q))
           . exact .inl (.inr ⟨o,by rw[aJ (nl _ _ q λ_ w=>by cases w)];exact q⟩)
           . exact .inr q
          have S4:=S3.put2 (N:=λ_=>False) (i:=i) (dss:=ess.set k (g (d0::dr))) (a:=b) (bs:=bs') (λj dd ej=>S3.lx.one j i dd ess ej e') t2 (λ_ w=>w.elim) (λd o eo np=>by
           rw[aJ λw=>np (by rw[w];exact ptc c (List.mem_cons_of_mem _ hcm))]
           exact eo) (λd w=>by
           by_cases hd:d=c
           . subst hd;exact⟨_,aY⟩
           . obtain⟨zs,q⟩:=S3.rt d w.1
             exact⟨zs,by rw[aJ hd];exact q⟩) (λd hd=>.inr (ptc d hd)) q4 (by rw[aJ (Ne.symm hcb)];exact s1 _ _ v2) (Rws.of (by rw[List.length_set,ql]) λj ds' d e1 e2=>by
           by_cases hj:k=j
           . subst hj
             rw[List.getElem?_set_self hkl] at e1
             rw[hk] at e2
             cases e1
             cases e2
             refine⟨_,aY,?_,?_⟩
             . simp only[noLs,bA] at y2
               show noLs (d0::dr++[d0])=true
               rw[uO]
               simp[noLs,y2.1,y2.2]
             . simp only[noLs,bA] at y2
               refine Reps.append (Reps.noT kT (d0::dr) (y0::yr) (by simp[noLs,y2.1,y2.2]) ⟨y0,yr,rfl,rd0,rdr⟩) ⟨y0,[],rfl,Rep.noT kT d0 y0 y2.1 rd0,rfl⟩
           . rw[List.getElem?_set_ne hj] at e1
             obtain⟨zs,w1,w2,w3⟩:=qg j ds' d e1 e2
             have hdc:d≠c:=λw=>hj (by
              subst w
              exact fU (List.nodup_cons.mp q4).2 hk e2)
             exact⟨zs,by rw[aJ hdc];exact s1 _ _ w1,w2,Reps.noT kT ds' zs w2 w3⟩)
          have hV:(σV'.set r (some (.ref c)))[i]? = some (some (.ref b)):=by rw[List.getElem?_set_ne (Ne.symm hir)];exact v1
          rw[wV hV,List.set_set,show(λd=>RT d\/False)=RT by funext d;simp] at S4
          refine⟨ess.set k (g (d0::dr)),λj=>?_,S4,λd o eo nr=>?_,hV,by rw[aJ (Ne.symm hcb)];exact s1 _ _ v2⟩
          . by_cases hj:k=j
            . subst hj
              rw[List.getElem?_set_self hkl,if_pos (Nat.lt_succ_self k),hdk];rfl
            . rw[List.getElem?_set_ne hj,he j]
              by_cases hjk:j<k
              . rw[if_pos hjk,if_pos (by omega)]
              . rw[if_neg hjk,if_neg (by omega)]
          . rw[aJ λw=>nr (by rw[w];exact(q3 c (List.mem_cons_of_mem _ hcm)).1)]
            exact s1 _ _ (kp' d o eo nr)
    . obtain⟨ess,he,S',kp',v1,v2⟩:=q
      have hlen:dss.length=bs.length:=g5.get.1
      have:ess=dss.map g:=by
       apply List.ext_getElem?
       intro j
       rw[he j,List.getElem?_map,lM]
       by_cases hj:j<bs.length
       . rw[if_pos hj]
       . rw[if_neg hj,List.getElem?_eq_none (by omega)];rfl
      rw[this] at S'
      exact h RT σV' H' kp' (λ_ w=>.inl w) S'
  . exact h.elim
theorem yP{f:D->R Bool}:∀{ds:List D},tK f ds=true->∀{k:Nat} {d:D},ds[k]? = some d->f d=.ok false
 | [],_,_,_,e=>by simp at e
 | d::ds,h,k,d',e=>by
  unfold tK at h
  split at h
  . rename_i q
    cases k with
    | zero=>cases e;exact q
    | succ k=>exact yP h e
  . cases h
theorem aGv{t i:Nat}{c:E}{z x:Str}{p1 p2 p3:Pos}{ce:Expr}{th:List Stmt}(M:Mc X P Γ n)(hz:bD Γ t z=true)(hx:bC Γ i x=true)(hc:∀RT σ,PT X ce (WT X P n RT Y old σ c)) :
 PS X (.For (.Name z p1) (.Name x p2) [.If ce th [] p3] [] pos) (wS X RT Y old σ (ex P (call P n) σ (.forT t i c))):=by
 have hp:PassesOwn (model X.prog X.w) X.A X.env X.xe:=by rw[M.xe];exact PassesOwn.never
 unfold bD at hz
 obtain⟨z1,z2,z3⟩:=cV hz
 refine bO (qX hp M.calm (xU (dB M hx)) (nA M.nd (by rw[M.N];exact eq_of_beq z1) (M.loc z2) (M.st z z2)) (xT (aAR (tc:=λσV H Q=>∃RT σ,WT X P n RT Y old σ c σV H Q) (λpins s σV H Q I ⟨RT,σ,hw⟩=>hc RT σ pins s σV H Q I hw) (t:=λ_ _ _=>False) (λ_ _ _ _ _ _ w=>w.elim) xS))) λD0 σV H t0 ⟨S,h⟩=>?_
 have h:=OE.tkE h
 revert h
 generalize tkE X.K D0=Dn
 intro h
 have h:OE X.K RT Y old H (match σ[i]? with|some (.own _ ds)=>if i≠t/\noLs ds=true/\tK (λd=>tst P (call P n) (σ.set t (.sh false d)) c) ds=true then .next (σ.set t .dead) else .bad|_=>.bad) Dn:=h
 split at h
 . rename_i pa ds e
   split at h
   . rename_i hh
     obtain⟨hit,hnl,hall⟩:=hh
     obtain⟨a,xs,g1,g2,g3,g4,g5⟩:=S.own i pa ds e
     refine⟨.ref a,g1,a,rfl,⟨_,SqL.of g2⟩,?_⟩
     have S0:Sx X.K RT Y old (σ.set t .dead) σV H:=S.forget (by rw[List.length_set]) λj s hs=>by
      rcases set_some hs with⟨_,q,_⟩|⟨_,q⟩
      . exact .inl q.symm
      . exact .inr q
     have Sv:∀{σV':L2.St} {H':Hp},aL H H'->Tk X.K H'->(∀j,t≠j->σV'[j]? = σV[j]?)->σV'.length=σV.length->Sx X.K RT Y old (σ.set t .dead) σV' H':=λ{σV' H'} s tk hj hl=>(S0.grow s tk).reV hl λj s' hs=>by
      rcases set_some hs with⟨_,q,_⟩|⟨q,_⟩
      . exact .inl q.symm
      . exact .inr (hj j q)
     refine sZ (xs:=xs) (λk σV' H'=>aL H H'/\Tk X.K H'/\(∀j,t≠j->σV'[j]? = σV[j]?)/\σV'.length=σV.length) ⟨aL.refl _,t0,λ_ _=>rfl,rfl⟩ (λk σV' H' _ q=>SqL.of (q.1 _ _ g2)) (λk u σV' H' ev q=>?_) (λσV' H' q=>?_)
     . obtain⟨s1,t1,hj,hl⟩:=q
       have hk:k<ds.length:=by rw[g5.length];exact(List.getElem?_eq_some_iff.mp ev).1
       obtain⟨u',e',r⟩:=g5.get (List.getElem?_eq_getElem hk)
       rw[ev] at e'
       cases e'
       have hn:noL ds[k]=true:=oH.mp hnl _ (List.getElem_mem hk)
       have S2:=(Sv s1 t1 hj hl).setSh (i:=t) (pa:=false) (Rep.free _ _ hn (r.grow s1))
       rw[List.set_set] at S2
       refine⟨RT,_,S2,?_⟩
       rw[yP hall (List.getElem?_eq_getElem hk)]
       intro H3 t3 s3
       dsimp only
       rw[if_neg bN]
       exact⟨s1.trans s3,t3,λj w=>by rw[List.getElem?_set_ne w];exact hj j w,by rw[List.length_set];exact hl⟩
     . obtain⟨s1,t1,hj,hl⟩:=q
       exact h RT σV' H' (Kp.same s1) (λ_ w=>.inl w) (Sv s1 t1 hj hl)
   . exact h.elim
 . exact h.elim
end
section
variable {X:Cx} {P:Pg} {Γ:Ct} {n:Nat} {RT Y old:Addr->Prop} {σ:Sg} {pos:Pos}
theorem Rvs.snoc{K:Fg}{σV:L2.St}{H:Hp}{v:Vl}{u:V}(h2:Rv K RT Y old σ σV H v u):∀{vs:List Vl} {us:List V},Rvs K RT Y old σ σV H vs us->Rvs K RT Y old σ σV H (vs++[v]) (us++[u])
 | [],_,h=>by
  rw[show _=[] from h]
  exact⟨u,[],rfl,h2,rfl⟩
 | w::vs,_,h=>by
  obtain⟨x,r,e,h1,h3⟩:=h
  subst e
  exact⟨x,r++[u],rfl,h1,Rvs.snoc h2 h3⟩
end
section
variable {P:Pg} {n:Nat} {Y old:Addr->Prop}
theorem aBR{Γ:Ct}{is:List Nat}{tg:Expr}(h:jJ Γ (.t is) tg=true):∃es k p,tg=.Tuple es k p:=by
 cases tg with
 | Tuple es k p=>exact⟨es,k,p,rfl⟩
 | _=>cases h
theorem aAv{Γ:Ct}{i:Nat}{tg:Expr}(h:jJ Γ (.n i) tg=true):∃x p,tg=.Name x p/\bD Γ i x=true:=by
 cases tg with
 | Name x p=>exact⟨x,p,rfl,h⟩
 | _=>cases h
theorem aAw{Γ:Ct}{c:E}{e:Expr}(h:aP Γ c e=true)(hc:jL e=true):∃k caps t it cond elt,c=.comp k caps t it cond elt:=by
 cases c with
 | comp k caps t it cond elt=>exact⟨k,caps,t,it,cond,elt,rfl⟩
 | c d=>
  rcases(Bool.or_eq_true _ _).mp (show(oS (asC e) (eqC d)||oS (asN e) λx=>cM Γ x&&bW x&&oB (Γ.cns.lookup x) (eqK d))=true from h) with h|h
  . obtain⟨_,⟨_,_,rfl⟩,_⟩:=aD h;cases hc
  . obtain⟨_,⟨_,rfl⟩,_⟩:=aD h;cases hc
 | v i=>obtain⟨_,⟨_,rfl⟩,_⟩:=aD h;cases hc
 | op o a b=>obtain⟨_,⟨_,rfl⟩,_⟩:=aD h;cases hc
 | neg _=>cases h
 | nt a=>obtain⟨_,⟨_,rfl⟩,_⟩:=aD h;cases hc
 | an a b=>obtain⟨_,rfl,_⟩:=aD h;cases hc
 | orr a b=>obtain⟨_,rfl,_⟩:=aD h;cases hc
 | ife t a b=>obtain⟨_,⟨_,rfl⟩,_⟩:=aD h;cases hc
 | cmp o a b=>obtain⟨_,⟨_,rfl⟩,_⟩:=aD h;cases hc
 | cmp2 o1 o2 a b c=>obtain⟨_,⟨_,rfl⟩,_⟩:=aD h;cases hc
 | idx a b=>obtain⟨_,⟨_,rfl⟩,_⟩:=aD h;cases hc
 | sli a lo hi=>obtain⟨_,⟨_,rfl⟩,_⟩:=aD h;cases hc
 | tup es=>obtain⟨_,⟨_,_,rfl⟩,_⟩:=aD h;cases hc
 | lst es=>obtain⟨_,⟨_,rfl⟩,_⟩:=aD h;cases hc
 | call f es=>obtain⟨_,⟨_,_,rfl⟩,_⟩:=aD h;cases hc
 | bi b es=>obtain⟨_,⟨_,_,rfl⟩,_⟩:=aD h;cases hc
 | mth _ _ _=>cases h
 | isi a cs=>obtain⟨_,⟨_,_,rfl⟩,_⟩:=aD h;cases hc
 | numset _=>cases h
 | tget i a=>obtain⟨_,⟨_,_,rfl,_⟩,_⟩:=aD h;cases hc
 | lzip _ _=>cases h
 | dic ks vs=>cases h
 | lix i k=>obtain⟨_,⟨_,rfl⟩,_⟩:=aD h;cases hc
 | stp a k=>obtain⟨_,⟨_,rfl⟩,_⟩:=aD h;cases hc
 | callO f a i=>obtain⟨_,⟨_,_,rfl⟩,_⟩:=aD h;cases hc
 | neO i a=>obtain⟨_,⟨_,rfl⟩,_⟩:=aD h;cases hc
 | attr _ _=>cases h
theorem m1{Γ:Ct}{i:Nat}{m:Str}{c:Expr}{f:Expr->Bool}(h:(match jB Γ i m c with|some [a]=>f a|_=>false)=true):∃a,jB Γ i m c=some [a]/\f a=true:=by
 split at h
 . rename_i a q;exact⟨a,q,h⟩
 . cases h
theorem m0{Γ:Ct}{i:Nat}{m:Str}{c:Expr}(h:(match jB Γ i m c with|some []=>true|_=>false)=true):jB Γ i m c=some []:=by
 split at h
 . rename_i q;exact q
 . cases h
abbrev QS(P:Pg)(n:Nat)(Y old:Addr->Prop)(c:S):Prop:=∀{X:Cx} {Γ:Ct},Mc X P Γ n->∀{st:Stmt},dG Γ c st=true->∀(RT:Addr->Prop) (σ:Sg),PS X st (wS X RT Y old σ (ex P (call P n) σ c))
abbrev QSs(P:Pg)(n:Nat)(Y old:Addr->Prop)(c:Ss):Prop:=∀{X:Cx} {Γ:Ct},Mc X P Γ n->∀{st:List Stmt},chkSs Γ c st=true->∀(RT:Addr->Prop) (σ:Sg),PSs X st (wS X RT Y old σ (exs P (call P n) σ c))
theorem aJl{t:T}{e:E}:QS P n Y old (.set t e):=λ{X Γ} M {st} h RT σ=>by
 unfold dG at h
 obtain⟨⟨tg,v⟩,⟨p,rfl⟩,g⟩:=aD h
 clear h
 obtain⟨h1,h2,h3⟩:=cV g
 clear g
 cases t with
 | n i=>
  obtain⟨x,p,e1,hx⟩:=aAv h1
  have e1:tg=.Name x p:=e1
  subst e1
  cases hc:jL v with
  | false=>exact aGg M hx (sE e M h2 RT Y old σ) hc
  | true=>
   obtain⟨k,caps,t,it,cond,elt,rfl⟩:=aAw h2 hc
   obtain⟨el,tg,iter,ifs,scope,cpos,e2,O,g1,g2,g3,g4,g5⟩:=rT h2
   have e2:v=.ListComp el [⟨tg,iter,ifs,0⟩] scope cpos:=e2
   subst e2
   refine aAu M hx (O.scope M) O.ndc O.tk (sI it M g3 RT Y old σ) (λC s₀ H₀ ex=>?_) (eQ (gM g3))
   have M':=O.mc M C s₀ H₀ ex
   exact⟨wQ M' g2,λRT Y old σ1=>sTs cond M' g1 g4 RT Y old σ1,λRT Y old σ1=>sE elt M' g5 RT Y old σ1⟩
 | t is=>
  obtain⟨es,k,p,e1⟩:=aBR h1
  have e1:tg=.Tuple es k p:=e1
  subst e1
  refine aGh M h1 (sE e M h2 RT Y old σ) ?_
  have:(false||!wJ v)=true:=h3
  simpa using this
theorem aJm{i j:Nat}:QS P n Y old (.mov i j):=λ{X Γ} M {st} h RT σ=>by
 unfold dG at h
 obtain⟨⟨tg,v⟩,⟨p,rfl⟩,g⟩:=aD h
 clear h
 obtain⟨x,⟨p1,e1⟩,g⟩:=aD g
 obtain⟨y,⟨p2,e2⟩,g⟩:=aD g
 have e1:tg=.Name x p1:=e1
 have e2:v=.Name y p2:=e2
 subst e1 e2
 obtain⟨h1,h2⟩:=dA g
 exact aJd M h1 h2
theorem aDH{i:Nat}{k e:E}:QS P n Y old (.setIx i k e):=λ{X Γ} M {st} h RT σ=>by
 unfold dG at h
 obtain⟨⟨tg,v⟩,⟨p,rfl⟩,g⟩:=aD h
 clear h
 obtain⟨⟨o,ix⟩,⟨p1,e1⟩,g⟩:=aD g
 obtain⟨x,⟨p2,e2⟩,g⟩:=aD g
 have e1:tg=.Subscript o ix p1:=e1
 have e2:o=.Name x p2:=e2
 subst e1 e2
 obtain⟨h1,h2,h3⟩:=cV g
 exact aDC M h1 (sE k M h2 RT Y old σ) (sE e M h3 RT Y old σ) (aK h2)
theorem aJn{i:Nat}{e:E}:QS P n Y old (.app i e):=λ{X Γ} M {st} h RT σ=>by
 unfold dG at h
 obtain⟨c,⟨p,rfl⟩,g⟩:=aD h
 obtain⟨a,h1,h2⟩:=m1 (f:=λa=>aP Γ e a) g
 exact aJb M h1 (sE e M h2 RT Y old σ) (aK h2)
theorem aJo{i:Nat}{e:E}:QS P n Y old (.ext i e):=λ{X Γ} M {st} h RT σ=>by
 unfold dG at h
 obtain⟨c,⟨p,rfl⟩,g⟩:=aD h
 obtain⟨a,h1,h2⟩:=m1 (f:=λa=>aP Γ e a) g
 exact aJc M h1 (sE e M h2 RT Y old σ) (aK h2)
theorem aJp{e:E}:QS P n Y old (.ret e):=λ{X Γ} M {st} h RT σ=>by
 unfold dG at h
 obtain⟨r,⟨p,rfl⟩,g⟩:=aD h
 clear h
 obtain⟨v,e1,g⟩:=tW g
 subst e1
 exact aJa (sE e M g RT Y old σ)
theorem aGw{i:Nat}:QS P n Y old (.retv i):=λ{X Γ} M {st} h RT σ=>by
 unfold dG at h
 obtain⟨r,⟨p,rfl⟩,g⟩:=aD h
 clear h
 obtain⟨v,e1,g⟩:=tW g
 subst e1
 obtain⟨x,⟨p1,e2⟩,g⟩:=aD g
 have e2:v=.Name x p1:=e2
 subst e2
 exact aGf M g
theorem aGx:QS P n Y old .retN:=λ{X Γ} M {st} h RT σ=>by
 unfold dG at h
 obtain⟨r,⟨p,rfl⟩,g⟩:=aD h
 cases r with
 | none=>exact aGe
 | some _=>cases g
theorem aJq{c:E}{a b:Ss}(ha:QSs P n Y old a)(hb:QSs P n Y old b):QS P n Y old (.iff c a b):=λ{X Γ} M {st} h RT σ=>by
 unfold dG at h
 obtain⟨⟨t,x,y⟩,⟨p,rfl⟩,g⟩:=aD h
 obtain⟨h1,h2,h3⟩:=cV g
 exact aKY (sT c M h1 RT Y old σ) (ha M h2) (hb M h3)
theorem aJr{t:T}{it:Hp.It}{b:Ss}(hb:QSs P n Y old b):QS P n Y old (.for t it b):=λ{X Γ} M {st} h RT σ=>by
 unfold dG at h
 obtain⟨⟨tg,iter,body⟩,⟨p,rfl⟩,g⟩:=aD h
 obtain⟨h1,h2,h3⟩:=cV g
 exact aJe M h1 (sI it M h2 RT Y old σ) (hb M h3) (eQ (gM h2))
theorem aJs:QS P n Y old .brk:=λ{X Γ} M {st} h RT σ=>by
 unfold dG at h
 obtain⟨_,⟨p,rfl⟩,_⟩:=aD h
 exact aIX
theorem aJt:QS P n Y old .cnt:=λ{X Γ} M {st} h RT σ=>by
 unfold dG at h
 obtain⟨_,⟨p,rfl⟩,_⟩:=aD h
 exact aIY
theorem aGy:QS P n Y old .pass:=λ{X Γ} M {st} h RT σ=>by
 unfold dG at h
 obtain⟨_,⟨p,rfl⟩,_⟩:=aD h
 exact aGd
theorem aLa{e:E}:QS P n Y old (.ex e):=λ{X Γ} M {st} h RT σ=>by
 unfold dG at h
 obtain⟨v,⟨p,rfl⟩,g⟩:=aD h
 obtain⟨h1,h2⟩:=dA g
 exact aKX (sE e M h1 RT Y old σ) (by simpa using h2)
theorem aJu{c:Nat}{k:Bool}{es:Es}:QS P n Y old (.rse c k es):=by
 intro X Γ M st h RT σ
 exact aIZ
theorem mO{c:S}(z:∀Γ st,dG Γ c st=false):QS P n Y old c:=by
 intro X Γ M st h RT σ
 rw[z] at h
 cases h
theorem aGz{b:Ss}(hb:QSs P n Y old b):QS P n Y old (.tryN b):=λ{X Γ} M {st} h RT σ=>by
 unfold dG at h
 obtain⟨r,⟨hd,hs,p,rfl⟩,g⟩:=aD h
 exact aGs M (hb M g RT σ)
theorem aGA{i y:Nat}:QS P n Y old (.set2 i y):=λ{X Γ} M {st} h RT σ=>by
 unfold dG at h
 obtain⟨⟨tg,v⟩,⟨p,rfl⟩,g⟩:=aD h
 obtain⟨x,⟨p1,e1⟩,g⟩:=aD g
 have e1:tg=.Name x p1:=e1
 subst e1
 obtain⟨hx,h2⟩:=dA g
 obtain⟨el,tg,iter,ifs,scope,cpos,e2,O,g1,g2,g3,g4,g5⟩:=rT h2
 have e2:v=.ListComp el [⟨tg,iter,ifs,0⟩] scope cpos:=e2
 subst e2
 refine aGu M hx (O.scope M) (sI (.seq (.v y)) M g3 RT Y old σ) (λC s₀ H₀ ex=>?_) (eQ (gM g3))
 have M':=O.mc M C s₀ H₀ ex
 exact⟨wQ M' g2,λRT Y old σ1=>sTs .nil M' g1 g4 RT Y old σ1,λRT Y old σ1=>sE _ M' g5 RT Y old σ1⟩
theorem aDI{i r:Nat}:QS P n Y old (.grow2 i r):=λ{X Γ} M {st} h RT σ=>by
 unfold dG at h
 obtain⟨⟨tg,it,bd⟩,⟨p,rfl⟩,g⟩:=aD h
 obtain⟨z,⟨p1,e1⟩,g⟩:=aD g
 have e1:tg=.Name z p1:=e1
 subst e1
 obtain⟨hz,g2,g3⟩:=cV g
 obtain⟨x,⟨p2,e2⟩,hx⟩:=aD g2
 have e2:it=.Name x p2:=e2
 subst e2
 rcases bd with _|⟨t,_|⟨_,_⟩⟩
 . cases g3
 . obtain⟨c,⟨p3,rfl⟩,g4⟩:=aD g3
   obtain⟨a,h1,h2⟩:=m1 (f:=λa=>oS (jX a) (λq=>oS (asN q.1) (λz=>bC Γ r z)&&aP Γ (.c (.int 0)) q.2)) g4
   obtain⟨⟨w,ix⟩,⟨p4,rfl⟩,g5⟩:=aD h2
   obtain⟨g6,g7⟩:=dA g5
   obtain⟨y,⟨p5,e5⟩,hy⟩:=aD g6
   have e5:w=.Name y p5:=e5
   subst e5
   exact aDG M hz hx h1 hy (λRT σ=>sE (.c (.int 0)) M g7 RT Y old σ) (aK g7)
 . cases g3
theorem aGB{i:Nat}:QS P n Y old (.app2 i):=λ{X Γ} M {st} h RT σ=>by
 unfold dG at h
 obtain⟨c,⟨p,rfl⟩,g⟩:=aD h
 obtain⟨a,h1,h2⟩:=m1 (f:=λa=>oS (yC a) (λxs=>xs.isEmpty)) g
 obtain⟨xs,⟨p2,rfl⟩,h3⟩:=aD h2
 cases xs with
 | nil=>exact aGt M h1
 | cons _ _=>cases h3
theorem aGC{t i:Nat}{c:E}:QS P n Y old (.forT t i c):=λ{X Γ} M {st} h RT σ=>by
 unfold dG at h
 obtain⟨⟨tg,it,bd⟩,⟨p,rfl⟩,g⟩:=aD h
 obtain⟨z,⟨p1,e1⟩,g⟩:=aD g
 have e1:tg=.Name z p1:=e1
 subst e1
 obtain⟨hz,g2,g3⟩:=cV g
 obtain⟨x,⟨p2,e2⟩,hx⟩:=aD g2
 have e2:it=.Name x p2:=e2
 subst e2
 rcases bd with _|⟨b,_|⟨_,_⟩⟩
 . cases g3
 . obtain⟨⟨ce,th,el⟩,⟨p3,rfl⟩,g4⟩:=aD g3
   obtain⟨g5,g6⟩:=dA g4
   cases el with
   | nil=>exact aGv M hz hx λRT σ=>sT c M g5 RT Y old σ
   | cons _ _=>cases g6
 . cases g3
theorem aGD{i:Nat}{k e:E}:QS P n Y old (.lset i k e):=λ{X Γ} M {st} h RT σ=>by
 unfold dG at h
 obtain⟨⟨tg,v⟩,⟨p,rfl⟩,g⟩:=aD h
 clear h
 obtain⟨⟨o,ix⟩,⟨p1,e1⟩,g⟩:=aD g
 obtain⟨x,⟨p2,e2⟩,g⟩:=aD g
 have e1:tg=.Subscript o ix p1:=e1
 have e2:o=.Name x p2:=e2
 subst e1 e2
 obtain⟨h1,h2,h3⟩:=cV g
 exact aGm M h1 (sE k M h2 RT Y old σ) (sE e M h3 RT Y old σ) (aK h2)
theorem aGE{i l:Nat}{fz:List Nat}{e:EL}:QS P n Y old (.setL i l fz e):=λ{X Γ} M {st} h RT σ=>by
 unfold dG at h
 obtain⟨⟨tg,v⟩,⟨p,rfl⟩,g⟩:=aD h
 clear h
 obtain⟨x,⟨p1,e1⟩,g⟩:=aD g
 have e1:tg=.Name x p1:=e1
 subst e1
 obtain⟨h1,h2,h3⟩:=cV g
 exact aGn M h1 (qEL M e h2) (by simpa using h3)
theorem aGF{i l:Nat}{e:EL}:QS P n Y old (.appL i l e):=λ{X Γ} M {st} h RT σ=>by
 unfold dG at h
 obtain⟨c,⟨p,rfl⟩,g⟩:=aD h
 obtain⟨a,h1,h2⟩:=m1 (f:=λa=>bM Γ l e a) g
 exact aGo M h1 (qEL M e h2 RT σ) (cL h2)
theorem aGG{e:EL}:QS P n Y old (.retL e):=λ{X Γ} M {st} h RT σ=>by
 unfold dG at h
 obtain⟨r,⟨p,rfl⟩,g⟩:=aD h
 clear h
 obtain⟨v,e1,g⟩:=tW g
 subst e1
 exact aGp (qEL M e g RT σ)
theorem aDJ{i:Nat}:QS P n Y old (.retvL i):=λ{X Γ} M {st} h RT σ=>by
 unfold dG at h
 obtain⟨r,⟨p,rfl⟩,g⟩:=aD h
 clear h
 obtain⟨v,e1,g⟩:=tW g
 subst e1
 obtain⟨x,⟨p1,e2⟩,g⟩:=aD g
 have e2:v=.Name x p1:=e2
 subst e2
 exact aDF M g
theorem aGH{o:CmpOp}{a:EL}{b:E}{x y:Ss}(hx:QSs P n Y old x)(hy:QSs P n Y old y):QS P n Y old (.iffL o a b x y):=λ{X Γ} M {st} h RT σ=>by
 unfold dG at h
 obtain⟨⟨t,u,v⟩,⟨p,rfl⟩,g0⟩:=aD h
 obtain⟨h1,h2,h3⟩:=cV g0
 obtain⟨⟨l,os,rs⟩,⟨p2,e2⟩,g⟩:=aD h1
 clear h1 g0 h
 have e2:t=.Compare l os rs p2:=e2
 subst e2
 rcases os with _|⟨o',_|⟨_,_⟩⟩
 . cases g
 . rcases rs with _|⟨z,_|⟨_,_⟩⟩
   . cases g
   . obtain⟨g1,g2,g3⟩:=cV g
     have e3:o=o':=eq_of_beq g1
     subst e3
     exact aGq M (qEL M a g2 RT σ) (λσ=>sE b M g3 RT Y old σ) (aK g3) (hx M h2) (hy M h3)
   . cases g
 . cases g
theorem aGI{t:T}{e:EL}{b:Ss}(hb:QSs P n Y old b):QS P n Y old (.forL t e b):=λ{X Γ} M {st} h RT σ=>by
 unfold dG at h
 obtain⟨⟨tg,iter,body⟩,⟨p,rfl⟩,g0⟩:=aD h
 obtain⟨h1,h2,h3⟩:=cV g0
 obtain⟨⟨f,xs⟩,⟨p1,p2,e2⟩,g⟩:=aD h2
 clear h2 g0 h
 have e2:iter=.Call (.Name f p1) xs [] p2:=e2
 subst e2
 obtain⟨g1,g2,g3⟩:=cV g
 rcases xs with _|⟨x,_|⟨_,_⟩⟩
 . cases g3
 . exact aGr M h1 (eq_of_beq g1) g2 (qEL M e g3 RT σ) (cL g3) (hb M h3)
 . cases g3
theorem aGJ{cs:Ss}:QSs P n Y old (.cons .lend cs):=λ{X Γ} M {st} h RT σ=>kG (t:=λ_ _ _=>False) (λpins s σV H D I hw=>hw.elim) λD σV H t ⟨S,hh⟩=>by
 have hh:OE X.K RT Y old H (O.on (match σ[(0:Nat)]? with|some (.sh true (.err 0 cs))=>.next (σ.set 0 (.lent cs))|_=>.bad) λσ'=>exs P (call P n) σ' cs) D:=hh
 split at hh
 . rename_i ds e
   obtain⟨v,_,h2⟩:=S.sh 0 true (.err 0 ds) e
   exact h2
 . exact hh
theorem aJv:QSs P n Y old .nil:=λ{X Γ} M {st} h RT σ=>by
 cases st with
 | nil=>exact aIW
 | cons _ _=>exact nf h
theorem wW{Γ:Ct}{c:S}{cs:Ss}{st:List Stmt}(hl:pX (.cons c .nil)=false)(h:chkSs Γ (.cons c cs) st=true):∃x xs,st=x::xs/\dG Γ c x=true/\chkSs Γ cs xs=true:=by
 cases st with
 | nil=>cases c <;> first|exact nf h|cases hl
 | cons x xs=>
  have h:(dG Γ c x&&chkSs Γ cs xs)=true:=by
   cases c <;> first|exact h|cases hl
  obtain⟨h1,h2⟩:=dA h
  exact⟨x,xs,rfl,h1,h2⟩
theorem aGK{c:S}{cs:Ss}(hc:QS P n Y old c)(hs:QSs P n Y old cs)(hl:pX (.cons c .nil)=false):QSs P n Y old (.cons c cs):=λ{X Γ} M {st} h RT σ=>by
 obtain⟨x,xs,rfl,h1,h2⟩:=wW hl h
 exact aGc (hc M h1) (hs M h2)
theorem aDK{c:S}{cs:Ss}(hc:QS P n Y old c)(hs:QSs P n Y old cs):QSs P n Y old (.cons c cs):=by
 cases c with
 | lend=>exact aGJ
 | _=>exact aGK hc hs rfl
mutual
theorem sS:(c:S)->QS P n Y old c
 | .set _ _=>aJl
 | .mov _ _=>aJm
 | .setIx _ _ _=>aDH
 | .app _ _=>aJn
 | .ext _ _=>aJo
 | .pop _ _ _=>mO λ_ _=>rfl
 | .clr _=>mO λ_ _=>rfl
 | .ins _ _ _=>mO λ_ _=>rfl
 | .rev _=>mO λ_ _=>rfl
 | .appCall _ _ _=>mO λ_ _=>rfl
 | .ret _=>aJp
 | .retv _=>aGw
 | .retN=>aGx
 | .iff _ a b=>aJq (sSs a) (sSs b)
 | .for _ _ b=>aJr (sSs b)
 | .whl _ _=>mO λ_ _=>rfl
 | .brk=>aJs
 | .cnt=>aJt
 | .pass=>aGy
 | .ex _=>aLa
 | .rse _ _ _=>aJu
 | .try _ _=>mO λ_ _=>rfl
 | .tryN b=>aGz (sSs b)
 | .set2 _ _=>aGA
 | .grow2 _ _=>aDI
 | .app2 _=>aGB
 | .forT _ _ _=>aGC
 | .lend=>mO λ_ _=>rfl
 | .lset _ _ _=>aGD
 | .setL _ _ _ _=>aGE
 | .appL _ _ _=>aGF
 | .retL _=>aGG
 | .retvL _=>aDJ
 | .iffL _ _ _ x y=>aGH (sSs x) (sSs y)
 | .forL _ _ b=>aGI (sSs b)
theorem sSs:(c:Ss)->QSs P n Y old c
 | .nil=>aJv
 | .cons c cs=>aDK (sS c) (sSs cs)
end
end
structure Tx where
 x:Str
 qual:Str
 st:Stmt
 N:List Str
def qG(Γ:Ct)(F:Fn)(t:Tx):Bool:=
 t.N.length==F.ns&&decide (F.np<=F.ns)&&decide t.N.Nodup&&(bS t.st).kind==.function&&!(bS t.st).isCoroutine&&!(bS t.st).isGenerator &&
 ((t.N.take F.np).all λx=>(bS t.st).names.lookup x==some .local||(bS t.st).names.lookup x==some .cell)&&((bS t.st).names.all λp=>p.2 != .free) &&
 chkSs { Γ with N:=t.N,sc:=(bS t.st).names,fn:=true } F.body (iR t.st)
def iF(Γ:Ct):List Fn->List Tx->Bool
 | [],[]=>true
 | F::Fs,t::ts=>qG Γ F t&&iF Γ Fs ts
 | _,_=>false
theorem gN{Γ:Ct}:∀{Fs:List Fn} {ts:List Tx},iF Γ Fs ts=true->∀{f:Nat} {t:Tx},ts[f]? = some t->∃F,Fs[f]? = some F/\qG Γ F t=true
 | [],[],_,_,_,e=>by simp at e
 | [],_::_,h,_,_,_=>by cases h
 | _::_,[],h,_,_,_=>by cases h
 | F::Fs,t::ts,h,0,t',e=>by
  obtain⟨h1,h2⟩:=dA (show(qG Γ F t&&iF Γ Fs ts)=true from h)
  have e':t=t':=by simpa using e
  subst e'
  exact⟨F,rfl,h1⟩
 | F::Fs,t::ts,h,f+1,t',e=>by
  obtain⟨h1,h2⟩:=dA (show(qG Γ F t&&iF Γ Fs ts)=true from h)
  obtain⟨F',q1,q2⟩:=gN h2 (f:=f) (t:=t') (by simpa using e)
  exact⟨F',by simpa using q1,q2⟩
section
variable {prog:Program} {w:World} {K:Fg} {mg:Str->Option Value} {base:Heap} {P:Pg} {Γ:Ct} {txs:List Tx}
structure Top (prog:Program) (w:World) (K:Fg) (mg:Str->Option Value) (P:Pg) (Γ:Ct) (txs:List Tx):Prop where
 fn:∀(f:Nat) (t:Tx),txs[f]? = some t->∃fa fd,mg t.x=some (.ref fa)/\Fun K t.x t.qual t.st fa fd/\∀F,P.fns[f]? = some F->jE K fd (t.N.take F.np) []
 fns:∀(f:Nat) (x:Str),Γ.fns[f]? = some x->∃t,txs[f]? = some t/\t.x=x
 blt:∀x∈bltNames,mg x=none
 cns:∀(x:Str) (d:D),Γ.cns.lookup x=some d->∃u v,mg x=some u/\bP v u/\∀H ex,Rep K H ex d v
 tab:∀(i:Nat) (x:Str),Γ.tbs[i]? = some x->∃a t,mg x=some (.ref a)/\P.tabs[i]? = some t/\pY prog w K a t
 chk:iF Γ P.fns txs=true
theorem yQ{k f:Nat}{F:Fn}(hF:P.fns[f]? = some F){vs:List V}{H:Hp}{Q:VK}{E:XK}(h:spF K P (k+1) f vs H Q E):vs.length=F.np:=by
 obtain⟨ds,Y,_,r,hr⟩:=h
 obtain⟨x,e,_⟩:=hr.eq
 have e:jV P (call P k) f ds=.ok x:=e
 unfold jV at e
 rw[hF] at e
 have e:(if ds.length=F.np then _ else R.bad)=R.ok x:=e
 split at e
 . rename_i hl;rw[<-r.length];exact hl
 . cases e
theorem yR{k f:Nat}{F:Fn}(hF:P.fns[f]? = some F){vs:List V}{H:Hp}{Q:VK}{E:XK}(h:spL K P (k+1) f vs H Q E):vs.length=F.np:=by
 obtain⟨_,cs,ds,p,xs,us,Y,rfl,_,_,_,r,hr⟩:=h
 obtain⟨x,e,_⟩:=hr.eq
 have e:jV P (call P k) f (.err 0 cs::ds)=.ok x:=e
 unfold jV at e
 rw[hF] at e
 have e:(if (D.err 0 cs::ds).length=F.np then _ else R.bad)=R.ok x:=e
 split at e
 . rename_i hl
   rw[<-hl,lC,lC,r.length]
 . cases e
theorem aDL{ds cs:List D}{us xs:List V}{p:Addr}{H:Hp}{Y:Addr->Prop}{m:Nat}(hY:∀a,Y a->H a≠none)(t:Tk K H)(hp:H p=some (.lst xs))(rc:Reps K H (λb=>b=p\/Y b) cs xs)(r:Reps K H (λb=>b=p\/Y b) ds us) :
 Sx K (λb=>b=p) Y (λb=>H b≠none) ((((D.err 0 cs::ds).map λd=>Sl.sh true d)++List.replicate m Sl.dead).set 0 (.lent cs)) (((V.ref p::us).map some)++List.replicate m none) H:=by
 have S0:Sx K (λb=>b=p) Y (λb=>H b≠none) (((D.non::ds).map λd=>Sl.sh true d)++List.replicate m Sl.dead) (((V.non::us).map some)++List.replicate m none) H:=oK hY t (λa z=>⟨xs,by rw[z];exact hp⟩) (.cons rfl r)
 have tl:∀{j:Nat},0≠j->(((V.ref p::us).map some)++List.replicate m none)[j]? = (((V.non::us).map some)++List.replicate m none)[j]? := λ{j} hj=>by
  cases j with
  | zero=>exact absurd rfl hj
  | succ j=>rfl
 have sl:∀{j:Nat} {s:Sl},((((D.err 0 cs::ds).map λd=>Sl.sh true d)++List.replicate m Sl.dead).set 0 (.lent cs))[j]? = some s->(j=0/\s=.lent cs)\/(0≠j/\(((D.non::ds).map λd=>Sl.sh true d)++List.replicate m Sl.dead)[j]? = some s):=λ{j s} e=>by
  cases j with
  | zero=>exact .inl ⟨rfl,(Option.some.inj e).symm⟩
  | succ j=>exact .inr ⟨by omega,e⟩
 have nol:∀{j:Nat} {ds':List D},(((D.non::ds).map λd=>Sl.sh true d)++List.replicate m Sl.dead)[j]? = some (.lent ds')->False:=λ{j ds'} e=>by
  rcases List.mem_append.mp (mG e) with z|z
  . obtain⟨_,_,e⟩:=List.mem_map.mp z
    cases e
  . cases List.eq_of_mem_replicate z
 have no2:∀{j:Nat} {ds':List (List D)},(((D.non::ds).map λd=>Sl.sh true d)++List.replicate m Sl.dead)[j]? = some (.own2 ds')->False:=λ{j ds'} e=>by
  rcases List.mem_append.mp (mG e) with z|z
  . obtain⟨_,_,e⟩:=List.mem_map.mp z
    cases e
  . cases List.eq_of_mem_replicate z
 exact {
  sh:=λj pa d e=>by
   rcases sl e with⟨_,z⟩|⟨hj,e⟩
   . cases z
   . rw[tl hj];exact S0.sh j pa d e
  own:=λj pa d e=>by
   rcases sl e with⟨_,z⟩|⟨hj,e⟩
   . cases z
   . rw[tl hj];exact S0.own j pa d e
  trk:=S0.trk
  yo:=S0.yo
  tk:=S0.tk
  rt:=S0.rt
  inj:=λi j pa pa' ds1 ds2 a e1 e2 e3 e4=>by
   rcases sl e1 with⟨_,z⟩|⟨h1,e1⟩
   . cases z
   rcases sl e2 with⟨_,z⟩|⟨h2,e2⟩
   . cases z
   rw[tl h1] at e3
   rw[tl h2] at e4
   exact S0.inj i j pa pa' ds1 ds2 a e1 e2 e3 e4
  len:=by
   rw[List.length_set]
   exact S0.len
  lx:={
   at':=λj ds' e=>by
    rcases sl e with⟨rfl,z⟩|⟨hj,e⟩
    . cases z
      exact⟨p,xs,rfl,hp,rfl,by rw[hp];simp,rc.weak λb z=>z.imp id λz=>z.elim id λz=>by cases z.1⟩
    . exact(nol e).elim
   inj:=λi j ds1 ds2 a e1 e2 e3 e4=>by
    rcases sl e1 with⟨rfl,_⟩|⟨h1,e1⟩
    . rcases sl e2 with⟨rfl,_⟩|⟨h2,e2⟩
      . rfl
      . exact(nol e2).elim
    . exact(nol e1).elim
   at2:=λj ds' e=>by
    rcases sl e with⟨rfl,z⟩|⟨hj,e⟩
    . cases z
    . exact(no2 e).elim
   one:=λi j ds1 ds2 e=>by
    rcases sl e with⟨rfl,z⟩|⟨hj,e⟩
    . cases z
    . exact(no2 e).elim } }
theorem aBS{b:Ss}(h:pX b=true):∃r,b=.cons .lend r:=by
 unfold pX at h
 split at h
 . exact⟨_,rfl⟩
 . cases h
theorem wX{Γ:Ct}{cs:Ss}{st:List Stmt}(h:chkSs Γ (.cons .lend cs) st=true):chkSs Γ cs st=true:=by
 cases st <;> exact h
theorem aDM{x d:D}{cs:List D}(h:aBp x=some (d,cs)):x=.tup [d,.err 0 cs]:=by
 unfold aBp at h
 split at h
 . cases h;rfl
 . cases h
theorem yS{k f:Nat}{t:Tx}{F:Fn}{fa:Addr}{fd:FuncData}(hmd:∀(f:Nat) (x:Str),Γ.fns[f]? = some x->∃fa fd ps,mg x=some (.ref fa)/\PySem.W.keepIn K (.ref fa)=true/\jE K fd ps []/\mW prog w K mg base CX0 k fa fd ps (spA K P k f))
 (hblt:∀x∈bltNames,mg x=none) (hcns:∀(x:Str) (d:D),Γ.cns.lookup x=some d->∃u v,mg x=some u/\bP v u/\∀H ex,Rep K H ex d v) (htab:∀(i:Nat) (x:Str),Γ.tbs[i]? = some x->∃a t,mg x=some (.ref a)/\P.tabs[i]? = some t/\pY prog w K a t) (h2:Fun K t.x t.qual t.st fa fd) (hF:P.fns[f]? = some F) (hc:qG Γ F t=true) :
 mW prog w K mg base CX0 (k+1) fa fd (t.N.take F.np) (spA K P (k+1) f):=by
 unfold qG at hc
 simp only[bA,beq_iff_eq,decide_eq_true_eq,Bool.not_eq_true',List.all_eq_true,Bool.or_eq_true,bne_iff_ne,ne_eq] at hc
 obtain⟨⟨⟨⟨⟨⟨⟨⟨c1,c2⟩,c3⟩,c4⟩,c5⟩,c6⟩,c7⟩,c8⟩,c9⟩:=hc
 have lt:(t.N.take F.np).length=F.np:=by rw[List.length_take];omega
 have sc:nB t.N (t.N.take F.np) (bS t.st):=⟨c4,c5,c6,c3,by rw[lt],c7,c8⟩
 refine h2.ok sc (λvs H Q E h=>by rw[lt];exact h.elim (yQ hF) (yR hF)) λcdv A outer s H vs Q E hr h=>?_
 have M:Mc (vW CX0 prog w K mg base t.N t.qual (bS t.st) fa cdv A outer s H E).nox P { Γ with N:=t.N,sc:=(bS t.st).names,fn:=true } k:={
  md:=⟨hmd,hblt,hcns,htab⟩
  N:=rfl
  nd:=c3
  sc:=rfl
  calm:=rfl
  room:=hr
  xe:=rfl
  st:=λ_ _=>.inl rfl
  fk:=c4 }
 rcases h with h|h
 . have hlen:=yQ hF h
   obtain⟨ds,Y,hY,r,hq⟩:=h
   obtain⟨res,er,hq⟩:=hq.eq
   have er:jV P (call P k) f ds=.ok res:=er
   unfold jV at er
   rw[hF] at er
   have er:(if ds.length=F.np then (match exs P (call P k) ((ds.map λd=>Sl.sh true d)++List.replicate (F.ns-F.np) Sl.dead) F.body with
    | .ret v=>R.ok (v.d,v.fr,v.pa)
    | .next _=>R.ok (.non,false,false)
    | .exc x _=>R.exc x
    | _=>R.bad) else R.bad)=R.ok res:=er
   have hdl:ds.length=F.np:=by rw[r.length];exact hlen
   rw[if_pos hdl] at er
   refine⟨_,kG (t':=λD σV H'=>Tk K H'->wS _ (λ_=>False) Y (λb=>H b≠none) ((ds.map λd=>Sl.sh true d)++List.replicate (F.ns-F.np) Sl.dead) (exs P (call P k) ((ds.map λd=>Sl.sh true d)++List.replicate (F.ns-F.np) Sl.dead) F.body) D σV H') (sSs (Y:=Y) (old:=λb=>H b≠none) F.body M c9 (λ_=>False) ((ds.map λd=>Sl.sh true d)++List.replicate (F.ns-F.np) Sl.dead)) (λD σV H' tk hw=>⟨(hw tk).1,OE.tkE (hw tk).2⟩),λtk=>⟨?_,?_⟩⟩
   . have e:L2.start t.N vs=vs.map some++List.replicate (F.ns-F.np) none:=by unfold L2.start;rw[hlen,c1]
     rw[e]
     exact oK hY tk (λ_ z=>z.elim) (r.weak λa z=>z.elim False.elim id)
   . have same:∀{H':Hp},Kp (λ_=>False) H H'->aL H H':=λk b o e=>k b o e id
     show OE K (λ_=>False) Y (λb=>H b≠none) H (exs P (call P k) ((ds.map λd=>Sl.sh true d)++List.replicate (F.ns-F.np) Sl.dead) F.body) _
     cases q:exs P (call P k) ((ds.map λd=>Sl.sh true d)++List.replicate (F.ns-F.np) Sl.dead) F.body with
     | next σ'=>
      rw[q] at er
      cases(show R.ok (D.non,false,false)=R.ok res from er)
      exact λRT' σV' H' kp sub S'=>hq .non H' S'.tk (same kp) (show(if false=true then _ else _) from aIb rfl)
     | ret v=>
      rw[q] at er
      cases(show R.ok (v.d,v.fr,v.pa)=R.ok res from er)
      refine λu H' kp tk' rt=>hq u H' tk' (same kp) ?_
      replace rt:Rtv K Y (λb=>H b≠none) H' v u:=rt.resolve_right λ⟨_,_,R2,p,_,_,hsub,hR,ho,_⟩=>(hsub p hR).elim id ho
      unfold Rr
      unfold Rtv at rt
      cases hfr:v.fr with
      | true=>
       rw[hfr,if_pos rfl] at rt
       obtain⟨a,xs,ds',e1,e2,e3,e4,rr⟩:=rt
       exact aKE ⟨a,xs,ds',e1,e2,Classical.not_not.mp e3,e4,rr⟩
      | false=>
       rw[hfr,if_neg bN] at rt
       exact aIb rt
     | brk σ'=>rw[q] at er;cases er
     | cnt σ'=>rw[q] at er;cases er
     | exc e σ'=>rw[q] at er;cases er
     | bad=>rw[q] at er;cases er
 . have hlen:=yR hF h
   obtain⟨hl,cs,ds,p,xs,us,Y,rfl,hY,hp,rc,r,hq⟩:=h
   unfold mI at hl
   rw[hF] at hl
   obtain⟨rest,hb⟩:=aBS (show pX F.body=true from hl)
   rw[hb] at c9
   have c9:=wX c9
   obtain⟨res,er,hq⟩:=hq.eq
   obtain⟨d,cs',eu,hq⟩:=hq
   have er:jV P (call P k) f (.err 0 cs::ds)=.ok res:=er
   unfold jV at er
   rw[hF] at er
   have er:(if (D.err 0 cs::ds).length=F.np then (match exs P (call P k) (((D.err 0 cs::ds).map λd=>Sl.sh true d)++List.replicate (F.ns-F.np) Sl.dead) F.body with
    | .ret v=>R.ok (v.d,v.fr,v.pa)
    | .next _=>R.ok (.non,false,false)
    | .exc x _=>R.exc x
    | _=>R.bad) else R.bad)=R.ok res:=er
   have hdl:(D.err 0 cs::ds).length=F.np:=by rw[lC,r.length,<-lC (a:=V.ref p)];exact hlen
   rw[if_pos hdl,hb] at er
   have er:(match exs P (call P k) ((((D.err 0 cs::ds).map λd=>Sl.sh true d)++List.replicate (F.ns-F.np) Sl.dead).set 0 (.lent cs)) rest with
    | .ret v=>R.ok (v.d,v.fr,v.pa)
    | .next _=>R.ok (.non,false,false)
    | .exc x _=>R.exc x
    | _=>R.bad)=R.ok res:=er
   have S0:Tk K H->Sx K (λb=>b=p) Y (λb=>H b≠none) ((((D.err 0 cs::ds).map λd=>Sl.sh true d)++List.replicate (F.ns-F.np) Sl.dead).set 0 (.lent cs)) (((V.ref p::us).map some)++List.replicate (F.ns-F.np) none) H:=λtk=>aDL hY tk hp rc r
   revert er S0
   generalize (((D.err 0 cs::ds).map λd=>Sl.sh true d)++List.replicate (F.ns-F.np) Sl.dead).set 0 (.lent cs)=σ0
   intro er S0
   refine⟨_,kG (t':=λD σV H'=>Tk K H'->wS _ (λb=>b=p) Y (λb=>H b≠none) σ0 (exs P (call P k) σ0 rest) D σV H') (sSs (Y:=Y) (old:=λb=>H b≠none) rest M c9 (λb=>b=p) σ0) (λD σV H' tk hw=>⟨(hw tk).1,OE.tkE (hw tk).2⟩),λtk=>⟨?_,?_⟩⟩
   . have e:L2.start t.N (V.ref p::us)=(V.ref p::us).map some++List.replicate (F.ns-F.np) none:=by unfold L2.start;rw[hlen,c1]
     rw[e]
     exact S0 tk
   . show OE K (λb=>b=p) Y (λb=>H b≠none) H (exs P (call P k) σ0 rest) _
     cases q:exs P (call P k) σ0 rest with
     | next σ'=>
      rw[q] at er
      cases(show R.ok (D.non,false,false)=R.ok res from er)
      cases eu
     | ret v=>
      rw[q] at er
      cases(show R.ok (v.d,v.fr,v.pa)=R.ok res from er)
      have eu:=aDM eu
      intro u H' kp tk' rt
      rcases rt with rt|⟨d2,cs2,R2,p2,xs2,e2,hsub,hR,ho,hx,rr,hv⟩
      . exfalso
        unfold Rtv at rt
        cases hfr:v.fr with
        | true=>
         rw[hfr,if_pos rfl] at rt
         obtain⟨_,_,_,_,e3,_⟩:=rt
         rw[show v.d=_ from eu] at e3
         cases e3
        | false=>
         rw[hfr,if_neg bN,show v.d=_ from eu] at rt
         obtain⟨_,_,_,_,x1,r1,_,_,x2,r2,_,z,_⟩:=rt
         exact z
      . rw[show v.d=_ from eu] at e2
        cases e2
        have hpp:p2=p:=(hsub p2 hR).resolve_right ho
        subst hpp
        refine hq u H' R2 xs2 tk' kp hR hsub hx rr ?_
        show(if v.fr=true then _ else _)
        by_cases hfr:v.fr=true
        . rw[if_pos hfr] at hv ⊢
          obtain⟨a,ys,es,v1,v2,v3,v4,v5,v6⟩:=hv
          exact⟨a,ys,es,v1,v2,Classical.not_not.mp v3,v4,v5,v6⟩
        . rw[if_neg hfr] at hv ⊢
          exact hv
     | brk σ'=>rw[q] at er;cases er
     | cnt σ'=>rw[q] at er;cases er
     | exc e σ'=>rw[q] at er;cases er
     | bad=>rw[q] at er;cases er
theorem aBT(T:Top prog w K mg P Γ txs):∀(k f:Nat) (x:Str),Γ.fns[f]? = some x->∃fa fd ps,mg x=some (.ref fa)/\PySem.W.keepIn K (.ref fa)=true/\jE K fd ps []/\mW prog w K mg base CX0 k fa fd ps (spA K P k f)
 | 0,f,x,hf=>by
  obtain⟨t,ht,rfl⟩:=T.fns f x hf
  obtain⟨fa,fd,h1,h2,h3⟩:=T.fn f t ht
  obtain⟨F,hF,_⟩:=gN T.chk ht
  have no:∀vs H Q E,¬ spA K P 0 f vs H Q E:=λvs H Q E h=>by
   rcases h with⟨ds,Y,_,r,hr⟩|⟨_,_,_,_,_,_,_,_,_,_,_,_,hr⟩
   . exact hr
   . exact hr
  exact⟨fa,fd,_,h1,h2.kp,h3 F hF,λvs H Q E h=>absurd h (no vs H Q E),λA outer s H args us vs Q E _ _ _ _ h=>absurd h (no vs H Q E)⟩
 | k+1,f,x,hf=>by
  obtain⟨t,ht,rfl⟩:=T.fns f x hf
  obtain⟨fa,fd,h1,h2,h3⟩:=T.fn f t ht
  obtain⟨F,hF,hc⟩:=gN T.chk ht
  exact⟨fa,fd,_,h1,h2.kp,h3 F hF,yS (λf x hf=>aBT T k f x hf) T.blt T.cns T.tab h2 hF hc⟩
theorem aGL(T:Top prog w K mg P Γ txs){f:Nat}{t:Tx}{F:Fn}{fa:Addr}{fd:FuncData}(ht:txs[f]? = some t)(hF:P.fns[f]? = some F)(h2:Fun K t.x t.qual t.st fa fd)(k:Nat):mW prog w K mg base CX0 (k+1) fa fd (t.N.take F.np) (spF K P (k+1) f):=by
 obtain⟨F',hF',hc⟩:=gN T.chk ht
 rw[hF] at hF'
 cases hF'
 have h:=yS (aBT (base:=base) T k) T.blt T.cns T.tab h2 hF hc
 exact⟨λvs H Q E q=>h.1 vs H Q E (.inl q),λA outer s H args us vs Q E a b c d q=>h.2 A outer s H args us vs Q E a b c d (.inl q)⟩
theorem aGM{k f:Nat}{K:Fg}{H:Hp}{a:Addr}{ns:List Int}(hO:aDg H)(hS:SqL K H a (ns.map V.int))(h:∃fr pa,call P k f [.lst (ns.map D.int)]=.ok (.bl true,fr,pa)) :
 spF K P k f [.ref a] H (λv _=>v=.bl true) λ_ _ _=>False:=by
 obtain⟨fr,pa,e⟩:=h
 have ri:∀(ns:List Int),Reps K H (λ_=>False) (ns.map D.int) (ns.map V.int):=by
  intro ns
  induction ns with
  | nil=>exact .nil
  | cons i ns ih=>exact .cons rfl ih
 refine⟨[.lst (ns.map D.int)],λ_=>False,λ_ z=>z.elim,.cons ⟨a,_,rfl,hS,id,ri ns⟩ .nil,?_⟩
 rw[e]
 intro u H' _ _ rr
 unfold Rr at rr
 cases fr with
 | true=>
  rw[if_pos rfl] at rr
  obtain⟨_,_,_,_,e2,_⟩:=rr
  cases e2
 | false=>
  rw[if_neg bN] at rr
  exact rr
end
end Hp
end
noncomputable section
namespace Hp
open PySem PySem.Spec PyProof.Rows L2
def ER(w:World)(K:Fg)(e:DictEntry)(p:Str×D):Prop:=e.hash=hashStr w p.1/\(∃tk,e.key=.str p.1 tk)/\∃v,bP v e.val/\∀(H:Hp) (ex:Addr->Prop),Rep K H ex p.2 v
theorem qH{K:Fg}{H:Hp}{ex:Addr->Prop}:∀xs:List Str,Reps K H ex (xs.map D.str) (xs.map V.str)
 | []=>rfl
 | x::xs=>⟨.str x,xs.map V.str,rfl,rfl,qH xs⟩
theorem aBU{K:Fg}{b:Addr}{od:Option Addr}{its:Array Value}{n:Nat}{sl:Array (Option Value)}(h:K.lookup b=some ⟨.type "tuple",od,.seq its n,sl⟩)(xs:List Str)(hz:its.size<=1000)(hv:aU (xs.map V.str) its.toList) :
 ∀(H:Hp) (ex:Addr->Prop),Rep K H ex (.tup (xs.map D.str)) (.ref b):=λH ex=>
 ⟨b,xs.map V.str,rfl,.inr ⟨_,its,n,h,rfl,rfl,Nat.le_trans hz (by rw[sizeLine_eq];decide),hv⟩,qH xs⟩
theorem aBV{prog:Program}{w:World}{K:Fg}:∀{es:List DictEntry} {t:List (Str×D)},Paired (ER w K) es t->∃vs:List (Key×Value),(∀e∈es,∃k:Key,(dX prog w).is k e.key=true/\e.hash=(dX prog w).hash k) /\
 Pairs (dX prog w) es vs/\vs.map (·.1)=t.map (λp=>(Sum.inr p.1:Key)) /\
 ∀k:Str,(t.lookup k=none/\valueAt vs (Sum.inr k:Key)=none)\/∃d u v,t.lookup k=some d/\valueAt vs (Sum.inr k:Key)=some u/\bP v u/\∀(H:Hp) (ex:Addr->Prop),Rep K H ex d v
 | _,_,.nil=>⟨[],λe he=>absurd he (by simp),.nil,rfl,λk=>.inl ⟨rfl,rfl⟩⟩
 | e::es,p::t,.cons ⟨h1,⟨tk,h2⟩,v,h3,h4⟩ r=>by
  obtain⟨vs,g1,g2,g3,g4⟩:=aBV (prog:=prog) r
  have hk:sR (Sum.inr p.1:Key) e.key=true:=by rw[h2];exact pK p.1 tk
  refine⟨(Sum.inr p.1,e.val)::vs,λe' he=>?_,.cons hk rfl g2,by rw[mC,mC,g3],λk=>?_⟩
  . rcases List.mem_cons.mp he with rfl|he
    . exact⟨Sum.inr p.1,hk,h1⟩
    . exact g1 e' he
  . by_cases hkp:k=p.1
    . subst hkp
      refine .inr ⟨p.2,e.val,v,?_,?_,h3,h4⟩
      . obtain⟨a,b⟩:=p
        simp[List.lookup]
      . simp[valueAt]
    . have n1:(p::t).lookup k=t.lookup k:=by
       obtain⟨a,b⟩:=p
       have:(k==a)=false:=beq_eq_false_iff_ne.mpr hkp
       simp[List.lookup,this]
      have n2:valueAt ((Sum.inr p.1,e.val)::vs) (Sum.inr k:Key)=valueAt vs (Sum.inr k:Key):=by
       unfold valueAt
       have:decide ((Sum.inr p.1:Key)=Sum.inr k)=false:=decide_eq_false λz=>hkp (Sum.inr.inj z).symm
       rw[List.find?_cons]
       simp only[this]
      rw[n1,n2]
      exact g4 k
theorem aGN{prog:Program}{w:World}{K:Fg}{a:Addr}{es:Array DictEntry}{ep:Nat}{t:List (Str×D)}(hs:(a==sysModules)=false)(h:K.lookup a=some ⟨.type "dict",none,.dict es ep,#[]⟩)(hp:Paired (ER w K) es.toList t)(hn:(t.map (·.1)).Nodup):pY prog w K a t:=by
 obtain⟨vs,g1,g2,g3,g4⟩:=aBV (prog:=prog) hp
 refine⟨hs,vs,λhh X=>⟨_,es,ep,X a _ h,⟨rfl,rfl,rfl⟩,rfl,λe he=>g1 e (by simpa using he),g2,?_⟩,g4⟩
 rw[g3]
 have e:t.map (λp=>(Sum.inr p.1:Key))=(t.map (·.1)).map Sum.inr:=by rw[List.map_map];rfl
 rw[e]
 unfold List.Nodup at hn ⊢
 rw[List.pairwise_map]
 exact hn.imp λhne z=>hne (Sum.inr.inj z)
end Hp
end
noncomputable section
namespace Hh
open PySem PySem.W PySem.Calls PyProof.Rows
def go(st:SharedT->Thread->Option (SharedT×Thread))(ok:Thread->Bool)(n:Nat):SharedT->Thread->Option SharedT:=
 @Nat.rec (λ_=>SharedT->Thread->Option SharedT) (λ_ _=>none) (λ_ ih s t=>match through t with
  | true=>some s
  | false=>match ok t with
   | false=>none
   | true=>match st s t with
    | some (s',t')=>ih s' t'
    | none=>none) n
theorem nO{tb:String->Option Builtin}{p:Program}{w:World}{n₀:Nat}{ann:Option Value}:∀(n:Nat) (s s':SharedT) (t:Thread),go (stepT (denote tb) p w) (stepOk n₀ ann) n s t=some s'->topRun tb p w n₀ ann n s.abs t=some s'.abs
 | 0,_,_,_,h=>by cases h
 | n+1,s,s',t,h=>by
  have h:(match through t with
   | true=>some s
   | false=>match stepOk n₀ ann t with
    | false=>none
    | true=>match stepT (denote tb) p w s t with
     | some (s',t')=>go (stepT (denote tb) p w) (stepOk n₀ ann) n s' t'
     | none=>none)=some s':=h
  unfold topRun
  cases ht:through t with
  | true=>rw[ht] at h;cases h;rfl
  | false=>
   rw[ht] at h
   cases hk:stepOk n₀ ann t with
   | false=>rw[hk] at h;cases h
   | true=>
    rw[hk] at h
    cases hs:stepT (denote tb) p w s t with
    | none=>rw[hs] at h;cases h
    | some r=>obtain⟨s₂,t₂⟩:=r;rw[hs] at h;rw[stepT_spec hs];exact nO n _ _ _ h
def bt(l:List Obj)(n:Nat):Nat->Nat->BT:=
 @Nat.rec (λ_=>Nat->Nat->BT) (λ_ _=>.nil) (λ_ ih a b=>match l[b]? with
  | some o=>.node o (ih (2*a) (a+b)) (ih (2*a) (2*a+b))
  | none=>.nil) n
end Hh
namespace Hh
open PySem PySem.W PySem.Calls PyProof.Rows
def aBW{α:Type}(p q:Program)(loose:List Str)(Xt:Shared->Bool)(Yf:Shared->α)(h0:Heap)(s:Shared):=
 ((staticsOk (importedModules p.main.body) h0 s.heap&&namesBound p s.heap&&gensDone s&&laidKept h0 s.heap),openSeen q loose (importedModules p.main.body) Xt true s,Yf s)
theorem aDN{p q:Program}{loose:List Str}{Xt:Shared->Bool}{α:Type}{Yf:Shared->α}{Ya:World->α}{N m₀:Nat}{ann:Option Value}{T₀:Params->BT}{l₀:Life}(e:opening p=plainProg p.main.scope.names)(hN:Nat.ble 600 N=true)(f:∀s,fenceModules? p s=some s)
 (hb:∀P,absHeap (T₀ P) m₀ l₀=boot_heap P) (hz:∀P:Params,((boot_heap P).isNs mainGlobals,(boot_heap P).objs.size,(boot_heap P).nsMap mainGlobals "__annotations__")=(true,m₀,ann))
 (h:∀(w:World) (os:OsState),(go (stepT (denote treeTable) p w) (stepOk m₀ ann) N ⟨T₀ w.params,m₀,l₀,Array.mk [],boot_drawn,boot_toks,os⟩ (topStub p)).map (λs=>aBW p q loose Xt Yf (boot_heap w.params) s.abs)=some (true,openGood q loose,Ya w)):LeftO p q loose Xt Yf Ya N:=λw=>by
 obtain⟨⟨hh,gs,d,k,os⟩,e1,e2⟩:=Option.map_eq_some_iff.mp (boot_open e hN f w)
 simp only[Prod.mk.injEq] at e2
 obtain⟨rfl,rfl,rfl,rfl⟩:=e2
 obtain⟨s,g1,g2⟩:=Option.map_eq_some_iff.mp (h w os)
 have r:=nO N _ _ _ g1
 have r:topRun treeTable p w m₀ ann N ⟨boot_heap w.params,Array.mk [],boot_drawn,boot_toks,os⟩ (topStub p)=some s.abs:=by
  rw[<-hb];exact r
 have z:=hz w.params
 simp only[Prod.mk.injEq] at z
 obtain⟨z1,z2,z3⟩:=z
 unfold aBW at g2
 simp only[Prod.mk.injEq] at g2
 obtain⟨l1,l2,l3⟩:=g2
 have t:topFrom treeTable p w N ⟨boot_heap w.params,Array.mk [],boot_drawn,boot_toks,os⟩=some s.abs:=by
  unfold topFrom
  dsimp only
  rw[z1,z2,z3,r]
  show(match staticsOk (importedModules p.main.body) (boot_heap w.params) s.abs.heap&&namesBound p s.abs.heap&&gensDone s.abs&&laidKept (boot_heap w.params) s.abs.heap with|true=>_|false=>_)=_
  rw[l1]
 unfold openEnds
 rw[e1]
 show(topFrom treeTable p w N _).map _=_
 rw[t]
 exact congrArg some (Prod.ext l2 l3)
def T0(P:Params):BT:=bt (boot_heap P).objs.toList 5 1 0
theorem aGO:∀P,absHeap (T0 P) 11 {}=boot_heap P:=λP=>by kernel_rfl
theorem aDO:∀P:Params,((boot_heap P).isNs mainGlobals,(boot_heap P).objs.size,(boot_heap P).nsMap mainGlobals "__annotations__")=(true,11,some (.ref 6)):=λP=>by kernel_rfl
abbrev aJw:=@PySem.W.Fast.tw10156331382660048174
abbrev qOk:=@PySem.W.Fast.tw6613529449190102663
abbrev aLb:=@PySem.W.Fast.tw11892475500146522536
abbrev aLc:=@PySem.W.Fast.tw14364793385576792824
abbrev aJx:=@PySem.W.Fast.tw4187177175401517315
abbrev aJy:=@PySem.W.Fast.tw5923862056798008813
def aJz{α:Type}(p q:Program)(loose:List Str)(Yf:Shared->α)(N:Nat)(w:World)(os:OsState):=
 (go (aJw (aLb aLc) p w) (qOk 11 (some (.ref 6))) N ⟨T0 w.params,11,{},Array.mk [],boot_drawn,boot_toks,os⟩ (topStub p)).map λs=>
  ((staticsOk (aJy p.main.body) (boot_heap w.params) s.abs.heap&&namesBound p s.abs.heap&&gensDone s.abs&&laidKept (boot_heap w.params) s.abs.heap),aJx q loose (aJy p.main.body) (λ_=>true) true s.abs,Yf s.abs)
theorem aGP{p q:Program}{loose:List Str}{α:Type}{Yf:Shared->α}{Ya:World->α}{N:Nat}(e:opening p=plainProg p.main.scope.names)(hN:Nat.ble 600 N=true)(f:∀s,fenceModules? p s=some s)
 (h:∀w os,aJz p q loose Yf N w os=some (true,openGood q loose,Ya w)):LeftO p q loose (λ_=>true) Yf Ya N:=by
 refine aDN e hN f aGO aDO λw os=>?_
 unfold aBW
 rw[PySem.W.Fast.te10156331382660048174,PySem.W.Fast.te6613529449190102663,PySem.W.Fast.te11892475500146522536,PySem.W.Fast.te14364793385576792824,PySem.W.Fast.te4187177175401517315,PySem.W.Fast.te5923862056798008813]
 exact h w os
end Hh
end
noncomputable section
namespace Hh
open PySem PySem.W PySem.Calls PyProof.Rows L2 Hp
def jP(h:Heap):PySem.W.Frag:=(List.range h.objs.size).filterMap λa=>(h.get? a).map λo=>(a,o)
theorem oM{α:Type}(f:Nat->Option α)(a:Nat):∀n,((List.range n).filterMap λi=>(f i).map λo=>(i,o)).lookup a=if a<n then f a else none
 | 0=>rfl
 | n+1=>by
  rw[List.range_succ,List.filterMap_append,List.lookup_append,oM f a n]
  by_cases h:a<n
  . rw[if_pos h,if_pos (Nat.lt_succ_of_lt h)]
    cases q:f a with
    | some o=>rfl
    | none=>
     have hne:(a==n)=false:=beq_eq_false_iff_ne.mpr (Nat.ne_of_lt h)
     cases q2:f n with
     | none=>simp[q2]
     | some o=>simp[q2,List.lookup,hne]
  . rw[if_neg h]
    by_cases e:a=n
    . subst e
      rw[if_pos (Nat.lt_succ_self _)]
      cases q:f a with
      | none=>simp[q]
      | some o=>simp[q,List.lookup]
    . rw[if_neg (by omega)]
      have hne:(a==n)=false:=beq_eq_false_iff_ne.mpr e
      cases q2:f n with
      | none=>simp[q2]
      | some o=>simp[q2,List.lookup,hne]
theorem cW(h:Heap)(a:Addr):(jP h).lookup a=h.get? a:=by
 unfold jP
 rw[oM]
 by_cases q:a<h.objs.size
 . rw[if_pos q]
 . rw[if_neg q]
   cases e:h.get? a with
   | none=>rfl
   | some o=>exact absurd (Heap.lt_size e) q
theorem yT{h h':Heap}(k:∀b o,h.get? b=some o->h'.get? b=some o):(jP h).In h':=λa o e=>k a o (by rw[<-cW];exact e)
def lT(h:Heap)(x:Str):Option (Option Value):=match h.get? mainGlobals with
 | some ⟨_,_,.dict es _,_⟩=>(match es.toList.find? (λe=>match e.key with|.str y _=>Fast.sEq y x|_=>false) with
  | some e=>some (some e.val)
  | none=>if es.toList.any (·.refKey) then none else some none)
 | _=>none
theorem aBX(v:Value)(x:Str):v.isStr x=(match v with|.str y _=>Fast.sEq y x|_=>false):=by
 cases v with
 | str y t=>
  show(y==x)=Fast.sEq y x
  rw[Bool.eq_iff_iff,beq_iff_eq,Fast.sEq_iff]
 | _=>rfl
theorem gO(h:Heap)(x:Str):nsIn (jP h) mainGlobals x=lT h x:=by
 unfold nsIn lT
 rw[cW]
 simp only[aBX]
 rfl
def oN(h:Heap)(cd:Value):Option Str:=match cd with
 | .ref c=>(match h.get? c with
  | some ⟨_,_,.fields vs,_⟩=>(match vs.toList with|_::.str n _::_=>some n|_=>none)
  | _=>none)
 | _=>none
theorem aAx{h:Heap}{cd:Value}{q:Str}(e:oN h cd=some q):codeIn (jP h) cd q=true:=by
 unfold oN at e
 unfold codeIn
 split at e
 . rename_i c
   simp only[cW]
   split at e
   . rename_i vs _ ho
     rw[ho]
     split at e
     . rename_i a n t r hv
       cases e
       simp only[hv,beq_self_eq_true]
     . cases e
   . cases e
 . cases e
abbrev Pin:=Str×Str×Arguments×FuncBody×Scope×Addr×List (Str×Addr)×Value×Addr×Option Str
def wY(h:Heap)(x:Str):Option Pin:=match lT h x with
 | some (some (.ref a))=>(match h.get? a with
  | some ⟨_,_,.func fd,_⟩=>some (fd.name,fd.qualname,fd.params,fd.body,fd.scope,fd.globals,fd.closure,fd.defaults,fd.builtins,oN h fd.code)
  | _=>none)
 | _=>none
def cR(s:Stmt):Str:=match s with
 | .FunctionDef x _ _ _ _ _ _ _ _ _=>x
 | _=>⟨#[]⟩
def aBY(st:Stmt):Pin:=(cR st,cR st,iQ st,.stmts (iR st),bS st,mainGlobals,[],.none,builtinsNs,some (cR st))
theorem aDP{h:Heap}{st:Stmt}(e:wY h (cR st)=some (aBY st)):∃fa fd,nsIn (jP h) mainGlobals (cR st)=some (some (.ref fa))/\Fun (jP h) (cR st) (cR st) st fa fd:=by
 unfold wY at e
 split at e
 . rename_i a hn
   split at e
   . rename_i c d fd sl ho
     obtain⟨n,qn,ps,b,sc,g,cl,df,kd,doc,pm,an,cd,ct,bn⟩:=fd
     unfold aBY at e
     simp only[Option.some.injEq,Prod.mk.injEq] at e
     obtain⟨rfl,rfl,rfl,rfl,rfl,rfl,rfl,rfl,rfl,hc⟩:=e
     refine⟨a,_,by rw[gO];exact hn,⟨⟨c,d,kd,doc,pm,an,cd,ct,sl,rfl,by rw[cW];exact ho,aAx hc⟩,?_⟩⟩
     unfold keepIn
     simp only[cW,ho]
   . cases e
 . cases e
theorem uQ{α:Type}{x:Str}{u:α}:∀{ps:List Str} {us:List α},ps.Nodup->ps.length=us.length->(x,u)∈ps.zip us->(ps.zip us).lookup x=some u
 | [],_,_,_,h=>by simp at h
 | p::ps,[],_,h,_=>by simp at h
 | p::ps,v::us,hn,hl,h=>by
  rw[List.zip_cons_cons] at h ⊢
  obtain⟨h1,h2⟩:=List.nodup_cons.mp hn
  rcases List.mem_cons.mp h with h|h
  . cases h;simp[List.lookup]
  . have hx:x∈ps:=(List.of_mem_zip h).1
    have:(x==p)=false:=beq_eq_false_iff_ne.mpr λz=>h1 (z▸hx)
    simp only[List.lookup,this]
    exact uQ h2 (by simpa using hl) h
theorem aBZ{α:Type}(L:List (Str×α)):∀{ps:List Str} {us:List α},ps.length=us.length->(∀p∈ps.zip us,L.lookup p.1=some p.2)->(ps.filterMap λn=>(L.lookup n).map (n,·))=ps.zip us
 | [],_,_,_=>by simp
 | p::ps,[],h,_=>by simp at h
 | p::ps,v::us,hl,h=>by
  rw[List.zip_cons_cons,List.filterMap_cons,h (p,v) (by simp),aBZ L (ps:=ps) (us:=us) (by simpa using hl) λq hq=>h q (by rw[List.zip_cons_cons];exact List.mem_cons_of_mem _ hq)]
  rfl
theorem aCa{α:Type}(L:List (Str×α)):∀{ps:List Str} {us:List α},ps.length=us.length->(∀p∈ps.zip us,L.lookup p.1=some p.2)->(ps.filter λn=>(L.lookup n).isNone)=[]
 | [],_,_,_=>by simp
 | p::ps,[],h,_=>by simp at h
 | p::ps,v::us,hl,h=>by
  rw[List.filter_cons,h (p,v) (by simp),aCa L (ps:=ps) (us:=us) (by simpa using hl) λq hq=>h q (by rw[List.zip_cons_cons];exact List.mem_cons_of_mem _ hq)]
  rfl
def iV(a:Arguments)(ps:List Str):Bool:=match a with
 | ⟨[],as,none,[],[],none,[]⟩=>decide (as.map (·.arg)=ps)&&decide ps.Nodup
 | _=>false
theorem oO{x q:Str}{a:Arguments}{b:List Stmt}{sc:Scope}{kV doc pm:Value}{an:Option Addr}{cdv ct:Value}{ps:List Str}{us:List Value}(h:iV a ps=true)(hl:us.length=ps.length) :
 bindArgs (fnOf x q a b sc .none kV doc pm an cdv ct) ⟨us,[]⟩=pure (ps.zip us):=by
 unfold iV at h
 split at h
 . rename_i as
   obtain⟨h1,h2⟩:=Bool.and_eq_true_iff.mp h
   have h1:=of_decide_eq_true h1
   have h2:=of_decide_eq_true h2
   have z:∀p∈ps.zip us,(ps.zip us).lookup p.1=some p.2:=λp hp=>uQ h2 hl.symm hp
   have e1:=aCa (ps.zip us) hl.symm z
   have e2:=aBZ (ps.zip us) hl.symm z
   unfold bindArgs
   have e3:∀s:Value,s=.none->(seqItems? s)=pure none:=λs e=>by subst e;rfl
   simp only[mN,List.nil_append,h1,e3,List.forIn_nil,pure_bind,hl,gt_iff_lt,Nat.lt_irrefl,decide_false,Bool.false_and,Option.getD_none,lN,Nat.zero_sub,List.drop_nil,Nat.sub_zero,List.take_length,e1,List.isEmpty_nil,Bool.not_true,List.drop_length,List.zip_nil_right,List.append_nil,e2,if_false,bF]
 . cases h
def uR(s:Stmt):Bool:=match s with
 | .FunctionDef _ _ _ _ _ _ _ _ _ _=>true
 | _=>false
def aCb:D->Value->Bool
 | .int i,.int j _=>decide (i=j)
 | .str a,.str b _=>Fast.sEq a b
 | .non,.none=>true
 | .bl a,.bool b=>a==b
 | _,_=>false
def wZ(h:Heap)(c:Str×D):Bool:=match lT h c.1 with
 | some (some u)=>aCb c.2 u
 | _=>false
def kO:Value->Option Str
 | .str x _=>some x
 | _=>none
abbrev aCc:=Int×Option Str×Option (Value×List (Option Str))
def nF(h:Heap)(e:DictEntry):aCc:=(e.hash,kO e.key,match e.val with
 | .ref b=>(match h.get? b with
  | some ⟨c,_,.seq its _,_⟩=>some (c,its.toList.map kO)
  | _=>none)
 | _=>none)
def rZ(h:Heap)(x:Str):Option (Bool×Value×Option Addr×Array (Option Value)×List aCc):=match lT h x with
 | some (some (.ref a))=>(match h.get? a with
  | some ⟨c,d,.dict es _,sl⟩=>some (a==sysModules,c,d,sl,es.toList.map (nF h))
  | _=>none)
 | _=>none
def sA(w:World)(p:Str×List Str):aCc:=(hashStr w p.1,some p.1,some (.type "tuple",p.2.map some))
def xA(w:World)(t:List (Str×List Str)):Option (Bool×Value×Option Addr×Array (Option Value)×List aCc):=some (false,.type "dict",none,#[],t.map (sA w))
def aAy(t:List (Str×List Str)):List (Str×D):=t.map λp=>(p.1,.tup (p.2.map D.str))
theorem yU:∀{us:List Value} {xs:List Str},us.map kO=xs.map some->aU (xs.map V.str) us
 | [],[],_=>.nil
 | [],_::_,h=>by cases h
 | _::_,[],h=>by cases h
 | u::us,x::xs,h=>by
  rw[mC,mC] at h
  obtain⟨h1,h2⟩:=List.cons.inj h
  refine .cons ?_ (yU h2)
  unfold kO at h1
  split at h1
  . cases h1;exact⟨_,rfl⟩
  . cases h1
theorem aGQ{h:Heap}{w:World}{e:DictEntry}{p:Str×List Str}(q:nF h e=sA w p)(hl:p.2.length<=1000):ER w (jP h) e (p.1,.tup (p.2.map D.str)):=by
 unfold nF sA at q
 simp only[Prod.mk.injEq] at q
 obtain⟨q1,q2,q3⟩:=q
 refine⟨q1,?_,?_⟩
 . unfold kO at q2
   split at q2
   . rename_i y tk he
     exact⟨tk,by rw[he];exact congrArg (λz=>Value.str z tk) (Option.some.inj q2)⟩
   . cases q2
 . split at q3
   . rename_i b he
     split at q3
     . rename_i c d its n sl ho
       have q3:=Option.some.inj q3
       simp only[Prod.mk.injEq] at q3
       obtain⟨e1,e2⟩:=q3
       subst e1
       have hz:=congrArg List.length e2
       rw[lM,lM] at hz
       exact⟨.ref b,by rw[he];rfl,aBU (by rw[cW];exact ho) p.2 (by rw[<-Array.length_toList,hz];exact hl) (yU e2)⟩
     . cases q3
   . cases q3
theorem qJ{h:Heap}{w:World}:∀{es:List DictEntry} {t:List (Str×List Str)},es.map (nF h)=t.map (sA w)->(∀p∈t,p.2.length<=1000)->Paired (ER w (jP h)) es (aAy t)
 | [],[],_,_=>.nil
 | [],_::_,q,_=>by cases q
 | _::_,[],q,_=>by cases q
 | e::es,p::t,q,hl=>by
  rw[mC,mC] at q
  obtain⟨h1,h2⟩:=List.cons.inj q
  exact .cons (aGQ h1 (hl p (List.mem_cons_self ..))) (qJ h2 λp' hp=>hl p' (List.mem_cons_of_mem _ hp))
def yV(t:List (Str×List Str)):Bool:=(t.all λp=>decide (p.2.length<=1000))&&decide (t.map (·.1)).Nodup
theorem aCd{prog:Program}{h:Heap}{w:World}{x:Str}{t:List (Str×List Str)}(e:rZ h x=xA w t)(ok:yV t=true):∃a,nsIn (jP h) mainGlobals x=some (some (.ref a))/\pY prog w (jP h) a (aAy t):=by
 unfold yV at ok
 rw[bA,List.all_eq_true] at ok
 unfold rZ xA at e
 split at e
 . rename_i a hn
   split at e
   . rename_i c d es ep sl ho
     have e:=Option.some.inj e
     simp only[Prod.mk.injEq] at e
     obtain⟨e1,rfl,rfl,rfl,e5⟩:=e
     refine⟨a,(gO h x).trans hn,aGN e1 (by rw[cW];exact ho) (qJ e5 λp hp=>of_decide_eq_true (ok.1 p hp)) ?_⟩
     unfold aAy
     rw[List.map_map]
     exact of_decide_eq_true ok.2
   . cases e
 . cases e
structure Sn where
 cns:List (Str×D)
 tbs:List (Str×List (Str×List Str))
abbrev aEI:=List (Option Pin)×List (Option (Option Value))×Bool×List (Option (Bool×Value×Option Addr×Array (Option Value)×List aCc))
def iW(p:Program)(n:Sn)(h:Heap):aEI:=
 ((p.main.body.filter uR).map (λst=>wY h (cR st)),bltNames.map (lT h),n.cns.all (wZ h),n.tbs.map (λq=>rZ h q.1))
def lU(p:Program)(n:Sn)(w:World):aEI:=
 ((p.main.body.filter uR).map (λst=>some (aBY st)),bltNames.map (λ_=>some none),true,n.tbs.map (λq=>xA w q.2))
def uS(p:Program)(i:Nat):Stmt:=p.main.body.getD i (.Pass ⟨0,0,0,0⟩)
def mZ(p:Program)(c:Nat×List Str):Tx:=⟨cR (uS p c.1),cR (uS p c.1),uS p c.1,c.2⟩
theorem aGR{p:Program}{i:Nat}(h:uR (uS p i)=true):uS p i∈p.main.body:=by
 unfold uS at h ⊢
 rw[List.getD_eq_getElem?_getD] at h ⊢
 cases e:p.main.body[i]? with
 | none=>rw[e] at h;cases h
 | some s=>exact mG e
theorem aDQ{h:Heap}{c:Str×D}(e:wZ h c=true):∃u v,nsIn (jP h) mainGlobals c.1=some (some u)/\bP v u/\∀H ex,Rep (jP h) H ex c.2 v:=by
 unfold wZ at e
 split at e
 . rename_i u hn
   obtain⟨x,d⟩:=c
   have e:aCb d u=true:=e
   unfold aCb at e
   split at e
   . cases of_decide_eq_true e;exact⟨_,.int _,(gO _ _).trans hn,⟨_,rfl⟩,λ_ _=>rfl⟩
   . cases Fast.sEq_iff.mp e;exact⟨_,.str _,(gO _ _).trans hn,⟨_,rfl⟩,λ_ _=>rfl⟩
   . exact⟨_,.non,(gO _ _).trans hn,rfl,λ_ _=>rfl⟩
   . cases eq_of_beq e;exact⟨_,.bl _,(gO _ _).trans hn,rfl,λ_ _=>rfl⟩
   . cases e
 . cases e
theorem aGS{prog p:Program}{w:World}{h0 h:Heap}{mg:Str->Option Value}{P:Pg}{Γ:Ct}{ix:List (Nat×List Str)}{n:Sn}(S:iW p n h0=lU p n w)(k:∀b o,h0.get? b=some o->h.get? b=some o)(G:h.Ns mainGlobals mg)
 (hi:(ix.all λc=>uR (uS p c.1))=true) (h1:Γ.fns=(ix.map (mZ p)).map (·.x)) (h2:Γ.cns=n.cns) (h3:Γ.tbs=n.tbs.map (·.1)) (h4:P.tabs=n.tbs.map λq=>aAy q.2) (h5:(n.tbs.all λq=>yV q.2)=true)
 (hb:((P.fns.zip (ix.map (mZ p))).all λq=>iV (iQ q.2.st) (q.2.N.take q.1.np))=true) (chk:iF Γ P.fns (ix.map (mZ p))=true) :
 Top prog w (jP h0) mg P Γ (ix.map (mZ p)):=by
 unfold iW lU at S
 simp only[Prod.mk.injEq] at S
 obtain⟨s1,s2,s3,s4⟩:=S
 have X:=yT k
 exact {
  fn:=λf t ht=>by
   rw[List.getElem?_map] at ht
   obtain⟨c,hc,rfl⟩:=Option.map_eq_some_iff.mp ht
   have hd:=List.all_eq_true.mp hi c (mG hc)
   obtain⟨fa,fd,g1,g2⟩:=aDP (List.map_inj_left.mp s1 _ (List.mem_filter.mpr ⟨aGR hd,hd⟩))
   refine⟨fa,fd,mg_of X G g1,g2,λF hF=>g2.binds λkV doc pm an cdv ct us hl=>oO (List.all_eq_true.mp hb (F,mZ p c) (mG (i:=f) ?_)) hl⟩
   rw[List.getElem?_zip_eq_some]
   exact⟨hF,by rw[List.getElem?_map,hc];rfl⟩
  fns:=λf x hx=>by
   rw[h1,List.getElem?_map] at hx
   obtain⟨t,ht,rfl⟩:=Option.map_eq_some_iff.mp hx
   exact⟨t,ht,rfl⟩
  blt:=λx hx=>mg_none_of X G ((gO h0 x).trans (List.map_inj_left.mp s2 x hx))
  cns:=λx d hx=>by
   rw[h2] at hx
   obtain⟨u,v,g1,g2⟩:=aDQ (List.all_eq_true.mp s3 _ (PySem.mem_of_lookup hx))
   exact⟨u,v,mg_of X G g1,g2⟩
  tab:=λi x hx=>by
   rw[h3,List.getElem?_map] at hx
   obtain⟨q,hq,rfl⟩:=Option.map_eq_some_iff.mp hx
   have hm:=mG hq
   obtain⟨a,g1,g2⟩:=aCd (prog:=prog) (List.map_inj_left.mp s4 q hm) (List.all_eq_true.mp h5 q hm)
   exact⟨a,aAy q.2,mg_of X G g1,by rw[h4,List.getElem?_map,hq];rfl,g2⟩
  chk:=chk }
theorem aCe{l:PySem.W.OpenLaw}{n k:Nat}{q:Program}{loose:List Str}{XP:(Str->Option Value)->Heap->Prop}{YP:World->Heap->Prop}{d:DefRec}{sp:PySem.W.Frag->Sp}{x:Str}(hn:l.most=some n)(hn2:n<=sizeLine)(hdf:d.params.defaults=[])(hr:jH k callerA)
 (F:∀(w:World) (mg:Str->Option Value) (fa:Addr) (h:Heap),YP w h->h.Ns mainGlobals mg->mg d.name=some (.ref fa)->∃K:PySem.W.Frag,K.In h/\∃fd:FuncData,(∀(s:Shared) (u:Value),BindsTo s fd ⟨[u],[]⟩ [(x,u)])/\∀base:Heap,K.In base->base.Ns mainGlobals mg->mW l.prog w K mg base CX0 k fa fd [x] (sp K))
 (hsp:∀(K:PySem.W.Frag) (H:Hp) (a:Addr) (ns:List Int),ns.length<=n->aDg H->SqL K H a (ns.map V.int)->sp K [.ref a] H (λv _=>v=.bl true) λ_ _ _=>False):PySem.W.WalkO q loose XP YP l.row.toRowW d [] (λf vs=>PySem.call f vs):=by
 refine Att.attach_call hn hdf λw s₀ s₁ mg mb fa o pm cd doc a vs ns G Y ho hd hcd hmg hobj hints hlen hg=>?_
 obtain⟨K,KX,fd,hb,hF⟩:=F w mg fa _ Y G.T.g hmg
 exact aBh KX G.T.g G.T.b G.T.builtins G.T.nolimit hg hobj hints (Nat.le_trans hlen hn2) hr hF hb (λH hO hS=>hsp K H a ns hlen hO hS) λ_ _ _ z=>z
def lst(p:Program):Stmt:=p.main.body.getLastD (.Pass ⟨0,0,0,0⟩)
def qK(p:Program):Program:={ p with main:={ p.main with body:=[lst p] } }
def sB(p:Program):List Str:=(p.main.scope.names.map (·.1)).filter λx=>!(Fast.sEq x (cR (lst p)))
def aGT(s:Stmt):Pos:=match s with
 | .FunctionDef _ _ _ _ _ _ _ _ _ p=>p
 | _=>⟨0,0,0,0⟩
def jQ(p:Program):DefRec:=⟨cR (lst p),iQ (lst p),iR (lst p),bS (lst p),aGT (lst p)⟩
theorem aGU{l:PySem.W.OpenLaw}{P:Pg}{n:Sn}{ix:List (Nat×List Str)}{k f N:Nat}{x:Str}{sl:List Str}(said:l.row.wellSaid=true)(left:LeftO l.prog (qK l.prog) (sB l.prog) (λ_=>true) (λs=>iW l.prog n s.heap) (λw=>lU l.prog n w) N)
 (hdef:defOf (qK l.prog) l.name=some (jQ l.prog,[])) (hp:l.prog.theDef l.name=some ((jQ l.prog).params,(jQ l.prog).body,(jQ l.prog).scope)) (hk:kwWritten? (jQ l.prog).params.kwonlyargs (jQ l.prog).params.kw_defaults=some []) (hwr:(!l.writes||([]:WRecords).isEmpty)=true)
 (ok:(chainsOk (qK l.prog)&&opensWell l.prog&&(frees l.row.toRowW&&l.row.within.isEmpty))=true) (hb:l.prog.bare) (hw:l.row.toRowW.promised) (hn:l.most=some 63) (hdf:(jQ l.prog).params.defaults=[])
 (hi:(ix.all λc=>uR (uS l.prog c.1))=true) (hbd:((P.fns.zip (ix.map (mZ l.prog))).all λq=>iV (iQ q.2.st) (q.2.N.take q.1.np))=true) (chk:iF ⟨[],[],(ix.map (mZ l.prog)).map (·.x),n.cns,[],true,n.tbs.map (·.1)⟩ P.fns (ix.map (mZ l.prog))=true)
 (h4:P.tabs=n.tbs.map λq=>aAy q.2) (h5:(n.tbs.all λq=>yV q.2)=true) (hr:jH (k+1) callerA) (hx:(ix.map (mZ l.prog))[f]? = some ⟨cR (lst l.prog),cR (lst l.prog),lst l.prog,x::sl⟩) (hnp:(P.fns[f]?).map (·.np)=some 1)
 (pure:∀ns:List Int,ns.length<=63->∃fr pa,Hp.call P (k+1) f [.lst (ns.map D.int)]=.ok (.bl true,fr,pa)):l.row.Holds:=by
 refine holds_open (XP:=λ_ _=>True) (YP:=λw h=>∃h0,iW l.prog n h0=lU l.prog n w/\∀b o,h0.get? b=some o->h.get? b=some o) left (λw s e=>⟨s.heap,e,λ_ _ z=>z⟩) (λw h h' ⟨h0,e,k⟩ k'=>⟨h0,e,λb o z=>k' b o (k b o z)⟩) (λ_ _=>trivial) (λ_ _ _ _ _=>trivial) hdef hp hk (λ_ _=>recFacts_nil rfl) hwr said ok hb hw ?_
 obtain⟨F,hF,hFn⟩:=Option.map_eq_some_iff.mp hnp
 refine aCe (sp:=λK=>spF K P (k+1) f) (x:=x) hn (by decide) hdf hr (λw mg fa h ⟨h0,e,kk⟩ G hmg=>?_) λK H a ns hl hO hS=>aGM hO hS (pure ns hl)
 have T:=aGS (prog:=l.prog) (w:=w) (P:=P) (Γ:=⟨[],[],(ix.map (mZ l.prog)).map (·.x),n.cns,[],true,n.tbs.map (·.1)⟩) e kk G hi rfl rfl rfl h4 h5 hbd chk
 obtain⟨fa',fd,g1,g2,g3⟩:=T.fn f _ hx
 have e:=hmg.symm.trans g1
 cases e
 have b:=g3 F hF
 refine⟨jP h0,yT kk,fd,λs u=>?_,λbase _ _=>?_⟩
 . obtain⟨oc,od,kV,doc,pm,an,cdv,ct,osl,rfl,lk,hcd⟩:=g2.ex
   refine .of_eq ((oO (ps:=[x]) ?_ rfl).trans rfl)
   have:=List.all_eq_true.mp hbd (F,_) (mG (i:=f) (List.getElem?_zip_eq_some.mpr ⟨hF,hx⟩))
   rw[hFn] at this
   exact this
 . have:=aGL (base:=base) T hx hF g2 k
   rw[hFn] at this
   exact this
end Hh
end
noncomputable section
namespace Hp
open PySem (Str Operator CmpOp)
section
variable {P:Pg} {cl:Caller} {σ:Sg}
@[simp] theorem aA {α β:Type} (a:α) (f:α->R β):((R.ok a:R α) >>= f)=f a:=id rfl
@[simp] theorem qL {α:Type} (x:R α):R.iff true x=x:=id rfl
@[simp] theorem aLI {α:Type} (x:α):R.of (some x)=.ok x:=id rfl
@[simp] theorem aF {α:Type} (a:α) (f:α->O):O.from σ (.ok a) f=f a:=id rfl
@[simp] theorem kP (f:Sg->O):(O.next σ).on f=f σ:=id rfl
@[simp] theorem gW (v:Vl) (f:Sg->O):(O.ret v).on f=.ret v:=id rfl
@[simp] theorem bI (d:D):ev P cl σ (.c d)=.ok (.cl d):=id rfl
@[simp] theorem cO (i:Nat):ev P cl σ (.v i)=aX σ i:=id rfl
@[simp] theorem eT (o:Operator) (a b:E):ev P cl σ (.op o a b)=(ev P cl σ a >>= λx=>ev P cl σ b >>= λy=>opD o x y):=id rfl
@[simp] theorem aLd (a:E):ev P cl σ (.neg a)=(ev P cl σ a >>= λx=>match x.d with|.int i=>.ok (.cl (.int (-i)))|_=>.bad):=id rfl
@[simp] theorem aJA (a:E):ev P cl σ (.nt a)=(ev P cl σ a >>= λx=>fL x >>= λk=>.ok (.cl (.bl (!k)))):=id rfl
@[simp] theorem aJB (a b:E):ev P cl σ (.an a b)=(ev P cl σ a >>= λx=>match x.d with|.bl true=>ev P cl σ b|.bl false=>.ok (.cl (.bl false))|_=>.bad):=id rfl
@[simp] theorem aGV (a b:E):ev P cl σ (.orr a b)=(ev P cl σ a >>= λx=>match x.d with|.bl true=>.ok (.cl (.bl true))|.bl false=>ev P cl σ b|_=>.bad):=id rfl
@[simp] theorem xB (t a b:E):ev P cl σ (.ife t a b)=(tst P cl σ t >>= λx=>if x then ev P cl σ a else ev P cl σ b):=id rfl
@[simp] theorem aGW (o:CmpOp) (a b:E):ev P cl σ (.cmp o a b)=(ev P cl σ a >>= λx=>ev P cl σ b >>= λy=>match bL o x.d y.d with|some k=>.ok (.cl (.bl k))|none=>.bad):=id rfl
@[simp] theorem aKe (o o':CmpOp) (a b c:E):ev P cl σ (.cmp2 o o' a b c)=(ev P cl σ a >>= λx=>ev P cl σ b >>= λy=>match bL o x.d y.d with
 | some true=>ev P cl σ c >>= λz=>(match bL o' y.d z.d with|some k=>.ok (.cl (.bl k))|none=>.bad)
 | some false=>.ok (.cl (.bl false))
 | none=>.bad):=id rfl
@[simp] theorem cX (a b:E):ev P cl σ (.idx a b)=(ev P cl σ a >>= λx=>ev P cl σ b >>= λy=>bV x y):=id rfl
@[simp] theorem aGX (es:Es):ev P cl σ (.tup es)=(evs P cl σ es >>= λvs=>.ok (pW vs)):=id rfl
@[simp] theorem xC (es:Es):ev P cl σ (.lst es)=(evs P cl σ es >>= λvs=>.ok (nS vs)):=id rfl
@[simp] theorem cG (f:Nat) (es:Es):ev P cl σ (.call f es)=(evs P cl σ es >>= λvs=>cl f (vs.map (·.d)) >>= λr=>.ok (gY vs r)):=id rfl
@[simp] theorem fD (b:Bi) (es:Es):ev P cl σ (.bi b es)=(evs P cl σ es >>= λvs=>biD b vs):=id rfl
@[simp] theorem aLe (m:Mt) (o:E) (es:Es):ev P cl σ (.mth m o es)=(ev P cl σ o >>= λx=>evs P cl σ es >>= λys=>mtD m x ys):=id rfl
@[simp] theorem aLf (a:E) (cs:List Cl):ev P cl σ (.isi a cs)=(ev P cl σ a >>= λx=>match isI cs P x.d with|some k=>.ok (.cl (.bl k))|none=>.bad):=id rfl
@[simp] theorem aKf (a:E) (h:E):ev P cl σ (.sli a .nil (.cons h .nil))=(ev P cl σ a >>= λx=>ev P cl σ h >>= λh=>match h.d with|.int h=>.iff (aG h) (eG x none (some h))|_=>.bad):=by
 show(ev P cl σ a >>= λx=>evs P cl σ .nil >>= λl=>evs P cl σ (.cons h .nil) >>= λh=>_)=_
 cases ev P cl σ a with
 | ok x=>
  show(evs P cl σ (.cons h .nil) >>= λh=>_)=(ev P cl σ h >>= λh=>_)
  show((ev P cl σ h >>= λx=>evs P cl σ .nil >>= λxs=>R.ok (x::xs)) >>= λh=>_)=_
  cases ev P cl σ h <;> rfl
 | exc e=>rfl
 | bad=>rfl
theorem nG(k:Nat)(caps:List Nat)(t:T)(it:It)(cond:Es)(elt:E):ev P cl σ (.comp k caps t it cond elt)=(walk P cl σ it >>= λxs=>
 dC (λx=>bG (List.replicate k .dead++caps.map λi=>((freeze σ xs.2)[i]?).getD .dead) x t >>= λσ1=>tsts P cl σ1 cond >>= λk=>if k then (ev P cl σ1 elt >>= λy=>.ok (some y)) else .ok none) xs.1 >>= λvs=>
 .iff (decide (vs.length<=lim)) (.ok (hZ k caps xs.2 vs))):=rfl
@[simp] theorem aHw (a:E):ev P cl σ (.numset a)=(ev P cl σ a >>= λx=>match x.d with
 | .lst ds=>(match rL ds with|some ks=>.iff (decide (ds.length<=1000)) (.ok (.cl (.int (aBi ks).length)))|none=>.bad)
 | _=>.bad):=id rfl
@[simp] theorem aT:evs P cl σ .nil=.ok []:=id rfl
@[simp] theorem aE (e:E) (es:Es):evs P cl σ (.cons e es)=(ev P cl σ e >>= λx=>evs P cl σ es >>= λxs=>.ok (x::xs)):=id rfl
@[simp] theorem iG (a:E):tst P cl σ (.nt a)=(tst P cl σ a >>= λx=>.ok (!x)):=id rfl
@[simp] theorem aCf (a b:E):tst P cl σ (.an a b)=(tst P cl σ a >>= λx=>if x then tst P cl σ b else .ok false):=id rfl
@[simp] theorem eL (a b:E):tst P cl σ (.orr a b)=(tst P cl σ a >>= λx=>if x then .ok true else tst P cl σ b):=id rfl
@[simp] theorem aLF (d:D):tst P cl σ (.c d)=fL (.cl d):=id rfl
@[simp] theorem aEJ (i:Nat):tst P cl σ (.v i)=(aX σ i >>= λx=>fL x):=id rfl
@[simp] theorem bR (o:CmpOp) (a b:E):tst P cl σ (.cmp o a b)=(ev P cl σ a >>= λx=>ev P cl σ b >>= λy=>match bL o x.d y.d with|some k=>.ok k|none=>.bad):=id rfl
@[simp] theorem oP (o o':CmpOp) (a b c:E):tst P cl σ (.cmp2 o o' a b c)=(ev P cl σ a >>= λx=>ev P cl σ b >>= λy=>match bL o x.d y.d with
 | some true=>ev P cl σ c >>= λz=>(match bL o' y.d z.d with|some k=>.ok k|none=>.bad)
 | some false=>.ok false
 | none=>.bad):=id rfl
@[simp] theorem iH (f:Nat) (es:Es):tst P cl σ (.call f es)=(evs P cl σ es >>= λvs=>cl f (vs.map (·.d)) >>= λr=>fL (gY vs r)):=id rfl
@[simp] theorem yW (a:E) (cs:List Cl):tst P cl σ (.isi a cs)=(ev P cl σ a >>= λx=>match isI cs P x.d with|some k=>.ok k|none=>.bad):=id rfl
@[simp] theorem aKg (a b:E):tst P cl σ (.idx a b)=(ev P cl σ a >>= λx=>ev P cl σ b >>= λy=>bV x y >>= λz=>fL z):=id rfl
@[simp] theorem aCg:tsts P cl σ .nil=.ok true:=id rfl
@[simp] theorem aAz (e:E) (es:Es):tsts P cl σ (.cons e es)=(tst P cl σ e >>= λx=>if x then tsts P cl σ es else .ok false):=id rfl
@[simp] theorem kQ (a b:E):walk P cl σ (.rng a b)=(ev P cl σ a >>= λx=>ev P cl σ b >>= λy=>match x.d,y.d with|.int i,.int j=>.iff (aG i&&aG j) (.ok ((cA i j).map .cl,[]))|_,_=>.bad):=id rfl
@[simp] theorem eB (e:E):walk P cl σ (.seq e)=(ev P cl σ e >>= λx=>match x.d with
 | .lst ds=>.ok (items x ds,x.al)
 | .tup ds=>.ok (items x ds,x.al)
 | .str a=>.iff (decide (a.length<=lim)) (.ok (a.cps.toList.map λn=>.cl (.str ⟨#[n]⟩),[]))
 | _=>.bad):=id rfl
@[simp] theorem oQ (a b:E):walk P cl σ (.zip a b)=(ev P cl σ a >>= λx=>ev P cl σ b >>= λy=>match gF x.d,gF y.d with
 | some as,some bs=>.ok (items ⟨.non,false,x.pa||y.pa,x.al++y.al⟩ (gE as bs),x.al++y.al)
 | _,_=>.bad):=id rfl
@[simp] theorem dJ (t:T) (e:E):ex P cl σ (.set t e)=O.from σ (ev P cl σ e) λv=>O.from σ (bG (freeze σ v.al) v t) .next:=id rfl
@[simp] theorem aGY (i:Nat) (e:E):ex P cl σ (.app i e)=O.from σ (ev P cl σ e) λv=>put σ i v λds=>some (ds++[v.d]):=id rfl
@[simp] theorem aCh (i:Nat) (e:E):ex P cl σ (.ext i e)=O.from σ (ev P cl σ e) λv=>match nT v with|some (v',ds')=>put σ i v' λds=>some (ds++ds')|none=>.bad:=id rfl
@[simp] theorem aLg (i:Nat):ex P cl σ (.clr i)=put σ i (.cl .non) λ_=>some []:=id rfl
@[simp] theorem uT (i:Nat) (k e:E):ex P cl σ (.setIx i k e)=O.from σ (ev P cl σ e) λv=>O.from σ (ev P cl σ k) λkv=>match kv.d with
 | .int k=>put σ i v λds=>(match ixN ds.length k with|some j=>some (ds.set j v.d)|none=>none)
 | _=>.bad:=id rfl
@[simp] theorem iI (e:E):ex P cl σ (.ret e)=O.from σ (ev P cl σ e) .ret:=id rfl
@[simp] theorem bJ (c:E) (a b:Ss):ex P cl σ (.iff c a b)=O.from σ (tst P cl σ c) λk=>if k then exs P cl σ a else exs P cl σ b:=id rfl
theorem fN(t:T)(it:It)(b:Ss):ex P cl σ (.for t it b)=O.from σ (walk P cl σ it) λxs=>bZ (λσ x=>O.from σ (bG σ x t) λσ'=>exs P cl σ' b) xs.1 (freeze σ xs.2):=rfl
@[simp] theorem aLh (i j:Nat):ex P cl σ (.mov i j)=(match σ[j]? with
 | some (.own pa ds)=>if i=j then .bad else .next ((σ.set j .dead).set i (.own pa ds))
 | some (.sh pa d)=>.next (σ.set i (.sh (pa&&!noL d) d))
 | _=>.bad):=id rfl
@[simp] theorem nH (i:Nat):ex P cl σ (.retv i)=(match σ[i]? with|some (.own pa ds)=>.ret ⟨.lst ds,true,pa,[]⟩|_=>O.from σ (aX σ i) .ret):=id rfl
@[simp] theorem aJC (i:Nat) (k:E):ex P cl σ (.pop none i (some k))=O.from σ (ev P cl σ k >>= λv=>match v.d with|.int k=>.iff (aG k) (.ok (some k))|_=>.bad) λk=>O.from σ (aBo σ i k) λr=>.next r.2:=id rfl
@[simp] theorem cH:exs P cl σ .nil=.next σ:=id rfl
@[simp] theorem aW (s:S) (ss:Ss):exs P cl σ (.cons s ss)=(ex P cl σ s).on λσ'=>exs P cl σ' ss:=id rfl
end
theorem aN{P:Pg}{cl:Caller}{f:Nat}{F:Fn}{ds:List D}(hF:P.fns[f]? = some F)(hl:ds.length=F.np){v:Vl}
 (h:exs P cl ((ds.map λd=>Sl.sh true d)++List.replicate (F.ns-F.np) Sl.dead) F.body=.ret v):jV P cl f ds=.ok (v.d,v.fr,v.pa):=by
 unfold jV
 rw[hF]
 simp only[hl,if_true,h]
theorem oR{f:Sg->Vl->O}:∀(xs:List Vl) (I:Nat->Sg->Prop) (σ:Sg),I 0 σ->(∀(i:Nat) (h:i<xs.length) (σ:Sg),I i σ->∃σ',f σ xs[i]=.next σ'/\I (i+1) σ')->∃σ',bZ f xs σ=.next σ'/\I xs.length σ'
 | [],I,σ,h0,_=>⟨σ,rfl,h0⟩
 | x::xs,I,σ,h0,hs=>by
  obtain⟨σ1,e1,h1⟩:=hs 0 (by simp) σ h0
  obtain⟨σ2,e2,h2⟩:=oR xs (λi=>I (i+1)) σ1 h1 λi h σ hI=>by
   have:=hs (i+1) (by simpa using h) σ hI
   simpa using this
  refine⟨σ2,?_,by simpa using h2⟩
  have e1:f σ x=.next σ1:=by simpa using e1
  unfold bZ
  rw[e1]
  exact e2
theorem oT{f:Vl->R (Option Vl)}{g:Vl->Vl}:∀{xs:List Vl},(∀x∈xs,f x=.ok (some (g x)))->dC f xs=.ok (xs.map g)
 | [],_=>rfl
 | x::xs,h=>by
  have h1:=h x List.mem_cons_self
  have h2:=oT (f:=f) (g:=g) (xs:=xs) λy hy=>h y (List.mem_cons_of_mem _ hy)
  show(f x >>= λy=>dC f xs >>= λys=>(match y with|some y=>R.ok (y::ys)|none=>R.ok ys))=_
  rw[h1,h2]
  rfl
theorem lV(n:Nat):(cA 0 (n:Int)).map Vl.cl=(List.range n).map λ(k:Nat)=>Vl.cl (.int (k:Int)):=by
 unfold cA
 rw[List.map_map]
 simp
theorem yX{P:Pg}{cl:Caller}{σ:Sg}{k:Nat}{caps:List Nat}{t:T}{it:It}{elt:E}{xs:List Vl}{al:List Nat}(g:Vl->Vl)(hw:walk P cl σ it=.ok (xs,al))(hl:xs.length<=lim)
 (hb:∀x∈xs,∃σ1,bG (List.replicate k .dead++caps.map λi=>((freeze σ al)[i]?).getD .dead) x t=.ok σ1/\ev P cl σ1 elt=.ok (g x)):ev P cl σ (.comp k caps t it .nil elt)=.ok (hZ k caps al (xs.map g)):=by
 rw[nG,hw,aA,oT (g:=g) λx hx=>by
  obtain⟨σ1,e1,e2⟩:=hb x hx
  show(bG _ x t >>= λσ1=>_)=_
  rw[e1]
  show(ev P cl σ1 elt >>= λy=>R.ok (some y))=_
  rw[e2]
  rfl]
 have hl2:decide ((xs.map g).length<=lim)=true:=decide_eq_true (by rw[lM];exact hl)
 rw[aA,hl2,qL]
theorem lW{P:Pg}{cl:Caller}{σ:Sg}{t:T}{it:It}{b:Ss}{xs:List Vl}{al:List Nat}(I:Nat->Sg->Prop)(hw:walk P cl σ it=.ok (xs,al))(h0:I 0 (freeze σ al))
 (hs:∀(i:Nat) (h:i<xs.length) (σ:Sg),I i σ->∃σ1 σ',bG σ xs[i] t=.ok σ1/\exs P cl σ1 b=.next σ'/\I (i+1) σ'):∃σ',ex P cl σ (.for t it b)=.next σ'/\I xs.length σ':=by
 rw[fN,hw]
 refine oR xs I _ h0 λi h σ hI=>?_
 obtain⟨σ1,σ',e1,e2,h'⟩:=hs i h σ hI
 refine⟨σ',?_,h'⟩
 show O.from σ (bG σ xs[i] t) _=_
 rw[e1]
 exact e2
theorem nI:aG 0=true:=by decide
theorem iX{n:Nat}(hn:n<=1000000):aG (n:Int)=true:=by
 unfold aG
 rw[bA,decide_eq_true_eq,decide_eq_true_eq]
 exact⟨Int.le_trans (b:=0) (by decide) (Int.natCast_nonneg n),Int.lt_of_le_of_lt (b:=1000000) (by omega) (by decide)⟩
theorem xD{P:Pg}{cl:Caller}{σ:Sg}{a:E}{v:Vl}{n:Nat}(h:ev P cl σ a=.ok v)(hd:v.d=.int n)(hn:n<=1000000):walk P cl σ (.rng (.c (.int 0)) a)=.ok ((List.range n).map λ(k:Nat)=>Vl.cl (.int (k:Int)),[]):=by
 rw[kQ,h,bI,aA,aA,hd,<-lV]
 show R.iff (aG 0&&aG (n:Int)) _=_
 rw[nI,iX hn]
 rfl
theorem qM{k:Nat}{caps al:List Nat}{vs:List Vl}(h:noLs (vs.map (·.d))=true):hZ k caps al vs=⟨.lst (vs.map (·.d)),true,false,[]⟩:=by
 unfold hZ
 rw[if_pos h]
end Hp
end
noncomputable section
namespace HpS
open Hp PySem
def box(b:Str×Int):D:=.tup [.str b.1,.int b.2]
def aB(bs:List (Str×Int)):List D:=bs.map box
def aR(is:List Int):D:=.tup (is.map D.int)
structure aDR (bs:List (Str×Int)):Prop where
 few:bs.length<=5
 one:∀b∈bs,1<=b.2/\b.2<=7
 room:(bs.map λb=>b.2+1).foldl (·*·) 1<=24
def eC(bs:List (Str×Int)):Int:=(bs.map λb=>b.2+1).foldl (·*·) 1
theorem eU:∀is:List Int,noLs (is.map D.int)=true
 | []=>rfl
 | i::is=>by simp[noLs,noL,eU is]
@[simp] theorem aZ (is:List Int):noL (aR is)=true:=by simp[aR,noL,eU]
@[simp] theorem nJ (b:Str×Int):noL (box b)=true:=by simp[box,noL,noLs]
theorem iJ:∀ss:List (List Int),noLs (ss.map aR)=true
 | []=>rfl
 | s::ss=>by simp[noLs,iJ ss]
theorem uU{v:Vl}(bs:List (Str×Int)):items v (aB bs)=bs.map λb=>Vl.cl (box b):=by
 simp[items,aB,Vl.sub,Function.comp_def]
theorem kR:∀(xs:List Int) (a:Int),1<=a->(∀x∈xs,1<=x)->a<=xs.foldl (·*·) a
 | [],a,_,_=>Int.le_refl _
 | x::xs,a,ha,h=>by
  have hx:=h x List.mem_cons_self
  have h1:a<=a*x:=by
   have:=Int.mul_le_mul_of_nonneg_left hx (show 0<=a by omega)
   omega
  exact Int.le_trans h1 (kR xs (a*x) (by omega) λy hy=>h y (List.mem_cons_of_mem _ hy))
theorem sC(bs:List (Str×Int))(h:∀b∈bs,1<=b.2)(i:Nat):1<=eC (bs.take i)/\eC (bs.take i)<=eC bs:=by
 have pos:∀(l:List (Str×Int)),(∀b∈l,1<=b.2)->∀x∈l.map (λb=>b.2+1),1<=x:=λl hl x hx=>by
  obtain⟨b,hb,rfl⟩:=List.mem_map.mp hx
  have:=hl b hb
  omega
 have e:bs=bs.take i++bs.drop i:=(List.take_append_drop i bs).symm
 have h1:1<=eC (bs.take i):=kR _ 1 (by omega) (pos _ λb hb=>h b (List.mem_of_mem_take hb))
 refine⟨h1,?_⟩
 have:eC bs=((bs.drop i).map λb=>b.2+1).foldl (·*·) (eC (bs.take i)):=by
  unfold eC
  conv=>lhs;rw[e,List.map_append,List.foldl_append]
 rw[this]
 exact kR _ _ h1 (pos _ λb hb=>h b (List.mem_of_mem_drop hb))
theorem aAA{bs:List (Str×Int)}{i:Nat}(h:i<bs.length):eC (bs.take (i+1))=eC (bs.take i)*(bs[i].2+1):=by
 rw[List.take_succ_eq_append_getElem h]
 unfold eC
 rw[List.map_append,List.foldl_append]
 rfl
def sD:Fn:=⟨1,6,
 (.cons (.set (.n 1) (.lst (.cons (.tup .nil) .nil)))
 (.cons (.for (.t [2,3]) (.seq (.v 0))
  (.cons (.set (.n 4) (.lst .nil))
  (.cons (.for (.n 5) (.seq (.v 1))
   (.cons (.ext 4 (.comp 1 [5] (.n 0) (.rng (.c (.int 0)) (.op .Add (.v 3) (.c (.int 1)))) .nil (.op .Add (.v 1) (.tup (.cons (.v 0) .nil)))))
   .nil))
  (.cons (.mov 1 4)
  .nil))))
 (.cons (.retv 1)
 .nil)))⟩
def dE(b:List Int)(top:Int):List (List Int):=(List.range (top+1).toNat).map λ(h:Nat)=>b++[(h:Int)]
def iK(found:List (List Int))(top:Int):List (List Int):=found.flatMap λb=>dE b top
def aI(bs:List (Str×Int)):List (List Int):=bs.foldl (λfound b=>iK found b.2) [[]]
theorem eM{bs:List (Str×Int)}{i:Nat}(h:i<bs.length):aI (bs.take (i+1))=iK (aI (bs.take i)) bs[i].2:=by
 rw[List.take_succ_eq_append_getElem h]
 unfold aI
 rw[List.foldl_append]
 rfl
theorem xE(found:List (List Int))(top:Int):(iK found top).length=found.length*(top+1).toNat:=by
 induction found with
 | nil=>simp[iK]
 | cons b r ih=>
  unfold iK at ih ⊢
  rw[List.flatMap_cons,lA,ih,lC,Nat.succ_mul]
  simp[dE]
  omega
theorem xF{bs:List (Str×Int)}(h:aDR bs):∀i,i<=bs.length->((aI (bs.take i)).length:Int)=eC (bs.take i)/\∀s∈aI (bs.take i),s.length=i
 | 0,_=>by simp[aI,eC]
 | i+1,hi=>by
  have hi':i<bs.length:=by omega
  obtain⟨h1,h2⟩:=xF h i (by omega)
  obtain⟨g2,g3⟩:=h.one bs[i] (List.getElem_mem hi')
  rw[eM hi',aAA hi',xE]
  refine⟨?_,λs hs=>?_⟩
  . rw[Int.natCast_mul,h1,Int.toNat_of_nonneg (by omega)]
  . obtain⟨b,hb,hs⟩:=List.mem_flatMap.mp hs
    obtain⟨k,_,rfl⟩:=List.mem_map.mp hs
    rw[lA,h2 b hb];rfl
theorem aEK{bs:List (Str×Int)}(h:aDR bs)(i:Nat)(hi:i<=bs.length):(aI (bs.take i)).length<=24:=by
 have h1:=(xF h i hi).1
 have h2:=(sC bs (λb hb=>(h.one b hb).1) i).2
 have h3:eC bs<=24:=h.room
 omega
theorem mP{found:List (List Int)}{top:Int}{j:Nat}(h:j<found.length):(found.take (j+1)).flatMap (λb=>dE b top)=(found.take j).flatMap (λb=>dE b top)++dE found[j] top:=by
 rw[List.take_succ_eq_append_getElem h,List.flatMap_append]
 simp
theorem aDS{found:List (List Int)}{top:Int}(j:Nat):((found.take j).flatMap λb=>dE b top).length<=(iK found top).length:=by
 have e:found=found.take j++found.drop j:=(List.take_append_drop j found).symm
 unfold iK
 conv=>rhs;rw[e,List.flatMap_append,lA]
 omega
theorem kU{v:Vl}(ss:List (List Int)):items v (ss.map aR)=ss.map λs=>Vl.cl (aR s):=by
 simp[items,Vl.sub,Function.comp_def]
theorem aCi{P:Pg}(n:Nat){s0 s1 s2 s4:Sl}{b:List Int}{top:Int}(ht:1<=top)(ht7:top<=7)(hb:b.length<=10) :
 ev P (call P n) [s0,s1,s2,.sh false (.int top),s4,.sh false (aR b)] (.comp 1 [5] (.n 0) (.rng (.c (.int 0)) (.op .Add (.v 3) (.c (.int 1)))) .nil (.op .Add (.v 1) (.tup (.cons (.v 0) .nil))))=.ok ⟨.lst ((dE b top).map aR),true,false,[]⟩:=by
 have hw:walk P (call P n) [s0,s1,s2,.sh false (.int top),s4,.sh false (aR b)] (.rng (.c (.int 0)) (.op .Add (.v 3) (.c (.int 1))))=.ok ((List.range (top+1).toNat).map λ(k:Nat)=>Vl.cl (.int (k:Int)),[]):=by
  refine xD (v:=.cl (.int (top+1))) ?_ ?_ (by omega)
  . simp[aX,Sl.val,opD,Vl.cl,noL]
  . show D.int (top+1)=D.int ((top+1).toNat:Int)
    rw[Int.toNat_of_nonneg (by omega)]
 rw[yX (λv=>match v.d with|.int k=>.cl (aR (b++[k]))|_=>.cl .non) hw]
 . have e:(((List.range (top+1).toNat).map λ(k:Nat)=>Vl.cl (.int (k:Int))).map λv=>(match v.d with|.int k=>Vl.cl (aR (b++[k]))|_=>Vl.cl .non)).map (·.d)=(dE b top).map aR:=by
    simp[dE,Vl.cl,Function.comp_def]
   rw[qM (by rw[e];exact iJ _),e]
 . simp only[lM,List.length_range];unfold lim;omega
 . intro y hy
   obtain⟨k,hk,rfl⟩:=List.mem_map.mp hy
   have hl:b.length+1<=lim:=by unfold lim;omega
   refine⟨[.sh false (.int k),.sh false (aR b)],?_,?_⟩
   . simp[bG,Vl.cl,Vl.slot,freeze]
   . simp[aX,Sl.val,Vl.cl,opD,pW,aV,cC,aR,noL,hl,eU]
theorem aAB{P:Pg}{f:Nat}(hF:P.fns[f]? = some sD)(n:Nat){bs:List (Str×Int)}(h:aDR bs):call P (n+1) f [.lst (aB bs)]=.ok (.lst ((aI bs).map aR),true,false):=by
 obtain⟨σ',e,hI⟩:=lW (P:=P) (cl:=call P n) (σ:=[.sh true (.lst (aB bs)),.own false [.tup []],.dead,.dead,.dead,.dead]) (t:=.t [2,3]) (it:=.seq (.v 0))
  (b:=.cons (.set (.n 4) (.lst .nil)) (.cons (.for (.n 5) (.seq (.v 1)) (.cons (.ext 4 (.comp 1 [5] (.n 0) (.rng (.c (.int 0)) (.op .Add (.v 3) (.c (.int 1)))) .nil (.op .Add (.v 1) (.tup (.cons (.v 0) .nil))))) .nil)) (.cons (.mov 1 4) .nil)))
  (xs:=bs.map λb=>Vl.cl (box b)) (al:=[])
  (λi σ=>∃s2 s3 s4 s5,σ=[.sh true (.lst (aB bs)),.own false ((aI (bs.take i)).map aR),s2,s3,s4,s5])
  (by simp[aX,Sl.val,uU]) ⟨_,_,_,_,rfl⟩ (λi hi σ hσ=>by
   obtain⟨s2,s3,s4,s5,rfl⟩:=hσ
   have hi':i<bs.length:=by simpa using hi
   obtain⟨g2,g3⟩:=h.one bs[i] (List.getElem_mem hi')
   have hl24:=aEK h (i+1) hi'
   rw[eM hi'] at hl24
   obtain⟨_,hlen⟩:=xF h i (by omega)
   have hfew:=h.few
   obtain⟨σ2,e2,hJ⟩:=lW (P:=P) (cl:=call P n) (σ:=[.sh true (.lst (aB bs)),.own false ((aI (bs.take i)).map aR),.sh false (.str bs[i].1),.sh false (.int bs[i].2),.own false [],s5]) (t:=.n 5) (it:=.seq (.v 1))
    (b:=.cons (.ext 4 (.comp 1 [5] (.n 0) (.rng (.c (.int 0)) (.op .Add (.v 3) (.c (.int 1)))) .nil (.op .Add (.v 1) (.tup (.cons (.v 0) .nil))))) .nil)
    (xs:=(aI (bs.take i)).map λs=>Vl.cl (aR s)) (al:=[1])
    (λj σ=>∃s5,σ=[.sh true (.lst (aB bs)),.sh false (.lst ((aI (bs.take i)).map aR)),.sh false (.str bs[i].1),.sh false (.int bs[i].2),.own false ((((aI (bs.take i)).take j).flatMap λb=>dE b bs[i].2).map aR),s5])
    (by simp[aX,Sl.val,kU]) ⟨_,by simp[freeze,Sl.freeze];rfl⟩ (λj hj σ hσ=>by
     obtain⟨s5,rfl⟩:=hσ
     have hj':j<(aI (bs.take i)).length:=by simpa using hj
     have hb:(aI (bs.take i))[j].length<=10:=by rw[hlen _ (List.getElem_mem hj')];omega
     have hc:=aCi (P:=P) n (s0:=.sh true (.lst (aB bs))) (s1:=.sh false (.lst ((aI (bs.take i)).map aR))) (s2:=.sh false (.str bs[i].1)) (s4:=.own false ((((aI (bs.take i)).take j).flatMap λb=>dE b bs[i].2).map aR)) (b:=(aI (bs.take i))[j]) g2 g3 hb
     have hle:=aDS (found:=aI (bs.take i)) (top:=bs[i].2) (j+1)
     rw[mP hj',lA] at hle
     have hlim:((((aI (bs.take i)).take j).flatMap λb=>dE b bs[i].2).map aR++(dE (aI (bs.take i))[j] bs[i].2).map aR).length<=lim:=by
      rw[lA,lM,lM];unfold lim;omega
     refine⟨[.sh true (.lst (aB bs)),.sh false (.lst ((aI (bs.take i)).map aR)),.sh false (.str bs[i].1),.sh false (.int bs[i].2),.own false ((((aI (bs.take i)).take j).flatMap λb=>dE b bs[i].2).map aR),.sh false (aR (aI (bs.take i))[j])],
      [.sh true (.lst (aB bs)),.sh false (.lst ((aI (bs.take i)).map aR)),.sh false (.str bs[i].1),.sh false (.int bs[i].2),.own false ((((aI (bs.take i)).take (j+1)).flatMap λb=>dE b bs[i].2).map aR),.sh false (aR (aI (bs.take i))[j])],?_,?_,⟨_,rfl⟩⟩
     . simp[bG,Vl.cl,Vl.slot]
     . rw[aW,aCh,hc,aF]
       show(match nT ⟨.lst ((dE (aI (bs.take i))[j] bs[i].2).map aR),true,false,[]⟩ with|some (v',ds')=>put _ 4 v' λds=>some (ds++ds')|none=>.bad).on _=_
       simp only[nT,iJ,if_true]
       unfold put
       simp only[freeze,gQ,gS,gZ]
       rw[if_pos hlim]
       simp[mP hj'])
   obtain⟨s5',rfl⟩:=hJ
   refine⟨[.sh true (.lst (aB bs)),.own false ((aI (bs.take i)).map aR),.sh false (.str bs[i].1),.sh false (.int bs[i].2),s4,s5],[.sh true (.lst (aB bs)),.own false ((aI (bs.take (i+1))).map aR),.sh false (.str bs[i].1),.sh false (.int bs[i].2),.dead,s5'],?_,?_,⟨_,_,_,_,rfl⟩⟩
   . simp[bG,box,Vl.cl,Vl.sub,noL,Vl.slot]
   . have et:(aI (bs.take i)).take ((aI (bs.take i)).map λs=>Vl.cl (aR s)).length=aI (bs.take i):=by simp
     rw[et] at e2
     simp[nS,aV,cC,bG,freeze,Vl.slot,e2,eM hi',iK])
 obtain⟨s2,s3,s4,s5,rfl⟩:=hI
 have et:bs.take (bs.map λb=>Vl.cl (box b)).length=bs:=by simp
 rw[et] at e
 refine aN (F:=sD) hF rfl (v:=⟨.lst ((aI bs).map aR),true,false,[]⟩) ?_
 simp[sD,nS,pW,aV,cC,bG,freeze,Vl.slot,e]
end HpS
end
noncomputable section
namespace Hp
open PySem (Str)
@[simp] theorem aKh (d:D):(⟨d,false,false,[]⟩:Vl)=.cl d:=id rfl
@[simp] theorem bU (d:D):(Vl.cl d).d=d:=id rfl
@[simp] theorem aLG (d:D):(Vl.cl d).fr=false:=id rfl
@[simp] theorem qN (d:D):(Vl.cl d).pa=false:=id rfl
@[simp] theorem eD (d:D):(Vl.cl d).al=[]:=id rfl
@[simp] theorem bX (d:D):(Vl.cl d).slot=.sh false d:=by cases d <;> rfl
@[simp] theorem yY (ds:List D) (pa:Bool) (al:List Nat):(⟨.lst ds,true,pa,al⟩:Vl).slot=.own pa ds:=id rfl
@[simp] theorem aQ (i:Nat) (d:D):Sl.val i (.sh false d)=.ok (.cl d):=id rfl
@[simp] theorem fE (i:Nat) (pa:Bool) (k:Int):Sl.val i (.sh pa (.int k))=.ok (.cl (.int k)):=by cases pa <;> rfl
@[simp] theorem nK (i:Nat) (pa:Bool) (k:Str):Sl.val i (.sh pa (.str k))=.ok (.cl (.str k)):=by cases pa <;> rfl
@[simp] theorem lX (i:Nat) (pa:Bool) (k:Bool):Sl.val i (.sh pa (.bl k))=.ok (.cl (.bl k)):=by cases pa <;> rfl
@[simp] theorem aKi (i:Nat) (pa:Bool):Sl.val i (.sh pa .non)=.ok (.cl .non):=by cases pa <;> rfl
@[simp] theorem eN (i:Nat) (ds:List D):Sl.val i (.sh true (.lst ds))=.ok ⟨.lst ds,false,true,[]⟩:=id rfl
theorem bB(i:Nat)(pa:Bool){d:D}(h:noL d=true):Sl.val i (.sh pa d)=.ok (.cl d):=by unfold Sl.val;simp[h]
@[simp] theorem fF (i:Nat) (pa:Bool) (ds:List D):Sl.val i (.own pa ds)=.ok ⟨.lst ds,false,pa,[i]⟩:=id rfl
@[simp] theorem eJ (σ:Sg) (v:Vl) (i:Nat):bG σ v (.n i)=.ok (σ.set i v.slot):=id rfl
@[simp] theorem bE (σ:Sg):freeze σ []=σ:=id rfl
@[simp] theorem oU (b:Bool):fL (.cl (.bl b))=.ok b:=id rfl
@[simp] theorem fO (args:List Vl) (d:D):gY args (d,false,false)=.cl d:=id rfl
@[simp] theorem aLi (args:List Vl) (d:D):gY args (d,true,false)=⟨d,true,false,[]⟩:=id rfl
@[simp] theorem dO (a b:D):bL .Eq a b=eqD a b:=id rfl
@[simp] theorem xG (a b:D):bL .NotEq a b=(eqD a b).map (!·):=id rfl
@[simp] theorem oV (a b:Int):bL .Lt (.int a) (.int b)=some (decide (a<b)):=id rfl
@[simp] theorem xH (a b:Int):bL .Gt (.int a) (.int b)=some (decide (b<a)):=id rfl
@[simp] theorem aCj (a b:Int):bL .LtE (.int a) (.int b)=some (decide (a<=b)):=id rfl
@[simp] theorem aLj (a b:Int):bL .GtE (.int a) (.int b)=some (decide (b<=a)):=id rfl
@[simp] theorem fG (a b:Int):eqD (.int a) (.int b)=some (a==b):=id rfl
@[simp] theorem fH (a b:Str):eqD (.str a) (.str b)=some (a==b):=id rfl
@[simp] theorem aLk (a b:Bool):eqD (.bl a) (.bl b)=some (a==b):=id rfl
@[simp] theorem aKj (P:Pg) (k:Int):isI [.tInt] P (.int k)=some true:=id rfl
@[simp] theorem aJD (P:Pg) (k:Int):isI [.tBool] P (.int k)=some false:=id rfl
@[simp] theorem yZ (P:Pg) (k:Str):isI [.tStr] P (.str k)=some true:=id rfl
@[simp] theorem zA (P:Pg) (k:List D):isI [.tTuple] P (.tup k)=some true:=id rfl
@[simp] theorem aKk (P:Pg) (k:List D):isI [.tList] P (.lst k)=some true:=id rfl
@[simp] theorem aLl (P:Pg) (k:Bool):isI [.tBool] P (.bl k)=some true:=id rfl
@[simp] theorem add_int (i j:Int):opD .Add (.cl (.int i)) (.cl (.int j))=.ok (.cl (.int (i+j))):=id rfl
@[simp] theorem sub_int (i j:Int):opD .Sub (.cl (.int i)) (.cl (.int j))=.ok (.cl (.int (i-j))):=id rfl
theorem mul_int{i j:Int}(h:pV i j=true):opD .Mult (.cl (.int i)) (.cl (.int j))=.ok (.cl (.int (i*j))):=by
 show R.iff (pV i j) _=_
 rw[h];rfl
theorem sF{i j:Int}(h:tJ j=true):opD .FloorDiv (.cl (.int i)) (.cl (.int j))=.ok (.cl (.int (i / j))):=by
 show R.iff (tJ j) _=_
 rw[h];rfl
theorem aDT{i j:Int}(h:0<j):opD .Mod (.cl (.int i)) (.cl (.int j))=.ok (.cl (.int (i % j))):=by
 show R.iff (decide (0<j)) _=_
 rw[decide_eq_true h];rfl
@[simp] theorem cS (ds:List D) (fr pa:Bool) (al:List Nat):biD .len [⟨.lst ds,fr,pa,al⟩]=.ok (.cl (.int ds.length)):=id rfl
@[simp] theorem iY (ds:List D):biD .len [.cl (.tup ds)]=.ok (.cl (.int ds.length)):=id rfl
@[simp] theorem aJE (ds:List D):biD .len [.cl (.lst ds)]=.ok (.cl (.int ds.length)):=id rfl
end Hp
end
noncomputable section
namespace HpS
open Hp PySem
section
variable {P:Pg} {cl:Caller} {σ σ':Sg}
theorem cs{s:S}{ss:Ss}{o:O}(h:ex P cl σ s=.next σ')(r:exs P cl σ' ss=o):exs P cl σ (.cons s ss)=o:=by rw[aW,h,kP,r]
theorem fI{i:Nat}{e:E}{d:D}(h:ev P cl σ e=.ok (.cl d)):ex P cl σ (.set (.n i) e)=.next (σ.set i (.sh false d)):=by rw[dJ,h,aF,eD,bE,eJ,aF,bX]
theorem dQ{e:E}{ss:Ss}{v:Vl}(h:ev P cl σ e=.ok v):exs P cl σ (.cons (.ret e) ss)=.ret v:=by rw[aW,iI,h];rfl
theorem eE{c:E}{a:Ss}(h:tst P cl σ c=.ok false):ex P cl σ (.iff c a .nil)=.next σ:=by rw[bJ,h];rfl
theorem mQ{c:E}{a b ss:Ss}{v:Vl}(h:tst P cl σ c=.ok true)(r:exs P cl σ a=.ret v):exs P cl σ (.cons (.iff c a b) ss)=.ret v:=by
 rw[aW,bJ,h,aF,if_pos rfl,r];rfl
theorem dF{a b:E}{x y z:Vl}(h:ev P cl σ a=.ok x)(k:ev P cl σ b=.ok y)(e:bV x y=.ok z):ev P cl σ (.idx a b)=.ok z:=by rw[cX,h,aA,k,aA,e]
theorem cY{a:E}{w x:Str}{b:Bool}(h:ev P cl σ a=.ok (.cl (.str w)))(q:(w==x)=b):tst P cl σ (.cmp .Eq a (.c (.str x)))=.ok b:=by
 rw[bR,h,aA,bI,aA,bU,bU,dO,fH,q]
theorem cP{f:Nat}{a b c:E}{x y z:Vl}{d:D}(h1:ev P cl σ a=.ok x)(h2:ev P cl σ b=.ok y)(h3:ev P cl σ c=.ok z)(hc:cl f [x.d,y.d,z.d]=.ok (d,false,false)):ev P cl σ (.call f (.cons a (.cons b (.cons c .nil))))=.ok (.cl d):=by
 have e:evs P cl σ (.cons a (.cons b (.cons c .nil)))=.ok [x,y,z]:=by rw[aE,h1,aA,aE,h2,aA,aE,h3,aA,aT];rfl
 rw[cG,e,aA,show [x,y,z].map (·.d)=[x.d,y.d,z.d] from rfl,hc];rfl
theorem v0_{d:D}{r:Sg}(h:noL d=true):ev P cl (.sh true d::r) (.v 0)=.ok (.cl d):=bB 0 true h
theorem v1_{s:Sl}{d:D}{r:Sg}(h:noL d=true):ev P cl (s::.sh true d::r) (.v 1)=.ok (.cl d):=bB 1 true h
theorem v2_{s t:Sl}{d:D}{r:Sg}(h:noL d=true):ev P cl (s::t::.sh true d::r) (.v 2)=.ok (.cl d):=bB 2 true h
theorem zB{t a b:E}{k:Bool}{v:Vl}(h:tst P cl σ t=.ok k)(r:(if k then ev P cl σ a else ev P cl σ b)=.ok v):ev P cl σ (.ife t a b)=.ok v:=by rw[xB,h,aA,r]
theorem aLm{a:E}{k:Bool}(h:ev P cl σ a=.ok (.cl (.bl k))):ev P cl σ (.nt a)=.ok (.cl (.bl !k)):=by rw[aJA,h];rfl
theorem aGZ{a b:E}{x y:Bool}(h1:ev P cl σ a=.ok (.cl (.bl x)))(h2:ev P cl σ b=.ok (.cl (.bl y))):ev P cl σ (.an a b)=.ok (.cl (.bl (x&&y))):=by
 rw[aJB,h1,aA];cases x
 . rfl
 . exact h2
theorem aJF{a b:E}{x y:Bool}(h1:ev P cl σ a=.ok (.cl (.bl x)))(h2:ev P cl σ b=.ok (.cl (.bl y))):ev P cl σ (.orr a b)=.ok (.cl (.bl (x||y))):=by
 rw[aGV,h1,aA];cases x
 . exact h2
 . rfl
theorem aHa{o:Operator}{a b:E}{x y z:Vl}(h:ev P cl σ a=.ok x)(k:ev P cl σ b=.ok y)(e:opD o x y=.ok z):ev P cl σ (.op o a b)=.ok z:=by rw[eT,h,aA,k,aA,e]
theorem aJG{o:CmpOp}{a b:E}{x y:Vl}{k:Bool}(h:ev P cl σ a=.ok x)(g:ev P cl σ b=.ok y)(e:bL o x.d y.d=some k):ev P cl σ (.cmp o a b)=.ok (.cl (.bl k)):=by rw[aGW,h,aA,g,aA,e]
theorem gX{b:Bi}{a:E}{x z:Vl}(h:ev P cl σ a=.ok x)(e:biD b [x]=.ok z):ev P cl σ (.bi b (.cons a .nil))=.ok z:=by
 have h2:evs P cl σ (.cons a .nil)=.ok [x]:=by rw[aE,h];rfl
 rw[fD,h2,aA,e]
end
end HpS
end
noncomputable section
namespace Hp
open PySem (Str)
theorem fV{α:Type}{g:α->D}(ng:∀t,noL (g t)=true):∀ts:List α,noLs (ts.map g)=true
 | []=>rfl
 | t::ts=>by rw[mC,noLs,ng t,fV ng ts];rfl
theorem oW{α:Type}{F:Vl->R (Option Vl)}{f:α->Vl}{g:α->D}{p:α->Bool}:∀{ts:List α},(∀t∈ts,F (f t)=.ok (if p t then some (.cl (g t)) else none))->dC F (ts.map f)=.ok ((ts.filter p).map λt=>.cl (g t))
 | [],_=>rfl
 | t::ts,h=>by
  have h1:=h t List.mem_cons_self
  have h2:=oW (F:=F) (f:=f) (g:=g) (p:=p) (ts:=ts) λy hy=>h y (List.mem_cons_of_mem _ hy)
  show(F (f t) >>= λy=>dC F (ts.map f) >>= λys=>(match y with|some y=>R.ok (y::ys)|none=>R.ok ys))=_
  rw[h1,h2]
  cases hp:p t with
  | true=>rw[List.filter_cons_of_pos hp];rfl
  | false=>rw[List.filter_cons_of_neg (by rw[hp];exact bN)];rfl
theorem zC{α:Type}{g:α->D}(ng:∀t,noL (g t)=true){k:Nat}{caps al:List Nat}(ts:List α):hZ k caps al (ts.map λt=>Vl.cl (g t))=⟨.lst (ts.map g),true,false,[]⟩:=by
 have e:(ts.map λt=>Vl.cl (g t)).map (·.d)=ts.map g:=by rw[List.map_map];rfl
 rw[qM (by rw[e];exact fV ng ts),e]
theorem aCk{P:Pg}{cl:Caller}{σ:Sg}{k:Nat}{caps al:List Nat}{T:T}{it:It}{elt:E}{α:Type}{ts:List α}(f:α->Vl)(g:α->D)(ng:∀t,noL (g t)=true)(hw:walk P cl σ it=.ok (ts.map f,al))(hl:ts.length<=lim)
 (hb:∀t∈ts,∃σ1,bG (List.replicate k .dead++caps.map λi=>((freeze σ al)[i]?).getD .dead) (f t) T=.ok σ1/\ev P cl σ1 elt=.ok (.cl (g t))):ev P cl σ (.comp k caps T it .nil elt)=.ok ⟨.lst (ts.map g),true,false,[]⟩:=by
 rw[nG,hw,aA,oW (f:=f) (g:=g) (p:=λ_=>true) λt ht=>by
  obtain⟨σ1,e1,e2⟩:=hb t ht
  show(bG _ (f t) T >>= λσ1=>_)=_
  rw[e1]
  show(ev P cl σ1 elt >>= λy=>R.ok (some y))=_
  rw[e2]
  rfl]
 have hf:ts.filter (λ_=>true)=ts:=List.filter_eq_self.mpr λ_ _=>rfl
 have hl2:decide ((ts.map λt=>Vl.cl (g t)).length<=lim)=true:=decide_eq_true (by rw[lM];exact hl)
 rw[aA,hf,hl2,qL,zC ng]
theorem aCl{P:Pg}{cl:Caller}{σ:Sg}{k:Nat}{caps al:List Nat}{T:T}{it:It}{c elt:E}{α:Type}{ts:List α}(f:α->Vl)(g:α->D)(p:α->Bool)(ng:∀t,noL (g t)=true)(hw:walk P cl σ it=.ok (ts.map f,al))(hl:ts.length<=lim)
 (hb:∀t∈ts,∃σ1,bG (List.replicate k .dead++caps.map λi=>((freeze σ al)[i]?).getD .dead) (f t) T=.ok σ1/\tst P cl σ1 c=.ok (p t)/\ev P cl σ1 elt=.ok (.cl (g t))):ev P cl σ (.comp k caps T it (.cons c .nil) elt)=.ok ⟨.lst ((ts.filter p).map g),true,false,[]⟩:=by
 rw[nG,hw,aA,oW (f:=f) (g:=g) (p:=p) λt ht=>by
  obtain⟨σ1,e1,e2,e3⟩:=hb t ht
  show(bG _ (f t) T >>= λσ1=>_)=_
  rw[e1]
  show(tsts P cl σ1 (.cons c .nil) >>= λk=>if k then (ev P cl σ1 elt >>= λy=>R.ok (some y)) else R.ok none)=_
  rw[aAz,e2,aA]
  cases hp:p t with
  | true=>rw[if_pos rfl,aCg,aA,if_pos rfl,e3];rfl
  | false=>rfl]
 have hl2:decide (((ts.filter p).map λt=>Vl.cl (g t)).length<=lim)=true:=decide_eq_true (by rw[lM];exact Nat.le_trans (List.length_filter_le _ _) hl)
 rw[aA,hl2,qL,zC ng]
theorem fW{α:Type}{v:Vl}{g:α->D}(ng:∀t,noL (g t)=true)(ts:List α):items v (ts.map g)=ts.map λt=>Vl.cl (g t):=by
 unfold items
 rw[List.map_map]
 refine List.map_congr_left λt _=>?_
 show Vl.sub v (g t)=_
 unfold Vl.sub
 rw[if_pos (ng t)]
theorem nL{a b:D}(ha:noL a=true)(hb:noL b=true):noL (.tup [a,b])=true:=by simp[noL,noLs,ha,hb]
@[simp] theorem aKl {P:Pg} {cl:Caller} {σ:Sg} (a b:E):ev P cl σ (.lzip a b)=(ev P cl σ a >>= λx=>ev P cl σ b >>= λy=>match gF x.d,gF y.d with
 | some as,some bs=>.iff (decide (as.length<=lim)) (.ok (aEx x y (gE as bs)))
 | _,_=>.bad):=id rfl
end Hp
end
noncomputable section
namespace Hp
section
variable {P:Pg} {cl:Caller} {σ:Sg} {l:Nat}
theorem aDU(d:D):noAl (.cl d) σ=.ok (.cl d,σ):=id rfl
theorem aEL(a:E):evl P cl l σ (.e a)=(ev P cl σ a >>= λx=>noAl x σ):=id rfl
theorem aHb(o:PySem.Operator)(a b:EL):evl P cl l σ (.op o a b)=(evl P cl l σ a >>= λx=>evl P cl l x.2 b >>= λy=>opD o x.1.nr y.1.nr >>= λz=>noAl z y.2):=id rfl
theorem sG(a b:EL):evl P cl l σ (.idx a b)=(evl P cl l σ a >>= λx=>evl P cl l x.2 b >>= λy=>bV x.1.nr y.1.nr >>= λz=>noAl z y.2):=id rfl
theorem zD(es:ELs):evl P cl l σ (.tup es)=(evls' P cl l σ es >>= λr=>.ok (⟨.tup (r.1.map (·.d)),false,aV r.1,[]⟩,r.2)):=id rfl
theorem jR(e:EL)(es:ELs):evls' P cl l σ (.cons e es)=(evl P cl l σ e >>= λx=>evls' P cl l x.2 es >>= λr=>.ok (x.1::r.1,r.2)):=id rfl
theorem fJ(i l:Nat)(fz:List Nat)(e:EL):ex P cl σ (.setL i l fz e)=O.from σ (evl P cl l (freeze σ fz) e) λr=>.next (r.2.set i r.1.slot):=id rfl
theorem zE(i l:Nat)(e:EL):ex P cl σ (.appL i l e)=if (gQ σ i).isSome then O.from σ (evl P cl l σ e) λr=>put r.2 i r.1.nr λds=>some (ds++[r.1.d]) else .bad:=id rfl
theorem sH(e:EL):ex P cl σ (.retL e)=O.from σ (evl P cl 0 σ e) λr=>mJ r.1 r.2:=id rfl
theorem zF(o:PySem.CmpOp)(a:EL)(b:E)(x y:Ss):ex P cl σ (.iffL o a b x y)=O.from σ (evl P cl 0 σ a) λr=>O.from r.2 (ev P cl r.2 b) λz=>match bL o r.1.d z.d with
 | some k=>if k then exs P cl r.2 x else exs P cl r.2 y
 | none=>.bad:=id rfl
theorem aCm(d:D)(c:List D)(r:Sg):mJ (.cl d) (.lent c::r)=.ret (.cl (.tup [d,.err 0 c])):=id rfl
theorem uV{f:Nat}{es:ELs}{vs:List Vl}{c c1 c2:List D}{r r1:Sg}{d:D}(hf:mI P f=true)(ha:evls' P cl 0 (.lent c::r) es=.ok (vs,.lent c1::r1))(hc:cl f (.err 0 c1::vs.map (·.d))=.ok (.tup [d,.err 0 c2],false,false)) :
 evl P cl 0 (.lent c::r) (.call f es)=.ok (.cl d,.lent c2::r1):=by
 show R.iff ((bQ (.lent c::r) 0).isSome&&mI P f) (evls' P cl 0 (.lent c::r) es >>= λr=>_)=_
 rw[hf,ha]
 show(cl f (.err 0 c1::vs.map (·.d)) >>= λq=>_)=_
 rw[hc]
 rfl
theorem sJ{f:Nat}{es:ELs}{vs:List Vl}{σ1:Sg}{z:Bool×List D}{pa fr pr:Bool}{cs cs':List D}{d:D}(h0:bQ σ l=some z)(hf:mI P f=true)(ha:evls' P cl l σ es=.ok (vs,σ1))(h1:bQ σ1 l=some (pa,cs))(hc:cl f (.err 0 cs::vs.map (·.d))=.ok (.tup [d,.err 0 cs'],fr,pr)) :
 evl P cl l σ (.call f es)=.ok (⟨d,fr,pr&&(pa||aV vs),[]⟩,cF σ1 l (pa||aV vs) cs'):=by
 show R.iff ((bQ σ l).isSome&&mI P f) (evls' P cl l σ es >>= λr=>(match bQ r.2 l with
  | some (pa,cs)=>cl f (.err 0 cs::r.1.map (·.d)) >>= λq=>gG r.2 l pa r.1 q
  | none=>.bad))=_
 rw[h0,hf,ha]
 show(match bQ σ1 l with
  | some (pa,cs)=>cl f (.err 0 cs::vs.map (λv:Vl=>v.d)) >>= λq=>gG σ1 l pa vs q
  | none=>.bad)=_
 rw[h1]
 show(cl f (.err 0 cs::vs.map (·.d)) >>= λq=>gG σ1 l pa vs q)=_
 rw[hc]
 rfl
theorem aHc{es:ELs}{vs:List Vl}{σ1:Sg}(h:evls' P cl l σ es=.ok (vs,σ1)):evl P cl l σ (.lst es)=.ok (⟨.lst (vs.map (·.d)),true,aV vs,[]⟩,σ1):=by
 show(evls' P cl l σ es >>= λr=>_)=_
 rw[h];rfl
theorem aHd{o:PySem.CmpOp}{a b:EL}{x y:Vl}{σ1 σ2:Sg}{k:Bool}(h:evl P cl l σ a=.ok (x,σ1))(h2:evl P cl l σ1 b=.ok (y,σ2))(h3:bL o x.d y.d=some k):evl P cl l σ (.cmp o a b)=.ok (.cl (.bl k),σ2):=by
 show(evl P cl l σ a >>= λx=>evl P cl l x.2 b >>= λy=>(match bL o x.1.d y.1.d with|some k=>R.ok (Vl.cl (.bl k),y.2)|none=>.bad))=_
 rw[h,aA,h2,aA]
 show(match bL o x.d y.d with|some k=>R.ok (Vl.cl (.bl k),σ2)|none=>.bad)=_
 rw[h3]
theorem aHe{a:EL}{x:Vl}{d:D}{σ1:Sg}(h:evl P cl l σ a=.ok (x,σ1))(h2:biD .int [x.nr]=.ok (.cl d)):evl P cl l σ (.int a)=.ok (.cl d,σ1):=by
 show(evl P cl l σ a >>= λx=>biD .int [x.1.nr] >>= λz=>noAl z x.2)=_
 rw[h,aA]
 show(biD .int [x.nr] >>= λz=>noAl z σ1)=_
 rw[h2];rfl
theorem aHf{a b:EL}{x y z:Vl}{σ1 σ2:Sg}(h:evl P cl l σ a=.ok (x,σ1))(h2:evl P cl l σ1 b=.ok (y,σ2))(h3:bV x.nr y.nr=.ok z)(h4:z.al=[]):evl P cl l σ (.idx a b)=.ok (z,σ2):=by
 rw[sG,h,aA,h2,aA]
 show(bV x.nr y.nr >>= λz=>noAl z σ2)=_
 rw[h3,aA]
 unfold noAl
 rw[h4]
 rfl
theorem oX{f:Sg->Vl->R (Vl×Sg)}(I:Nat->List D->Sg->Prop):∀(N a:Nat) (ds:List D) (σ:Sg),I a ds σ ->
 (∀i σ ds,a<=i->i<a+N->I i ds σ->∃y σ',f σ (.cl (.int (i:Int)))=.ok (y,σ')/\y.pa=false/\I (i+1) (ds++[y.d]) σ') ->
 ∃vs σ',dN f ((List.range' a N).map λ(k:Nat)=>Vl.cl (.int (k:Int))) σ=.ok (vs,σ')/\aV vs=false/\vs.length=N/\I (a+N) (ds++vs.map (·.d)) σ'
 | 0,a,ds,σ,h,_=>⟨[],σ,rfl,rfl,rfl,by rw[mN,List.append_nil];exact h⟩
 | N+1,a,ds,σ,h,hs=>by
  obtain⟨y,σ1,e1,p1,h1⟩:=hs a σ ds (Nat.le_refl _) (by omega) h
  obtain⟨vs,σ',e2,p2,l2,h2⟩:=oX I N (a+1) (ds++[y.d]) σ1 h1 λi σ ds ha hb=>hs i σ ds (by omega) (by omega)
  refine⟨y::vs,σ',?_,?_,by rw[lC,l2],?_⟩
  . rw[List.range'_succ,mC]
    show(f σ (Vl.cl (.int (a:Int))) >>= λy=>dN f _ y.2 >>= λr=>R.ok (y.1::r.1,r.2))=_
    rw[e1,aA,e2]
    rfl
  . show(y.pa||aV vs)=false
    rw[p1,p2];rfl
  . rw[show a+(N+1)=a+1+N by omega]
    simpa using h2
theorem uW{k l' N:Nat}{caps:List Nat}{t:T}{n elt:EL}{σ0:Sg}(I:Nat->List D->Sg->Prop)(hn:evl P cl l σ n=.ok (.cl (.int (N:Int)),σ0))(hN:N<=1000000)(h0:I 0 [] σ0)
 (hs:∀i σ ds,i<N->I i ds σ->∃σ1 y σ2 z pa cs,bG (chB k caps σ) (.cl (.int (i:Int))) t=.ok σ1/\evl P cl l' σ1 elt=.ok (y,σ2)/\y.pa=false/\bQ σ l=some z/\bQ σ2 l'=some (pa,cs)/\I (i+1) (ds++[y.d]) (cF σ l pa cs)) :
 ∃ds σ',evl P cl l σ (.comp k caps t n l' elt)=.ok (⟨.lst ds,true,false,[]⟩,σ')/\I N ds σ':=by
 let f:Sg->Vl->R (Vl×Sg):=λσ x=>bG (chB k caps σ) x t >>= λσ1=>evl P cl l' σ1 elt >>= λy=>(match bQ σ l,bQ y.2 l' with
  | some _,some (pa,cs)=>R.ok (y.1,cF σ l pa cs)
  | _,_=>.bad)
 obtain⟨vs,σ',e1,p1,l1,h1⟩:=oX (f:=f) I N 0 [] σ0 h0 λi σ ds _ hi hI=>by
  obtain⟨σ1,y,σ2,z,pa,cs,g1,g2,g3,g4,g5,g6⟩:=hs i σ ds (by omega) hI
  refine⟨y,cF σ l pa cs,?_,g3,g6⟩
  show(bG (chB k caps σ) _ t >>= λσ1=>evl P cl l' σ1 elt >>= λy=>(match bQ σ l,bQ y.2 l' with
   | some _,some (pa,cs)=>R.ok (y.1,cF σ l pa cs)
   | _,_=>.bad))=_
  rw[g1,aA,g2,aA]
  show(match bQ σ l,bQ σ2 l' with
   | some _,some (pa,cs)=>R.ok (y,cF σ l pa cs)
   | _,_=>.bad)=_
  rw[g4,g5]
 refine⟨vs.map (·.d),σ',?_,by simpa using h1⟩
 show(evl P cl l σ n >>= λr=>(match r.1.d with
  | .int j=>R.iff (aG j) (dN f ((cA 0 j).map .cl) r.2 >>= λq=>R.iff (decide (q.1.length<=lim)) (.ok (Vl.mk (.lst (q.1.map (·.d))) true (aV q.1) [],q.2)))
  | _=>.bad))=_
 rw[hn,aA]
 show R.iff (aG (N:Int)) (dN f ((cA 0 (N:Int)).map .cl) σ0 >>= λq=>R.iff (decide (q.1.length<=lim)) (.ok (Vl.mk (.lst (q.1.map (·.d))) true (aV q.1) [],q.2)))=_
 rw[iX hN,lV,List.range_eq_range',e1]
 show R.iff (decide (vs.length<=lim)) (.ok (Vl.mk (.lst (vs.map (·.d))) true (aV vs) [],σ'))=_
 rw[l1,p1,decide_eq_true (by unfold lim;omega)]
 rfl
theorem dY{f:Nat}{F:Fn}{b:Ss}{c:List D}{ds:List D}(hF:P.fns[f]? = some F)(hb:F.body=.cons .lend b)(hl:ds.length+1=F.np){v:Vl}
 (h:exs P cl (.lent c::((ds.map λd=>Sl.sh true d)++List.replicate (F.ns-F.np) Sl.dead)) b=.ret v):jV P cl f (.err 0 c::ds)=.ok (v.d,v.fr,v.pa):=by
 refine aN (ds:=.err 0 c::ds) hF hl (v:=v) ?_
 rw[hb]
 exact h
end
end Hp
end
noncomputable section
namespace Hp
open PySem (Str Operator CmpOp)
section
variable {P:Pg} {cl:Caller} {σ:Sg}
@[simp] theorem zG (a l:E):ev P cl σ (.sli a (.cons l .nil) .nil)=(ev P cl σ a >>= λx=>ev P cl σ l >>= λl=>match l.d with|.int l=>.iff (aG l) (eG x (some l) none)|_=>.bad):=by
 show(ev P cl σ a >>= λx=>evs P cl σ (.cons l .nil) >>= λl=>evs P cl σ .nil >>= λh=>_)=_
 cases ev P cl σ a with
 | ok x=>
  show((ev P cl σ l >>= λx=>evs P cl σ .nil >>= λxs=>R.ok (x::xs)) >>= λl=>_)=(ev P cl σ l >>= λl=>_)
  cases ev P cl σ l <;> rfl
 | exc e=>rfl
 | bad=>rfl
@[simp] theorem aKm (a l h:E):ev P cl σ (.sli a (.cons l .nil) (.cons h .nil))=(ev P cl σ a >>= λx=>ev P cl σ l >>= λl=>ev P cl σ h >>= λh=>match l.d,h.d with|.int l,.int h=>.iff (aG l&&aG h) (eG x (some l) (some h))|_,_=>.bad):=by
 show(ev P cl σ a >>= λx=>evs P cl σ (.cons l .nil) >>= λl=>evs P cl σ (.cons h .nil) >>= λh=>_)=_
 cases ev P cl σ a with
 | ok x=>
  show((ev P cl σ l >>= λx=>evs P cl σ .nil >>= λxs=>R.ok (x::xs)) >>= λl=>_)=(ev P cl σ l >>= λl=>_)
  cases ev P cl σ l with
  | ok l=>
   show((ev P cl σ h >>= λx=>evs P cl σ .nil >>= λxs=>R.ok (x::xs)) >>= λh=>_)=(ev P cl σ h >>= λh=>_)
   cases ev P cl σ h <;> rfl
  | exc e=>rfl
  | bad=>rfl
 | exc e=>rfl
 | bad=>rfl
end
theorem eO{n k:Nat}(h:k<n):ixN n (k:Int)=some k:=by
 unfold ixN
 rw[if_pos (Int.natCast_nonneg k),if_pos (by omega)]
 simp
def num(c:Int):Nat->Int
 | 0=>c % 2147483647+48271
 | k+1=>(num c k*num c k+48271*num c k+(k:Int)) % 2147483647
def aJH(b:Str×Int):D:=.tup [.str b.1,.int b.2]
@[simp] theorem aJI (b:Str×Int):noL (aJH b)=true:=by simp[aJH,noL,noLs]
end Hp
end
noncomputable section
namespace HpS
open Hp PySem
inductive Sm where
 | num (n:Int)|box (k:Nat)|aft (k:Nat)|two (p:Bool) (a b:Sm)
def lY(p:Bool):Str:=if p then "plus" else "minus"
def Sm.d:Sm->D
 | .num n=>.tup [.str "number",.int n]
 | .box k=>.tup [.str "box",.int k]
 | .aft k=>.tup [.str "after",.int k]
 | .two p a b=>.tup [.str (lY p),a.d,b.d]
def Sm.sz:Sm->Nat
 | .two _ a b=>1+a.sz+b.sz
 | _=>1
def Sm.val(ah be:List Int):Sm->Int
 | .num n=>n
 | .box k=>ah.getD k 0
 | .aft k=>be.getD k 0
 | .two p a b=>if p then a.val ah be+b.val ah be else a.val ah be-b.val ah be
def Sm.wf(c:Nat)(pl:Bool):Sm->Prop
 | .num n=>0<=n/\n<=99
 | .box k=>k<c
 | .aft k=>k<c/\pl=false
 | .two _ a b=>a.wf c pl/\b.wf c pl
theorem Sm.noL:∀s:Sm,Hp.noL s.d=true
 | .num _=>rfl
 | .box _=>rfl
 | .aft _=>rfl
 | .two _ a b=>by simp[Sm.d,Hp.noL,noLs,a.noL,b.noL]
theorem bY{v:Vl}{d:D}(h:Hp.noL d=true):Vl.sub v d=.cl d:=by unfold Vl.sub;rw[if_pos h]
theorem eY(x:D)(r:List D)(h:Hp.noL x=true):bV (.cl (.tup (x::r))) (.cl (.int 0))=.ok (.cl x):=by
 have:ixN (x::r).length 0=some 0:=eO (k:=0) (by simp)
 unfold bV
 simp only[bU,this,gZ,bY h]
theorem fX(x y:D)(r:List D)(h:Hp.noL y=true):bV (.cl (.tup (x::y::r))) (.cl (.int 1))=.ok (.cl y):=by
 have:ixN (x::y::r).length 1=some 1:=eO (k:=1) (by simp)
 unfold bV
 simp only[bU,this,gZ,gS,bY h]
theorem uX(x y z:D)(r:List D)(h:Hp.noL z=true):bV (.cl (.tup (x::y::z::r))) (.cl (.int 2))=.ok (.cl z):=by
 have:ixN (x::y::z::r).length 2=some 2:=eO (k:=2) (by simp)
 unfold bV
 simp only[bU,this,gZ,gS,bY h]
theorem sK{is:List Int}{k:Nat}(h:k<is.length):bV (.cl (aR is)) (.cl (.int (k:Int)))=.ok (.cl (.int (is.getD k 0))):=by
 unfold bV aR
 have hl:(is.map D.int).length=is.length:=by simp
 have e:(is.map D.int)[k]? = some (.int (is.getD k 0)):=by simp[h]
 simp only[bU,hl,eO h,e,Vl.sub,Hp.noL,if_true]
def mB(f:Nat):Fn:=⟨3,6,
 (.cons (.set (.n 3) (.idx (.v 0) (.c (.int 0))))
 (.cons (.iff (.cmp .Eq (.v 3) (.c (.str "number")))
  (.cons (.ret (.idx (.v 0) (.c (.int 1))))
  .nil)
  .nil)
 (.cons (.iff (.cmp .Eq (.v 3) (.c (.str "box")))
  (.cons (.ret (.idx (.v 1) (.idx (.v 0) (.c (.int 1)))))
  .nil)
  .nil)
 (.cons (.iff (.cmp .Eq (.v 3) (.c (.str "after")))
  (.cons (.ret (.idx (.v 2) (.idx (.v 0) (.c (.int 1)))))
  .nil)
  .nil)
 (.cons (.set (.n 4) (.call f (.cons (.idx (.v 0) (.c (.int 1))) (.cons (.v 1) (.cons (.v 2) .nil)))))
 (.cons (.set (.n 5) (.call f (.cons (.idx (.v 0) (.c (.int 2))) (.cons (.v 1) (.cons (.v 2) .nil)))))
 (.cons (.ret (.ife (.cmp .Eq (.v 3) (.c (.str "plus"))) (.op .Add (.v 4) (.v 5)) (.op .Sub (.v 4) (.v 5))))
 .nil)))))))⟩
theorem aHg:(("number" : Str) == "number")=true:=by decide +kernel
theorem aDV:(("box" : Str) == "number")=false:=by decide +kernel
theorem aJJ:(("box" : Str) == "box")=true:=by decide +kernel
theorem aLn:(("after" : Str) == "number")=false:=by decide +kernel
theorem aLo:(("after" : Str) == "box")=false:=by decide +kernel
theorem aLp:(("after" : Str) == "after")=true:=by decide +kernel
theorem aJK:∀p,(lY p == "number")=false:=by decide +kernel
theorem aJL:∀p,(lY p == "box")=false:=by decide +kernel
theorem aJM:∀p,(lY p == "after")=false:=by decide +kernel
theorem aJN:∀p,(lY p == "plus")=p:=by decide +kernel
theorem iL{P:Pg}{f:Nat}(hF:P.fns[f]? = some (mB f)){ah be:List Int}{bd:D}{c:Nat}{pl:Bool}(ha:ah.length=c)(hb:be.length=c)(hn:Hp.noL bd=true)(hbd:pl=false->bd=aR be) :
 ∀(s:Sm) (n:Nat),s.wf c pl->call P (n+s.sz) f [s.d,aR ah,bd]=.ok (.int (s.val ah be),false,false)
 | .num k,n,w=>by
  refine aN (F:=mB f) hF rfl (v:=.cl (.int k)) ?_
  exact cs (fI (dF (v0_ rfl) rfl (eY _ _ rfl))) (mQ (cY rfl aHg) (dQ (dF (v0_ rfl) rfl (fX _ _ _ rfl))))
 | .box k,n,w=>by
  have w:k<c:=w
  refine aN (F:=mB f) hF rfl (v:=.cl (.int (ah.getD k 0))) ?_
  exact cs (fI (dF (v0_ rfl) rfl (eY _ _ rfl))) (cs (eE (cY rfl aDV)) (mQ (cY rfl aJJ) (dQ (dF (v1_ (aZ _)) (dF (v0_ rfl) rfl (fX _ _ _ rfl)) (sK (by omega))))))
 | .aft k,n,w=>by
  obtain⟨w1,w2⟩:k<c/\pl=false:=w
  have e:=hbd w2
  subst e
  refine aN (F:=mB f) hF rfl (v:=.cl (.int (be.getD k 0))) ?_
  exact cs (fI (dF (v0_ rfl) rfl (eY _ _ rfl))) (cs (eE (cY rfl aLn)) (cs (eE (cY rfl aLo)) (mQ (cY rfl aLp) (dQ (dF (v2_ (aZ _)) (dF (v0_ rfl) rfl (fX _ _ _ rfl)) (sK (by omega)))))))
 | .two p a b,n,w=>by
  obtain⟨w1,w2⟩:a.wf c pl/\b.wf c pl:=w
  have c1:=iL hF ha hb hn hbd a (n+b.sz) w1
  have c2:=iL hF ha hb hn hbd b (n+a.sz) w2
  rw[show n+b.sz+a.sz=n+a.sz+b.sz by omega] at c1
  have e:n+Sm.sz (.two p a b)=n+a.sz+b.sz+1:=by show n+(1+a.sz+b.sz)=_;omega
  rw[e]
  refine aN (F:=mB f) hF rfl (v:=.cl (.int (Sm.val ah be (.two p a b)))) ?_
  refine cs (fI (dF (v0_ (Sm.noL _)) rfl (eY _ _ rfl))) (cs (eE (cY rfl (aJK p))) (cs (eE (cY rfl (aJL p))) (cs (eE (cY rfl (aJM p))) (cs (fI (cP (dF (v0_ (Sm.noL _)) rfl (fX _ _ _ a.noL)) (v1_ (aZ _)) (v2_ hn) c1)) (cs (fI (cP (dF (v0_ (Sm.noL _)) rfl (uX _ _ _ _ b.noL)) (v1_ (aZ _)) (v2_ hn) c2)) (dQ (zB (cY rfl (aJN p)) ?_)))))))
  cases p <;> rfl
theorem fY{P:Pg}{cl:Caller}{f:Nat}{F:Fn}{ds:List D}(hF:P.fns[f]? = some F)(hl:ds.length=F.np){σ:Sg}
 (h:exs P cl ((ds.map λd=>Sl.sh true d)++List.replicate (F.ns-F.np) Sl.dead) F.body=.next σ):jV P cl f ds=.ok (.non,false,false):=by
 unfold jV
 rw[hF]
 simp only[hl,if_true,h]
@[simp] theorem uY {P:Pg} {cl:Caller} {σ:Sg} (i:Nat) (a:E):ev P cl σ (.tget i a)=(ev P cl σ a >>= λx=>match x.d,P.tabs[i]? with|.str k,some t=>.ok (.cl ((t.lookup k).getD .non))|_,_=>.bad):=id rfl
def fWhole:Fn:=⟨1,1,(.cons (.ret (.an (.isi (.v 0) [.tInt]) (.nt (.isi (.v 0) [.tBool])))) .nil)⟩
def fWithin(wh:Nat):Fn:=⟨3,3,(.cons (.ret (.an (.call wh (.cons (.v 0) .nil)) (.cmp2 .LtE .LtE (.v 1) (.v 0) (.v 2)))) .nil)⟩
def fCheck(wi:Nat):Fn:=⟨3,4,
 (.cons (.set (.n 3) (.ife (.cmp .Eq (.v 1) (.c (.str "number"))) (.c (.int 99)) (.op .Sub (.bi .len (.cons (.v 0) .nil)) (.c (.int 1)))))
 (.cons (.iff (.nt (.call wi (.cons (.v 2) (.cons (.c (.int 0)) (.cons (.v 3) .nil)))))
  (.cons (.rse 1 false (.cons (.c (.str "a number is a whole one from 0 to 99, a box the number of one")) .nil))
  .nil)
  .nil)
 .nil))⟩
theorem oY{P:Pg}{wh:Nat}(hF:P.fns[wh]? = some fWhole)(n:Nat)(i:Int):call P (n+1) wh [.int i]=.ok (.bl true,false,false):=aN (F:=fWhole) hF rfl (v:=.cl (.bl true)) rfl
theorem mD{P:Pg}{wh wi:Nat}(hW:P.fns[wh]? = some fWhole)(hF:P.fns[wi]? = some (fWithin wh))(n:Nat)(i a b:Int)(h1:a<=i)(h2:i<=b):call P (n+2) wi [.int i,.int a,.int b]=.ok (.bl true,false,false):=by
 refine aN (F:=fWithin wh) hF rfl (v:=.cl (.bl true)) ?_
 simp[fWithin,aX,oY hW,h1,h2]
theorem aCn{P:Pg}{wh wi ch:Nat}(hW:P.fns[wh]? = some fWhole)(hI:P.fns[wi]? = some (fWithin wh))(hF:P.fns[ch]? = some (fCheck wi))(n:Nat){bs:List D}{due:Str}{i:Int}(h0:0<=i)(h1:i<=(if due == "number" then 99 else (bs.length:Int)-1)) :
 call P (n+3) ch [.lst bs,.str due,.int i]=.ok (.non,false,false):=by
 have c1:=mD hW hI n i 0 _ h0 h1
 cases q:due == "number" with
 | true=>
  rw[q,if_pos rfl] at c1
  refine fY (F:=fCheck wi) hF rfl (σ:=[.sh true (.lst bs),.sh true (.str due),.sh true (.int i),.sh false (.int 99)]) ?_
  simp[fCheck,aX,q,c1]
 | false=>
  rw[q,if_neg bN] at c1
  refine fY (F:=fCheck wi) hF rfl (σ:=[.sh true (.lst bs),.sh true (.str due),.sh true (.int i),.sh false (.int ((bs.length:Int)-1))]) ?_
  simp[fCheck,aX,q,c1]
def sumTab:List (Str×D):=[("number",.tup [.str "number"]),("box",.tup [.str "box"]),("after",.tup [.str "box"]),("plus",.tup [.str "sum",.str "sum"]),("minus",.tup [.str "sum",.str "sum"])]
def fForm:Fn:=⟨3,5,
 (.cons (.iff (.orr (.nt (.isi (.v 1) [.tTuple])) (.orr (.cmp .Eq (.bi .len (.cons (.v 1) .nil)) (.c (.int 0))) (.nt (.isi (.idx (.v 1) (.c (.int 0))) [.tStr]))))
  (.cons (.rse 1 false (.cons (.c (.str "a part is a tuple that begins with a word")) .nil))
  .nil)
  .nil)
 (.cons (.set (.n 3) (.idx (.v 1) (.c (.int 0))))
 (.cons (.set (.n 4) (.ife (.cmp .Eq (.v 0) (.c (.str "sum"))) (.tget 0 (.v 3)) (.tget 1 (.v 3))))
 (.cons (.iff (.orr (.cmp .Is (.v 4) (.c .non)) (.cmp .NotEq (.bi .len (.cons (.v 1) .nil)) (.op .Add (.bi .len (.cons (.v 4) .nil)) (.c (.int 1)))))
  (.cons (.rse 1 false (.cons (.c (.str "a part has a word that is due there, and as many things as go with it")) .nil))
  .nil)
  .nil)
 (.cons (.iff (.an (.v 2) (.cmp .Eq (.v 3) (.c (.str "after"))))
  (.cons (.rse 1 false (.cons (.c (.str "no after stands where a plain one is due")) .nil))
  .nil)
  .nil)
 (.cons (.retv 4)
 .nil))))))⟩
def Sm.word:Sm->Str
 | .num _ => "number" | .box _ => "box" | .aft _ => "after" | .two p _ _=>lY p
def Sm.rest:Sm->List D
 | .num n=>[.int n]|.box k=>[.int k]|.aft k=>[.int k]|.two _ a b=>[a.d,b.d]
def Sm.form:Sm->List Str
 | .num _=>["number"]|.box _=>["box"]|.aft _=>["box"]|.two _ _ _=>["sum", "sum"]
theorem Sm.d_eq:∀s:Sm,s.d=.tup (.str s.word::s.rest)
 | .num _=>rfl|.box _=>rfl|.aft _=>rfl|.two _ _ _=>rfl
theorem Sm.rest_noL:∀s:Sm,noLs s.rest=true
 | .num _=>rfl|.box _=>rfl|.aft _=>rfl
 | .two _ a b=>by simp[Sm.rest,noLs,a.noL,b.noL]
theorem Sm.len_eq:∀s:Sm,s.rest.length=s.form.length
 | .num _=>rfl|.box _=>rfl|.aft _=>rfl|.two _ _ _=>rfl
theorem Sm.look:∀s:Sm,sumTab.lookup s.word=some (.tup (s.form.map D.str))
 | .num _=>by rfl
 | .box _=>by rfl
 | .aft _=>by rfl
 | .two true _ _=>by rfl
 | .two false _ _=>by rfl
theorem aDW{P:Pg}{fo:Nat}(hF:P.fns[fo]? = some fForm)(hT:P.tabs[0]? = some sumTab)(n:Nat)(s:Sm){c:Nat}{pl:Bool}(w:s.wf c pl):call P (n+1) fo [.str "sum",s.d,.bl pl]=.ok (.tup (s.form.map D.str),false,false):=by
 have v1:=bB 1 true s.noL
 rw[s.d_eq] at v1 ⊢
 have i0:=eY (.str s.word) s.rest rfl
 have qs:(("sum" : Str) == "sum")=true:=by decide +kernel
 have hln:((.str s.word::s.rest:List D).length:Int)=(s.form.length:Int)+1:=by rw[lC,s.len_eq];omega
 have h0:((((.str s.word::s.rest:List D).length:Int))==0)=false:=by rw[hln];exact beq_eq_false_iff_ne.mpr (by omega)
 have t1:tst P (call P n) [.sh true (.str "sum"),.sh true (.tup (.str s.word::s.rest)),.sh true (.bl pl),.dead,.dead] (.orr (.nt (.isi (.v 1) [.tTuple])) (.orr (.cmp .Eq (.bi .len (.cons (.v 1) .nil)) (.c (.int 0))) (.nt (.isi (.idx (.v 1) (.c (.int 0))) [.tStr]))))=.ok false:=by
  simp only[eL,iG,yW,bR,cO,bI,fD,cX,aE,aT,aX,gS,gZ,v1,aA,bU,zA,Bool.not_true,bF,if_false,iY,dO,fG,h0,i0,yZ]
 have t2:tst P (call P n) [.sh true (.str "sum"),.sh true (.tup (.str s.word::s.rest)),.sh true (.bl pl),.sh false (.str s.word),.sh false (.tup (s.form.map D.str))] (.orr (.cmp .Is (.v 4) (.c .non)) (.cmp .NotEq (.bi .len (.cons (.v 1) .nil)) (.op .Add (.bi .len (.cons (.v 4) .nil)) (.c (.int 1)))))=.ok false:=by
  have hi:bL .Is (.tup (s.form.map D.str)) .non=some false:=rfl
  have hq:(((s.form.length:Int)+1==(s.form.length:Int)+1))=true:=beq_self_eq_true _
  simp only[eL,bR,cO,bI,fD,eT,aE,aT,aX,gS,gZ,v1,aQ,aA,bU,hi,bF,if_false,iY,hln,lM,add_int,xG,fG,hq,Option.map_some,Bool.not_true]
 have t3:tst P (call P n) [.sh true (.str "sum"),.sh true (.tup (.str s.word::s.rest)),.sh true (.bl pl),.sh false (.str s.word),.sh false (.tup (s.form.map D.str))] (.an (.v 2) (.cmp .Eq (.v 3) (.c (.str "after"))))=.ok false:=by
  simp only[aCf,aEJ,bR,cO,bI,aX,gS,gZ,lX,aQ,aA,oU,bU,dO,fH]
  cases pl with
  | false=>rfl
  | true=>
   have:(s.word == "after")=false:=by
    cases s with
    | num _=>exact(show((("number" : Str)) == "after")=false by decide +kernel)
    | box _=>exact(show((("box" : Str)) == "after")=false by decide +kernel)
    | aft k=>obtain⟨_,z⟩:k<c/\true=false:=w;cases z
    | two p _ _=>exact aJM p
   rw[if_pos rfl,this]
 refine aN (F:=fForm) hF rfl (v:=.cl (.tup (s.form.map D.str))) ?_
 have hnl:Hp.noL (.tup (s.form.map D.str))=true:=by cases s <;> rfl
 have hl:=s.look
 show exs P (call P n) [.sh true (.str "sum"),.sh true (.tup (.str s.word::s.rest)),.sh true (.bl pl),.dead,.dead] fForm.body=_
 unfold fForm
 simp only[aW,cH,bJ,t1,aF,bF,if_false,kP,dJ,cX,cO,bI,aX,gS,gZ,v1,aA,i0,eD,bE,eJ,bX,lS,lZ,xB,bR,nK,bU,dO,fH,qs,if_true,uY,aQ,hT,hl,Option.getD_some,t2,t3,nH,gW]
def fLook(fo ch lo:Nat):Fn:=⟨5,8,
 (.cons (.iff (.cmp .Eq (.v 4) (.c (.int 40)))
  (.cons (.rse 2 false (.cons (.c (.str "a condition or sum has at most forty parts")) .nil))
  .nil)
  .nil)
 (.cons (.set (.n 4) (.op .Add (.v 4) (.c (.int 1))))
 (.cons (.set (.n 5) (.call fo (.cons (.v 1) (.cons (.v 2) (.cons (.v 3) .nil)))))
 (.cons (.for (.t [6,7]) (.zip (.v 5) (.sli (.v 2) (.cons (.c (.int 1)) .nil) .nil))
  (.cons (.iff (.orr (.cmp .Eq (.v 6) (.c (.str "sum"))) (.cmp .Eq (.v 6) (.c (.str "cond"))))
   (.cons (.set (.n 4) (.call lo (.cons (.v 0) (.cons (.v 6) (.cons (.v 7) (.cons (.v 3) (.cons (.v 4) .nil)))))))
   .nil)
   (.cons (.ex (.call ch (.cons (.v 0) (.cons (.v 6) (.cons (.v 7) .nil)))))
   .nil))
  .nil))
 (.cons (.retv 4)
 .nil)))))⟩
def cZ(ch lo:Nat):Ss:=(.cons (.iff (.orr (.cmp .Eq (.v 6) (.c (.str "sum"))) (.cmp .Eq (.v 6) (.c (.str "cond"))))
 (.cons (.set (.n 4) (.call lo (.cons (.v 0) (.cons (.v 6) (.cons (.v 7) (.cons (.v 3) (.cons (.v 4) .nil)))))))
 .nil)
 (.cons (.ex (.call ch (.cons (.v 0) (.cons (.v 6) (.cons (.v 7) .nil)))))
 .nil))
 .nil)
def fZ(w:Str)(d:D):Vl:=.cl (.tup [.str w,d])
theorem aEM{P:Pg}{cl:Caller}{σ:Sg}(e:E):ex P cl σ (.ex e)=O.from σ (ev P cl σ e) λ_=>.next σ:=rfl
theorem mR{s0 s1 s2 s3 s4 s5 s6 s7:Sl}{w:Str}{d:D}(h:Hp.noL d=true):bG [s0,s1,s2,s3,s4,s5,s6,s7] (fZ w d) (.t [6,7])=.ok [s0,s1,s2,s3,s4,s5,.sh false (.str w),.sh false d]:=by
 unfold bG fZ
 simp only[bU,lC,lN,if_true,List.zip_cons_cons,List.zip_nil_left,List.foldl_cons,List.foldl_nil,bY (show Hp.noL (.str w)=true from rfl),bY h,bX,lS,lZ]
theorem uZ{P:Pg}{cl:Caller}{s0 s1 s3 s4 s6 s7:Sl}(s:Sm):walk P cl [s0,s1,.sh true s.d,s3,s4,.sh false (.tup (s.form.map D.str)),s6,s7] (.zip (.v 5) (.sli (.v 2) (.cons (.c (.int 1)) .nil) .nil)) =
 .ok ((s.form.zip s.rest).map λp=>fZ p.1 p.2,[]):=by
 have v2:=bB 2 true s.noL
 have k1:aG 1=true:=by decide
 have hno:noLs (.str s.word::s.rest)=true:=by simp[noLs,Hp.noL,s.rest_noL]
 have hcut:cut (.str s.word::s.rest) (some 1) none=s.rest:=by cases s <;> rfl
 have hs:eG (.cl (.tup (.str s.word::s.rest))) (some 1) none=.ok (.cl (.tup s.rest)):=by
  unfold eG
  simp only[bU,hcut,qN,Bool.false_and,hno,if_true]
  rfl
 have hz:items ⟨.non,false,false,[]⟩ (gE (s.form.map D.str) s.rest)=(s.form.zip s.rest).map λp=>fZ p.1 p.2:=by
  cases s with
  | num _=>rfl
  | box _=>rfl
  | aft _=>rfl
  | two p a b=>
   show [Vl.sub _ (.tup [.str "sum",a.d]),Vl.sub _ (.tup [.str "sum",b.d])]=[fZ "sum" a.d,fZ "sum" b.d]
   rw[bY (by simp[Hp.noL,noLs,a.noL]),bY (by simp[Hp.noL,noLs,b.noL])]
   rfl
 rw[s.d_eq] at v2 ⊢
 simp only[oQ,cO,zG,bI,aX,gS,gZ,v2,aQ,aA,bU,k1,qL,hs,gF,qN,Bool.or_self,eD,List.append_nil]
 rw[hz]
theorem aLq:(("sum" : Str) == "sum")=true:=by decide +kernel
theorem aLr:(("number" : Str) == "sum")=false:=by decide +kernel
theorem aLs:(("number" : Str) == "cond")=false:=by decide +kernel
theorem aJO:(("box" : Str) == "sum")=false:=by decide +kernel
theorem aJP:(("box" : Str) == "cond")=false:=by decide +kernel
section
variable {P:Pg} {wh wi ch fo lo:Nat} (hW:P.fns[wh]? = some fWhole) (hI:P.fns[wi]? = some (fWithin wh)) (hC:P.fns[ch]? = some (fCheck wi)) (hO:P.fns[fo]? = some fForm) (hT:P.tabs[0]? = some sumTab) (hL:P.fns[lo]? = some (fLook fo ch lo))
include hW hI hC hO hT hL
theorem aAC{n:Nat}{bs:List D}{s1 s2 s3 s5 s6 s7:Sl}{m:Int}{w:Str}{i:Int}(h0:0<=i)(h1:i<=(if w == "number" then 99 else (bs.length:Int)-1))(q1:(w == "sum")=false)(q2:(w == "cond")=false) :
 exs P (call P (n+3)) [.sh true (.lst bs),s1,s2,s3,.sh false (.int m),s5,.sh false (.str w),.sh false (.int i)] (cZ ch lo)=.next [.sh true (.lst bs),s1,s2,s3,.sh false (.int m),s5,.sh false (.str w),.sh false (.int i)]:=by
 have c1:=aCn hW hI hC n (bs:=bs) (due:=w) h0 h1
 simp only[cZ,aW,cH,bJ,eL,bR,cO,bI,aX,gS,gZ,aQ,aA,bU,dO,fH,q1,q2,bF,if_false,aF,aEM,cG,aE,aT,eN,mC,mN,c1,kP]
end
theorem kW{P:Pg}{ch lo M:Nat}{bs:List D}{s1 s2 s5:Sl}{pl:Bool}{m m':Int}{d:D}(c1:call P M lo [.lst bs,.str "sum",d,.bl pl,.int m]=.ok (.int m',false,false)) :
 exs P (call P M) [.sh true (.lst bs),s1,s2,.sh true (.bl pl),.sh false (.int m),s5,.sh false (.str "sum"),.sh false d] (cZ ch lo)=.next [.sh true (.lst bs),s1,s2,.sh true (.bl pl),.sh false (.int m'),s5,.sh false (.str "sum"),.sh false d]:=by
 simp only[cZ,aW,cH,bJ,eL,bR,cO,bI,aX,gS,gZ,aQ,aA,bU,dO,fH,aLq,if_true,aF,dJ,cG,aE,aT,eN,lX,mC,mN,c1,fO,eD,bE,eJ,bX,lS,lZ,kP]
section
variable {P:Pg} {wh wi ch fo lo:Nat} (hW:P.fns[wh]? = some fWhole) (hI:P.fns[wi]? = some (fWithin wh)) (hC:P.fns[ch]? = some (fCheck wi)) (hO:P.fns[fo]? = some fForm) (hT:P.tabs[0]? = some sumTab) (hL:P.fns[lo]? = some (fLook fo ch lo))
include hW hI hC hO hT hL
theorem zH{m:Nat}{bs:List D}{s:Sm}{c:Nat}{pl:Bool}{seen r:Int}{s6 s7:Sl}(w:s.wf c pl)(hs:seen<40)
 (hfor:ex P (call P (m+1)) [.sh true (.lst bs),.sh true (.str "sum"),.sh true s.d,.sh true (.bl pl),.sh false (.int (seen+1)),.sh false (.tup (s.form.map D.str)),.dead,.dead] (.for (.t [6,7]) (.zip (.v 5) (.sli (.v 2) (.cons (.c (.int 1)) .nil) .nil)) (cZ ch lo)) =
  .next [.sh true (.lst bs),.sh true (.str "sum"),.sh true s.d,.sh true (.bl pl),.sh false (.int r),.sh false (.tup (s.form.map D.str)),s6,s7]) :
 call P (m+2) lo [.lst bs,.str "sum",s.d,.bl pl,.int seen]=.ok (.int r,false,false):=by
 have c1:=aDW hO hT m s w
 have v2:=bB 2 true s.noL
 have q40:(seen==40)=false:=beq_eq_false_iff_ne.mpr (by omega)
 refine aN (F:=fLook fo ch lo) hL rfl (v:=.cl (.int r)) ?_
 show exs P (call P (m+1)) [.sh true (.lst bs),.sh true (.str "sum"),.sh true s.d,.sh true (.bl pl),.sh true (.int seen),.dead,.dead,.dead] (.cons (.iff (.cmp .Eq (.v 4) (.c (.int 40)))
  (.cons (.rse 2 false (.cons (.c (.str "a condition or sum has at most forty parts")) .nil))
  .nil)
  .nil)
 (.cons (.set (.n 4) (.op .Add (.v 4) (.c (.int 1))))
 (.cons (.set (.n 5) (.call fo (.cons (.v 1) (.cons (.v 2) (.cons (.v 3) .nil)))))
 (.cons (.for (.t [6,7]) (.zip (.v 5) (.sli (.v 2) (.cons (.c (.int 1)) .nil) .nil)) (cZ ch lo))
 (.cons (.retv 4)
 .nil)))))=_
 simp only[aW,cH,bJ,bR,cO,bI,aX,gS,gZ,fE,aA,bU,dO,fG,q40,bF,if_false,aF,kP,dJ,eT,add_int,eD,bE,eJ,bX,lS,lZ,cG,aE,aT,nK,v2,lX,mC,mN,c1,fO,hfor,nH,gW]
theorem sL{n:Nat}{bs:List D}{s:Sm}{c:Nat}{pl:Bool}{seen:Int}{w:Str}{i:Int}(hwf:s.wf c pl)(hs:seen<40)(hf:s.form=[w])(hr:s.rest=[.int i])(h0:0<=i)(h1:i<=(if w == "number" then 99 else (bs.length:Int)-1))(q1:(w == "sum")=false)(q2:(w == "cond")=false) :
 call P (n+4) lo [.lst bs,.str "sum",s.d,.bl pl,.int seen]=.ok (.int (seen+1),false,false):=by
 refine zH hW hI hC hO hT hL (m:=n+2) (s6:=.sh false (.str w)) (s7:=.sh false (.int i)) hwf hs ?_
 have tl:∀{s1 s2 s3 s5:Sl} {m:Int},exs P (call P (n+2+1)) [.sh true (.lst bs),s1,s2,s3,.sh false (.int m),s5,.sh false (.str w),.sh false (.int i)] (cZ ch lo)=.next [.sh true (.lst bs),s1,s2,s3,.sh false (.int m),s5,.sh false (.str w),.sh false (.int i)]:=aAC hW hI hC hO hT hL (n:=n) (s6:=.dead) (s7:=.dead) h0 h1 q1 q2
 rw[fN,uZ,hf,hr,aF]
 simp only[List.zip_cons_cons,List.zip_nil_left,mC,mN,bE,bZ,mR (show Hp.noL (.int i)=true from rfl),aF,tl]
theorem kY{bs:List D}{c:Nat}(hc:bs.length=c){pl:Bool}:∀(s:Sm) (n:Nat) (seen:Int),s.wf c pl->seen+s.sz<=40->call P (n+3+s.sz) lo [.lst bs,.str "sum",s.d,.bl pl,.int seen]=.ok (.int (seen+s.sz),false,false)
 | .num k,n,seen,w,h=>by
  have h:seen+1<=40:=h
  obtain⟨w1,w2⟩:0<=k/\k<=99:=w
  exact sL hW hI hC hO hT hL (n:=n) (s:=.num k) (c:=c) ⟨w1,w2⟩ (by omega) rfl rfl w1 (by rw[aHg,if_pos rfl];exact w2) aLr aLs
 | .box k,n,seen,w,h=>by
  have h:seen+1<=40:=h
  have w1:k<c:=w
  exact sL hW hI hC hO hT hL (n:=n) (s:=.box k) (c:=c) w1 (by omega) rfl rfl (by omega) (by rw[aDV,if_neg bN];omega) aJO aJP
 | .aft k,n,seen,w,h=>by
  have h:seen+1<=40:=h
  obtain⟨w1,w2⟩:k<c/\pl=false:=w
  exact sL hW hI hC hO hT hL (n:=n) (s:=.aft k) (c:=c) ⟨w1,w2⟩ (by omega) rfl rfl (by omega) (by rw[aDV,if_neg bN];omega) aJO aJP
 | .two p a b,n,seen,w,h=>by
  have h:seen+((1+a.sz+b.sz:Nat):Int)<=40:=h
  obtain⟨w1,w2⟩:a.wf c pl/\b.wf c pl:=w
  have pa:1<=a.sz:=by cases a <;> simp[Sm.sz];omega
  have c1:=kY hc a (n+b.sz) (seen+1) w1 (by omega)
  have c2:=kY hc b (n+a.sz) (seen+1+a.sz) w2 (by omega)
  have e1:n+b.sz+3+a.sz=n+2+a.sz+b.sz+1:=by omega
  have e2:n+a.sz+3+b.sz=n+2+a.sz+b.sz+1:=by omega
  rw[e1] at c1
  rw[e2] at c2
  have e3:n+3+Sm.sz (.two p a b)=n+2+a.sz+b.sz+2:=by show n+3+(1+a.sz+b.sz)=_;omega
  have e4:seen+((Sm.sz (.two p a b):Nat):Int)=seen+1+a.sz+b.sz:=by show seen+((1+a.sz+b.sz:Nat):Int)=_;omega
  rw[e3,e4]
  refine zH hW hI hC hO hT hL (m:=n+2+a.sz+b.sz) (s6:=.sh false (.str "sum")) (s7:=.sh false b.d) (c:=c) ⟨w1,w2⟩ (by omega) ?_
  rw[fN,uZ,aF]
  have ef:(Sm.two p a b).form=[("sum" : Str),("sum" : Str)]:=rfl
  have er:(Sm.two p a b).rest=[a.d,b.d]:=rfl
  simp only[ef,er,List.zip_cons_cons,List.zip_nil_left,mC,mN,bE,bZ,mR a.noL,mR b.noL,aF,kW c1,kW c2]
end
inductive Cn where
 | yes|cmp (i:Bool) (a b:Sm)|nt (c:Cn)|two (p:Bool) (a b:Cn)
def iM(i:Bool):Str:=if i then "is" else "less"
def eF(p:Bool):Str:=if p then "both" else "either"
def Cn.d:Cn->D
 | .yes=>.tup [.str "yes"]
 | .cmp i a b=>.tup [.str (iM i),a.d,b.d]
 | .nt c=>.tup [.str "not",c.d]
 | .two p a b=>.tup [.str (eF p),a.d,b.d]
def Cn.sz:Cn->Nat
 | .yes=>1
 | .cmp _ a b=>1+a.sz+b.sz
 | .nt c=>1+c.sz
 | .two _ a b=>1+a.sz+b.sz
def Cn.hold(ah be:List Int):Cn->Bool
 | .yes=>true
 | .cmp i a b=>if i then a.val ah be==b.val ah be else decide (a.val ah be<b.val ah be)
 | .nt c=>!c.hold ah be
 | .two p a b=>if p then a.hold ah be&&b.hold ah be else a.hold ah be||b.hold ah be
def Cn.wf(c:Nat)(pl:Bool):Cn->Prop
 | .yes=>True
 | .cmp _ a b=>a.wf c pl/\b.wf c pl
 | .nt x=>x.wf c pl
 | .two _ a b=>a.wf c pl/\b.wf c pl
theorem Cn.noL:∀s:Cn,Hp.noL s.d=true
 | .yes=>rfl
 | .cmp _ a b=>by simp[Cn.d,Hp.noL,noLs,a.noL,b.noL]
 | .nt c=>by simp[Cn.d,Hp.noL,noLs,c.noL]
 | .two _ a b=>by simp[Cn.d,Hp.noL,noLs,a.noL,b.noL]
def oZ(v f:Nat):Fn:=⟨3,6,
 (.cons (.set (.n 3) (.idx (.v 0) (.c (.int 0))))
 (.cons (.iff (.cmp .Eq (.v 3) (.c (.str "yes")))
  (.cons (.ret (.c (.bl true)))
  .nil)
  .nil)
 (.cons (.iff (.cmp .Eq (.v 3) (.c (.str "not")))
  (.cons (.ret (.nt (.call f (.cons (.idx (.v 0) (.c (.int 1))) (.cons (.v 1) (.cons (.v 2) .nil))))))
  .nil)
  .nil)
 (.cons (.iff (.cmp .Eq (.v 3) (.c (.str "both")))
  (.cons (.ret (.an (.call f (.cons (.idx (.v 0) (.c (.int 1))) (.cons (.v 1) (.cons (.v 2) .nil)))) (.call f (.cons (.idx (.v 0) (.c (.int 2))) (.cons (.v 1) (.cons (.v 2) .nil))))))
  .nil)
  .nil)
 (.cons (.iff (.cmp .Eq (.v 3) (.c (.str "either")))
  (.cons (.ret (.orr (.call f (.cons (.idx (.v 0) (.c (.int 1))) (.cons (.v 1) (.cons (.v 2) .nil)))) (.call f (.cons (.idx (.v 0) (.c (.int 2))) (.cons (.v 1) (.cons (.v 2) .nil))))))
  .nil)
  .nil)
 (.cons (.set (.n 4) (.call v (.cons (.idx (.v 0) (.c (.int 1))) (.cons (.v 1) (.cons (.v 2) .nil)))))
 (.cons (.set (.n 5) (.call v (.cons (.idx (.v 0) (.c (.int 2))) (.cons (.v 1) (.cons (.v 2) .nil)))))
 (.cons (.ret (.ife (.cmp .Eq (.v 3) (.c (.str "is"))) (.cmp .Eq (.v 4) (.v 5)) (.cmp .Lt (.v 4) (.v 5))))
 .nil))))))))⟩
theorem aJQ:(("yes" : Str) == "yes")=true:=by decide +kernel
theorem aJR:(("not" : Str) == "yes")=false:=by decide +kernel
theorem aJS:(("not" : Str) == "not")=true:=by decide +kernel
theorem aJT:∀p,(iM p == "yes")=false:=by decide +kernel
theorem aLt:∀p,(iM p == "not")=false:=by decide +kernel
theorem aLu:∀p,(iM p == "both")=false:=by decide +kernel
theorem aLv:∀p,(iM p == "either")=false:=by decide +kernel
theorem aJU:∀p,(iM p == "is")=p:=by decide +kernel
theorem aHh:∀p,(eF p == "yes")=false:=by decide +kernel
theorem aHi:∀p,(eF p == "not")=false:=by decide +kernel
theorem aDX:∀p,(eF p == "both")=p:=by decide +kernel
theorem aLw:∀p,(eF p == "either")=!p:=by decide +kernel
theorem Sm.sz_pos:∀s:Sm,1<=s.sz
 | .num _=>Nat.le_refl _|.box _=>Nat.le_refl _|.aft _=>Nat.le_refl _
 | .two _ a b=>by show 1<=1+a.sz+b.sz;omega
theorem Cn.sz_pos:∀s:Cn,1<=s.sz
 | .yes=>Nat.le_refl _
 | .cmp _ a b=>by show 1<=1+a.sz+b.sz;omega
 | .nt c=>by show 1<=1+c.sz;omega
 | .two _ a b=>by show 1<=1+a.sz+b.sz;omega
theorem kZ{P:Pg}{v f:Nat}(hV:P.fns[v]? = some (mB v))(hF:P.fns[f]? = some (oZ v f)){ah be:List Int}{bd:D}{c:Nat}{pl:Bool}(ha:ah.length=c)(hb:be.length=c)(hn:Hp.noL bd=true)(hbd:pl=false->bd=aR be) :
 ∀(s:Cn) (n:Nat),s.wf c pl->call P (n+s.sz) f [s.d,aR ah,bd]=.ok (.bl (s.hold ah be),false,false)
 | .yes,n,w=>by
  refine aN (F:=oZ v f) hF rfl (v:=.cl (.bl true)) ?_
  exact cs (fI (dF (v0_ rfl) rfl (eY _ _ rfl))) (mQ (cY rfl aJQ) (dQ rfl))
 | .cmp i a b,n,w=>by
  obtain⟨w1,w2⟩:a.wf c pl/\b.wf c pl:=w
  have c1:=iL hV ha hb hn hbd a (n+b.sz) w1
  have c2:=iL hV ha hb hn hbd b (n+a.sz) w2
  rw[show n+b.sz+a.sz=n+a.sz+b.sz by omega] at c1
  have e:n+Cn.sz (.cmp i a b)=n+a.sz+b.sz+1:=by show n+(1+a.sz+b.sz)=_;omega
  rw[e]
  refine aN (F:=oZ v f) hF rfl (v:=.cl (.bl (Cn.hold ah be (.cmp i a b)))) ?_
  refine cs (fI (dF (v0_ (Cn.noL _)) rfl (eY _ _ rfl))) (cs (eE (cY rfl (aJT i))) (cs (eE (cY rfl (aLt i))) (cs (eE (cY rfl (aLu i))) (cs (eE (cY rfl (aLv i))) (cs (fI (cP (dF (v0_ (Cn.noL _)) rfl (fX _ _ _ a.noL)) (v1_ (aZ _)) (v2_ hn) c1)) (cs (fI (cP (dF (v0_ (Cn.noL _)) rfl (uX _ _ _ _ b.noL)) (v1_ (aZ _)) (v2_ hn) c2)) (dQ (zB (cY rfl (aJU i)) ?_))))))))
  cases i <;> rfl
 | .nt x,n,w=>by
  have c1:=kZ hV hF ha hb hn hbd x n w
  have e:n+Cn.sz (.nt x)=n+x.sz+1:=by show n+(1+x.sz)=_;omega
  rw[e]
  refine aN (F:=oZ v f) hF rfl (v:=.cl (.bl (Cn.hold ah be (.nt x)))) ?_
  exact cs (fI (dF (v0_ (Cn.noL _)) rfl (eY _ _ rfl))) (cs (eE (cY rfl aJR)) (mQ (cY rfl aJS) (dQ (aLm (cP (dF (v0_ (Cn.noL _)) rfl (fX _ _ _ x.noL)) (v1_ (aZ _)) (v2_ hn) c1)))))
 | .two p a b,n,w=>by
  obtain⟨w1,w2⟩:a.wf c pl/\b.wf c pl:=w
  have c1:=kZ hV hF ha hb hn hbd a (n+b.sz) w1
  have c2:=kZ hV hF ha hb hn hbd b (n+a.sz) w2
  rw[show n+b.sz+a.sz=n+a.sz+b.sz by omega] at c1
  have e:n+Cn.sz (.two p a b)=n+a.sz+b.sz+1:=by show n+(1+a.sz+b.sz)=_;omega
  rw[e]
  refine aN (F:=oZ v f) hF rfl (v:=.cl (.bl (Cn.hold ah be (.two p a b)))) ?_
  refine cs (fI (dF (v0_ (Cn.noL _)) rfl (eY _ _ rfl))) (cs (eE (cY rfl (aHh p))) (cs (eE (cY rfl (aHi p))) ?_))
  cases p with
  | true=>exact mQ (cY rfl (aDX true)) (dQ (aGZ (cP (dF (v0_ (Cn.noL _)) rfl (fX _ _ _ a.noL)) (v1_ (aZ _)) (v2_ hn) c1) (cP (dF (v0_ (Cn.noL _)) rfl (uX _ _ _ _ b.noL)) (v1_ (aZ _)) (v2_ hn) c2)))
  | false=>exact cs (eE (cY rfl (aDX false))) (mQ (cY rfl (aLw false)) (dQ (aJF (cP (dF (v0_ (Cn.noL _)) rfl (fX _ _ _ a.noL)) (v1_ (aZ _)) (v2_ hn) c1) (cP (dF (v0_ (Cn.noL _)) rfl (uX _ _ _ _ b.noL)) (v1_ (aZ _)) (v2_ hn) c2))))
def condTab:List (Str×D):=[("yes",.tup []),("is",.tup [.str "sum",.str "sum"]),("less",.tup [.str "sum",.str "sum"]),("not",.tup [.str "cond"]),("both",.tup [.str "cond",.str "cond"]),("either",.tup [.str "cond",.str "cond"])]
def Cn.word:Cn->Str
 | .yes => "yes" | .cmp i _ _=>iM i|.nt _ => "not" | .two p _ _=>eF p
def Cn.rest:Cn->List D
 | .yes=>[]|.cmp _ a b=>[a.d,b.d]|.nt x=>[x.d]|.two _ a b=>[a.d,b.d]
def Cn.form:Cn->List Str
 | .yes=>[]|.cmp _ _ _=>["sum", "sum"]|.nt _=>["cond"]|.two _ _ _=>["cond", "cond"]
theorem Cn.d_eq:∀s:Cn,s.d=.tup (.str s.word::s.rest)
 | .yes=>rfl|.cmp _ _ _=>rfl|.nt _=>rfl|.two _ _ _=>rfl
theorem Cn.rest_noL:∀s:Cn,noLs s.rest=true
 | .yes=>rfl
 | .cmp _ a b=>by simp[Cn.rest,noLs,a.noL,b.noL]
 | .nt x=>by simp[Cn.rest,noLs,x.noL]
 | .two _ a b=>by simp[Cn.rest,noLs,a.noL,b.noL]
theorem Cn.len_eq:∀s:Cn,s.rest.length=s.form.length
 | .yes=>rfl|.cmp _ _ _=>rfl|.nt _=>rfl|.two _ _ _=>rfl
theorem Cn.look:∀s:Cn,condTab.lookup s.word=some (.tup (s.form.map D.str))
 | .yes=>by rfl
 | .cmp true _ _=>by rfl
 | .cmp false _ _=>by rfl
 | .nt _=>by rfl
 | .two true _ _=>by rfl
 | .two false _ _=>by rfl
theorem Cn.notAfter:∀s:Cn,(s.word == "after")=false
 | .yes=>by show(("yes" : Str) == "after")=false;decide +kernel
 | .cmp true _ _=>by show(iM true == "after")=false;decide +kernel
 | .cmp false _ _=>by show(iM false == "after")=false;decide +kernel
 | .nt _=>by show(("not" : Str) == "after")=false;decide +kernel
 | .two true _ _=>by show(eF true == "after")=false;decide +kernel
 | .two false _ _=>by show(eF false == "after")=false;decide +kernel
theorem aCo{P:Pg}{fo:Nat}(hF:P.fns[fo]? = some fForm)(hT:P.tabs[1]? = some condTab)(n:Nat)(s:Cn){pl:Bool}:call P (n+1) fo [.str "cond",s.d,.bl pl]=.ok (.tup (s.form.map D.str),false,false):=by
 have v1:=bB 1 true s.noL
 rw[s.d_eq] at v1 ⊢
 have i0:=eY (.str s.word) s.rest rfl
 have qs:(("cond" : Str) == "sum")=false:=by decide +kernel
 have hln:((.str s.word::s.rest:List D).length:Int)=(s.form.length:Int)+1:=by rw[lC,s.len_eq];omega
 have h0:((((.str s.word::s.rest:List D).length:Int))==0)=false:=by rw[hln];exact beq_eq_false_iff_ne.mpr (by omega)
 have t1:tst P (call P n) [.sh true (.str "cond"),.sh true (.tup (.str s.word::s.rest)),.sh true (.bl pl),.dead,.dead] (.orr (.nt (.isi (.v 1) [.tTuple])) (.orr (.cmp .Eq (.bi .len (.cons (.v 1) .nil)) (.c (.int 0))) (.nt (.isi (.idx (.v 1) (.c (.int 0))) [.tStr]))))=.ok false:=by
  simp only[eL,iG,yW,bR,cO,bI,fD,cX,aE,aT,aX,gS,gZ,v1,aA,bU,zA,Bool.not_true,bF,if_false,iY,dO,fG,h0,i0,yZ]
 have t2:tst P (call P n) [.sh true (.str "cond"),.sh true (.tup (.str s.word::s.rest)),.sh true (.bl pl),.sh false (.str s.word),.sh false (.tup (s.form.map D.str))] (.orr (.cmp .Is (.v 4) (.c .non)) (.cmp .NotEq (.bi .len (.cons (.v 1) .nil)) (.op .Add (.bi .len (.cons (.v 4) .nil)) (.c (.int 1)))))=.ok false:=by
  have hi:bL .Is (.tup (s.form.map D.str)) .non=some false:=rfl
  have hq:(((s.form.length:Int)+1==(s.form.length:Int)+1))=true:=beq_self_eq_true _
  simp only[eL,bR,cO,bI,fD,eT,aE,aT,aX,gS,gZ,v1,aQ,aA,bU,hi,bF,if_false,iY,hln,lM,add_int,xG,fG,hq,Option.map_some,Bool.not_true]
 have t3:tst P (call P n) [.sh true (.str "cond"),.sh true (.tup (.str s.word::s.rest)),.sh true (.bl pl),.sh false (.str s.word),.sh false (.tup (s.form.map D.str))] (.an (.v 2) (.cmp .Eq (.v 3) (.c (.str "after"))))=.ok false:=by
  simp only[aCf,aEJ,bR,cO,bI,aX,gS,gZ,lX,aQ,aA,oU,bU,dO,fH,s.notAfter]
  cases pl <;> rfl
 refine aN (F:=fForm) hF rfl (v:=.cl (.tup (s.form.map D.str))) ?_
 have hl:=s.look
 show exs P (call P n) [.sh true (.str "cond"),.sh true (.tup (.str s.word::s.rest)),.sh true (.bl pl),.dead,.dead] fForm.body=_
 unfold fForm
 simp only[aW,cH,bJ,t1,aF,bF,if_false,kP,dJ,cX,cO,bI,aX,gS,gZ,v1,aA,i0,eD,bE,eJ,bX,lS,lZ,xB,bR,nK,bU,dO,fH,qs,uY,aQ,hT,hl,Option.getD_some,t2,t3,nH,gW]
theorem iZ{P:Pg}{cl:Caller}{s0 s1 s3 s4 s6 s7:Sl}(s:Cn):walk P cl [s0,s1,.sh true s.d,s3,s4,.sh false (.tup (s.form.map D.str)),s6,s7] (.zip (.v 5) (.sli (.v 2) (.cons (.c (.int 1)) .nil) .nil)) =
 .ok ((s.form.zip s.rest).map λp=>fZ p.1 p.2,[]):=by
 have v2:=bB 2 true s.noL
 have k1:aG 1=true:=by decide
 have hno:noLs (.str s.word::s.rest)=true:=by simp[noLs,Hp.noL,s.rest_noL]
 have hcut:cut (.str s.word::s.rest) (some 1) none=s.rest:=by cases s <;> rfl
 have hs:eG (.cl (.tup (.str s.word::s.rest))) (some 1) none=.ok (.cl (.tup s.rest)):=by
  unfold eG
  simp only[bU,hcut,qN,Bool.false_and,hno,if_true]
  rfl
 have two:∀(w:Str) {a b:D},Hp.noL a=true->Hp.noL b=true->items ⟨.non,false,false,[]⟩ (gE ([w,w].map D.str) [a,b])=[fZ w a,fZ w b]:=λw a b ha hb=>by
  show [Vl.sub _ (.tup [.str w,a]),Vl.sub _ (.tup [.str w,b])]=[fZ w a,fZ w b]
  rw[bY (by simp[Hp.noL,noLs,ha]),bY (by simp[Hp.noL,noLs,hb])]
  rfl
 have hz:items ⟨.non,false,false,[]⟩ (gE (s.form.map D.str) s.rest)=(s.form.zip s.rest).map λp=>fZ p.1 p.2:=by
  cases s with
  | yes=>rfl
  | cmp _ a b=>exact two _ a.noL b.noL
  | nt x=>
   show [Vl.sub _ (.tup [.str "cond",x.d])]=[fZ "cond" x.d]
   rw[bY (by simp[Hp.noL,noLs,x.noL])]
   rfl
  | two p a b=>exact two _ a.noL b.noL
 rw[s.d_eq] at v2 ⊢
 simp only[oQ,cO,zG,bI,aX,gS,gZ,v2,aQ,aA,bU,k1,qL,hs,gF,qN,Bool.or_self,eD,List.append_nil]
 rw[hz]
theorem aLx:(("cond" : Str) == "sum")=false:=by decide +kernel
theorem aLy:(("cond" : Str) == "cond")=true:=by decide +kernel
theorem mE{P:Pg}{ch lo M:Nat}{bs:List D}{s1 s2 s5:Sl}{pl:Bool}{m m':Int}{d:D}(c1:call P M lo [.lst bs,.str "cond",d,.bl pl,.int m]=.ok (.int m',false,false)) :
 exs P (call P M) [.sh true (.lst bs),s1,s2,.sh true (.bl pl),.sh false (.int m),s5,.sh false (.str "cond"),.sh false d] (cZ ch lo)=.next [.sh true (.lst bs),s1,s2,.sh true (.bl pl),.sh false (.int m'),s5,.sh false (.str "cond"),.sh false d]:=by
 simp only[cZ,aW,cH,bJ,eL,bR,cO,bI,aX,gS,gZ,aQ,aA,bU,dO,fH,aLx,aLy,bF,if_false,if_true,aF,dJ,cG,aE,aT,eN,lX,mC,mN,c1,fO,eD,bE,eJ,bX,lS,lZ,kP]
section
variable {P:Pg} {wh wi ch fo lo:Nat} (hW:P.fns[wh]? = some fWhole) (hI:P.fns[wi]? = some (fWithin wh)) (hC:P.fns[ch]? = some (fCheck wi)) (hO:P.fns[fo]? = some fForm) (hT:P.tabs[0]? = some sumTab) (hU:P.tabs[1]? = some condTab) (hL:P.fns[lo]? = some (fLook fo ch lo))
include hW hI hC hO hT hU hL
theorem lB{m:Nat}{bs:List D}{s:Cn}{pl:Bool}{seen r:Int}{s6 s7:Sl}(hs:seen<40)
 (hfor:ex P (call P (m+1)) [.sh true (.lst bs),.sh true (.str "cond"),.sh true s.d,.sh true (.bl pl),.sh false (.int (seen+1)),.sh false (.tup (s.form.map D.str)),.dead,.dead] (.for (.t [6,7]) (.zip (.v 5) (.sli (.v 2) (.cons (.c (.int 1)) .nil) .nil)) (cZ ch lo)) =
  .next [.sh true (.lst bs),.sh true (.str "cond"),.sh true s.d,.sh true (.bl pl),.sh false (.int r),.sh false (.tup (s.form.map D.str)),s6,s7]) :
 call P (m+2) lo [.lst bs,.str "cond",s.d,.bl pl,.int seen]=.ok (.int r,false,false):=by
 have c1:=aCo hO hU m s (pl:=pl)
 have v2:=bB 2 true s.noL
 have q40:(seen==40)=false:=beq_eq_false_iff_ne.mpr (by omega)
 refine aN (F:=fLook fo ch lo) hL rfl (v:=.cl (.int r)) ?_
 show exs P (call P (m+1)) [.sh true (.lst bs),.sh true (.str "cond"),.sh true s.d,.sh true (.bl pl),.sh true (.int seen),.dead,.dead,.dead] (.cons (.iff (.cmp .Eq (.v 4) (.c (.int 40)))
  (.cons (.rse 2 false (.cons (.c (.str "a condition or sum has at most forty parts")) .nil))
  .nil)
  .nil)
 (.cons (.set (.n 4) (.op .Add (.v 4) (.c (.int 1))))
 (.cons (.set (.n 5) (.call fo (.cons (.v 1) (.cons (.v 2) (.cons (.v 3) .nil)))))
 (.cons (.for (.t [6,7]) (.zip (.v 5) (.sli (.v 2) (.cons (.c (.int 1)) .nil) .nil)) (cZ ch lo))
 (.cons (.retv 4)
 .nil)))))=_
 simp only[aW,cH,bJ,bR,cO,bI,aX,gS,gZ,fE,aA,bU,dO,fG,q40,bF,if_false,aF,kP,dJ,eT,add_int,eD,bE,eJ,bX,lS,lZ,cG,aE,aT,nK,v2,lX,mC,mN,c1,fO,hfor,nH,gW]
theorem lD{bs:List D}{c:Nat}(hc:bs.length=c){pl:Bool}:∀(s:Cn) (n:Nat) (seen:Int),s.wf c pl->seen+s.sz<=40->call P (n+3+s.sz) lo [.lst bs,.str "cond",s.d,.bl pl,.int seen]=.ok (.int (seen+s.sz),false,false)
 | .yes,n,seen,w,h=>by
  have h:seen+1<=40:=h
  refine lB hW hI hC hO hT hU hL (m:=n+2) (s:=.yes) (s6:=.dead) (s7:=.dead) (by omega) ?_
  rw[fN,iZ,aF]
  rfl
 | .cmp i a b,n,seen,w,h=>by
  have h:seen+((1+a.sz+b.sz:Nat):Int)<=40:=h
  obtain⟨w1,w2⟩:a.wf c pl/\b.wf c pl:=w
  have pa:=a.sz_pos
  have c1:=kY hW hI hC hO hT hL hc a (n+b.sz) (seen+1) w1 (by omega)
  have c2:=kY hW hI hC hO hT hL hc b (n+a.sz) (seen+1+a.sz) w2 (by omega)
  have e1:n+b.sz+3+a.sz=n+2+a.sz+b.sz+1:=by omega
  have e2:n+a.sz+3+b.sz=n+2+a.sz+b.sz+1:=by omega
  rw[e1] at c1
  rw[e2] at c2
  have e3:n+3+Cn.sz (.cmp i a b)=n+2+a.sz+b.sz+2:=by show n+3+(1+a.sz+b.sz)=_;omega
  have e4:seen+((Cn.sz (.cmp i a b):Nat):Int)=seen+1+a.sz+b.sz:=by show seen+((1+a.sz+b.sz:Nat):Int)=_;omega
  rw[e3,e4]
  refine lB hW hI hC hO hT hU hL (m:=n+2+a.sz+b.sz) (s6:=.sh false (.str "sum")) (s7:=.sh false b.d) (by omega) ?_
  rw[fN,iZ,aF]
  have ef:(Cn.cmp i a b).form=[("sum" : Str),("sum" : Str)]:=rfl
  have er:(Cn.cmp i a b).rest=[a.d,b.d]:=rfl
  simp only[ef,er,List.zip_cons_cons,List.zip_nil_left,mC,mN,bE,bZ,mR a.noL,mR b.noL,aF,kW c1,kW c2]
 | .nt x,n,seen,w,h=>by
  have h:seen+((1+x.sz:Nat):Int)<=40:=h
  have pa:=x.sz_pos
  have c1:=lD hc x n (seen+1) w (by omega)
  have e1:n+3+x.sz=n+2+x.sz+1:=by omega
  rw[e1] at c1
  have e3:n+3+Cn.sz (.nt x)=n+2+x.sz+2:=by show n+3+(1+x.sz)=_;omega
  have e4:seen+((Cn.sz (.nt x):Nat):Int)=seen+1+x.sz:=by show seen+((1+x.sz:Nat):Int)=_;omega
  rw[e3,e4]
  refine lB hW hI hC hO hT hU hL (m:=n+2+x.sz) (s6:=.sh false (.str "cond")) (s7:=.sh false x.d) (by omega) ?_
  rw[fN,iZ,aF]
  have ef:(Cn.nt x).form=[("cond" : Str)]:=rfl
  have er:(Cn.nt x).rest=[x.d]:=rfl
  simp only[ef,er,List.zip_cons_cons,List.zip_nil_left,mC,mN,bE,bZ,mR x.noL,aF,mE c1]
 | .two p a b,n,seen,w,h=>by
  have h:seen+((1+a.sz+b.sz:Nat):Int)<=40:=h
  obtain⟨w1,w2⟩:a.wf c pl/\b.wf c pl:=w
  have pa:=a.sz_pos
  have c1:=lD hc a (n+b.sz) (seen+1) w1 (by omega)
  have c2:=lD hc b (n+a.sz) (seen+1+a.sz) w2 (by omega)
  have e1:n+b.sz+3+a.sz=n+2+a.sz+b.sz+1:=by omega
  have e2:n+a.sz+3+b.sz=n+2+a.sz+b.sz+1:=by omega
  rw[e1] at c1
  rw[e2] at c2
  have e3:n+3+Cn.sz (.two p a b)=n+2+a.sz+b.sz+2:=by show n+3+(1+a.sz+b.sz)=_;omega
  have e4:seen+((Cn.sz (.two p a b):Nat):Int)=seen+1+a.sz+b.sz:=by show seen+((1+a.sz+b.sz:Nat):Int)=_;omega
  rw[e3,e4]
  refine lB hW hI hC hO hT hU hL (m:=n+2+a.sz+b.sz) (s6:=.sh false (.str "cond")) (s7:=.sh false b.d) (by omega) ?_
  rw[fN,iZ,aF]
  have ef:(Cn.two p a b).form=[("cond" : Str),("cond" : Str)]:=rfl
  have er:(Cn.two p a b).rest=[a.d,b.d]:=rfl
  simp only[ef,er,List.zip_cons_cons,List.zip_nil_left,mC,mN,bE,bZ,mR a.noL,mR b.noL,aF,mE c1,mE c2]
end
end HpS
end
noncomputable section
namespace K12
open Hp
def f0:Hp.Fn:=⟨3,6,
 (.cons (.set (.n 3) (.idx (.v 0) (.c (.int 0))))
 (.cons (.iff (.cmp .Eq (.v 3) (.c (.str "number")))
  (.cons (.ret (.idx (.v 0) (.c (.int 1))))
  .nil)
  .nil)
 (.cons (.iff (.cmp .Eq (.v 3) (.c (.str "box")))
  (.cons (.ret (.idx (.v 1) (.idx (.v 0) (.c (.int 1)))))
  .nil)
  .nil)
 (.cons (.iff (.cmp .Eq (.v 3) (.c (.str "after")))
  (.cons (.ret (.idx (.v 2) (.idx (.v 0) (.c (.int 1)))))
  .nil)
  .nil)
 (.cons (.set (.n 4) (.call 0 (.cons (.idx (.v 0) (.c (.int 1))) (.cons (.v 1) (.cons (.v 2) .nil)))))
 (.cons (.set (.n 5) (.call 0 (.cons (.idx (.v 0) (.c (.int 2))) (.cons (.v 1) (.cons (.v 2) .nil)))))
 (.cons (.ret (.ife (.cmp .Eq (.v 3) (.c (.str "plus"))) (.op .Add (.v 4) (.v 5)) (.op .Sub (.v 4) (.v 5))))
 .nil)))))))⟩
def f1:Hp.Fn:=⟨3,6,
 (.cons (.set (.n 3) (.idx (.v 0) (.c (.int 0))))
 (.cons (.iff (.cmp .Eq (.v 3) (.c (.str "yes")))
  (.cons (.ret (.c (.bl true)))
  .nil)
  .nil)
 (.cons (.iff (.cmp .Eq (.v 3) (.c (.str "not")))
  (.cons (.ret (.nt (.call 1 (.cons (.idx (.v 0) (.c (.int 1))) (.cons (.v 1) (.cons (.v 2) .nil))))))
  .nil)
  .nil)
 (.cons (.iff (.cmp .Eq (.v 3) (.c (.str "both")))
  (.cons (.ret (.an (.call 1 (.cons (.idx (.v 0) (.c (.int 1))) (.cons (.v 1) (.cons (.v 2) .nil)))) (.call 1 (.cons (.idx (.v 0) (.c (.int 2))) (.cons (.v 1) (.cons (.v 2) .nil))))))
  .nil)
  .nil)
 (.cons (.iff (.cmp .Eq (.v 3) (.c (.str "either")))
  (.cons (.ret (.orr (.call 1 (.cons (.idx (.v 0) (.c (.int 1))) (.cons (.v 1) (.cons (.v 2) .nil)))) (.call 1 (.cons (.idx (.v 0) (.c (.int 2))) (.cons (.v 1) (.cons (.v 2) .nil))))))
  .nil)
  .nil)
 (.cons (.set (.n 4) (.call 0 (.cons (.idx (.v 0) (.c (.int 1))) (.cons (.v 1) (.cons (.v 2) .nil)))))
 (.cons (.set (.n 5) (.call 0 (.cons (.idx (.v 0) (.c (.int 2))) (.cons (.v 1) (.cons (.v 2) .nil)))))
 (.cons (.ret (.ife (.cmp .Eq (.v 3) (.c (.str "is"))) (.cmp .Eq (.v 4) (.v 5)) (.cmp .Lt (.v 4) (.v 5))))
 .nil))))))))⟩
def f2:Hp.Fn:=⟨3,7,
 (.cons (.iff (.nt (.call 1 (.cons (.idx (.v 1) (.c (.int 0))) (.cons (.v 2) (.cons (.c .non) .nil)))))
  (.cons (.ret (.c .non))
  .nil)
  .nil)
 (.cons (.set (.n 3) (.bi .list (.cons (.v 2) .nil)))
 (.cons (.for (.t [4,5]) (.seq (.idx (.v 1) (.c (.int 1))))
  (.cons (.set (.n 6) (.call 0 (.cons (.v 5) (.cons (.v 2) (.cons (.c .non) .nil)))))
  (.cons (.iff (.nt (.cmp2 .LtE .LtE (.c (.int 0)) (.v 6) (.idx (.idx (.v 0) (.v 4)) (.c (.int 1)))))
   (.cons (.ret (.c .non))
   .nil)
   .nil)
  (.cons (.setIx 3 (.v 4) (.v 6))
  .nil))))
 (.cons (.ret (.bi .tuple (.cons (.v 3) .nil)))
 .nil))))⟩
def f3:Hp.Fn:=⟨2,3,
 (.cons (.iff (.cmp .Lt (.v 1) (.bi .len (.cons (.v 0) .nil)))
  (.cons (.ret (.idx (.v 0) (.v 1)))
  .nil)
  .nil)
 (.cons (.set (.n 2) (.c (.int 0)))
 (.cons (.iff (.cmp .Gt (.bi .len (.cons (.v 0) .nil)) (.c (.int 0)))
  (.cons (.set (.n 2) (.idx (.v 0) (.op .Mod (.op .Add (.op .Mult (.v 1) (.c (.int 7))) (.c (.int 3))) (.bi .len (.cons (.v 0) .nil)))))
  .nil)
  .nil)
 (.cons (.ret (.op .Add (.op .Add (.op .Add (.op .Mult (.v 2) (.c (.int 31))) (.op .Mult (.op .Mult (.v 1) (.v 1)) (.c (.int 7919)))) (.op .Mult (.c (.int 101)) (.v 1))) (.c (.int 17))))
 .nil))))⟩
def f4:Hp.Fn:=⟨2,3,
 (.cons .lend
 (.cons (.set (.n 2) (.op .Mod (.call 3 (.cons (.lix 0 (.c (.int 0))) (.cons (.lix 0 (.c (.int 1))) .nil))) (.c (.int 4294967291))))
 (.cons (.lset 0 (.c (.int 1)) (.op .Add (.lix 0 (.c (.int 1))) (.c (.int 1))))
 (.cons (.retL (.e (.op .Mod (.op .FloorDiv (.op .Mod (.op .Mult (.op .Add (.v 2) (.op .Mult (.c (.int 13)) (.lix 0 (.c (.int 1))))) (.c (.int 48271))) (.c (.int 2147483647))) (.c (.int 3))) (.v 1))))
 .nil))))⟩
def f5:Hp.Fn:=⟨2,7,
 (.cons .lend
 (.cons (.set (.n 2) (.lst .nil))
 (.cons (.mov 3 1)
 (.cons (.forL (.n 4) (.op .Add (.e (.c (.int 1))) (.call 4 (.cons (.e (.c (.int 4))) .nil)))
  (.cons (.setL 5 0 [] (.op .Add (.e (.c (.int 1))) (.call 4 (.cons (.idx (.e (.lst (.cons (.c (.int 2)) (.cons (.c (.int 3)) (.cons (.c (.int 7)) .nil))))) (.call 4 (.cons (.e (.c (.int 3))) .nil))) .nil))))
  (.cons (.set (.n 6) (.idx (.c (.str "kxmbz")) (.v 4)))
  (.cons (.iff (.cmp .Gt (.v 3) (.c (.int 1)))
   (.cons (.appL 2 0 (.tup (.cons (.op .Mult (.e (.v 6)) (.op .Add (.e (.c (.int 1))) (.call 4 (.cons (.e (.c (.int 8))) .nil)))) (.cons (.e (.bi .min (.cons (.v 5) (.cons (.op .Sub (.v 3) (.c (.int 1))) .nil)))) .nil))))
   (.cons (.set (.n 3) (.op .FloorDiv (.v 3) (.op .Add (.c (.int 1)) (.bi .min (.cons (.v 5) (.cons (.op .Sub (.v 3) (.c (.int 1))) .nil))))))
   .nil))
   .nil)
  .nil))))
 (.cons (.retvL 2)
 .nil)))))⟩
def f6:Hp.Fn:=⟨3,4,
 (.cons .lend
 (.cons (.setL 3 0 [] (.call 4 (.cons (.e (.c (.int 6))) .nil)))
 (.cons (.iff (.orr (.cmp .Eq (.v 2) (.c (.int 0))) (.cmp .Lt (.v 3) (.c (.int 3))))
  (.cons (.iff (.cmp .Eq (.op .Mod (.v 3) (.c (.int 2))) (.c (.int 0)))
   (.cons (.retL (.tup (.cons (.e (.c (.str "box"))) (.cons (.call 4 (.cons (.e (.bi .len (.cons (.v 1) .nil))) .nil)) .nil))))
   .nil)
   .nil)
  (.cons (.retL (.tup (.cons (.e (.c (.str "number"))) (.cons (.call 4 (.cons (.idx (.e (.lst (.cons (.c (.int 3)) (.cons (.c (.int 4)) (.cons (.c (.int 8)) (.cons (.c (.int 100)) .nil)))))) (.call 4 (.cons (.e (.c (.int 4))) .nil))) .nil)) .nil))))
  .nil))
  .nil)
 (.cons (.retL (.tup (.cons (.e (.idx (.lst (.cons (.c (.str "plus")) (.cons (.c (.str "minus")) .nil))) (.op .Mod (.v 3) (.c (.int 2))))) (.cons (.call 6 (.cons (.e (.v 1)) (.cons (.e (.op .Sub (.v 2) (.c (.int 1)))) .nil))) (.cons (.call 6 (.cons (.e (.v 1)) (.cons (.e (.op .Sub (.v 2) (.c (.int 1)))) .nil))) .nil)))))
 .nil))))⟩
def f7:Hp.Fn:=⟨3,4,
 (.cons .lend
 (.cons (.setL 3 0 [] (.call 4 (.cons (.e (.c (.int 10))) .nil)))
 (.cons (.iff (.cmp .Eq (.v 3) (.c (.int 0)))
  (.cons (.retL (.e (.tup (.cons (.c (.str "yes")) .nil))))
  .nil)
  .nil)
 (.cons (.iff (.orr (.cmp .Eq (.v 2) (.c (.int 0))) (.cmp .Lt (.v 3) (.c (.int 5))))
  (.cons (.retL (.tup (.cons (.e (.idx (.lst (.cons (.c (.str "is")) (.cons (.c (.str "less")) .nil))) (.op .Mod (.op .FloorDiv (.v 3) (.c (.int 2))) (.c (.int 2))))) (.cons (.call 6 (.cons (.e (.v 1)) (.cons (.e (.op .Mod (.v 3) (.c (.int 2)))) .nil))) (.cons (.call 6 (.cons (.e (.v 1)) (.cons (.e (.c (.int 1))) .nil))) .nil)))))
  .nil)
  .nil)
 (.cons (.iff (.cmp .Lt (.v 3) (.c (.int 7)))
  (.cons (.retL (.tup (.cons (.e (.c (.str "not"))) (.cons (.call 7 (.cons (.e (.v 1)) (.cons (.e (.op .Sub (.v 2) (.c (.int 1)))) .nil))) .nil))))
  .nil)
  .nil)
 (.cons (.retL (.tup (.cons (.e (.idx (.lst (.cons (.c (.str "both")) (.cons (.c (.str "either")) .nil))) (.op .Mod (.v 3) (.c (.int 2))))) (.cons (.call 7 (.cons (.e (.v 1)) (.cons (.e (.op .Sub (.v 2) (.c (.int 1)))) .nil))) (.cons (.call 7 (.cons (.e (.v 1)) (.cons (.e (.op .Sub (.v 2) (.c (.int 1)))) .nil))) .nil)))))
 .nil))))))⟩
def f8:Hp.Fn:=⟨4,7,
 (.cons .lend
 (.cons (.setL 4 0 [] (.call 7 (.cons (.e (.v 1)) (.cons (.e (.v 3)) .nil))))
 (.cons (.set (.n 5) (.lst .nil))
 (.cons (.for (.n 6) (.rng (.c (.int 0)) (.bi .len (.cons (.v 1) .nil)))
  (.cons (.iffL .Lt (.call 4 (.cons (.e (.c (.int 5))) .nil)) (.c (.int 3))
   (.cons (.appL 5 0 (.tup (.cons (.e (.v 6)) (.cons (.call 6 (.cons (.e (.v 1)) (.cons (.e (.c (.int 1))) .nil))) .nil))))
   .nil)
   .nil)
  .nil))
 (.cons (.retL (.tup (.cons (.e (.v 4)) (.cons (.e (.bi .tuple (.cons (.v 5) .nil))) (.cons (.call 4 (.cons (.e (.v 2)) .nil)) .nil)))))
 .nil)))))⟩
def f9:Hp.Fn:=⟨2,2,
 (.cons (.iff (.cmp .Eq (.idx (.v 0) (.c (.int 0))) (.c (.str "number")))
  (.cons (.ret (.idx (.v 0) (.c (.int 1))))
  .nil)
  .nil)
 (.cons (.iff (.cmp .Eq (.idx (.v 0) (.c (.int 0))) (.c (.str "box")))
  (.cons (.ret (.idx (.v 1) (.idx (.v 0) (.c (.int 1)))))
  .nil)
  .nil)
 (.cons (.iff (.cmp .Eq (.idx (.v 0) (.c (.int 0))) (.c (.str "plus")))
  (.cons (.ret (.op .Add (.call 9 (.cons (.idx (.v 0) (.c (.int 1))) (.cons (.v 1) .nil))) (.call 9 (.cons (.idx (.v 0) (.c (.int 2))) (.cons (.v 1) .nil)))))
  .nil)
  .nil)
 (.cons (.ret (.op .Sub (.call 9 (.cons (.idx (.v 0) (.c (.int 1))) (.cons (.v 1) .nil))) (.call 9 (.cons (.idx (.v 0) (.c (.int 2))) (.cons (.v 1) .nil)))))
 .nil))))⟩
def f10:Hp.Fn:=⟨2,2,
 (.cons (.iff (.cmp .Eq (.idx (.v 0) (.c (.int 0))) (.c (.str "yes")))
  (.cons (.ret (.c (.bl true)))
  .nil)
  .nil)
 (.cons (.iff (.cmp .Eq (.idx (.v 0) (.c (.int 0))) (.c (.str "is")))
  (.cons (.ret (.cmp .Eq (.call 9 (.cons (.idx (.v 0) (.c (.int 1))) (.cons (.v 1) .nil))) (.call 9 (.cons (.idx (.v 0) (.c (.int 2))) (.cons (.v 1) .nil)))))
  .nil)
  .nil)
 (.cons (.iff (.cmp .Eq (.idx (.v 0) (.c (.int 0))) (.c (.str "less")))
  (.cons (.ret (.cmp .Lt (.call 9 (.cons (.idx (.v 0) (.c (.int 1))) (.cons (.v 1) .nil))) (.call 9 (.cons (.idx (.v 0) (.c (.int 2))) (.cons (.v 1) .nil)))))
  .nil)
  .nil)
 (.cons (.iff (.cmp .Eq (.idx (.v 0) (.c (.int 0))) (.c (.str "not")))
  (.cons (.ret (.nt (.call 10 (.cons (.idx (.v 0) (.c (.int 1))) (.cons (.v 1) .nil)))))
  .nil)
  .nil)
 (.cons (.iff (.cmp .Eq (.idx (.v 0) (.c (.int 0))) (.c (.str "both")))
  (.cons (.ret (.an (.call 10 (.cons (.idx (.v 0) (.c (.int 1))) (.cons (.v 1) .nil))) (.call 10 (.cons (.idx (.v 0) (.c (.int 2))) (.cons (.v 1) .nil)))))
  .nil)
  .nil)
 (.cons (.ret (.orr (.call 10 (.cons (.idx (.v 0) (.c (.int 1))) (.cons (.v 1) .nil))) (.call 10 (.cons (.idx (.v 0) (.c (.int 2))) (.cons (.v 1) .nil)))))
 .nil))))))⟩
def f11:Hp.Fn:=⟨3,8,
 (.cons (.iff (.nt (.call 10 (.cons (.idx (.v 1) (.c (.int 0))) (.cons (.v 2) .nil))))
  (.cons (.ret (.c .non))
  .nil)
  .nil)
 (.cons (.set (.n 3) (.bi .list (.cons (.v 2) .nil)))
 (.cons (.for (.t [4,5]) (.seq (.idx (.v 1) (.c (.int 1))))
  (.cons (.setIx 3 (.v 4) (.call 9 (.cons (.v 5) (.cons (.v 2) .nil))))
  .nil))
 (.cons (.for (.t [6,7]) (.zip (.v 3) (.v 0))
  (.cons (.iff (.orr (.cmp .Lt (.v 6) (.c (.int 0))) (.cmp .Gt (.v 6) (.idx (.v 7) (.c (.int 1)))))
   (.cons (.ret (.c .non))
   .nil)
   .nil)
  .nil))
 (.cons (.ret (.bi .tuple (.cons (.v 3) .nil)))
 .nil)))))⟩
def f12:Hp.Fn:=⟨1,6,
 (.cons (.set (.n 1) (.lst (.cons (.tup .nil) .nil)))
 (.cons (.for (.t [2,3]) (.seq (.v 0))
  (.cons (.set (.n 4) (.lst .nil))
  (.cons (.for (.n 5) (.seq (.v 1))
   (.cons (.ext 4 (.comp 1 [5] (.n 0) (.rng (.c (.int 0)) (.op .Add (.v 3) (.c (.int 1)))) .nil (.op .Add (.v 1) (.tup (.cons (.v 0) .nil)))))
   .nil))
  (.cons (.mov 1 4)
  .nil))))
 (.cons (.retv 1)
 .nil)))⟩
def f13:Hp.Fn:=⟨1,1,
 (.cons (.ret (.an (.isi (.v 0) [.tInt]) (.nt (.isi (.v 0) [.tBool]))))
 .nil)⟩
def f14:Hp.Fn:=⟨1,1,
 (.cons (.ret (.an (.isi (.v 0) [.tInt]) (.nt (.isi (.v 0) [.tBool]))))
 .nil)⟩
def f15:Hp.Fn:=⟨3,3,
 (.cons (.ret (.an (.call 14 (.cons (.v 0) .nil)) (.cmp2 .LtE .LtE (.v 1) (.v 0) (.v 2))))
 .nil)⟩
def f16:Hp.Fn:=⟨3,3,
 (.cons (.ex (.call 18 (.cons (.v 0) (.cons (.c (.str "sum")) (.cons (.v 1) (.cons (.v 2) (.cons (.c (.int 0)) .nil)))))))
 (.cons (.retv 1)
 .nil))⟩
def f17:Hp.Fn:=⟨3,3,
 (.cons (.ex (.call 18 (.cons (.v 0) (.cons (.c (.str "cond")) (.cons (.v 1) (.cons (.v 2) (.cons (.c (.int 0)) .nil)))))))
 (.cons (.retv 1)
 .nil))⟩
def f18:Hp.Fn:=⟨5,8,
 (.cons (.iff (.cmp .Eq (.v 4) (.c (.int 40)))
  (.cons (.rse 2 false (.cons (.c (.str "a condition or sum has at most forty parts")) .nil))
  .nil)
  .nil)
 (.cons (.set (.n 4) (.op .Add (.v 4) (.c (.int 1))))
 (.cons (.set (.n 5) (.call 19 (.cons (.v 1) (.cons (.v 2) (.cons (.v 3) .nil)))))
 (.cons (.for (.t [6,7]) (.zip (.v 5) (.sli (.v 2) (.cons (.c (.int 1)) .nil) .nil))
  (.cons (.iff (.orr (.cmp .Eq (.v 6) (.c (.str "sum"))) (.cmp .Eq (.v 6) (.c (.str "cond"))))
   (.cons (.set (.n 4) (.call 18 (.cons (.v 0) (.cons (.v 6) (.cons (.v 7) (.cons (.v 3) (.cons (.v 4) .nil)))))))
   .nil)
   (.cons (.ex (.call 20 (.cons (.v 0) (.cons (.v 6) (.cons (.v 7) .nil)))))
   .nil))
  .nil))
 (.cons (.retv 4)
 .nil)))))⟩
def f19:Hp.Fn:=⟨3,5,
 (.cons (.iff (.orr (.nt (.isi (.v 1) [.tTuple])) (.orr (.cmp .Eq (.bi .len (.cons (.v 1) .nil)) (.c (.int 0))) (.nt (.isi (.idx (.v 1) (.c (.int 0))) [.tStr]))))
  (.cons (.rse 1 false (.cons (.c (.str "a part is a tuple that begins with a word")) .nil))
  .nil)
  .nil)
 (.cons (.set (.n 3) (.idx (.v 1) (.c (.int 0))))
 (.cons (.set (.n 4) (.ife (.cmp .Eq (.v 0) (.c (.str "sum"))) (.tget 0 (.v 3)) (.tget 1 (.v 3))))
 (.cons (.iff (.orr (.cmp .Is (.v 4) (.c .non)) (.cmp .NotEq (.bi .len (.cons (.v 1) .nil)) (.op .Add (.bi .len (.cons (.v 4) .nil)) (.c (.int 1)))))
  (.cons (.rse 1 false (.cons (.c (.str "a part has a word that is due there, and as many things as go with it")) .nil))
  .nil)
  .nil)
 (.cons (.iff (.an (.v 2) (.cmp .Eq (.v 3) (.c (.str "after"))))
  (.cons (.rse 1 false (.cons (.c (.str "no after stands where a plain one is due")) .nil))
  .nil)
  .nil)
 (.cons (.retv 4)
 .nil))))))⟩
def f20:Hp.Fn:=⟨3,4,
 (.cons (.set (.n 3) (.ife (.cmp .Eq (.v 1) (.c (.str "number"))) (.c (.int 99)) (.op .Sub (.bi .len (.cons (.v 0) .nil)) (.c (.int 1)))))
 (.cons (.iff (.nt (.call 15 (.cons (.v 2) (.cons (.c (.int 0)) (.cons (.v 3) .nil)))))
  (.cons (.rse 1 false (.cons (.c (.str "a number is a whole one from 0 to 99, a box the number of one")) .nil))
  .nil)
  .nil)
 .nil))⟩
def f21:Hp.Fn:=⟨2,2,
 (.cons (.iff (.orr (.nt (.isi (.v 1) [.tList])) (.cmp .Gt (.bi .len (.cons (.v 1) .nil)) (.c (.int 8))))
  (.cons (.rse 3 false (.cons (.c (.str "a hand is a list of none to eight rows")) .nil))
  .nil)
  .nil)
 (.cons (.ret (.comp 1 [0,1] (.n 0) (.seq (.v 1)) .nil (.call 22 (.cons (.v 1) (.cons (.v 0) (.cons (.bi .len (.cons (.v 2) .nil)) .nil))))))
 .nil))⟩
def f22:Hp.Fn:=⟨3,3,
 (.cons (.iff (.orr (.nt (.isi (.v 1) [.tList])) (.nt (.cmp2 .LtE .LtE (.c (.int 1)) (.bi .len (.cons (.v 1) .nil)) (.c (.int 4)))))
  (.cons (.rse 3 false (.cons (.c (.str "a row is a list of one to four ways")) .nil))
  .nil)
  .nil)
 (.cons (.ret (.comp 1 [0,2] (.n 0) (.seq (.v 1)) .nil (.call 23 (.cons (.v 1) (.cons (.v 0) (.cons (.v 2) .nil))))))
 .nil))⟩
def f23:Hp.Fn:=⟨3,3,
 (.cons (.iff (.orr (.nt (.isi (.v 1) [.tTuple])) (.cmp .NotEq (.bi .len (.cons (.v 1) .nil)) (.c (.int 3))))
  (.cons (.rse 3 false (.cons (.c (.str "a way is a tuple (guard, puts, next)")) .nil))
  .nil)
  .nil)
 (.cons (.ex (.call 24 (.cons (.v 0) (.cons (.idx (.v 1) (.c (.int 0))) .nil))))
 (.cons (.ex (.call 25 (.cons (.v 0) (.cons (.idx (.v 1) (.c (.int 1))) .nil))))
 (.cons (.iff (.nt (.call 15 (.cons (.idx (.v 1) (.c (.int 2))) (.cons (.c (.int 0)) (.cons (.v 2) .nil)))))
  (.cons (.rse 3 false (.cons (.c (.str "a way's next is a place of the hand")) .nil))
  .nil)
  .nil)
 (.cons (.retv 1)
 .nil)))))⟩
def f24:Hp.Fn:=⟨2,2,
 (.cons (.tryN (.cons (.ex (.call 17 (.cons (.v 0) (.cons (.v 1) (.cons (.c (.bl true)) .nil)))))
  .nil))
 .nil)⟩
def f25:Hp.Fn:=⟨2,4,
 (.cons (.iff (.nt (.isi (.v 1) [.tTuple]))
  (.cons (.rse 3 false (.cons (.c (.str "puts are a tuple")) .nil))
  .nil)
  .nil)
 (.cons (.set (.n 2) (.c (.int 0)))
 (.cons (.for (.n 3) (.seq (.v 1))
  (.cons (.ex (.call 26 (.cons (.v 0) (.cons (.v 3) (.cons (.v 2) .nil)))))
  (.cons (.set (.n 2) (.op .Add (.idx (.v 3) (.c (.int 0))) (.c (.int 1))))
  .nil)))
 .nil)))⟩
def f26:Hp.Fn:=⟨3,3,
 (.cons (.iff (.orr (.nt (.isi (.v 1) [.tTuple])) (.cmp .NotEq (.bi .len (.cons (.v 1) .nil)) (.c (.int 2))))
  (.cons (.rse 3 false (.cons (.c (.str "a put is a tuple (box, sum)")) .nil))
  .nil)
  .nil)
 (.cons (.iff (.nt (.call 15 (.cons (.idx (.v 1) (.c (.int 0))) (.cons (.v 2) (.cons (.op .Sub (.bi .len (.cons (.v 0) .nil)) (.c (.int 1))) .nil)))))
  (.cons (.rse 3 false (.cons (.c (.str "puts are of the boxes' numbers, rising, each once")) .nil))
  .nil)
  .nil)
 (.cons (.tryN (.cons (.ex (.call 16 (.cons (.v 0) (.cons (.idx (.v 1) (.c (.int 1))) (.cons (.c (.bl true)) .nil)))))
  .nil))
 .nil)))⟩
def f27:Hp.Fn:=⟨4,5,
 (.cons (.set (.n 4) (.call 28 (.cons (.v 1) (.cons (.v 2) .nil))))
 (.cons (.ret (.comp 2 [0,3] (.t [0,1]) (.enum (.v 4)) (.cons (.cmp .IsNot (.call 2 (.cons (.v 2) (.cons (.v 1) (.cons (.v 3) .nil)))) (.c .non)) .nil) (.v 0)))
 .nil))⟩
def f28:Hp.Fn:=⟨2,2,
 (.cons (.ret (.ife (.cmp2 .LtE .Lt (.c (.int 0)) (.v 1) (.bi .len (.cons (.v 0) .nil))) (.idx (.v 0) (.v 1)) (.lst .nil)))
 .nil)⟩
def f29:Hp.Fn:=⟨2,3,
 (.cons .lend
 (.cons (.setL 2 0 [] (.idx (.lst (.cons (.call 4 (.cons (.e (.c (.int 5))) .nil)) (.cons (.e (.c (.int 8))) .nil))) (.int (.cmp .Eq (.call 4 (.cons (.e (.c (.int 6))) .nil)) (.e (.c (.int 1)))))))
 (.cons (.retL (.comp 1 [0,1,2] (.n 0) (.e (.v 2)) 1 (.comp 1 [1,2,3] (.n 0) (.op .Add (.e (.c (.int 1))) (.call 4 (.cons (.e (.c (.int 4))) .nil))) 1 (.call 8 (.cons (.e (.v 2)) (.cons (.e (.op .Add (.v 3) (.c (.int 1)))) (.cons (.e (.c (.int 1))) .nil)))))))
 .nil)))⟩
def f30:Hp.Fn:=⟨4,4,
 (.cons (.iff (.cmp .Eq (.v 2) (.bi .len (.cons (.v 1) .nil)))
  (.cons (.ret (.lst .nil))
  .nil)
  .nil)
 (.cons (.ret (.comp 1 [0,1,2,3] (.n 0) (.rng (.c (.int 0)) (.bi .len (.cons (.idx (.v 1) (.v 2)) .nil))) (.cons (.cmp .IsNot (.call 11 (.cons (.v 1) (.cons (.idx (.idx (.v 2) (.v 3)) (.v 0)) (.cons (.v 4) .nil)))) (.c .non)) .nil) (.v 0)))
 .nil))⟩
def f31:Hp.Fn:=⟨4,8,
 (.cons (.for (.t [4,5]) (.seq (.v 3))
  (.cons (.set (.n 6) (.call 27 (.cons (.v 0) (.cons (.v 2) (.cons (.v 4) (.cons (.v 5) .nil))))))
  (.cons (.iff (.orr (.nt (.isi (.v 6) [.tList])) (.cmp .NotEq (.v 6) (.call 30 (.cons (.v 0) (.cons (.v 1) (.cons (.v 4) (.cons (.v 5) .nil)))))))
   (.cons (.ret (.c (.bl false)))
   .nil)
   .nil)
  (.cons (.forT 7 6 (.nt (.call 13 (.cons (.v 7) .nil))))
  (.cons (.app 6 (.c (.int 9)))
  .nil)))))
 (.cons (.ret (.c (.bl true)))
 .nil))⟩
def f32:Hp.Fn:=⟨1,9,
 (.cons (.set (.n 1) (.lst (.cons (.v 0) (.cons (.c (.int 0)) .nil))))
 (.cons (.setL 2 1 [] (.call 5 (.cons (.e (.c (.int 12))) .nil)))
 (.cons (.setL 3 1 [2] (.call 29 (.cons (.e (.v 2)) .nil)))
 (.cons (.set2 4 3)
 (.cons (.set (.n 5) (.callO 21 (.v 2) 4))
 (.cons (.iff (.orr (.nt (.isi (.v 5) [.tList])) (.orr (.cmp .NotEq (.v 5) (.v 3)) (.neO 4 (.v 3))))
  (.cons (.ret (.c (.bl false)))
  .nil)
  .nil)
 (.cons (.iff (.cmp .NotEq (.comp 1 [] (.n 0) (.seq (.v 5)) (.cons (.nt (.isi (.v 0) [.tList])) .nil) (.v 0)) (.lst .nil))
  (.cons (.ret (.c (.bl false)))
  .nil)
  .nil)
 (.cons (.grow2 4 6)
 (.cons (.app2 4)
 (.cons (.iff (.cmp .NotEq (.v 5) (.v 3))
  (.cons (.ret (.c (.bl false)))
  .nil)
  .nil)
 (.cons (.set (.n 7) (.lst .nil))
 (.cons (.for (.n 8) (.rng (.c (.int 0)) (.op .Add (.bi .len (.cons (.v 3) .nil)) (.c (.int 1))))
  (.cons (.ext 7 (.comp 1 [8] (.n 0) (.seq (.call 12 (.cons (.v 2) .nil))) .nil (.tup (.cons (.v 1) (.cons (.v 0) .nil)))))
  .nil))
 (.cons (.ret (.an (.call 31 (.cons (.v 2) (.cons (.v 3) (.cons (.v 5) (.cons (.v 7) .nil))))) (.an (.call 31 (.cons (.v 2) (.cons (.v 3) (.cons (.v 5) (.cons (.stp (.v 7) 7) .nil))))) (.cmp .Eq (.v 5) (.v 3)))))
 .nil)))))))))))))⟩
def pg:Hp.Pg:=⟨[f0,f1,f2,f3,f4,f5,f6,f7,f8,f9,f10,f11,f12,f13,f14,f15,f16,f17,f18,f19,f20,f21,f22,f23,f24,f25,f26,f27,f28,f29,f30,f31,f32],[[.own 0,.tValueError],[.own 1,.own 0,.tValueError],[.own 2,.own 0,.tValueError],[.own 3,.own 0,.tValueError]],[[("number",.tup [.str "number"]),("box",.tup [.str "box"]),("after",.tup [.str "box"]),("plus",.tup [.str "sum",.str "sum"]),("minus",.tup [.str "sum",.str "sum"])],[("yes",.tup []),("is",.tup [.str "sum",.str "sum"]),("less",.tup [.str "sum",.str "sum"]),("not",.tup [.str "cond"]),("both",.tup [.str "cond",.str "cond"]),("either",.tup [.str "cond",.str "cond"])]]⟩
end K12
end
noncomputable section
namespace K12
open Hp HpS PySem
theorem sM(j:Int)(h:0<j):∀i:Int,opD .Mod (.cl (.int i)) (.cl (.int j))=.ok (.cl (.int (i % j))):=λi=>aDT h
theorem aCp{i j:Int}(h:-(2 ^ 64)<j/\j<2 ^ 64):opD .Mult (.cl (.int i)) (.cl (.int j))=.ok (.cl (.int (i*j))):=mul_int (by
 unfold pV
 rw[decide_eq_true h.1,decide_eq_true h.2]
 simp)
theorem aEN{i j:Int}(h:-(2 ^ 64)<i/\i<2 ^ 64):opD .Mult (.cl (.int i)) (.cl (.int j))=.ok (.cl (.int (i*j))):=mul_int (by
 unfold pV
 rw[decide_eq_true h.1,decide_eq_true h.2]
 simp)
def zI(ns:List Int)(k:Nat):Int:=
 if k<ns.length then ns.getD k 0 else (if 0<ns.length then ns.getD ((k*7+3) % ns.length) 0 else 0)*31+(k:Int)*k*7919+101*k+17
theorem vA{ns:List Int}{k:Nat}(h:k<ns.length):bV ⟨.lst (ns.map D.int),false,true,[]⟩ (.cl (.int (k:Int)))=.ok (.cl (.int (ns.getD k 0))):=by
 have hl:(ns.map D.int).length=ns.length:=lM _
 have e:(ns.map D.int)[k]? = some (.int (ns.getD k 0)):=by simp[h]
 unfold bV
 simp only[bU,hl,eO h,e]
 rfl
theorem aDY(n:Nat)(ns:List Int){k:Nat}(h:k<=1000000):call pg (n+1) 3 [.lst (ns.map D.int),.int k]=.ok (.int (zI ns k),false,false):=by
 refine aN (F:=f3) rfl rfl (v:=.cl (.int (zI ns k))) ?_
 show exs pg (call pg n) [.sh true (.lst (ns.map D.int)),.sh true (.int k),.dead] _=_
 unfold zI
 by_cases hk:k<ns.length
 . have hd:decide ((k:Int)<(ns.length:Int))=true:=decide_eq_true (by omega)
   rw[if_pos hk]
   simp only[f3,aW,cH,bJ,bR,cO,fD,aE,aT,aX,gS,gZ,fE,eN,aA,cS,lM,bU,oV,hd,aF,if_true,iI,cX,vA hk,gW]
 . have hd:decide ((k:Int)<(ns.length:Int))=false:=decide_eq_false (by omega)
   rw[if_neg hk]
   have m1:∀i:Int,opD .Mult (.cl (.int i)) (.cl (.int 31))=.ok (.cl (.int (i*31))):=λi=>aCp (by decide)
   have m2:opD .Mult (.cl (.int k)) (.cl (.int k))=.ok (.cl (.int ((k:Int)*k))):=aCp (by omega)
   have m3:opD .Mult (.cl (.int ((k:Int)*k))) (.cl (.int 7919))=.ok (.cl (.int ((k:Int)*k*7919))):=aCp (by decide)
   have m4:opD .Mult (.cl (.int 101)) (.cl (.int k))=.ok (.cl (.int (101*(k:Int)))):=aEN (by decide)
   have m5:opD .Mult (.cl (.int k)) (.cl (.int 7))=.ok (.cl (.int ((k:Int)*7))):=aCp (by decide)
   by_cases hz:0<ns.length
   . have hd2:decide ((0:Int)<(ns.length:Int))=true:=decide_eq_true (by omega)
     have e:((k:Int)*7+3) % (ns.length:Int)=(((k*7+3) % ns.length:Nat):Int):=by
      rw[Int.natCast_emod,Int.natCast_add,Int.natCast_mul];rfl
     rw[if_pos hz]
     simp only[f3,aW,cH,bJ,bR,cO,fD,bI,aE,aT,aX,gS,gZ,fE,eN,aA,cS,lM,bU,oV,xH,hd,hd2,aF,bF,if_false,if_true,kP,dJ,eD,bE,eJ,bX,lS,lZ,cX,eT,m5,add_int,sM (ns.length:Int) (by omega),e,vA (Nat.mod_lt _ hz),iI,m1,m2,m3,m4,gW]
   . have hd2:decide ((0:Int)<(ns.length:Int))=false:=decide_eq_false (by omega)
     rw[if_neg hz]
     simp only[f3,aW,cH,bJ,bR,cO,fD,bI,aE,aT,aX,gS,gZ,fE,eN,aA,cS,lM,bU,oV,xH,hd,hd2,aF,bF,if_false,kP,dJ,eD,bE,eJ,bX,lS,lZ,eT,add_int,iI,m1,m2,m3,m4,gW]
def aS(ns:List Int)(k:Nat):List D:=[.lst (ns.map D.int),.int k]
def nxt(ns:List Int)(k:Nat)(m:Int):Int:=(zI ns k % 4294967291+13*((k:Int)+1))*48271 % 2147483647 / 3 % m
theorem dP(ns:List Int)(k:Nat){m:Int}(h:0<m):0<=nxt ns k m/\nxt ns k m<m:=⟨Int.emod_nonneg _ (by omega),Int.emod_lt_of_pos _ h⟩
theorem zJ(n:Nat)(ns:List Int){k:Nat}(h:k<=1000000){m:Int}(hm:0<m):call pg (n+2) 4 [.err 0 (aS ns k),.int m]=.ok (.tup [.int (nxt ns k m),.err 0 (aS ns (k+1))],false,false):=by
 have hc:=aDY n ns h
 refine dY (F:=f4) (b:=_) rfl rfl rfl (v:=.cl (.tup [.int (nxt ns k m),.err 0 (aS ns (k+1))])) ?_
 show exs pg (call pg (n+1)) [.lent (aS ns k),.sh true (.int m),.dead] _=_
 have x0:∀r,ev pg (call pg (n+1)) (.lent (aS ns k)::r) (.lix 0 (.c (.int 0)))=.ok ⟨.lst (ns.map D.int),false,true,[]⟩:=λr=>rfl
 have x1:∀k r,ev pg (call pg (n+1)) (.lent (aS ns k)::r) (.lix 0 (.c (.int 1)))=.ok (.cl (.int k)):=λk r=>rfl
 have s2:∀r,ex pg (call pg (n+1)) (.lent (aS ns k)::r) (.lset 0 (.c (.int 1)) (.op .Add (.lix 0 (.c (.int 1))) (.c (.int 1))))=.next (.lent (aS ns (k+1))::r):=λr=>rfl
 have m1:∀i:Int,opD .Mult (.cl (.int i)) (.cl (.int 48271))=.ok (.cl (.int (i*48271))):=λi=>aCp (by decide)
 have m2:∀i:Int,opD .Mult (.cl (.int 13)) (.cl (.int i))=.ok (.cl (.int (13*i))):=λi=>aEN (by decide)
 have d3:∀i:Int,opD .FloorDiv (.cl (.int i)) (.cl (.int 3))=.ok (.cl (.int (i / 3))):=λi=>sF rfl
 have e:((k+1:Nat):Int)=(k:Int)+1:=by omega
 simp only[aW,cH,dJ,eT,cG,aE,aT,x0,x1,aA,mC,mN,bU,hc,fO,bI,sM 4294967291 (by decide),aF,eD,bE,eJ,bX,lS,lZ,kP,s2,sH,aEL,cO,aX,gS,gZ,aQ,fE,m2,m1,add_int,sM 2147483647 (by decide),d3,sM m hm,aDU,aCm,gW,e]
 rfl
def drp:Nat->Ss->Ss
 | 0,s=>s
 | n+1,.cons _ s=>drp n s
 | _+1,.nil=>.nil
def hdS:Ss->S
 | .cons s _=>s
 | .nil=>.pass
theorem stp{P:Pg}{cl:Caller}{σ σ':Sg}{s:S}{ss:Ss}(h:ex P cl σ s=.next σ'):exs P cl σ (.cons s ss)=exs P cl σ' ss:=by rw[aW,h,kP]
theorem hG{P:Pg}{cl:Caller}{σ:Sg}{v:Vl}{s:S}{ss:Ss}(h:ex P cl σ s=.ret v):exs P cl σ (.cons s ss)=.ret v:=by rw[aW,h,gW]
section
variable {P:Pg} {cl:Caller} {l:Nat} {σ σ1 σ2 σ3:Sg}
theorem aJV{a:EL}{x:Vl}(h:evl P cl l σ a=.ok (x,σ1)):evls' P cl l σ (.cons a .nil)=.ok ([x],σ1):=by rw[jR,h];rfl
theorem aCq{a b:EL}{x y:Vl}(h:evl P cl l σ a=.ok (x,σ1))(h2:evl P cl l σ1 b=.ok (y,σ2)):evls' P cl l σ (.cons a (.cons b .nil))=.ok ([x,y],σ2):=by rw[jR,h,aA,aJV h2];rfl
theorem aLz{a b c:EL}{x y z:Vl}(h:evl P cl l σ a=.ok (x,σ1))(h2:evl P cl l σ1 b=.ok (y,σ2))(h3:evl P cl l σ2 c=.ok (z,σ3)):evls' P cl l σ (.cons a (.cons b (.cons c .nil)))=.ok ([x,y,z],σ3):=by rw[jR,h,aA,aCq h2 h3];rfl
theorem cT{a:E}{d:D}(h:ev P cl σ a=.ok (.cl d)):evl P cl l σ (.e a)=.ok (.cl d,σ):=by rw[aEL,h];rfl
theorem lE{a b:EL}{x y:D}(h:evl P cl l σ a=.ok (.cl x,σ1))(h2:evl P cl l σ1 b=.ok (.cl y,σ2)):evl P cl l σ (.tup (.cons a (.cons b .nil)))=.ok (.cl (.tup [x,y]),σ2):=by rw[zD,aCq h h2];rfl
theorem nM{a b c:EL}{x y z:D}(h:evl P cl l σ a=.ok (.cl x,σ1))(h2:evl P cl l σ1 b=.ok (.cl y,σ2))(h3:evl P cl l σ2 c=.ok (.cl z,σ3)):evl P cl l σ (.tup (.cons a (.cons b (.cons c .nil))))=.ok (.cl (.tup [x,y,z]),σ3):=by rw[zD,aLz h h2 h3];rfl
theorem vB{o:Operator}{a b:EL}{x y z:D}(h:evl P cl l σ a=.ok (.cl x,σ1))(h2:evl P cl l σ1 b=.ok (.cl y,σ2))(h3:opD o (.cl x) (.cl y)=.ok (.cl z)):evl P cl l σ (.op o a b)=.ok (.cl z,σ2):=by
 rw[aHb,h,aA,h2,aA]
 show(opD o (.cl x) (.cl y) >>= λz=>noAl z σ2)=_
 rw[h3];rfl
theorem mS{e:EL}{d:D}{c:List D}{r:Sg}(h:evl P cl 0 σ e=.ok (.cl d,.lent c::r)):ex P cl σ (.retL e)=.ret (.cl (.tup [d,.err 0 c])):=by rw[sH,h];rfl
end
theorem eV(n:Nat){ns:List Int}{k:Nat}(h:k<=1000000){m:Int}(hm:0<m){c:List D}{r r1:Sg}{a:EL}(ha:evl pg (call pg (n+2)) 0 (.lent c::r) a=.ok (.cl (.int m),.lent (aS ns k)::r1)) :
 evl pg (call pg (n+2)) 0 (.lent c::r) (.call 4 (.cons a .nil))=.ok (.cl (.int (nxt ns k m)),.lent (aS ns (k+1))::r1):=uV rfl (aJV ha) (zJ n ns h hm)
theorem zK(i:Int):i % 2=0\/i % 2=1:=by omega
theorem aCr{a b:Str}{v:Vl}(hv:v.d=.lst [.str a,.str b]){i:Int}(h:i=0\/i=1):bV v (.cl (.int i))=.ok (.cl (.str (if i=0 then a else b))):=by
 unfold bV
 rw[hv]
 rcases h with rfl|rfl <;> rfl
theorem aHj(a b:Str):nS [.cl (.str a),.cl (.str b)]=⟨.lst [.str a,.str b],true,false,[]⟩:=rfl
abbrev fr(ns:List Int)(k:Nat)(bs:List (Str×Int))(dp:Int)(s:Sl):Sg:=[.lent (aS ns k),.sh true (.lst (aB bs)),.sh true (.int dp),s]
theorem lF{P:Pg}{cl:Caller}{σ:Sg}{a b:E}{x y:Bool}(h1:tst P cl σ a=.ok x)(h2:tst P cl σ b=.ok y):tst P cl σ (.orr a b)=.ok (x||y):=by
 rw[eL,h1,aA]
 cases x with
 | true=>rfl
 | false=>rw[if_neg bN,h2];rfl
theorem pA(n:Nat)(ns:List Int){k:Nat}(hk:k<=900000){bs:List (Str×Int)}(hm:1<=bs.length){dp:Int}(hd:dp=0\/nxt ns k 6<3) :
 ∃(s:Sm) (k':Nat),s.wf bs.length true/\s.sz=1/\k'<=k+3/\call pg (n+3) 6 [.err 0 (aS ns k),.lst (aB bs),.int dp]=.ok (.tup [s.d,.err 0 (aS ns k')],false,false):=by
 have x0:=eV n (ns:=ns) (k:=k) (by omega) (m:=6) (by decide) (c:=aS ns k) (r:=[.sh true (.lst (aB bs)),.sh true (.int dp),.dead]) (a:=.e (.c (.int 6))) (cT rfl)
 have e1:ex pg (call pg (n+2)) (fr ns k bs dp .dead) (.setL 3 0 [] (.call 4 (.cons (.e (.c (.int 6))) .nil)))=.next (fr ns (k+1) bs dp (.sh false (.int (nxt ns k 6)))):=by
  rw[fJ,bE,x0];rfl
 have ht:tst pg (call pg (n+2)) (fr ns (k+1) bs dp (.sh false (.int (nxt ns k 6)))) (.orr (.cmp .Eq (.v 2) (.c (.int 0))) (.cmp .Lt (.v 3) (.c (.int 3))))=.ok true:=by
  rw[lF (x:=dp==0) (y:=decide (nxt ns k 6<3)) rfl rfl]
  rcases hd with h|h
  . rw[h];rfl
  . rw[decide_eq_true h,Bool.or_true]
 have w2:∀cl:Caller,ev pg cl (fr ns (k+1) bs dp (.sh false (.int (nxt ns k 6)))) (.op .Mod (.v 3) (.c (.int 2)))=.ok (.cl (.int (nxt ns k 6 % 2))):=λcl=>by
  simp only[eT,cO,bI,aX,fr,gS,gZ,aQ,aA,sM 2 (by decide)]
 by_cases hz:nxt ns k 6 % 2=0
 . have hb:(0:Int)<((aB bs).length:Int):=by rw[aB,lM];omega
   have x1:=eV n (ns:=ns) (k:=k+1) (by omega) hb (c:=aS ns (k+1)) (r:=[.sh true (.lst (aB bs)),.sh true (.int dp),.sh false (.int (nxt ns k 6))]) (a:=.e (.bi .len (.cons (.v 1) .nil))) (cT rfl)
   have rg:=dP ns (k+1) hb
   have hl:((aB bs).length:Int)=(bs.length:Int):=by rw[aB,lM]
   refine⟨.box (nxt ns (k+1) (aB bs).length).toNat,k+2,(show _<_ by omega),rfl,by omega,?_⟩
   refine dY (F:=f6) (b:=_) rfl rfl rfl (v:=.cl (.tup [Sm.d (.box (nxt ns (k+1) (aB bs).length).toNat),.err 0 (aS ns (k+2))])) ?_
   show exs pg (call pg (n+2)) (fr ns k bs dp .dead) _=_
   refine(stp e1).trans (hG ?_)
   have ti:tst pg (call pg (n+2)) (fr ns (k+1) bs dp (.sh false (.int (nxt ns k 6)))) (.cmp .Eq (.op .Mod (.v 3) (.c (.int 2))) (.c (.int 0)))=.ok true:=by
    simp only[bR,w2,bI,aA,bU,dO,fG,hz];rfl
   rw[bJ,ht,aF,if_pos rfl]
   refine hG ?_
   rw[bJ,ti,aF,if_pos rfl]
   refine hG ?_
   have:=mS (lE (cT (a:=.c (.str "box")) rfl) x1)
   rw[this]
   show O.ret (.cl (.tup [.tup [.str "box",.int _],_]))=O.ret (.cl (.tup [.tup [.str "box",.int _],_]))
   rw[Int.toNat_of_nonneg rg.1]
 . have hz':(nxt ns k 6 % 2==0)=false:=beq_eq_false_iff_ne.mpr hz
   have x1:=eV n (ns:=ns) (k:=k+1) (by omega) (m:=4) (by decide) (c:=aS ns (k+1)) (r:=[.sh true (.lst (aB bs)),.sh true (.int dp),.sh false (.int (nxt ns k 6))]) (a:=.e (.c (.int 4))) (cT rfl)
   have rg:=dP ns (k+1) (m:=4) (by decide)
   obtain⟨q,hq,q0,q1⟩:∃q:Int,bV (⟨.lst [.int 3,.int 4,.int 8,.int 100],false,false,[]⟩:Vl) (.cl (.int (nxt ns (k+1) 4)))=.ok (.cl (.int q))/\0<q/\q<=100:=by
    generalize nxt ns (k+1) 4=w at rg
    have:w=0\/w=1\/w=2\/w=3:=by omega
    rcases this with rfl|rfl|rfl|rfl
    . exact⟨3,rfl,by decide,by decide⟩
    . exact⟨4,rfl,by decide,by decide⟩
    . exact⟨8,rfl,by decide,by decide⟩
    . exact⟨100,rfl,by decide,by decide⟩
   have xi:evl pg (call pg (n+2)) 0 (fr ns (k+1) bs dp (.sh false (.int (nxt ns k 6)))) (.idx (.e (.lst (.cons (.c (.int 3)) (.cons (.c (.int 4)) (.cons (.c (.int 8)) (.cons (.c (.int 100)) .nil)))))) (.call 4 (.cons (.e (.c (.int 4))) .nil)))=.ok (.cl (.int q),fr ns (k+2) bs dp (.sh false (.int (nxt ns k 6)))):=by
    rw[sG]
    show(evl pg (call pg (n+2)) 0 (fr ns (k+1) bs dp (.sh false (.int (nxt ns k 6)))) (.call 4 (.cons (.e (.c (.int 4))) .nil)) >>= λy=>bV (⟨.lst [.int 3,.int 4,.int 8,.int 100],false,false,[]⟩:Vl) y.1.nr >>= λz=>noAl z y.2)=_
    rw[x1]
    show(bV (⟨.lst [.int 3,.int 4,.int 8,.int 100],false,false,[]⟩:Vl) (.cl (.int (nxt ns (k+1) 4))) >>= λz=>noAl z _)=_
    rw[hq];rfl
   have x2:=eV n (ns:=ns) (k:=k+2) (by omega) q0 (c:=aS ns (k+1)) (r:=[.sh true (.lst (aB bs)),.sh true (.int dp),.sh false (.int (nxt ns k 6))]) xi
   have rg2:=dP ns (k+2) q0
   refine⟨.num (nxt ns (k+2) q),k+3,⟨rg2.1,by omega⟩,rfl,by omega,?_⟩
   refine dY (F:=f6) (b:=_) rfl rfl rfl (v:=.cl (.tup [Sm.d (.num (nxt ns (k+2) q)),.err 0 (aS ns (k+3))])) ?_
   show exs pg (call pg (n+2)) (fr ns k bs dp .dead) _=_
   refine(stp e1).trans (hG ?_)
   have ti:tst pg (call pg (n+2)) (fr ns (k+1) bs dp (.sh false (.int (nxt ns k 6)))) (.cmp .Eq (.op .Mod (.v 3) (.c (.int 2))) (.c (.int 0)))=.ok false:=by
    simp only[bR,w2,bI,aA,bU,dO,fG,hz']
   rw[bJ,ht,aF,if_pos rfl]
   refine(stp (σ':=fr ns (k+1) bs dp (.sh false (.int (nxt ns k 6)))) ?_).trans (hG ?_)
   . rw[bJ,ti,aF,if_neg bN];rfl
   . exact mS (lE (cT (a:=.c (.str "number")) rfl) x2)
theorem aCs(n:Nat)(ns:List Int){k:Nat}(hk:k<=800000){bs:List (Str×Int)}(hm:1<=bs.length){dp:Int}(hd:dp=0\/dp=1) :
 ∃(s:Sm) (k':Nat),s.wf bs.length true/\s.sz<=3/\k'<=k+10/\call pg (n+4) 6 [.err 0 (aS ns k),.lst (aB bs),.int dp]=.ok (.tup [s.d,.err 0 (aS ns k')],false,false):=by
 by_cases hb:dp=0\/nxt ns k 6<3
 . obtain⟨s,k',h1,h2,h3,h4⟩:=pA (n+1) ns (k:=k) (by omega) hm hb
   exact⟨s,k',h1,by omega,by omega,h4⟩
 . have h1:dp=1:=by omega
   subst h1
   have h3:¬ nxt ns k 6<3:=λz=>hb (.inr z)
   have x0:=eV (n+1) (ns:=ns) (k:=k) (by omega) (m:=6) (by decide) (c:=aS ns k) (r:=[.sh true (.lst (aB bs)),.sh true (.int 1),.dead]) (a:=.e (.c (.int 6))) (cT rfl)
   have e1:ex pg (call pg (n+3)) (fr ns k bs 1 .dead) (.setL 3 0 [] (.call 4 (.cons (.e (.c (.int 6))) .nil)))=.next (fr ns (k+1) bs 1 (.sh false (.int (nxt ns k 6)))):=by
    rw[fJ,bE,x0];rfl
   obtain⟨s,k1,s1,s2,s3,s4⟩:=pA n ns (k:=k+1) (by omega) hm (dp:=0) (.inl rfl)
   obtain⟨t,k2,t1,t2,t3,t4⟩:=pA n ns (k:=k1) (by omega) hm (dp:=0) (.inl rfl)
   generalize nxt ns k 6=w at h3 e1
   have ht:tst pg (call pg (n+3)) (fr ns (k+1) bs 1 (.sh false (.int w))) (.orr (.cmp .Eq (.v 2) (.c (.int 0))) (.cmp .Lt (.v 3) (.c (.int 3))))=.ok false:=by
    rw[lF (x:=false) (y:=decide (w<3)) rfl rfl,decide_eq_false h3];rfl
   have p2:=aCr (a:= "plus") (b:= "minus") (v:=⟨.lst [.str "plus",.str "minus"],true,false,[]⟩) rfl (zK w)
   have hw:(if w % 2=0 then ("plus" : Str) else "minus")=lY (decide (w % 2=0)):=by
    unfold lY;by_cases h:w % 2=0 <;> simp[h]
   rw[hw] at p2
   have ew:evl pg (call pg (n+3)) 0 (fr ns (k+1) bs 1 (.sh false (.int w))) (.e (.idx (.lst (.cons (.c (.str "plus")) (.cons (.c (.str "minus")) .nil))) (.op .Mod (.v 3) (.c (.int 2)))))=.ok (.cl (.str (lY (decide (w % 2=0)))),fr ns (k+1) bs 1 (.sh false (.int w))):=by
    refine cT ?_
    simp only[cX,xC,aE,aT,eT,cO,bI,aX,fr,gS,gZ,aQ,aA,sM 2 (by decide),aHj,p2]
   have cl1:∀{k k':Nat} {s:Sm},call pg (n+3) 6 [.err 0 (aS ns k),.lst (aB bs),.int 0]=.ok (.tup [s.d,.err 0 (aS ns k')],false,false)->evl pg (call pg (n+3)) 0 (fr ns k bs 1 (.sh false (.int w))) (.call 6 (.cons (.e (.v 1)) (.cons (.e (.op .Sub (.v 2) (.c (.int 1)))) .nil)))=.ok (.cl s.d,fr ns k' bs 1 (.sh false (.int w))):=λ{k k' s} h=>
    uV (vs:=[⟨.lst (aB bs),false,true,[]⟩,.cl (.int 0)]) rfl rfl h
   refine⟨.two (decide (w % 2=0)) s t,k2,⟨s1,t1⟩,by show 1+s.sz+t.sz<=3;omega,by omega,?_⟩
   refine dY (F:=f6) (b:=_) rfl rfl rfl (v:=.cl (.tup [Sm.d (.two (decide (w % 2=0)) s t),.err 0 (aS ns k2)])) ?_
   show exs pg (call pg (n+3)) (fr ns k bs 1 .dead) _=_
   refine(stp e1).trans ((stp (σ':=fr ns (k+1) bs 1 (.sh false (.int w))) ?_).trans (hG ?_))
   . rw[bJ,ht,aF,if_neg bN];rfl
   . exact mS (nM ew (cl1 s4) (cl1 t4))
theorem aHk(n:Nat){ns:List Int}{k:Nat}(hk:k<=800000){bs:List (Str×Int)}(hm:1<=bs.length){dp:Int}(hd:dp=0\/dp=1){b:EL}{r:Sg}
 (ha:evl pg (call pg (n+4)) 0 (.lent (aS ns k)::.sh true (.lst (aB bs))::r) b=.ok (.cl (.int dp),.lent (aS ns k)::.sh true (.lst (aB bs))::r)) :
 ∃(s:Sm) (k':Nat),s.wf bs.length true/\s.sz<=3/\k'<=k+10/\evl pg (call pg (n+4)) 0 (.lent (aS ns k)::.sh true (.lst (aB bs))::r) (.call 6 (.cons (.e (.v 1)) (.cons b .nil)))=.ok (.cl s.d,.lent (aS ns k')::.sh true (.lst (aB bs))::r):=by
 obtain⟨s,k',h1,h2,h3,h4⟩:=aCs n ns hk hm hd
 exact⟨s,k',h1,h2,h3,uV (vs:=[⟨.lst (aB bs),false,true,[]⟩,.cl (.int dp)]) rfl (aCq rfl ha) h4⟩
theorem qO(n:Nat)(ns:List Int){k:Nat}(hk:k<=700000){bs:List (Str×Int)}(hm:1<=bs.length){dp:Int}(hd:dp=0\/nxt ns k 10<5) :
 ∃(q:Cn) (k':Nat),q.wf bs.length true/\q.sz<=7/\k'<=k+21/\call pg (n+5) 7 [.err 0 (aS ns k),.lst (aB bs),.int dp]=.ok (.tup [q.d,.err 0 (aS ns k')],false,false):=by
 have x0:=eV (n+2) (ns:=ns) (k:=k) (by omega) (m:=10) (by decide) (c:=aS ns k) (r:=[.sh true (.lst (aB bs)),.sh true (.int dp),.dead]) (a:=.e (.c (.int 10))) (cT rfl)
 have e1:ex pg (call pg (n+4)) (fr ns k bs dp .dead) (.setL 3 0 [] (.call 4 (.cons (.e (.c (.int 10))) .nil)))=.next (fr ns (k+1) bs dp (.sh false (.int (nxt ns k 10)))):=by
  rw[fJ,bE,x0];rfl
 generalize nxt ns k 10=w at hd e1
 have t0:tst pg (call pg (n+4)) (fr ns (k+1) bs dp (.sh false (.int w))) (.cmp .Eq (.v 3) (.c (.int 0)))=.ok (w==0):=rfl
 by_cases hw:w=0
 . refine⟨.yes,k+1,trivial,by decide,by omega,?_⟩
   refine dY (F:=f7) (b:=_) rfl rfl rfl (v:=.cl (.tup [Cn.d .yes,.err 0 (aS ns (k+1))])) ?_
   show exs pg (call pg (n+4)) (fr ns k bs dp .dead) _=_
   refine(stp e1).trans (hG ?_)
   rw[bJ,t0,hw,aF]
   exact hG (mS (cT rfl))
 . have hw':(w==0)=false:=beq_eq_false_iff_ne.mpr hw
   have m2:∀e,ev pg (call pg (n+4)) (fr ns (k+1) bs dp (.sh false (.int w))) e=.ok (.cl (.int w))->ev pg (call pg (n+4)) (fr ns (k+1) bs dp (.sh false (.int w))) (.op .Mod e (.c (.int 2)))=.ok (.cl (.int (w % 2))):=λe h=>by
    rw[eT,h,aA,bI,aA,sM 2 (by decide)]
   obtain⟨s,k1,s1,s2,s3,s4⟩:=aHk n (ns:=ns) (k:=k+1) (by omega) hm (zK w) (b:=.e (.op .Mod (.v 3) (.c (.int 2)))) (r:=[.sh true (.int dp),.sh false (.int w)]) (cT (m2 _ rfl))
   obtain⟨t,k2,t1,t2,t3,t4⟩:=aHk n (ns:=ns) (k:=k1) (by omega) hm (dp:=1) (.inr rfl) (b:=.e (.c (.int 1))) (r:=[.sh true (.int dp),.sh false (.int w)]) (cT rfl)
   have d2:opD .FloorDiv (.cl (.int w)) (.cl (.int 2))=.ok (.cl (.int (w / 2))):=sF rfl
   have p2:=aCr (a:= "is") (b:= "less") (v:=⟨.lst [.str "is",.str "less"],true,false,[]⟩) rfl (zK (w / 2))
   have hwc:(if w / 2 % 2=0 then ("is" : Str) else "less")=iM (decide (w / 2 % 2=0)):=by
    unfold iM;by_cases h:w / 2 % 2=0 <;> simp[h]
   rw[hwc] at p2
   have ew:evl pg (call pg (n+4)) 0 (fr ns (k+1) bs dp (.sh false (.int w))) (.e (.idx (.lst (.cons (.c (.str "is")) (.cons (.c (.str "less")) .nil))) (.op .Mod (.op .FloorDiv (.v 3) (.c (.int 2))) (.c (.int 2)))))=.ok (.cl (.str (iM (decide (w / 2 % 2=0)))),fr ns (k+1) bs dp (.sh false (.int w))):=by
    refine cT ?_
    simp only[cX,xC,aE,aT,eT,cO,bI,aX,fr,gS,gZ,aQ,aA,d2,sM 2 (by decide),aHj,p2]
   have ht:tst pg (call pg (n+4)) (fr ns (k+1) bs dp (.sh false (.int w))) (.orr (.cmp .Eq (.v 2) (.c (.int 0))) (.cmp .Lt (.v 3) (.c (.int 5))))=.ok true:=by
    rw[lF (x:=dp==0) (y:=decide (w<5)) rfl rfl]
    rcases hd with h|h
    . rw[h];rfl
    . rw[decide_eq_true h,Bool.or_true]
   refine⟨.cmp (decide (w / 2 % 2=0)) s t,k2,⟨s1,t1⟩,by show 1+s.sz+t.sz<=7;omega,by omega,?_⟩
   refine dY (F:=f7) (b:=_) rfl rfl rfl (v:=.cl (.tup [Cn.d (.cmp (decide (w / 2 % 2=0)) s t),.err 0 (aS ns k2)])) ?_
   show exs pg (call pg (n+4)) (fr ns k bs dp .dead) _=_
   refine(stp e1).trans ((stp (σ':=fr ns (k+1) bs dp (.sh false (.int w))) ?_).trans (hG ?_))
   . rw[bJ,t0,hw',aF];rfl
   . rw[bJ,ht,aF]
     exact hG (mS (nM ew s4 t4))
theorem pB(ns:List Int){bs:List (Str×Int)}(hm:1<=bs.length):∀(d n k:Nat),d<=2->k+200*d<=600000 ->
 ∃(q:Cn) (k':Nat),q.wf bs.length true/\q.sz+1<=8*2 ^ d/\k'+1<=k+22*2 ^ d/\call pg (n+d+5) 7 [.err 0 (aS ns k),.lst (aB bs),.int d]=.ok (.tup [q.d,.err 0 (aS ns k')],false,false)
 | 0,n,k,_,hk=>by
  obtain⟨q,k',h1,h2,h3,h4⟩:=qO n ns (k:=k) (by omega) hm (dp:=0) (.inl rfl)
  exact⟨q,k',h1,by omega,by omega,h4⟩
 | d+1,n,k,hd2,hk=>by
  have hp:2 ^ (d+1)=2*2 ^ d:=by rw[Nat.pow_succ,Nat.mul_comm]
  have hp1:2 ^ d<=2:=by
   have:d<=1:=by omega
   exact Nat.pow_le_pow_right (by decide) this
  have hp2:1<=2 ^ d:=Nat.one_le_two_pow
  by_cases hb:nxt ns k 10<5
  . obtain⟨q,k',h1,h2,h3,h4⟩:=qO (n+(d+1)) ns (k:=k) (by omega) hm (dp:=((d+1:Nat):Int)) (.inr hb)
    exact⟨q,k',h1,by omega,by omega,h4⟩
  . have x0:=eV (n+d+3) (ns:=ns) (k:=k) (by omega) (m:=10) (by decide) (c:=aS ns k) (r:=[.sh true (.lst (aB bs)),.sh true (.int ((d+1:Nat):Int)),.dead]) (a:=.e (.c (.int 10))) (cT rfl)
    have rg:=dP ns k (m:=10) (by decide)
    have e1:ex pg (call pg (n+d+5)) (fr ns k bs ((d+1:Nat):Int) .dead) (.setL 3 0 [] (.call 4 (.cons (.e (.c (.int 10))) .nil)))=.next (fr ns (k+1) bs ((d+1:Nat):Int) (.sh false (.int (nxt ns k 10)))):=by
     rw[fJ,bE,x0];rfl
    obtain⟨s,k1,s1,s2,s3,s4⟩:=pB ns hm d n (k+1) (by omega) (by omega)
    obtain⟨t,k2,t1,t2,t3,t4⟩:=pB ns hm d n k1 (by omega) (by omega)
    generalize nxt ns k 10=w at hb e1 rg
    have hw':(w==0)=false:=beq_eq_false_iff_ne.mpr (by omega)
    have t0:tst pg (call pg (n+d+5)) (fr ns (k+1) bs ((d+1:Nat):Int) (.sh false (.int w))) (.cmp .Eq (.v 3) (.c (.int 0)))=.ok (w==0):=rfl
    have hd':((((d+1:Nat):Int))==0)=false:=beq_eq_false_iff_ne.mpr (by omega)
    have ht:tst pg (call pg (n+d+5)) (fr ns (k+1) bs ((d+1:Nat):Int) (.sh false (.int w))) (.orr (.cmp .Eq (.v 2) (.c (.int 0))) (.cmp .Lt (.v 3) (.c (.int 5))))=.ok false:=by
     rw[lF (x:=(((d+1:Nat):Int))==0) (y:=decide (w<5)) rfl rfl,decide_eq_false hb,hd'];rfl
    have t7:tst pg (call pg (n+d+5)) (fr ns (k+1) bs ((d+1:Nat):Int) (.sh false (.int w))) (.cmp .Lt (.v 3) (.c (.int 7)))=.ok (decide (w<7)):=rfl
    have ed:((d+1:Nat):Int)-1=(d:Int):=by omega
    have el:∀k,evl pg (call pg (n+d+5)) 0 (fr ns k bs ((d+1:Nat):Int) (.sh false (.int w))) (.e (.op .Sub (.v 2) (.c (.int 1))))=.ok (.cl (.int d),fr ns k bs ((d+1:Nat):Int) (.sh false (.int w))):=λk=>by
     refine cT ?_
     rw[<-ed];rfl
    have cl1:∀{k k':Nat} {q:Cn},call pg (n+d+5) 7 [.err 0 (aS ns k),.lst (aB bs),.int d]=.ok (.tup [q.d,.err 0 (aS ns k')],false,false)->evl pg (call pg (n+d+5)) 0 (fr ns k bs ((d+1:Nat):Int) (.sh false (.int w))) (.call 7 (.cons (.e (.v 1)) (.cons (.e (.op .Sub (.v 2) (.c (.int 1)))) .nil)))=.ok (.cl q.d,fr ns k' bs ((d+1:Nat):Int) (.sh false (.int w))):=λ{k k' q} h=>
     uV (vs:=[⟨.lst (aB bs),false,true,[]⟩,.cl (.int d)]) rfl (aCq rfl (el k)) h
    have step:∀{v:Vl},exs pg (call pg (n+d+5)) (fr ns (k+1) bs ((d+1:Nat):Int) (.sh false (.int w))) (drp 4 f7.body)=.ret v->call pg (n+(d+1)+5) 7 [.err 0 (aS ns k),.lst (aB bs),.int ((d+1:Nat):Int)]=.ok (v.d,v.fr,v.pa):=λ{v} h=>by
     refine dY (F:=f7) (b:=_) rfl rfl rfl (v:=v) ?_
     show exs pg (call pg (n+d+5)) (fr ns k bs ((d+1:Nat):Int) .dead) _=_
     refine(stp e1).trans ((stp (σ':=fr ns (k+1) bs ((d+1:Nat):Int) (.sh false (.int w))) ?_).trans ((stp (σ':=fr ns (k+1) bs ((d+1:Nat):Int) (.sh false (.int w))) ?_).trans h))
     . rw[bJ,t0,hw',aF];rfl
     . rw[bJ,ht,aF];rfl
    by_cases h7:w<7
    . refine⟨.nt s,k1,s1,by show 1+s.sz+1<=_;omega,by omega,step (v:=.cl (.tup [Cn.d (.nt s),.err 0 (aS ns k1)])) (hG ?_)⟩
      rw[bJ,t7,decide_eq_true h7,aF]
      exact hG (mS (lE (cT (a:=.c (.str "not")) rfl) (cl1 s4)))
    . have p2:=aCr (a:= "both") (b:= "either") (v:=⟨.lst [.str "both",.str "either"],true,false,[]⟩) rfl (zK w)
      have hwj:(if w % 2=0 then ("both" : Str) else "either")=eF (decide (w % 2=0)):=by
       unfold eF;by_cases h:w % 2=0 <;> simp[h]
      rw[hwj] at p2
      have ew:evl pg (call pg (n+d+5)) 0 (fr ns (k+1) bs ((d+1:Nat):Int) (.sh false (.int w))) (.e (.idx (.lst (.cons (.c (.str "both")) (.cons (.c (.str "either")) .nil))) (.op .Mod (.v 3) (.c (.int 2)))))=.ok (.cl (.str (eF (decide (w % 2=0)))),fr ns (k+1) bs ((d+1:Nat):Int) (.sh false (.int w))):=by
       refine cT ?_
       simp only[cX,xC,aE,aT,eT,cO,bI,aX,fr,gS,gZ,aQ,aA,sM 2 (by decide),aHj,p2]
      refine⟨.two (decide (w % 2=0)) s t,k2,⟨s1,t1⟩,by show 1+s.sz+t.sz+1<=_;omega,by omega,step (v:=.cl (.tup [Cn.d (.two (decide (w % 2=0)) s t),.err 0 (aS ns k2)])) ((stp (σ':=fr ns (k+1) bs ((d+1:Nat):Int) (.sh false (.int w))) ?_).trans (hG ?_))⟩
      . rw[bJ,t7,decide_eq_false h7,aF];rfl
      . exact mS (nM ew (cl1 s4) (cl1 t4))
structure Way where
 g:Cn
 ps:List (Nat×Sm)
 nx:Int
def cJ(p:Nat×Sm):D:=.tup [.int p.1,p.2.d]
def Way.d(w:Way):D:=.tup [w.g.d,.tup (w.ps.map cJ),.int w.nx]
def Up(ps:List (Nat×Sm)):Prop:=ps.Pairwise λp q=>p.1<q.1
structure lG (m:Nat) (p:Nat×Sm):Prop where
 box:p.1<m
 wf:p.2.wf m true
 sz:p.2.sz<=3
structure mT (m:Nat) (w:Way):Prop where
 g:w.g.wf m true
 gs:w.g.sz<=31
 ps:∀p∈w.ps,lG m p
 up:Up w.ps
theorem sN(p:Nat×Sm):noL (cJ p)=true:=nL rfl p.2.noL
theorem eS(ps:List (Nat×Sm)):noLs (ps.map cJ)=true:=fV sN ps
theorem dZ(w:Way):noL w.d=true:=by simp[Way.d,noL,noLs,w.g.noL,eS]
theorem aAD(ws:List Way):noLs (ws.map Way.d)=true:=fV dZ ws
theorem zL(i:Nat){ds:List D}(h:noLs ds=true):biD .tuple [⟨.lst ds,false,false,[i]⟩]=.ok (.cl (.tup ds)):=by
 show R.ok (Vl.mk (.tup ds) false (false&&!noLs ds) (if noLs ds=true then [] else [i]))=_
 rw[h];rfl
abbrev wf(ns:List Int)(k:Nat)(bs:List (Str×Int))(m dp:Int)(g:Cn)(ps:List (Nat×Sm))(s:Sl):Sg:=[.lent (aS ns k),.sh true (.lst (aB bs)),.sh true (.int m),.sh true (.int dp),.sh false g.d,.own false (ps.map cJ),s]
abbrev aJW:Ss:=match hdS (drp 3 f8.body) with|.for _ _ b=>b|_=>.nil
theorem aCt(n:Nat){ns:List Int}{k:Nat}(hk:k<=500000){bs:List (Str×Int)}(hm:1<=bs.length)(hm4:bs.length<=4){m dp:Int}{g:Cn}{ps:List (Nat×Sm)}{i:Nat}(hi:i<bs.length)(hp:∀p∈ps,lG bs.length p/\p.1<i)(hu:Up ps)(hl:ps.length<=i) :
 ∃(ps':List (Nat×Sm)) (k':Nat),(∀p∈ps',lG bs.length p/\p.1<i+1)/\Up ps'/\ps'.length<=i+1/\k'<=k+11 /\
  exs pg (call pg (n+4)) (wf ns k bs m dp g ps (.sh false (.int i))) aJW=.next (wf ns k' bs m dp g ps' (.sh false (.int i))):=by
 have x0:=eV (n+2) (ns:=ns) (k:=k) (by omega) (m:=5) (by decide) (c:=aS ns k) (r:=[.sh true (.lst (aB bs)),.sh true (.int m),.sh true (.int dp),.sh false g.d,.own false (ps.map cJ),.sh false (.int i)]) (a:=.e (.c (.int 5))) (cT rfl)
 generalize nxt ns k 5=w at x0
 by_cases hw:w<3
 . obtain⟨s,k',s1,s2,s3,s4⟩:=aHk n (ns:=ns) (k:=k+1) (by omega) hm (dp:=1) (.inr rfl) (b:=.e (.c (.int 1))) (r:=[.sh true (.int m),.sh true (.int dp),.sh false g.d,.own false (ps.map cJ),.sh false (.int i)]) (cT rfl)
   refine⟨ps++[(i,s)],k',λp h=>?_,?_,by rw[lA,List.length_singleton];omega,by omega,?_⟩
   . rcases List.mem_append.mp h with h|h
     . exact⟨(hp p h).1,by have:=(hp p h).2;omega⟩
     . rw[List.mem_singleton.mp h]
       exact⟨⟨hi,s1,s2⟩,Nat.lt_succ_self i⟩
   . unfold Up
     rw[List.pairwise_append]
     refine⟨hu,List.pairwise_singleton _ _,λp h q h'=>?_⟩
     rw[List.mem_singleton.mp h']
     exact(hp p h).2
   . have et:=lE (cT (P:=pg) (cl:=call pg (n+4)) (l:=0) (σ:=wf ns (k+1) bs m dp g ps (.sh false (.int i))) (a:=.v 6) (d:=.int i) rfl) s4
     have hll:(ps.map cJ++[cJ (i,s)]).length<=lim:=by
      rw[lA,lM,List.length_singleton];unfold lim;omega
     refine(stp (σ':=wf ns k' bs m dp g (ps++[(i,s)]) (.sh false (.int i))) ?_)
     rw[zF,x0,aF]
     show O.from _ (R.ok (Vl.cl (.int 3))) (λz=>match bL .Lt (.int w) z.d with|some k=>if k then exs pg (call pg (n+4)) _ _ else exs pg (call pg (n+4)) _ _|none=>.bad)=_
     rw[aF,bU,oV,decide_eq_true hw]
     refine stp ?_
     rw[zE]
     show O.from _ (evl pg (call pg (n+4)) 0 (wf ns (k+1) bs m dp g ps (.sh false (.int i))) _) _=_
     rw[et,aF]
     show(if (ps.map cJ++[cJ (i,s)]).length<=lim then O.next ((wf ns k' bs m dp g ps (.sh false (.int i))).set 5 _) else O.bad)=_
     rw[if_pos hll]
     simp[wf]
     exact⟨rfl,rfl⟩
 . refine⟨ps,k+1,λp h=>⟨(hp p h).1,by have:=(hp p h).2;omega⟩,hu,by omega,by omega,?_⟩
   refine(stp (σ':=wf ns (k+1) bs m dp g ps (.sh false (.int i))) ?_)
   rw[zF,x0,aF]
   show O.from _ (R.ok (Vl.cl (.int 3))) (λz=>match bL .Lt (.int w) z.d with|some k=>if k then exs pg (call pg (n+4)) _ _ else exs pg (call pg (n+4)) _ _|none=>.bad)=_
   rw[aF,bU,oV,decide_eq_false hw]
   rfl
theorem aDZ(n:Nat)(ns:List Int){k:Nat}(hk:k<=400000){bs:List (Str×Int)}(hm:1<=bs.length)(hm4:bs.length<=4){m:Int}(hm0:0<m){d:Nat}(hd:d<=2) :
 ∃(w:Way) (k':Nat),mT bs.length w/\(0<=w.nx/\w.nx<m)/\k'<=k+200/\call pg (n+8) 8 [.err 0 (aS ns k),.lst (aB bs),.int m,.int d]=.ok (.tup [w.d,.err 0 (aS ns k')],false,false):=by
 obtain⟨g,k1,g1,g2,g3,g4⟩:=pB ns hm d (n+2-d) k hd (by omega)
 rw[show n+2-d+d+5=n+7 by omega] at g4
 have hp2:2 ^ d<=4:=Nat.pow_le_pow_right (by decide) hd
 have e1:ex pg (call pg (n+7)) [.lent (aS ns k),.sh true (.lst (aB bs)),.sh true (.int m),.sh true (.int d),.dead,.dead,.dead] (.setL 4 0 [] (.call 7 (.cons (.e (.v 1)) (.cons (.e (.v 3)) .nil))))=.next [.lent (aS ns k1),.sh true (.lst (aB bs)),.sh true (.int m),.sh true (.int d),.sh false g.d,.dead,.dead]:=by
  rw[fJ,bE,uV (vs:=[⟨.lst (aB bs),false,true,[]⟩,.cl (.int d)]) rfl rfl g4,aF]
  show O.next (List.set _ 4 (Vl.cl g.d).slot)=_
  rw[bX];rfl
 have hwk:walk pg (call pg (n+7)) (wf ns k1 bs m d g [] .dead) (.rng (.c (.int 0)) (.bi .len (.cons (.v 1) .nil)))=.ok ((List.range bs.length).map λ(j:Nat)=>Vl.cl (.int (j:Int)),[]):=by
  have hs:=iX (n:=bs.length) (by omega)
  have hb:(aB bs).length=bs.length:=lM _
  simp only[kQ,bI,fD,aE,aT,cO,aX,gS,gZ,eN,aA,cS,hb,bU,nI,hs,Bool.and_true,qL,lV]
 obtain⟨σ',ef,ps,k2,s6,h1,h2,h3,h4,hσ⟩:=lW (P:=pg) (cl:=call pg (n+7)) (σ:=wf ns k1 bs m d g [] .dead) (t:=.n 6) (b:=aJW) (λi σ=>∃(ps:List (Nat×Sm)) (k2:Nat) (s:Sl),(∀p∈ps,lG bs.length p/\p.1<i)/\Up ps/\ps.length<=i/\k2<=k1+11*i/\σ=wf ns k2 bs m d g ps s) hwk
  ⟨[],k1,.dead,λp h=>absurd h List.not_mem_nil,List.Pairwise.nil,Nat.le_refl _,Nat.le_refl _,rfl⟩ λi hi σ ⟨ps,k2,s,h1,h2,h3,h4,hσ⟩=>by
   have hi':i<bs.length:=by simpa using hi
   obtain⟨ps',k',b1,b2,b3,b4,b5⟩:=aCt (n+3) (ns:=ns) (k:=k2) (by omega) hm hm4 (m:=m) (dp:=d) (g:=g) hi' h1 h2 h3
   refine⟨wf ns k2 bs m d g ps (.sh false (.int i)),_,?_,b5,ps',k',_,b1,b2,b3,by omega,rfl⟩
   rw[hσ,eJ]
   simp[wf]
 subst hσ
 have hlen:(List.map (λ(j:Nat)=>Vl.cl (.int (j:Int))) (List.range bs.length)).length=bs.length:=by simp
 have x1:=eV (n+5) (ns:=ns) (k:=k2) (by omega) hm0 (c:=aS ns k2) (r:=[.sh true (.lst (aB bs)),.sh true (.int m),.sh true (.int d),.sh false g.d,.own false (ps.map cJ),s6]) (a:=.e (.v 2)) (cT rfl)
 refine⟨⟨g,ps,nxt ns k2 m⟩,k2+1,⟨g1,by show g.sz<=31;omega,λp h=>(h1 p h).1,h2⟩,dP ns k2 hm0,by omega,?_⟩
 refine dY (F:=f8) (b:=_) rfl rfl rfl (v:=.cl (.tup [Way.d ⟨g,ps,nxt ns k2 m⟩,.err 0 (aS ns (k2+1))])) ?_
 show exs pg (call pg (n+7)) [.lent (aS ns k),.sh true (.lst (aB bs)),.sh true (.int m),.sh true (.int d),.dead,.dead,.dead] _=_
 refine(stp e1).trans ((stp (σ':=wf ns k1 bs m d g [] .dead) rfl).trans ((stp ef).trans (hG (mS (nM (cT ?_) (cT ?_) x1)))))
 . exact aQ 4 g.d
 . rw[fD,aE,cO]
   show(Sl.val 5 (.own false (ps.map cJ)) >>= λx=>evs _ _ _ .nil >>= λxs=>R.ok (x::xs)) >>= _=_
   rw[fF,aA,aT,aA,aA,zL 5 (eS ps)]
theorem aEa{P:Pg}{cl:Caller}{σ σ1:Sg}{t:T}{e:EL}{b:Ss}{N:Nat}(I:Nat->Sg->Prop)(he:evl P cl 0 σ e=.ok (.cl (.int (N:Int)),σ1))(hN:N<=1000000)(h0:I 0 σ1)
 (hs:∀(i:Nat) (_:i<N) (σ:Sg),I i σ->∃σ1 σ',bG σ (.cl (.int (i:Int))) t=.ok σ1/\exs P cl σ1 b=.next σ'/\I (i+1) σ'):∃σ',ex P cl σ (.forL t e b)=.next σ'/\I N σ':=by
 show ∃σ',O.from σ (evl P cl 0 σ e) _=.next σ'/\_
 rw[he,aF]
 show ∃σ',(if aG (N:Int) then bZ (λσ x=>O.from σ (bG σ x t) λσ'=>exs P cl σ' b) ((cA 0 (N:Int)).map .cl) σ1 else .bad)=.next σ'/\_
 rw[if_pos (iX hN),lV]
 obtain⟨σ',h1,h2⟩:=oR (f:=λσ x=>O.from σ (bG σ x t) λσ'=>exs P cl σ' b) ((List.range N).map λ(k:Nat)=>Vl.cl (.int (k:Int))) I σ1 h0 λi h σ hI=>by
  have hi:i<N:=by simpa using h
  obtain⟨σ2,σ',e1,e2,h'⟩:=hs i hi σ hI
  refine⟨σ',?_,h'⟩
  have:((List.range N).map λ(k:Nat)=>Vl.cl (.int (k:Int)))[i]=.cl (.int (i:Int)):=by simp
  rw[this]
  show O.from σ (bG σ _ t) _=_
  rw[e1]
  exact e2
 refine⟨σ',h1,?_⟩
 simpa using h2
theorem mul_str{a:Str}{k:Int}(h0:0<=k)(h1:k<=100)(ha:a.length<=100):opD .Mult (.cl (.str a)) (.cl (.int k))=.ok (.cl (.str (Str.rep a k.toNat))):=by
 show R.iff (aG k&&decide (a.length*k.toNat<=lim)) _=_
 have hs:aG k=true:=by
  unfold aG
  rw[decide_eq_true (by omega),decide_eq_true (by omega)];rfl
 have hl:a.length*k.toNat<=lim:=by
  have:a.length*k.toNat<=100*100:=Nat.mul_le_mul ha (by omega)
  unfold lim;omega
 rw[hs,decide_eq_true hl];rfl
theorem aCu(bs:List (Str×Int))(b:Str×Int):eC (bs++[b])=eC bs*(b.2+1):=by
 unfold eC
 rw[List.map_append,List.foldl_append]
 rfl
structure Bo (i:Nat) (bs:List (Str×Int)) (room:Int):Prop where
 few:bs.length<=i
 one:∀b∈bs,1<=b.2/\b.2<=7
 r1:1<=room
 pr:room*eC bs<=12
 first:bs=[]->room=12/\i=0
theorem Bo.next{i:Nat}{bs:List (Str×Int)}{room:Int}(B:Bo i bs room)(h:1<room){top:Int}(h1:1<=top)(h7:top<=7)(x:Str):Bo (i+1) (bs++[(x,if room-1<top then room-1 else top)]) (room / (1+(if room-1<top then room-1 else top))):=by
 have ht:1<=(if room-1<top then room-1 else top)/\(if room-1<top then room-1 else top)<=7/\(if room-1<top then room-1 else top)<=room-1:=by split <;> omega
 revert ht
 generalize (if room-1<top then room-1 else top)=t
 intro ht
 have hp:1<=eC bs:=kR _ 1 (by omega) λy hy=>by
  obtain⟨b,hb,rfl⟩:=List.mem_map.mp hy
  have:=B.one b hb
  omega
 refine⟨by rw[lA,List.length_singleton];have:=B.few;omega,λb hb=>?_,?_,?_,λz=>?_⟩
 . rcases List.mem_append.mp hb with h|h
   . exact B.one b h
   . rw[List.mem_singleton.mp h]
     exact⟨ht.1,ht.2.1⟩
 . have:1*(1+t)<=room:=by omega
   exact(Int.le_ediv_iff_mul_le (by omega)).mpr this
 . rw[aCu]
   have h2:room / (1+t)*(1+t)<=room:=Int.ediv_mul_le _ (by omega)
   have h3:room / (1+t)*(1+t)*eC bs<=room*eC bs:=Int.mul_le_mul_of_nonneg_right h2 (by omega)
   have e:room / (1+t)*(eC bs*(t+1))=room / (1+t)*(1+t)*eC bs:=by
    rw[Int.mul_comm (eC bs),Int.add_comm t 1,Int.mul_assoc]
   rw[e]
   have:=B.pr
   omega
 . have:=congrArg List.length z
   simp at this
abbrev bf(ns:List Int)(k:Nat)(bs:List (Str×Int))(room:Int)(s4 s5 s6:Sl):Sg:=[.lent (aS ns k),.sh true (.int 12),.own false (aB bs),.sh false (.int room),s4,s5,s6]
abbrev aEb:Ss:=match hdS (drp 3 f5.body) with|.forL _ _ b=>b|_=>.nil
theorem aHl{i:Nat}(h:i<4):∃x:Str,x.length<=1/\bV (.cl (.str "kxmbz")) (.cl (.int (i:Int)))=.ok (.cl (.str x)):=by
 have:i=0\/i=1\/i=2\/i=3:=by omega
 rcases this with rfl|rfl|rfl|rfl
 . exact⟨⟨#[107]⟩,by decide,rfl⟩
 . exact⟨⟨#[120]⟩,by decide,rfl⟩
 . exact⟨⟨#[109]⟩,by decide,rfl⟩
 . exact⟨⟨#[98]⟩,by decide,rfl⟩
theorem aCv(n:Nat){ns:List Int}{k:Nat}(hk:k<=100000){bs:List (Str×Int)}{room:Int}{i:Nat}(hi:i<4)(B:Bo i bs room)(s5 s6:Sl) :
 ∃(bs':List (Str×Int)) (room':Int) (k':Nat) (t5 t6:Sl),Bo (i+1) bs' room'/\k'<=k+3/\exs pg (call pg (n+2)) (bf ns k bs room (.sh false (.int i)) s5 s6) aEb=.next (bf ns k' bs' room' (.sh false (.int i)) t5 t6):=by
 have x1:=eV n (ns:=ns) (k:=k) (by omega) (m:=3) (by decide) (c:=aS ns k) (r:=[.sh true (.int 12),.own false (aB bs),.sh false (.int room),.sh false (.int i),s5,s6]) (a:=.e (.c (.int 3))) (cT rfl)
 have rg:=dP ns k (m:=3) (by decide)
 obtain⟨q,hq,q0,q1⟩:∃q:Int,bV (⟨.lst [.int 2,.int 3,.int 7],false,false,[]⟩:Vl) (.cl (.int (nxt ns k 3)))=.ok (.cl (.int q))/\0<q/\q<=7:=by
  generalize nxt ns k 3=w at rg
  have:w=0\/w=1\/w=2:=by omega
  rcases this with rfl|rfl|rfl
  . exact⟨2,rfl,by decide,by decide⟩
  . exact⟨3,rfl,by decide,by decide⟩
  . exact⟨7,rfl,by decide,by decide⟩
 have xi:evl pg (call pg (n+2)) 0 (bf ns k bs room (.sh false (.int i)) s5 s6) (.idx (.e (.lst (.cons (.c (.int 2)) (.cons (.c (.int 3)) (.cons (.c (.int 7)) .nil))))) (.call 4 (.cons (.e (.c (.int 3))) .nil)))=.ok (.cl (.int q),bf ns (k+1) bs room (.sh false (.int i)) s5 s6):=by
  rw[sG]
  show(evl pg (call pg (n+2)) 0 (bf ns k bs room (.sh false (.int i)) s5 s6) (.call 4 (.cons (.e (.c (.int 3))) .nil)) >>= λy=>bV (⟨.lst [.int 2,.int 3,.int 7],false,false,[]⟩:Vl) y.1.nr >>= λz=>noAl z y.2)=_
  rw[x1]
  show(bV (⟨.lst [.int 2,.int 3,.int 7],false,false,[]⟩:Vl) (.cl (.int (nxt ns k 3))) >>= λz=>noAl z _)=_
  rw[hq];rfl
 have x2:=eV n (ns:=ns) (k:=k+1) (by omega) q0 (c:=aS ns k) (r:=[.sh true (.int 12),.own false (aB bs),.sh false (.int room),.sh false (.int i),s5,s6]) xi
 have rg2:=dP ns (k+1) q0
 generalize nxt ns (k+1) q=v at x2 rg2
 obtain⟨x,hx,ex6⟩:=aHl hi
 have e1:ex pg (call pg (n+2)) (bf ns k bs room (.sh false (.int i)) s5 s6) (hdS aEb)=.next (bf ns (k+2) bs room (.sh false (.int i)) (.sh false (.int (1+v))) s6):=by
  show O.from _ (evl pg (call pg (n+2)) 0 (bf ns k bs room (.sh false (.int i)) s5 s6) (.op .Add (.e (.c (.int 1))) _)) _=_
  rw[vB (cT rfl) x2 (add_int 1 v),aF]
  rfl
 have e2:ex pg (call pg (n+2)) (bf ns (k+2) bs room (.sh false (.int i)) (.sh false (.int (1+v))) s6) (hdS (drp 1 aEb))=.next (bf ns (k+2) bs room (.sh false (.int i)) (.sh false (.int (1+v))) (.sh false (.str x))):=by
  show O.from _ (bV (.cl (.str "kxmbz")) (.cl (.int (i:Int)))) _=_
  rw[ex6,aF]
  rfl
 have t3:tst pg (call pg (n+2)) (bf ns (k+2) bs room (.sh false (.int i)) (.sh false (.int (1+v))) (.sh false (.str x))) (.cmp .Gt (.v 3) (.c (.int 1)))=.ok (decide (1<room)):=rfl
 by_cases hr:1<room
 . have x3:=eV n (ns:=ns) (k:=k+2) (by omega) (m:=8) (by decide) (c:=aS ns (k+2)) (r:=[.sh true (.int 12),.own false (aB bs),.sh false (.int room),.sh false (.int i),.sh false (.int (1+v)),.sh false (.str x)]) (a:=.e (.c (.int 8))) (cT rfl)
   have rg3:=dP ns (k+2) (m:=8) (by decide)
   generalize nxt ns (k+2) 8=u at x3 rg3
   have em:∀k bs,ev pg (call pg (n+2)) (bf ns k bs room (.sh false (.int i)) (.sh false (.int (1+v))) (.sh false (.str x))) (.bi .min (.cons (.v 5) (.cons (.op .Sub (.v 3) (.c (.int 1))) .nil)))=.ok (.cl (.int (if room-1<1+v then room-1 else 1+v))):=λ_ _=>rfl
   have B':=B.next hr (top:=1+v) (by omega) (by omega) (Str.rep x (1+u).toNat)
   have ht:1<=(if room-1<1+v then room-1 else 1+v)/\(if room-1<1+v then room-1 else 1+v)<=7:=by split <;> omega
   revert ht B' em
   generalize (if room-1<1+v then room-1 else 1+v)=w
   intro em B' ht
   refine⟨bs++[(Str.rep x (1+u).toNat,w)],room / (1+w),k+3,.sh false (.int (1+v)),.sh false (.str x),B',by omega,?_⟩
   refine(stp e1).trans ((stp e2).trans (stp ?_))
   rw[bJ,t3,decide_eq_true hr,aF]
   have et:=lE (vB (cT (P:=pg) (cl:=call pg (n+2)) (l:=0) (σ:=bf ns (k+2) bs room (.sh false (.int i)) (.sh false (.int (1+v))) (.sh false (.str x))) (a:=.v 6) (d:=.str x) rfl) (vB (cT (a:=.c (.int 1)) rfl) x3 (add_int 1 u)) (mul_str (by omega) (by omega) (by omega))) (cT (em (k+3) bs))
   have hll:(aB bs++[box (Str.rep x (1+u).toNat,w)]).length<=lim:=by
    rw[lA,List.length_singleton,aB,lM];have:=B.few;unfold lim;omega
   have e3:ex pg (call pg (n+2)) (bf ns (k+2) bs room (.sh false (.int i)) (.sh false (.int (1+v))) (.sh false (.str x))) (.appL 2 0 (.tup (.cons (.op .Mult (.e (.v 6)) (.op .Add (.e (.c (.int 1))) (.call 4 (.cons (.e (.c (.int 8))) .nil)))) (.cons (.e (.bi .min (.cons (.v 5) (.cons (.op .Sub (.v 3) (.c (.int 1))) .nil)))) .nil))))=.next (bf ns (k+3) (bs++[(Str.rep x (1+u).toNat,w)]) room (.sh false (.int i)) (.sh false (.int (1+v))) (.sh false (.str x))):=by
    rw[zE]
    show O.from _ (evl pg (call pg (n+2)) 0 (bf ns (k+2) bs room (.sh false (.int i)) (.sh false (.int (1+v))) (.sh false (.str x))) _) _=_
    rw[et,aF]
    show(if (aB bs++[box (Str.rep x (1+u).toNat,w)]).length<=lim then O.next ((bf ns (k+3) bs room (.sh false (.int i)) (.sh false (.int (1+v))) (.sh false (.str x))).set 2 _) else O.bad)=_
    rw[if_pos hll]
    simp[bf,aB]
    exact⟨rfl,rfl⟩
   have dv:opD .FloorDiv (.cl (.int room)) (.cl (.int (1+w)))=.ok (.cl (.int (room / (1+w)))):=sF (by
    unfold tJ
    rw[decide_eq_true (by omega),decide_eq_true (by omega)];rfl)
   refine(stp e3).trans (stp ?_)
   show O.from _ (ev pg (call pg (n+2)) (bf ns (k+3) (bs++[(Str.rep x (1+u).toNat,w)]) room (.sh false (.int i)) (.sh false (.int (1+v))) (.sh false (.str x))) (.op .FloorDiv (.v 3) (.op .Add (.c (.int 1)) _))) _=_
   rw[eT,eT,em]
   show O.from _ (opD .FloorDiv (.cl (.int room)) (.cl (.int (1+w)))) _=_
   rw[dv,aF]
   rfl
 . refine⟨bs,room,k+2,.sh false (.int (1+v)),.sh false (.str x),⟨by have:=B.few;omega,B.one,B.r1,B.pr,λz=>?_⟩,by omega,(stp e1).trans ((stp e2).trans (stp (σ':=bf ns (k+2) bs room (.sh false (.int i)) (.sh false (.int (1+v))) (.sh false (.str x))) ?_))⟩
   . have:=(B.first z).1
     omega
   . rw[bJ,t3,decide_eq_false hr,aF]
     rfl
theorem aAE(n:Nat)(ns:List Int):∃(bs:List (Str×Int)) (k:Nat),aDR bs/\1<=bs.length/\bs.length<=4/\k<=100/\call pg (n+3) 5 [.err 0 (aS ns 0),.int 12]=.ok (.tup [.lst (aB bs),.err 0 (aS ns k)],true,false):=by
 have x0:=eV n (ns:=ns) (k:=0) (by omega) (m:=4) (by decide) (c:=aS ns 0) (r:=[.sh true (.int 12),.own false [],.sh false (.int 12),.dead,.dead,.dead]) (a:=.e (.c (.int 4))) (cT rfl)
 have rg:=dP ns 0 (m:=4) (by decide)
 generalize nxt ns 0 4=w at x0 rg
 have he:=vB (cT (P:=pg) (cl:=call pg (n+2)) (l:=0) (σ:=bf ns 0 [] 12 .dead .dead .dead) (a:=.c (.int 1)) (d:=.int 1) rfl) x0 (add_int 1 w)
 have hN:(1+w:Int)=(((1+w).toNat:Nat):Int):=by omega
 rw[hN] at he
 have hN4:1<=(1+w).toNat/\(1+w).toNat<=4:=by omega
 revert hN4 he
 generalize (1+w).toNat=N
 intro he hN4
 obtain⟨σ',ef,bs,room,k,s4,s5,s6,B,hk,hσ⟩:=aEa (t:=.n 4) (b:=aEb) (λi σ=>∃(bs:List (Str×Int)) (room:Int) (k:Nat) (s4 s5 s6:Sl),Bo i bs room/\k<=1+3*i/\σ=bf ns k bs room s4 s5 s6) he (by omega)
  ⟨[],12,1,_,_,_,⟨Nat.le_refl _,λb h=>absurd h List.not_mem_nil,by decide,by decide,λ_=>⟨rfl,rfl⟩⟩,Nat.le_refl _,rfl⟩ λi hi σ ⟨bs,room,k,s4,s5,s6,B,hk,hσ⟩=>by
   obtain⟨bs',room',k',t5,t6,B',hk',eb⟩:=aCv n (ns:=ns) (k:=k) (by omega) (show i<4 by omega) B s5 s6
   refine⟨bf ns k bs room (.sh false (.int i)) s5 s6,_,?_,eb,bs',room',k',_,t5,t6,B',by omega,rfl⟩
   rw[hσ,eJ]
   simp[bf]
 subst hσ
 have hp:1<=eC bs:=kR _ 1 (by omega) λy hy=>by
  obtain⟨b,hb,rfl⟩:=List.mem_map.mp hy
  have:=B.one b hb
  omega
 have hl:1<=bs.length:=by
  cases bs with
  | nil=>have:=(B.first rfl).2;omega
  | cons _ _=>simp
 have hpr:eC bs<=12:=by
  have:=Int.mul_le_mul_of_nonneg_right B.r1 (show 0<=eC bs by omega)
  have:=B.pr
  omega
 refine⟨bs,k,⟨by have:=B.few;omega,B.one,Int.le_trans hpr (by decide)⟩,hl,by have:=B.few;omega,by omega,?_⟩
 refine dY (F:=f5) (b:=_) rfl rfl rfl (v:=⟨.tup [.lst (aB bs),.err 0 (aS ns k)],true,false,[]⟩) ?_
 show exs pg (call pg (n+2)) [.lent (aS ns 0),.sh true (.int 12),.dead,.dead,.dead,.dead,.dead] _=_
 refine(stp (σ':=[.lent (aS ns 0),.sh true (.int 12),.own false [],.dead,.dead,.dead,.dead]) rfl).trans ((stp (σ':=bf ns 0 [] 12 .dead .dead .dead) rfl).trans ((stp ef).trans (hG rfl)))
theorem aLA:∀p,(iM p == "less")=!p:=by decide +kernel
theorem aLB:(("not" : Str) == "is")=false:=by decide +kernel
theorem aLC:(("not" : Str) == "less")=false:=by decide +kernel
theorem aJX:∀p,(eF p == "is")=false:=by decide +kernel
theorem aJY:∀p,(eF p == "less")=false:=by decide +kernel
theorem gA{ah:List Int}{c:Nat}(ha:ah.length=c):∀(s:Sm) (n:Nat),s.wf c true->call pg (n+s.sz) 9 [s.d,aR ah]=.ok (.int (s.val ah ah),false,false)
 | .num k,n,w=>by
  refine aN (F:=f9) rfl rfl (v:=.cl (.int k)) ?_
  have v0:=bB 0 true (Sm.noL (.num k))
  simp only[Sm.d] at v0 ⊢
  have i0:=eY (.str "number") [.int k] rfl
  have i1:=fX (.str "number") (.int k) [] rfl
  simp[f9,aX,v0,i0,i1,aHg]
 | .box k,n,w=>by
  have w:k<c:=w
  refine aN (F:=f9) rfl rfl (v:=.cl (.int (ah.getD k 0))) ?_
  have v0:=bB 0 true (Sm.noL (.box k))
  have v1:=bB 1 true (aZ ah)
  simp only[Sm.d] at v0 ⊢
  have i0:=eY (.str "box") [.int k] rfl
  have i1:=fX (.str "box") (.int k) [] rfl
  have i2:=sK (is:=ah) (k:=k) (by omega)
  simp[f9,aX,v0,v1,i0,i1,i2,aDV,aJJ,-List.getD_eq_getElem?_getD]
 | .aft k,n,w=>by cases w.2
 | .two p a b,n,w=>by
  have c1:=gA ha a (n+b.sz) w.1
  have c2:=gA ha b (n+a.sz) w.2
  rw[show n+b.sz+a.sz=n+a.sz+b.sz by omega] at c1
  have e:n+Sm.sz (.two p a b)=n+a.sz+b.sz+1:=by show n+(1+a.sz+b.sz)=_;omega
  rw[e]
  refine aN (F:=f9) rfl rfl (v:=.cl (.int (Sm.val ah ah (.two p a b)))) ?_
  have v0:=bB 0 true (Sm.noL (.two p a b))
  have v1:=bB 1 true (aZ ah)
  simp only[Sm.d] at v0 ⊢
  have i0:=eY (.str (lY p)) [a.d,b.d] rfl
  have i1:=fX (.str (lY p)) a.d [b.d] a.noL
  have i2:=uX (.str (lY p)) a.d b.d [] b.noL
  cases p <;> simp[f9,aX,v0,v1,i0,i1,i2,aJK,aJL,aJN,c1,c2,Sm.val,-aDh,-rJ]
theorem jA{ah:List Int}{c:Nat}(ha:ah.length=c):∀(s:Cn) (n:Nat),s.wf c true->call pg (n+s.sz) 10 [s.d,aR ah]=.ok (.bl (s.hold ah ah),false,false)
 | .yes,n,w=>by
  refine aN (F:=f10) rfl rfl (v:=.cl (.bl true)) ?_
  have v0:=bB 0 true (Cn.noL .yes)
  simp only[Cn.d] at v0 ⊢
  have i0:=eY (.str "yes") [] rfl
  simp[f10,aX,v0,i0,aJQ]
 | .cmp i a b,n,w=>by
  have c1:=gA ha a (n+b.sz) w.1
  have c2:=gA ha b (n+a.sz) w.2
  rw[show n+b.sz+a.sz=n+a.sz+b.sz by omega] at c1
  have e:n+Cn.sz (.cmp i a b)=n+a.sz+b.sz+1:=by show n+(1+a.sz+b.sz)=_;omega
  rw[e]
  refine aN (F:=f10) rfl rfl (v:=.cl (.bl (Cn.hold ah ah (.cmp i a b)))) ?_
  have v0:=bB 0 true (Cn.noL (.cmp i a b))
  have v1:=bB 1 true (aZ ah)
  simp only[Cn.d] at v0 ⊢
  have i0:=eY (.str (iM i)) [a.d,b.d] rfl
  have i1:=fX (.str (iM i)) a.d [b.d] a.noL
  have i2:=uX (.str (iM i)) a.d b.d [] b.noL
  cases i <;> simp[f10,aX,v0,v1,i0,i1,i2,aJT,aJU,aLA,c1,c2,Cn.hold]
 | .nt x,n,w=>by
  have c1:=jA ha x n w
  have e:n+Cn.sz (.nt x)=n+x.sz+1:=by show n+(1+x.sz)=_;omega
  rw[e]
  refine aN (F:=f10) rfl rfl (v:=.cl (.bl (Cn.hold ah ah (.nt x)))) ?_
  have v0:=bB 0 true (Cn.noL (.nt x))
  have v1:=bB 1 true (aZ ah)
  simp only[Cn.d] at v0 ⊢
  have i0:=eY (.str "not") [x.d] rfl
  have i1:=fX (.str "not") x.d [] x.noL
  simp[f10,aX,v0,v1,i0,i1,aJR,aLB,aLC,aJS,c1,Cn.hold]
 | .two p a b,n,w=>by
  have c1:=jA ha a (n+b.sz) w.1
  have c2:=jA ha b (n+a.sz) w.2
  rw[show n+b.sz+a.sz=n+a.sz+b.sz by omega] at c1
  have e:n+Cn.sz (.two p a b)=n+a.sz+b.sz+1:=by show n+(1+a.sz+b.sz)=_;omega
  rw[e]
  refine aN (F:=f10) rfl rfl (v:=.cl (.bl (Cn.hold ah ah (.two p a b)))) ?_
  have v0:=bB 0 true (Cn.noL (.two p a b))
  have v1:=bB 1 true (aZ ah)
  simp only[Cn.d] at v0 ⊢
  have i0:=eY (.str (eF p)) [a.d,b.d] rfl
  have i1:=fX (.str (eF p)) a.d [b.d] a.noL
  have i2:=uX (.str (eF p)) a.d b.d [] b.noL
  cases p with
  | true=>
   simp[f10,aX,v0,v1,i0,i1,i2,aHh,aHi,aJX,aJY,aDX,c1,c2,Cn.hold]
   cases a.hold ah ah <;> rfl
  | false=>
   simp[f10,aX,v0,v1,i0,i1,i2,aHh,aHi,aJX,aJY,aDX,c1,c2,Cn.hold]
   cases a.hold ah ah <;> rfl
def mF(bs:List (Str×Int))(k:Nat):Int:=(bs.map (·.2)).getD k 0
def putF(bs:List (Str×Int))(st:List Int):List Int->List (Nat×Sm)->Option (List Int)
 | acc,[]=>some acc
 | acc,p::ps=>if 0<=p.2.val st st/\p.2.val st st<=mF bs p.1 then putF bs st (acc.set p.1 (p.2.val st st)) ps else none
def vC(bs:List (Str×Int))(w:Way)(st:List Int):Option (List Int):=if w.g.hold st st then putF bs st st w.ps else none
def stD:Option (List Int)->D
 | none=>.non
 | some r=>aR r
theorem aHm{P:Pg}{cl:Caller}{σ:Sg}{a b:E}{x y:Int}(h1:ev P cl σ a=.ok (.cl (.int x)))(h2:ev P cl σ b=.ok (.cl (.int y))):tst P cl σ (.cmp2 .LtE .LtE (.c (.int 0)) a b)=.ok (decide (0<=x)&&decide (x<=y)):=by
 rw[oP,bI,aA,h1,aA,bU,bU,aCj]
 cases decide (0<=x) with
 | true=>simp only[h2,aA,bU,aCj,Bool.true_and]
 | false=>rfl
theorem aEc{bs:List (Str×Int)}{k:Nat}(h:k<bs.length):∃b:D,noL b=true/\bV ⟨.lst (aB bs),false,true,[]⟩ (.cl (.int (k:Int)))=.ok (.cl b)/\bV (.cl b) (.cl (.int 1))=.ok (.cl (.int (mF bs k))):=by
 refine⟨box bs[k],nJ _,?_,?_⟩
 . have hl:(aB bs).length=bs.length:=by simp[aB]
   have e:(aB bs)[k]? = some (box bs[k]):=by simp[aB,h]
   unfold bV
   simp only[bU,hl,eO h,e,Vl.sub,nJ,if_true]
 . have:=fX (.str bs[k].1) (.int bs[k].2) [] rfl
   unfold box mF
   rw[this]
   simp[h]
theorem aCw(n:Nat){bs:List (Str×Int)}{st:List Int}(hs:st.length=bs.length){s:Sm}(w:s.wf bs.length true)(z:s.sz<=3):call pg (n+3) 0 [s.d,aR st,.non]=.ok (.int (s.val st st),false,false):=by
 have:=iL (P:=pg) (f:=0) rfl (ah:=st) (be:=st) (bd:=.non) (c:=bs.length) (pl:=true) hs hs rfl (λh=>nomatch h) s (n+3-s.sz) w
 rwa [show n+3-s.sz+s.sz=n+3 by omega] at this
theorem aCx(n:Nat){bs:List (Str×Int)}{st:List Int}(hs:st.length=bs.length){q:Cn}(w:q.wf bs.length true)(z:q.sz<=31):call pg (n+31) 1 [q.d,aR st,.non]=.ok (.bl (q.hold st st),false,false):=by
 have:=kZ (P:=pg) (v:=0) (f:=1) rfl rfl (ah:=st) (be:=st) (bd:=.non) (c:=bs.length) (pl:=true) hs hs rfl (λh=>nomatch h) q (n+31-q.sz) w
 rwa [show n+31-q.sz+q.sz=n+31 by omega] at this
abbrev aCy:Ss:=match hdS (drp 2 f2.body) with|.for _ _ b=>b|_=>.nil
theorem aEd{p:Nat×Sm}{s0 s1 s2 s3 s4 s5 s6:Sl}:bG [s0,s1,s2,s3,s4,s5,s6] (.cl (cJ p)) (.t [4,5])=.ok [s0,s1,s2,s3,.sh false (.int p.1),.sh false p.2.d,s6]:=by
 unfold bG cJ
 simp only[bU,lC,lN,if_true,List.zip_cons_cons,List.zip_nil_left,List.foldl_cons,List.foldl_nil,bY p.2.noL,bY (show noL (.int (p.1:Int))=true from rfl),bX,lS,lZ]
theorem vD(acc:List Int)(k:Nat)(v:Int):(acc.map D.int).set k (.int v)=(acc.set k v).map D.int:=by rw[List.map_set]
theorem aCz(n:Nat){bs:List (Str×Int)}{st acc:List Int}(hs:st.length=bs.length)(ha:acc.length=bs.length)(hb:bs.length<=5){p:Nat×Sm}(o:lG bs.length p)(s1 s4 s5 s6:Sl) :
 exs pg (call pg (n+3)) [.sh true (.lst (aB bs)),s1,.sh true (aR st),.own false (acc.map D.int),.sh false (.int p.1),.sh false p.2.d,s6] aCy =
  if 0<=p.2.val st st/\p.2.val st st<=mF bs p.1 then .next [.sh true (.lst (aB bs)),s1,.sh true (aR st),.own false ((acc.set p.1 (p.2.val st st)).map D.int),.sh false (.int p.1),.sh false p.2.d,.sh false (.int (p.2.val st st))] else .ret (.cl .non):=by
 have cv:=aCw n hs o.wf o.sz
 generalize p.2.val st st=v at cv
 obtain⟨b,b1,b2,b3⟩:=aEc (bs:=bs) (k:=p.1) o.box
 have v2:=bB 2 true (aZ st)
 have e1:ex pg (call pg (n+3)) [.sh true (.lst (aB bs)),s1,.sh true (aR st),.own false (acc.map D.int),.sh false (.int p.1),.sh false p.2.d,s6] (hdS aCy)=.next [.sh true (.lst (aB bs)),s1,.sh true (aR st),.own false (acc.map D.int),.sh false (.int p.1),.sh false p.2.d,.sh false (.int v)]:=by
  simp only[aCy,hdS,drp,f2,dJ,cG,aE,aT,cO,bI,aX,gS,gZ,aQ,v2,aA,mC,mN,bU,cv,fO,aF,eD,bE,eJ,bX,lS,lZ]
 have tt:=aHm (P:=pg) (cl:=call pg (n+3)) (σ:=[.sh true (.lst (aB bs)),s1,.sh true (aR st),.own false (acc.map D.int),.sh false (.int p.1),.sh false p.2.d,.sh false (.int v)]) (a:=.v 6) (b:=.idx (.idx (.v 0) (.v 4)) (.c (.int 1))) (x:=v) (y:=mF bs p.1) rfl (by
  simp only[cX,cO,bI,aX,gS,gZ,eN,fE,aA,b2,b3])
 refine(stp e1).trans ?_
 show exs pg (call pg (n+3)) _ (.cons (.iff (.nt _) _ _) (.cons (.setIx 3 (.v 4) (.v 6)) .nil))=_
 by_cases hv:0<=v/\v<=mF bs p.1
 . have hd:(decide (0<=v)&&decide (v<=mF bs p.1))=true:=by rw[decide_eq_true hv.1,decide_eq_true hv.2];rfl
   rw[if_pos hv]
   have hx:ixN acc.length (p.1:Int)=some p.1:=eO (by rw[ha];exact o.box)
   have hll:acc.length<=lim:=by unfold lim;omega
   simp only[aW,cH,bJ,iG,tt,aA,hd,Bool.not_true,aF,bF,if_false,kP,uT,cO,aX,gS,gZ,fE,bU,put,eD,bE,gQ,hx,vD,lM,List.length_set,hll,if_true,qN,Bool.or_false,lS,lZ]
 . have hd:(decide (0<=v)&&decide (v<=mF bs p.1))=false:=by
    cases h:(decide (0<=v)&&decide (v<=mF bs p.1)) with
    | false=>rfl
    | true=>simp only[bA,decide_eq_true_eq] at h;exact absurd h hv
   rw[if_neg hv]
   simp only[aW,cH,bJ,iG,tt,aA,hd,Bool.not_false,aF,if_true,iI,bI,gW]
theorem vE(n:Nat){bs:List (Str×Int)}{st:List Int}(hs:st.length=bs.length)(hb:bs.length<=5)(s1:Sl):∀(ps:List (Nat×Sm)) (acc:List Int) (s4 s5 s6:Sl),(∀p∈ps,lG bs.length p)->acc.length=bs.length ->
 ∃t4 t5 t6,bZ (λσ x=>O.from σ (bG σ x (.t [4,5])) λσ'=>exs pg (call pg (n+3)) σ' aCy) (ps.map λp=>Vl.cl (cJ p)) [.sh true (.lst (aB bs)),s1,.sh true (aR st),.own false (acc.map D.int),s4,s5,s6] =
  (match putF bs st acc ps with|none=>.ret (.cl .non)|some r=>.next [.sh true (.lst (aB bs)),s1,.sh true (aR st),.own false (r.map D.int),t4,t5,t6])
 | [],acc,s4,s5,s6,_,_=>⟨s4,s5,s6,rfl⟩
 | p::ps,acc,s4,s5,s6,h,ha=>by
  have o:=h p List.mem_cons_self
  have tu:=aCz n hs ha hb o s1 s4 s5 s6
  rw[mC,bZ,aEd,aF,tu,putF]
  by_cases hv:0<=p.2.val st st/\p.2.val st st<=mF bs p.1
  . rw[if_pos hv,if_pos hv]
    exact vE n hs hb s1 ps (acc.set p.1 (p.2.val st st)) _ _ _ (λq hq=>h q (List.mem_cons_of_mem _ hq)) (by rw[List.length_set];exact ha)
  . rw[if_neg hv,if_neg hv]
    exact⟨s4,s5,s6,rfl⟩
theorem jS{v:Vl}(ps:List (Nat×Sm)):items v (ps.map cJ)=ps.map λp=>Vl.cl (cJ p):=fW sN ps
theorem xI(n:Nat){bs:List (Str×Int)}{st:List Int}(hs:st.length=bs.length)(hb:bs.length<=5){w:Way}(o:mT bs.length w):call pg (n+32) 2 [.lst (aB bs),w.d,aR st]=.ok (stD (vC bs w st),false,false):=by
 have ch:=aCx n hs o.g o.gs
 have v1:=bB 1 true (dZ w)
 have v2:=bB 2 true (aZ st)
 have i0:bV (.cl w.d) (.cl (.int 0))=.ok (.cl w.g.d):=eY w.g.d _ w.g.noL
 have i1:bV (.cl w.d) (.cl (.int 1))=.ok (.cl (.tup (w.ps.map cJ))):=fX w.g.d (.tup (w.ps.map cJ)) _ (by rw[noL];exact eS _)
 refine aN (F:=f2) rfl rfl (v:=.cl (stD (vC bs w st))) ?_
 show exs pg (call pg (n+31)) [.sh true (.lst (aB bs)),.sh true w.d,.sh true (aR st),.dead,.dead,.dead,.dead] _=_
 unfold vC
 cases hh:w.g.hold st st with
 | false=>
  rw[hh] at ch
  simp only[f2,aW,cH,bJ,iG,iH,aE,aT,cX,cO,bI,aX,gS,gZ,v1,v2,aA,i0,mC,mN,bU,ch,fO,oU,Bool.not_false,aF,if_true,iI,gW,bF,if_false,stD]
 | true=>
  rw[hh] at ch
  obtain⟨t4,t5,t6,hl⟩:=vE (n+28) hs hb (.sh true w.d) w.ps st .dead .dead .dead o.ps hs
  have e1:ex pg (call pg (n+31)) [.sh true (.lst (aB bs)),.sh true w.d,.sh true (aR st),.dead,.dead,.dead,.dead] (hdS f2.body)=.next [.sh true (.lst (aB bs)),.sh true w.d,.sh true (aR st),.dead,.dead,.dead,.dead]:=by
   simp only[hdS,f2,cH,bJ,iG,iH,aE,aT,cX,cO,bI,aX,gS,gZ,v1,v2,aA,i0,mC,mN,bU,ch,fO,oU,Bool.not_true,aF,bF,if_false]
  have e2:ex pg (call pg (n+31)) [.sh true (.lst (aB bs)),.sh true w.d,.sh true (aR st),.dead,.dead,.dead,.dead] (hdS (drp 1 f2.body))=.next [.sh true (.lst (aB bs)),.sh true w.d,.sh true (aR st),.own false (st.map D.int),.dead,.dead,.dead]:=by
   have hli:biD .list [.cl (aR st)]=.ok ⟨.lst (st.map D.int),true,false,[]⟩:=by
    show R.ok (Vl.mk (.lst (st.map D.int)) true (false&&!noLs (st.map D.int)) (if noLs (st.map D.int)=true then [] else []))=_
    rw[eU];rfl
   simp only[hdS,drp,f2,dJ,fD,aE,aT,cO,aX,gS,gZ,v2,aA,hli,aF,bE,eJ,yY,lS,lZ]
  have hw:walk pg (call pg (n+31)) [.sh true (.lst (aB bs)),.sh true w.d,.sh true (aR st),.own false (st.map D.int),.dead,.dead,.dead] (.seq (.idx (.v 1) (.c (.int 1))))=.ok (w.ps.map (λp=>Vl.cl (cJ p)),[]):=by
   simp only[eB,cX,cO,bI,aX,gS,gZ,v1,aA,i1,bU,jS,eD]
  refine(stp e1).trans ((stp e2).trans ?_)
  show exs pg (call pg (n+31)) _ (.cons (.for (.t [4,5]) (.seq (.idx (.v 1) (.c (.int 1)))) aCy) _)=_
  rw[aW,fN,hw,aF]
  show(bZ _ _ _).on _=_
  rw[bE,hl,if_pos rfl]
  cases putF bs st st w.ps with
  | none=>rfl
  | some r=>
   show exs pg (call pg (n+31)) [.sh true (.lst (aB bs)),.sh true w.d,.sh true (aR st),.own false (r.map D.int),t4,t5,t6] (.cons (.ret (.bi .tuple (.cons (.v 3) .nil))) .nil)=_
   rw[aW,iI,fD,aE,cO]
   simp only[aX,gS,gZ,fF]
   simp only[aT,aA,zL 3 (eU r),aF,gW]
   rfl
def setF(st:List Int):List Int->List (Nat×Sm)->List Int
 | acc,[]=>acc
 | acc,p::ps=>setF st (acc.set p.1 (p.2.val st st)) ps
def okP(x:Int×(Str×Int)):Bool:=!(decide (x.1<0)||decide (x.2.2<x.1))
def vF(bs:List (Str×Int))(w:Way)(st:List Int):Option (List Int):=
 if w.g.hold st st then (if ((setF st st w.ps).zip bs).all okP then some (setF st st w.ps) else none) else none
def InR(bs:List (Str×Int))(acc:List Int):Prop:=∀(j:Nat) (a:Int) (b:Str×Int),acc[j]? = some a->bs[j]? = some b->0<=a/\a<=b.2
theorem vG{st:List Int}:∀(ps:List (Nat×Sm)) (acc:List Int),(setF st acc ps).length=acc.length
 | [],_=>rfl
 | p::ps,acc=>by rw[setF,vG ps,List.length_set]
theorem setF_get{st:List Int}{j:Nat}:∀(ps:List (Nat×Sm)) (acc:List Int),(∀q∈ps,q.1≠j)->(setF st acc ps)[j]? = acc[j]?
 | [],_,_=>rfl
 | p::ps,acc,h=>by rw[setF,setF_get ps _ λq hq=>h q (List.mem_cons_of_mem _ hq),List.getElem?_set_ne (h p List.mem_cons_self)]
theorem aHn{bs:List (Str×Int)}{acc:List Int}(h:InR bs acc):(acc.zip bs).all okP=true:=by
 rw[List.all_eq_true]
 intro x hx
 obtain⟨j,hj⟩:=List.getElem?_of_mem hx
 rw[List.getElem?_zip_eq_some] at hj
 have:=h j x.1 x.2 hj.1 hj.2
 unfold okP
 rw[decide_eq_false (by omega),decide_eq_false (by omega)]
 rfl
theorem aCA{bs:List (Str×Int)}{st:List Int}:∀(ps:List (Nat×Sm)) (acc:List Int),acc.length=bs.length->InR bs acc->(∀p∈ps,p.1<bs.length)->Up ps ->
 putF bs st acc ps=if ((setF st acc ps).zip bs).all okP then some (setF st acc ps) else none
 | [],acc,_,h,_,_=>by rw[putF,setF,aHn h,if_pos rfl]
 | p::ps,acc,hl,h,hp,hu=>by
  have hu:=List.pairwise_cons.mp hu
  have hb:p.1<bs.length:=hp p List.mem_cons_self
  have eb:bs[p.1]? = some bs[p.1]:=List.getElem?_eq_getElem hb
  have et:mF bs p.1=bs[p.1].2:=by unfold mF;simp[hb]
  rw[putF,setF]
  by_cases hv:0<=p.2.val st st/\p.2.val st st<=mF bs p.1
  . rw[if_pos hv]
    refine aCA ps _ (by rw[List.length_set];exact hl) (λj a b ha hb'=>?_) (λq hq=>hp q (List.mem_cons_of_mem _ hq)) hu.2
    by_cases hj:p.1=j
    . subst hj
      rw[List.getElem?_set_self (by omega)] at ha
      rw[eb] at hb'
      cases ha
      cases hb'
      rw[<-et]
      exact hv
    . rw[List.getElem?_set_ne hj] at ha
      exact h j a b ha hb'
  . rw[if_neg hv,if_neg]
    intro z
    rw[List.all_eq_true] at z
    have hg:(setF st (acc.set p.1 (p.2.val st st)) ps)[p.1]? = some (p.2.val st st):=by
     rw[setF_get ps _ λq hq=>by have:=hu.1 q hq;omega,List.getElem?_set_self (by omega)]
    have hm:(p.2.val st st,bs[p.1])∈(setF st (acc.set p.1 (p.2.val st st)) ps).zip bs:=mG (i:=p.1) (List.getElem?_zip_eq_some.mpr ⟨hg,eb⟩)
    have:=z _ hm
    unfold okP at this
    simp only[Bool.not_eq_true',Bool.or_eq_false_iff,decide_eq_false_iff_not] at this
    rw[<-et] at this
    omega
theorem aHo{bs:List (Str×Int)}{st:List Int}{w:Way}(hs:st.length=bs.length)(hr:InR bs st)(o:mT bs.length w):vF bs w st=vC bs w st:=by
 unfold vF vC
 rw[aCA w.ps st hs hr (λp hp=>(o.ps p hp).box) o.up]
theorem aAF(n:Nat){bs:List (Str×Int)}{st:List Int}(hs:st.length=bs.length){s:Sm}(w:s.wf bs.length true)(z:s.sz<=3):call pg (n+3) 9 [s.d,aR st]=.ok (.int (s.val st st),false,false):=by
 have:=gA (ah:=st) (c:=bs.length) hs s (n+3-s.sz) w
 rwa [show n+3-s.sz+s.sz=n+3 by omega] at this
theorem aAG(n:Nat){bs:List (Str×Int)}{st:List Int}(hs:st.length=bs.length){q:Cn}(w:q.wf bs.length true)(z:q.sz<=31):call pg (n+31) 10 [q.d,aR st]=.ok (.bl (q.hold st st),false,false):=by
 have:=jA (ah:=st) (c:=bs.length) hs q (n+31-q.sz) w
 rwa [show n+31-q.sz+q.sz=n+31 by omega] at this
abbrev lf(bs:List (Str×Int))(s1:Sl)(st:List Int)(s3 s4 s5 s6 s7:Sl):Sg:=[.sh true (.lst (aB bs)),s1,.sh true (aR st),s3,s4,s5,s6,s7]
theorem aCB{p:Nat×Sm}{s0 s1 s2 s3 s4 s5 s6 s7:Sl}:bG [s0,s1,s2,s3,s4,s5,s6,s7] (.cl (cJ p)) (.t [4,5])=.ok [s0,s1,s2,s3,.sh false (.int p.1),.sh false p.2.d,s6,s7]:=by
 unfold bG cJ
 simp only[bU,lC,lN,if_true,List.zip_cons_cons,List.zip_nil_left,List.foldl_cons,List.foldl_nil,bY p.2.noL,bY (show noL (.int (p.1:Int))=true from rfl),bX,lS,lZ]
theorem aEe{i:Int}{b:Str×Int}{s0 s1 s2 s3 s4 s5 s6 s7:Sl}:bG [s0,s1,s2,s3,s4,s5,s6,s7] (.cl (.tup [.int i,box b])) (.t [6,7])=.ok [s0,s1,s2,s3,s4,s5,.sh false (.int i),.sh false (box b)]:=by
 unfold bG
 simp only[bU,lC,lN,if_true,List.zip_cons_cons,List.zip_nil_left,List.foldl_cons,List.foldl_nil,bY (nJ b),bY (show noL (.int i)=true from rfl),bX,lS,lZ]
abbrev lbB:Ss:=match hdS (drp 2 f11.body) with|.for _ _ b=>b|_=>.nil
abbrev lcB:Ss:=match hdS (drp 3 f11.body) with|.for _ _ b=>b|_=>.nil
theorem qP(n:Nat){bs:List (Str×Int)}{st:List Int}(hs:st.length=bs.length)(hb:bs.length<=4)(s1 s6 s7:Sl):∀(ps:List (Nat×Sm)) (acc:List Int) (s4 s5:Sl),(∀p∈ps,lG bs.length p)->acc.length=bs.length ->
 ∃t4 t5,bZ (λσ x=>O.from σ (bG σ x (.t [4,5])) λσ'=>exs pg (call pg (n+3)) σ' lbB) (ps.map λp=>Vl.cl (cJ p)) (lf bs s1 st (.own false (acc.map D.int)) s4 s5 s6 s7)=.next (lf bs s1 st (.own false ((setF st acc ps).map D.int)) t4 t5 s6 s7)
 | [],acc,s4,s5,_,_=>⟨s4,s5,rfl⟩
 | p::ps,acc,s4,s5,h,ha=>by
  have o:=h p List.mem_cons_self
  have cv:=aAF n hs o.wf o.sz
  have v2:=bB 2 true (aZ st)
  have hx:ixN acc.length (p.1:Int)=some p.1:=eO (by rw[ha];exact o.box)
  have hll:acc.length<=lim:=by unfold lim;omega
  have e:exs pg (call pg (n+3)) (lf bs s1 st (.own false (acc.map D.int)) (.sh false (.int p.1)) (.sh false p.2.d) s6 s7) lbB=.next (lf bs s1 st (.own false ((acc.set p.1 (p.2.val st st)).map D.int)) (.sh false (.int p.1)) (.sh false p.2.d) s6 s7):=by
   simp only[lbB,lf,hdS,drp,f11,aW,cH,uT,cG,aE,aT,cO,aX,gS,gZ,aQ,v2,aA,mC,mN,bU,cv,fO,aF,put,eD,bE,gQ,lM,hx,vD,List.length_set,hll,if_true,qN,Bool.or_false,lS,lZ,kP]
  rw[mC,bZ,aCB,aF,e]
  exact qP n hs hb s1 s6 s7 ps _ _ _ (λq hq=>h q (List.mem_cons_of_mem _ hq)) (by rw[List.length_set];exact ha)
theorem qQ(n:Nat){bs:List (Str×Int)}{st:List Int}(s1 s3 s4 s5:Sl):∀(L:List (Int×(Str×Int))) (s6 s7:Sl),
 ∃t6 t7,bZ (λσ x=>O.from σ (bG σ x (.t [6,7])) λσ'=>exs pg (call pg n) σ' lcB) (L.map λx=>Vl.cl (.tup [.int x.1,box x.2])) (lf bs s1 st s3 s4 s5 s6 s7)=if L.all okP then .next (lf bs s1 st s3 s4 s5 t6 t7) else .ret (.cl .non)
 | [],s6,s7=>⟨s6,s7,rfl⟩
 | x::L,s6,s7=>by
  have i1:bV (.cl (box x.2)) (.cl (.int 1))=.ok (.cl (.int x.2.2)):=fX (.str x.2.1) (.int x.2.2) [] rfl
  have tt:tst pg (call pg n) (lf bs s1 st s3 s4 s5 (.sh false (.int x.1)) (.sh false (box x.2))) (.orr (.cmp .Lt (.v 6) (.c (.int 0))) (.cmp .Gt (.v 6) (.idx (.v 7) (.c (.int 1)))))=.ok (!okP x):=by
   rw[lF (x:=decide (x.1<0)) (y:=decide (x.2.2<x.1)) rfl (by
    simp only[bR,cO,cX,bI,aX,lf,gS,gZ,aQ,aA,i1,bU,xH])]
   unfold okP
   rw[Bool.not_not]
  rw[mC,bZ,aEe,aF,List.all_cons]
  have e:exs pg (call pg n) (lf bs s1 st s3 s4 s5 (.sh false (.int x.1)) (.sh false (box x.2))) lcB=if okP x then .next (lf bs s1 st s3 s4 s5 (.sh false (.int x.1)) (.sh false (box x.2))) else .ret (.cl .non):=by
   show exs pg (call pg n) (lf bs s1 st s3 s4 s5 (.sh false (.int x.1)) (.sh false (box x.2))) (.cons (.iff _ _ _) .nil)=_
   rw[aW,bJ,tt,aF]
   cases okP x <;> rfl
  rw[e]
  cases okP x with
  | false=>exact⟨s6,s7,rfl⟩
  | true=>exact qQ n s1 s3 s4 s5 L _ _
theorem pC:∀(r:List Int) (bs:List (Str×Int)),gE (r.map D.int) (aB bs)=(r.zip bs).map λx=>.tup [.int x.1,box x.2]
 | [],_=>by cases ‹List (Str×Int)› <;> rfl
 | _::_,[]=>rfl
 | i::r,b::bs=>by
  have:=pC r bs
  unfold aB at this ⊢
  rw[mC,mC,gE,this,List.zip_cons_cons,mC]
theorem vH(n:Nat){bs:List (Str×Int)}{st:List Int}(hs:st.length=bs.length)(hb:bs.length<=4){w:Way}(o:mT bs.length w):call pg (n+32) 11 [.lst (aB bs),w.d,aR st]=.ok (stD (vF bs w st),false,false):=by
 have ch:=aAG n hs o.g o.gs
 have v1:=bB 1 true (dZ w)
 have v2:=bB 2 true (aZ st)
 have i0:bV (.cl w.d) (.cl (.int 0))=.ok (.cl w.g.d):=eY w.g.d _ w.g.noL
 have i1:bV (.cl w.d) (.cl (.int 1))=.ok (.cl (.tup (w.ps.map cJ))):=fX w.g.d (.tup (w.ps.map cJ)) _ (by rw[noL];exact eS _)
 refine aN (F:=f11) rfl rfl (v:=.cl (stD (vF bs w st))) ?_
 show exs pg (call pg (n+31)) (lf bs (.sh true w.d) st .dead .dead .dead .dead .dead) _=_
 unfold vF
 have t1:tst pg (call pg (n+31)) (lf bs (.sh true w.d) st .dead .dead .dead .dead .dead) (.nt (.call 10 (.cons (.idx (.v 1) (.c (.int 0))) (.cons (.v 2) .nil))))=.ok (!w.g.hold st st):=by
  simp only[iG,iH,aE,aT,cX,cO,bI,aX,lf,gS,gZ,v1,v2,aA,i0,mC,mN,bU,ch,fO,oU]
 cases hh:w.g.hold st st with
 | false=>
  rw[hh] at t1
  refine hG ?_
  rw[bJ,t1,aF]
  rfl
 | true=>
  rw[hh] at t1
  have hli:biD .list [.cl (aR st)]=.ok ⟨.lst (st.map D.int),true,false,[]⟩:=by
   show R.ok (Vl.mk (.lst (st.map D.int)) true (false&&!noLs (st.map D.int)) (if noLs (st.map D.int)=true then [] else []))=_
   rw[eU];rfl
  have e2:ex pg (call pg (n+31)) (lf bs (.sh true w.d) st .dead .dead .dead .dead .dead) (.set (.n 3) (.bi .list (.cons (.v 2) .nil)))=.next (lf bs (.sh true w.d) st (.own false (st.map D.int)) .dead .dead .dead .dead):=by
   simp only[dJ,fD,aE,aT,cO,aX,lf,gS,gZ,v2,aA,hli,aF,bE,eJ,yY,lS,lZ]
  obtain⟨t4,t5,h3⟩:=qP (n+28) hs hb (.sh true w.d) .dead .dead w.ps st .dead .dead o.ps hs
  have hw:walk pg (call pg (n+31)) (lf bs (.sh true w.d) st (.own false (st.map D.int)) .dead .dead .dead .dead) (.seq (.idx (.v 1) (.c (.int 1))))=.ok (w.ps.map (λp=>Vl.cl (cJ p)),[]):=by
   simp only[eB,cX,cO,bI,aX,lf,gS,gZ,v1,aA,i1,bU,jS,eD]
  have e3:ex pg (call pg (n+31)) (lf bs (.sh true w.d) st (.own false (st.map D.int)) .dead .dead .dead .dead) (.for (.t [4,5]) (.seq (.idx (.v 1) (.c (.int 1)))) lbB)=.next (lf bs (.sh true w.d) st (.own false ((setF st st w.ps).map D.int)) t4 t5 .dead .dead):=by
   rw[fN,hw,aF]
   exact h3
  have hr:(setF st st w.ps).length=bs.length:=by rw[vG,hs]
  revert hr e3
  generalize setF st st w.ps=r
  intro e3 hr
  have hw2:walk pg (call pg (n+31)) (lf bs (.sh true w.d) st (.own false (r.map D.int)) t4 t5 .dead .dead) (.zip (.v 3) (.v 0))=.ok ((r.zip bs).map (λx=>Vl.cl (.tup [.int x.1,box x.2])),[3]):=by
   simp only[oQ,cO,aX,lf,gS,gZ,fF,eN,aA,gF,pC,List.append_nil]
   rw[fW (g:=λx:Int×(Str×Int)=>D.tup [.int x.1,box x.2]) (λx=>nL rfl (nJ _))]
  obtain⟨t6,t7,h4⟩:=qQ (n+31) (bs:=bs) (st:=st) (.sh true w.d) (.sh false (.lst (r.map D.int))) t4 t5 (r.zip bs) .dead .dead
  refine(stp (σ':=lf bs (.sh true w.d) st .dead .dead .dead .dead .dead) (by rw[bJ,t1,aF];rfl)).trans ((stp e2).trans ((stp e3).trans ?_))
  show exs pg (call pg (n+31)) _ (.cons (.for (.t [6,7]) (.zip (.v 3) (.v 0)) lcB) _)=_
  rw[aW,fN,hw2,aF]
  show(bZ _ _ (lf bs (.sh true w.d) st (.sh false (.lst (r.map D.int))) t4 t5 .dead .dead)).on _=_
  rw[h4]
  cases(r.zip bs).all okP with
  | false=>rfl
  | true=>
   have ht:biD .tuple [.cl (.lst (r.map D.int))]=.ok (.cl (aR r)):=by
    show R.ok (Vl.mk (.tup (r.map D.int)) false (false&&!noLs (r.map D.int)) (if noLs (r.map D.int)=true then [] else []))=_
    rw[eU];rfl
   show exs pg (call pg (n+31)) (lf bs (.sh true w.d) st (.sh false (.lst (r.map D.int))) t4 t5 t6 t7) (.cons (.ret (.bi .tuple (.cons (.v 3) .nil))) .nil)=.ret (.cl (aR r))
   refine hG ?_
   rw[iI,fD,aE]
   show O.from _ (biD .tuple [.cl (.lst (r.map D.int))]) _=_
   rw[ht];rfl
theorem oY(n:Nat)(i:Int):call pg (n+1) 13 [.int i]=.ok (.bl true,false,false):=rfl
theorem aCC{bs:List (Str×Int)}{st:List Int}{b:Str×Int}{h:Nat}(hl:st.length=bs.length)(H:InR bs st)(hh:h<(b.2+1).toNat):InR (bs++[b]) (st++[(h:Int)]):=by
 intro j x c hx hc
 by_cases hj:j<bs.length
 . rw[List.getElem?_append_left (by omega)] at hx
   rw[List.getElem?_append_left hj] at hc
   exact H j x c hx hc
 . rw[List.getElem?_append_right (by omega)] at hx
   rw[List.getElem?_append_right (by omega)] at hc
   have h0:j-bs.length=0:=by
    have:=(List.getElem?_eq_some_iff.mp hc).1
    simp at this
    omega
   rw[hl,h0] at hx
   rw[h0] at hc
   cases hx
   cases hc
   omega
theorem vI{bs:List (Str×Int)}:∀i,i<=bs.length->∀st∈aI (bs.take i),st.length=i/\InR (bs.take i) st
 | 0,_,st,h=>by
  have:st=[]:=by simpa[aI] using h
  subst this
  exact⟨rfl,λj a b ha _=>by simp at ha⟩
 | i+1,hi,st,h=>by
  rw[eM hi] at h
  obtain⟨b,hb,hst⟩:=List.mem_flatMap.mp h
  obtain⟨m,hm,rfl⟩:=List.mem_map.mp hst
  obtain⟨l1,l2⟩:=vI i (by omega) b hb
  refine⟨by simp[l1],?_⟩
  rw[List.take_succ_eq_append_getElem hi]
  exact aCC (by rw[l1,List.length_take];omega) l2 (by simpa using hm)
theorem aCD{bs:List (Str×Int)}{st:List Int}(h:st∈aI bs):st.length=bs.length/\InR bs st:=by
 have:=vI (bs:=bs) bs.length (Nat.le_refl _) st (by rw[List.take_length];exact h)
 rwa [List.take_length] at this
section
variable {P:Pg} {cl:Caller} {σ:Sg}
theorem aEO(σ:Sg){i j:Nat}{a b:D}(ha:noL a=true)(hb:noL b=true):bG σ (.cl (.tup [a,b])) (.t [i,j])=.ok ((σ.set i (.sh false a)).set j (.sh false b)):=by
 unfold bG
 simp only[bU,lC,lN,if_true,List.zip_cons_cons,List.zip_nil_left,List.foldl_cons,List.foldl_nil,bY ha,bY hb,bX]
theorem zM(σ:Sg){i:Nat}{d:D}:bG σ (.cl d) (.n i)=.ok (σ.set i (.sh false d)):=by rw[eJ,bX]
theorem zN{f:Nat}{a b c:E}{x y z:Vl}{k:Bool}(h1:ev P cl σ a=.ok x)(h2:ev P cl σ b=.ok y)(h3:ev P cl σ c=.ok z)(hc:cl f [x.d,y.d,z.d]=.ok (.bl k,false,false)):tst P cl σ (.call f (.cons a (.cons b (.cons c .nil))))=.ok k:=by
 have e:evs P cl σ (.cons a (.cons b (.cons c .nil)))=.ok [x,y,z]:=by rw[aE,h1,aA,aE,h2,aA,aE,h3,aA,aT];rfl
 rw[iH,e,aA,show [x,y,z].map (·.d)=[x.d,y.d,z.d] from rfl,hc];rfl
theorem kB{a:E}{k:Bool}(h:tst P cl σ a=.ok k):tst P cl σ (.nt a)=.ok (!k):=by rw[iG,h];rfl
theorem zO{f:Nat}{a b:E}{x y:Vl}{d:D}(h1:ev P cl σ a=.ok x)(h2:ev P cl σ b=.ok y)(hc:cl f [x.d,y.d]=.ok (d,false,false)):ev P cl σ (.call f (.cons a (.cons b .nil)))=.ok (.cl d):=by
 have e:evs P cl σ (.cons a (.cons b .nil))=.ok [x,y]:=by rw[aE,h1,aA,aE,h2,aA,aT];rfl
 rw[cG,e,aA,show [x,y].map (·.d)=[x.d,y.d] from rfl,hc];rfl
theorem aHp{a b:E}{x y:D}(h1:ev P cl σ a=.ok (.cl x))(h2:ev P cl σ b=.ok (.cl y)):ev P cl σ (.tup (.cons a (.cons b .nil)))=.ok (.cl (.tup [x,y])):=by
 rw[aGX,aE,h1,aA,aE,h2];rfl
end
theorem aEP{v:Vl}{α:Type}{f:α->D}{xs:List α}{k:Nat}{x:α}(hv:v.d=.lst (xs.map f))(hx:xs[k]? = some x):bV v (.cl (.int (k:Int)))=.ok (Vl.sub v (f x)):=by
 have hk:k<(xs.map f).length:=by rw[lM];exact(List.getElem?_eq_some_iff.mp hx).1
 have e:(xs.map f)[k]? = some (f x):=by rw[List.getElem?_map,hx];rfl
 unfold bV
 simp only[hv,bU,eO hk,e]
section
variable {P:Pg} {cl:Caller} {σ σ':Sg}
theorem aJZ{i:Nat}{e:E}{v:Vl}{pa:Bool}{ds:List D}(h:ev P cl σ e=.ok v)(hi:(freeze σ v.al)[i]? = some (.own pa ds))(hl:ds.length<lim):ex P cl σ (.app i e)=.next ((freeze σ v.al).set i (.own (pa||v.pa) (ds++[v.d]))):=by
 have ll:(ds++[v.d]).length<=lim:=by rw[lA];exact hl
 rw[aGY,h,aF]
 unfold put gQ
 rw[hi]
 show(if (ds++[v.d]).length<=lim then O.next _ else .bad)=_
 rw[if_pos ll]
theorem aHq{i:Nat}{e:E}{v:Vl}{ds ds':List D}(h:ev P cl σ e=.ok v)(hi:(freeze σ v.al)[i]? = some (.own false ds))(hl:ds.length<lim)(hp:v.pa=false)(he:ds'=ds++[v.d]):ex P cl σ (.app i e)=.next ((freeze σ v.al).set i (.own false ds')):=by
 rw[aJZ h hi hl,hp,he];rfl
theorem xJ{i:Nat}{e:E}{ds:List D}(h:ev P cl σ e=.ok ⟨.lst ds,true,false,[]⟩):ex P cl σ (.set (.n i) e)=.next (σ.set i (.own false ds)):=by
 rw[dJ,h];rfl
theorem fR{o:CmpOp}{a b:E}{x y:Vl}{k:Bool}(h:ev P cl σ a=.ok x)(g:ev P cl σ b=.ok y)(e:bL o x.d y.d=some k):tst P cl σ (.cmp o a b)=.ok k:=by rw[bR,h,aA,g,aA,e]
end
theorem aLD{P:Pg}{cl:Caller}{σ:Sg}{s:S}{ss:Ss}{v:Vl}(h:ex P cl σ s=.ret v):exs P cl σ (.cons s ss)=.ret v:=by rw[aW,h];rfl
theorem aEf{P:Pg}{cl:Caller}{σ:Sg}{f:Nat}{a:E}{x:Vl}{d:D}{fr:Bool}(h1:ev P cl σ a=.ok x)(hc:cl f [x.d]=.ok (d,fr,false)):ev P cl σ (.call f (.cons a .nil))=.ok ⟨d,fr,false,[]⟩:=by
 have e:evs P cl σ (.cons a .nil)=.ok [x]:=by rw[aE,h1];rfl
 rw[cG,e,aA,show [x].map (·.d)=[x.d] from rfl,hc];rfl
section
variable {P:Pg} {cl:Caller} {σ σ':Sg}
theorem pD{a b:E}{k:Bool}(h:tst P cl σ a=.ok false)(g:tst P cl σ b=.ok k):tst P cl σ (.orr a b)=.ok k:=by rw[eL,h,aA,if_neg bN,g]
theorem aCE{f:Nat}{a b c:E}{x y z:Vl}{d:D}(h1:ev P cl σ a=.ok x)(h2:ev P cl σ b=.ok y)(h3:ev P cl σ c=.ok z)(hc:cl f [x.d,y.d,z.d]=.ok (d,true,false)):ev P cl σ (.call f (.cons a (.cons b (.cons c .nil))))=.ok ⟨d,true,false,[]⟩:=by
 have e:evs P cl σ (.cons a (.cons b (.cons c .nil)))=.ok [x,y,z]:=by rw[aE,h1,aA,aE,h2,aA,aE,h3,aA,aT];rfl
 rw[cG,e,aA,show [x,y,z].map (·.d)=[x.d,y.d,z.d] from rfl,hc];rfl
theorem aCF{f:Nat}{a b:E}{x y:Vl}{d:D}(h1:ev P cl σ a=.ok x)(h2:ev P cl σ b=.ok y)(hc:cl f [x.d,y.d]=.ok (d,true,false)):ev P cl σ (.call f (.cons a (.cons b .nil)))=.ok ⟨d,true,false,[]⟩:=by
 have e:evs P cl σ (.cons a (.cons b .nil))=.ok [x,y]:=by rw[aE,h1,aA,aE,h2,aA,aT];rfl
 rw[cG,e,aA,show [x,y].map (·.d)=[x.d,y.d] from rfl,hc];rfl
theorem zP{f:Nat}{a b c e g:E}{x y z w u:Vl}{d:D}(h1:ev P cl σ a=.ok x)(h2:ev P cl σ b=.ok y)(h3:ev P cl σ c=.ok z)(h4:ev P cl σ e=.ok w)(h5:ev P cl σ g=.ok u)(hc:cl f [x.d,y.d,z.d,w.d,u.d]=.ok (d,false,false)):ev P cl σ (.call f (.cons a (.cons b (.cons c (.cons e (.cons g .nil))))))=.ok (.cl d):=by
 have e:evs P cl σ (.cons a (.cons b (.cons c (.cons e (.cons g .nil)))))=.ok [x,y,z,w,u]:=by rw[aE,h1,aA,aE,h2,aA,aE,h3,aA,aE,h4,aA,aE,h5,aA,aT];rfl
 rw[cG,e,aA,show [x,y,z,w,u].map (·.d)=[x.d,y.d,z.d,w.d,u.d] from rfl,hc];rfl
theorem aHr{i:Nat}{e:E}{d:D}(h:ev P cl σ e=.ok ⟨d,false,true,[]⟩):ex P cl σ (.set (.n i) e)=.next (σ.set i (.sh true d)):=by rw[dJ,h];rfl
theorem aCG{f:Nat}{a b:E}{x y:Vl}{d:D}(h1:ev P cl σ a=.ok x)(h2:ev P cl σ b=.ok y)(hc:cl f [x.d,y.d]=.ok (d,false,true))(hp:aV [x,y]=true)(ha:cC [x,y]=[]):ev P cl σ (.call f (.cons a (.cons b .nil)))=.ok ⟨d,false,true,[]⟩:=by
 have e:evs P cl σ (.cons a (.cons b .nil))=.ok [x,y]:=by rw[aE,h1,aA,aE,h2,aA,aT];rfl
 rw[cG,e,aA,show [x,y].map (·.d)=[x.d,y.d] from rfl,hc,aA]
 show R.ok (⟨d,false,aV [x,y],cC [x,y]⟩:Vl)=_
 rw[hp,ha]
end
abbrev gB(ws:List Way):D:=.lst (ws.map Way.d)
abbrev aH(h:List (List Way)):List D:=h.map gB
structure zQ (m e:Nat) (ws:List Way):Prop where
 one:1<=ws.length
 few:ws.length<=4
 ok:∀w∈ws,mT m w/\0<=w.nx/\w.nx<(e:Int)+1
structure jT (m:Nat) (h:List (List Way)):Prop where
 few:h.length<=8
 ok:∀ws∈h,zQ m h.length ws
abbrev hf(ns:List Int)(k:Nat)(bs:List (Str×Int))(e:Nat)(s:Sl):Sg:=[s,.lent (aS ns k),.sh true (.lst (aB bs)),.sh false (.int e)]
abbrev aKa:EL:=.call 8 (.cons (.e (.v 2)) (.cons (.e (.op .Add (.v 3) (.c (.int 1)))) (.cons (.e (.c (.int 1))) .nil)))
abbrev aKb:EL:=.comp 1 [1,2,3] (.n 0) (.op .Add (.e (.c (.int 1))) (.call 4 (.cons (.e (.c (.int 4))) .nil))) 1 aKa
theorem vJ{α:Type}{P:α->Prop}{l:List α}{x:α}(h:∀y∈l,P y)(hx:P x):∀y∈l++[x],P y:=λy hy=>by
 rcases List.mem_append.mp hy with z|z
 . exact h y z
 . rw[List.mem_singleton.mp z];exact hx
theorem aEg(n:Nat)(ns:List Int){k e:Nat}(hk:k<=300000){bs:List (Str×Int)}(hm:1<=bs.length)(hm4:bs.length<=4)(s:Sl) :
 ∃(ws:List Way) (k':Nat),zQ bs.length e ws/\k'<=k+1000/\evl pg (call pg (n+8)) 1 (hf ns k bs e s) aKb=.ok (⟨gB ws,true,false,[]⟩,hf ns k' bs e s):=by
 obtain⟨r0,r1⟩:=dP ns k (m:=4) (by decide)
 have x0:evl pg (call pg (n+8)) 1 (hf ns k bs e s) (.call 4 (.cons (.e (.c (.int 4))) .nil))=.ok (.cl (.int (nxt ns k 4)),hf ns (k+1) bs e s):=sJ (z:=(true,aS ns k)) rfl rfl (vs:=[.cl (.int 4)]) (σ1:=hf ns k bs e s) rfl (pa:=true) (cs:=aS ns k) rfl (zJ (n+6) ns (by omega) (m:=4) (by decide))
 have hN:(1:Int)+nxt ns k 4=((1+(nxt ns k 4).toNat:Nat):Int):=by omega
 have he:=vB (cT (P:=pg) (cl:=call pg (n+8)) (l:=1) (σ:=hf ns k bs e s) (a:=.c (.int 1)) (d:=.int 1) rfl) x0 (add_int 1 (nxt ns k 4))
 rw[hN] at he
 obtain⟨ds,σ',h1,ws,k',rfl,h2,h3,h4,rfl⟩:=uW (k:=1) (l':=1) (caps:=[1,2,3]) (t:=.n 0) (elt:=aKa) (λi ds σ=>∃ws k',ds=ws.map Way.d/\ws.length=i/\(∀w∈ws,mT bs.length w/\0<=w.nx/\w.nx<(e:Int)+1)/\k'<=k+1+200*i/\σ=hf ns k' bs e s) he (by omega) ⟨[],k+1,rfl,rfl,λ_ z=>absurd z List.not_mem_nil,by omega,rfl⟩ λi σ ds hi ⟨ws,k',e1,e2,e3,e4,e5⟩=>by
  subst e1 e5
  obtain⟨w,k2,o,hx,hk2,hc⟩:=aDZ n ns (k:=k') (by omega) hm hm4 (m:=(e:Int)+1) (by omega) (d:=1) (by decide)
  exact⟨hf ns k' bs e (.sh false (.int i)),.cl w.d,hf ns k2 bs e (.sh false (.int i)),(true,aS ns k'),true,aS ns k2,rfl,sJ (z:=(true,aS ns k')) rfl rfl (vs:=[⟨.lst (aB bs),false,true,[]⟩,.cl (.int ((e:Int)+1)),.cl (.int 1)]) (σ1:=hf ns k' bs e (.sh false (.int i))) rfl (pa:=true) (cs:=aS ns k') rfl hc,rfl,rfl,rfl,ws++[w],k2,by rw[List.map_append];rfl,by rw[lA,e2];rfl,vJ e3 ⟨o,hx⟩,by omega,rfl⟩
 exact⟨ws,k',⟨by omega,by omega,h3⟩,by omega,h1⟩
theorem bnd{a b c i:Nat}(h1:a<=b+1000)(h2:b<=c+1000*i):a<=c+1000*(i+1):=Nat.le_trans h1 (Nat.le_trans (Nat.add_le_add_right h2 1000) (Nat.le_of_eq (by rw[Nat.mul_succ,Nat.add_assoc])))
theorem aCH(n:Nat)(ns:List Int){k:Nat}(hk:k<=100000){bs:List (Str×Int)}(hm:1<=bs.length)(hm4:bs.length<=4) :
 ∃(h:List (List Way)) (k':Nat),jT bs.length h/\call pg (n+9) 29 [.err 0 (aS ns k),.lst (aB bs)]=.ok (.tup [.lst (aH h),.err 0 (aS ns k')],true,false):=by
 obtain⟨r0,r1⟩:=dP ns k (m:=5) (by decide)
 have x0:=eV (n+6) (ns:=ns) (k:=k) (by omega) (m:=5) (by decide) (c:=aS ns k) (r:=[.sh true (.lst (aB bs)),.dead]) (a:=.e (.c (.int 5))) (cT rfl)
 have x1:=aHc (aCq x0 (cT (P:=pg) (cl:=call pg (n+8)) (l:=0) (σ:=[.lent (aS ns (k+1)),.sh true (.lst (aB bs)),.dead]) (a:=.c (.int 8)) (d:=.int 8) rfl))
 have x2:=eV (n+6) (ns:=ns) (k:=k+1) (by omega) (m:=6) (by decide) (c:=aS ns (k+1)) (r:=[.sh true (.lst (aB bs)),.dead]) (a:=.e (.c (.int 6))) (cT rfl)
 have x3:=aHd (o:=.Eq) (k:=nxt ns (k+1) 6==1) x2 (cT (P:=pg) (cl:=call pg (n+8)) (l:=0) (σ:=[.lent (aS ns (k+2)),.sh true (.lst (aB bs)),.dead]) (a:=.c (.int 1)) (d:=.int 1) rfl) rfl
 have x4:=aHe (d:=.int (if (nxt ns (k+1) 6==1)=true then 1 else 0)) x3 (by cases(nxt ns (k+1) 6==1) <;> rfl)
 have x5:∃e:Nat,e<=8/\bV (Vl.nr ⟨.lst [.int (nxt ns k 5),.int 8],true,aV [.cl (.int (nxt ns k 5)),.cl (.int 8)],[]⟩) (Vl.nr (.cl (.int (if (nxt ns (k+1) 6==1)=true then 1 else 0))))=.ok (.cl (.int (e:Int))):=by
  cases(nxt ns (k+1) 6==1) with
  | true=>exact⟨8,Nat.le_refl _,rfl⟩
  | false=>exact⟨(nxt ns k 5).toNat,by omega,by rw[show(((nxt ns k 5).toNat:Nat):Int)=nxt ns k 5 by omega];rfl⟩
 obtain⟨e,he8,x5⟩:=x5
 have x6:=aHf x1 x4 x5 rfl
 have e1:ex pg (call pg (n+8)) [.lent (aS ns k),.sh true (.lst (aB bs)),.dead] (hdS (drp 1 f29.body))=.next [.lent (aS ns (k+2)),.sh true (.lst (aB bs)),.sh false (.int e)]:=by
  show ex pg (call pg (n+8)) _ (.setL 2 0 [] _)=_
  rw[fJ,bE,x6,aF,bX]
  rfl
 obtain⟨ds,σ',h1,h,k',rfl,h2,h3,h4,rfl⟩:=uW (P:=pg) (cl:=call pg (n+8)) (l:=0) (σ:=[.lent (aS ns (k+2)),.sh true (.lst (aB bs)),.sh false (.int e)]) (n:=.e (.v 2)) (N:=e) (σ0:=[.lent (aS ns (k+2)),.sh true (.lst (aB bs)),.sh false (.int e)]) (k:=1) (l':=1) (caps:=[0,1,2]) (t:=.n 0) (elt:=aKb) (λi ds σ=>∃(h:List (List Way)) (k':Nat),ds=aH h/\h.length=i/\(∀ws∈h,zQ bs.length e ws)/\k'<=k+2+1000*i/\σ=[.lent (aS ns k'),.sh true (.lst (aB bs)),.sh false (.int e)]) (cT (aQ 2 (.int e))) (by omega) ⟨[],k+2,rfl,rfl,λ_ z=>absurd z List.not_mem_nil,by omega,rfl⟩ λi σ ds hi ⟨h,k',e1,e2,e3,e4,e5⟩=>by
  subst e1 e5
  obtain⟨ws,k2,o,hk2,hc⟩:=aEg n ns (k:=k') (e:=e) (by omega) hm hm4 (.sh false (.int i))
  exact⟨hf ns k' bs e (.sh false (.int i)),_,hf ns k2 bs e (.sh false (.int i)),(true,aS ns k'),true,aS ns k2,rfl,hc,rfl,rfl,rfl,h++[ws],k2,by rw[aH,aH,List.map_append];rfl,by rw[lA,e2];rfl,vJ e3 o,bnd hk2 e4,rfl⟩
 refine⟨h,k',⟨by omega,by rw[h2];exact h3⟩,?_⟩
 refine dY (F:=f29) (b:=_) rfl rfl rfl (v:=⟨.tup [.lst (aH h),.err 0 (aS ns k')],true,false,[]⟩) ?_
 refine(stp e1).trans (hG ?_)
 rw[sH,h1]
 rfl
section
variable {P:Pg} {cl:Caller} {σ:Sg}
theorem xK{e:E}{v:Vl}(h:ev P cl σ e=.ok v):ex P cl σ (.ex e)=.next σ:=by rw[aEM,h];rfl
theorem aEQ{b:Ss}{σ':Sg}(h:exs P cl σ b=.next σ'):ex P cl σ (.tryN b)=.next σ':=h
theorem mU{s:S}{σ':Sg}(h:ex P cl σ s=.next σ'):exs P cl σ (.cons s .nil)=.next σ':=cs h rfl
theorem xL{i:Nat}{d:D}{ss:Ss}(h:σ[i]? = some (.sh true d))(n:noL d=true):exs P cl σ (.cons (.retv i) ss)=.ret (.cl d):=by
 refine aLD ?_
 show(match σ[i]? with|some (.own pa ds)=>O.ret ⟨.lst ds,true,pa,[]⟩|_=>O.from σ (aX σ i) .ret)=_
 unfold aX
 rw[h]
 show O.from σ (Sl.val i (.sh true d)) .ret=_
 rw[bB i true n]
 rfl
theorem mV{a:E}{cs:List Cl}{v:Vl}{k:Bool}(h:ev P cl σ a=.ok v)(e:isI cs P v.d=some k):tst P cl σ (.isi a cs)=.ok k:=by
 show(ev P cl σ a >>= λx=>(match isI cs P x.d with|some k=>R.ok k|none=>.bad))=_
 rw[h,aA,e]
theorem dL(i:Nat){d:D}(h:σ[i]? = some (.sh true d))(n:noL d=true):ev P cl σ (.v i)=.ok (.cl d):=by
 show aX σ i=_
 unfold aX
 rw[h]
 exact bB i true n
theorem bT(i:Nat){ds:List D}(h:σ[i]? = some (.sh true (.lst ds))):ev P cl σ (.v i)=.ok ⟨.lst ds,false,true,[]⟩:=by
 show aX σ i=_
 unfold aX
 rw[h]
 rfl
end
variable {bs:List (Str×Int)}
theorem vK(n:Nat){q:Cn}(w:q.wf bs.length true)(z:q.sz<=31):call pg (n+35) 17 [.lst (aB bs),q.d,.bl true]=.ok (q.d,false,false):=by
 have c1:=lD (P:=pg) (wh:=14) (wi:=15) (ch:=20) (fo:=19) (lo:=18) rfl rfl rfl rfl rfl rfl rfl (bs:=aB bs) (lM _) q (n+31-q.sz) 0 w (by omega)
 rw[show n+31-q.sz+3+q.sz=n+34 by omega] at c1
 exact aN (F:=f17) rfl rfl (v:=.cl q.d) (cs (xK (zP (bT 0 rfl) (bI _) (dL 1 rfl q.noL) (dL 2 rfl rfl) (bI _) c1)) (xL rfl q.noL))
theorem xM(n:Nat){s:Sm}(w:s.wf bs.length true)(z:s.sz<=3):call pg (n+7) 16 [.lst (aB bs),s.d,.bl true]=.ok (s.d,false,false):=by
 have c1:=kY (P:=pg) (wh:=14) (wi:=15) (ch:=20) (fo:=19) (lo:=18) rfl rfl rfl rfl rfl rfl (bs:=aB bs) (lM _) s (n+3-s.sz) 0 w (by omega)
 rw[show n+3-s.sz+3+s.sz=n+6 by omega] at c1
 exact aN (F:=f16) rfl rfl (v:=.cl s.d) (cs (xK (zP (bT 0 rfl) (bI _) (dL 1 rfl s.noL) (dL 2 rfl rfl) (bI _) c1)) (xL rfl s.noL))
theorem aAH(n:Nat){q:Cn}(w:q.wf bs.length true)(z:q.sz<=31):call pg (n+36) 24 [.lst (aB bs),q.d]=.ok (.non,false,false):=
 fY (F:=f24) rfl rfl (mU (aEQ (mU (xK (cP (bT 0 rfl) (dL 1 rfl q.noL) (bI _) (vK n w z))))))
theorem aEh(n:Nat){p:Nat×Sm}(o:lG bs.length p){l:Nat}(hl:l<=p.1):call pg (n+8) 26 [.lst (aB bs),cJ p,.int l]=.ok (.non,false,false):=by
 have hb:=o.box
 have c1:=mD (P:=pg) (wh:=14) (wi:=15) rfl rfl (n+5) p.1 l ((bs.length:Int)-1) (by omega) (by omega)
 refine fY (F:=f26) rfl rfl (σ:=[.sh true (.lst (aB bs)),.sh true (cJ p),.sh true (.int l)]) ?_
 show exs pg (call pg (n+7)) [.sh true (.lst (aB bs)),.sh true (cJ p),.sh true (.int l)] f26.body=_
 have v0:=bT (P:=pg) (cl:=call pg (n+7)) (σ:=[.sh true (.lst (aB bs)),.sh true (cJ p),.sh true (.int l)]) 0 rfl
 have v1:=dL (P:=pg) (cl:=call pg (n+7)) (σ:=[.sh true (.lst (aB bs)),.sh true (cJ p),.sh true (.int l)]) 1 rfl (sN p)
 have v3:=aHa (o:=.Sub) (gX (b:=.len) v0 (cS _ _ _ _)) (bI (.int 1)) (sub_int _ 1)
 rw[show(aB bs).length=bs.length from lM _] at v3
 have k2:=eE (a:=.cons (.rse 3 false (.cons (.c (.str "puts are of the boxes' numbers, rising, each once")) .nil)) .nil) (kB (zN (dF v1 (bI _) (eY _ _ rfl)) (dL 2 rfl rfl) v3 c1))
 exact cs (eE (pD (kB (mV v1 rfl)) (fR (gX v1 (iY _)) (bI _) rfl))) (cs k2 (mU (aEQ (mU (xK (cP v0 (dF v1 (bI _) (fX _ _ _ p.2.noL)) (bI _) (xM n o.wf o.sz)))))))
abbrev pf(bs:List (Str×Int))(ps:List (Nat×Sm))(s t:Sl):Sg:=[.sh true (.lst (aB bs)),.sh true (.tup (ps.map cJ)),s,t]
theorem aCI(n:Nat){ps:List (Nat×Sm)}(o:∀p∈ps,lG bs.length p)(up:Up ps):call pg (n+9) 25 [.lst (aB bs),.tup (ps.map cJ)]=.ok (.non,false,false):=by
 have v1:∀s t,ev pg (call pg (n+8)) (pf bs ps s t) (.v 1)=.ok (.cl (.tup (ps.map cJ))):=λs t=>dL 1 rfl (eS ps)
 have hw:walk pg (call pg (n+8)) (pf bs ps (.sh false (.int 0)) .dead) (.seq (.v 1))=.ok (ps.map λp=>Vl.cl (cJ p),[]):=by
  rw[eB,v1,aA]
  show R.ok (items _ (ps.map cJ),[])=_
  rw[jS]
 obtain⟨σ',e3,_⟩:=lW (P:=pg) (cl:=call pg (n+8)) (t:=.n 3) (b:=match hdS (drp 2 f25.body) with|.for _ _ b=>b|_=>.nil) (λi σ=>∃(l:Nat) (t:Sl),(∀p∈ps.drop i,l<=p.1)/\σ=pf bs ps (.sh false (.int l)) t) hw ⟨0,.dead,λ_ _=>Nat.zero_le _,rfl⟩ λi hi σ ⟨l,t,hl,hσ⟩=>by
  have hi':i<ps.length:=by simpa using hi
  subst hσ
  have hd:=List.drop_eq_getElem_cons hi'
  rw[hd] at hl
  have v3:ev pg (call pg (n+8)) (pf bs ps (.sh false (.int l)) (.sh false (cJ ps[i]))) (.v 3)=.ok (.cl (cJ ps[i])):=aQ 3 _
  refine⟨pf bs ps (.sh false (.int l)) (.sh false (cJ ps[i])),pf bs ps (.sh false (.int ((ps[i].1+1:Nat):Int))) (.sh false (cJ ps[i])),?_,cs (xK (cP (bT 0 rfl) v3 (aQ 2 _) (aEh n (o _ (List.getElem_mem hi')) (hl _ List.mem_cons_self)))) (mU (fI (aHa (dF v3 (bI _) (eY _ _ rfl)) (bI _) (add_int _ 1)))),ps[i].1+1,_,λp hp=>?_,rfl⟩
  . rw[List.getElem_map,zM];rfl
  . have:=(List.pairwise_cons.mp (by rw[<-hd];exact List.Pairwise.sublist (List.drop_sublist _ _) up)).1 p hp
    exact this
 exact fY (F:=f25) rfl rfl (cs (eE (kB (mV (v1 _ _) rfl))) (cs (fI (bI _)) (mU e3)))
theorem xN(n:Nat){w:Way}(o:mT bs.length w){e:Nat}(hx:0<=w.nx/\w.nx<(e:Int)+1):call pg (n+37) 23 [.lst (aB bs),w.d,.int e]=.ok (w.d,false,false):=by
 have v0:=bT (P:=pg) (cl:=call pg (n+36)) (σ:=[.sh true (.lst (aB bs)),.sh true w.d,.sh true (.int e)]) 0 rfl
 have v1:=dL (P:=pg) (cl:=call pg (n+36)) (σ:=[.sh true (.lst (aB bs)),.sh true w.d,.sh true (.int e)]) 1 rfl (dZ w)
 have c1:=mD (P:=pg) (wh:=14) (wi:=15) rfl rfl (n+34) w.nx 0 e hx.1 (by omega)
 have k1:=eE (a:=.cons (.rse 3 false (.cons (.c (.str "a way is a tuple (guard, puts, next)")) .nil)) .nil) (pD (kB (mV (cs:=[.tTuple]) (k:=true) v1 rfl)) (fR (o:=.NotEq) (k:=false) (gX (b:=.len) v1 (iY _)) (bI (.int 3)) rfl))
 have k4:=eE (a:=.cons (.rse 3 false (.cons (.c (.str "a way's next is a place of the hand")) .nil)) .nil) (kB (zN (dF v1 (bI (.int 2)) (uX _ _ _ _ rfl)) (bI (.int 0)) (dL 2 rfl rfl) c1))
 exact aN (F:=f23) rfl rfl (v:=.cl w.d) (cs k1 (cs (xK (zO v0 (dF v1 (bI (.int 0)) (eY _ _ w.g.noL)) (aAH n o.g o.gs))) (cs (xK (zO v0 (dF v1 (bI (.int 1)) (fX _ _ _ (eS w.ps))) (aCI (n+27) o.ps o.up))) (cs k4 (xL rfl (dZ w))))))
section
variable {P:Pg} {cl:Caller} {σ:Sg}
theorem aKc{a b c:E}{x y z:Int}(h1:ev P cl σ a=.ok (.cl (.int x)))(h2:ev P cl σ b=.ok (.cl (.int y)))(h3:ev P cl σ c=.ok (.cl (.int z)))(p:x<=y)(q:y<=z):tst P cl σ (.cmp2 .LtE .LtE a b c)=.ok true:=by
 rw[oP,h1,aA,h2,aA]
 show(match some (decide (x<=y)) with|some true=>ev P cl σ c >>= λz=>(match bL .LtE (.int y) z.d with|some k=>R.ok k|none=>.bad)|some false=>.ok false|none=>.bad)=_
 rw[decide_eq_true p]
 show(ev P cl σ c >>= λz=>(match bL .LtE (.int y) z.d with|some k=>R.ok k|none=>.bad))=_
 rw[h3,aA]
 show(match some (decide (y<=z)) with|some k=>R.ok k|none=>.bad)=_
 rw[decide_eq_true q]
theorem aER{a b c:E}{x y z:Int}{k:Bool}(h1:ev P cl σ a=.ok (.cl (.int x)))(h2:ev P cl σ b=.ok (.cl (.int y)))(h3:ev P cl σ c=.ok (.cl (.int z)))(p:x<=y)(q:decide (y<z)=k):tst P cl σ (.cmp2 .LtE .Lt a b c)=.ok k:=by
 rw[oP,h1,aA,h2,aA]
 show(match some (decide (x<=y)) with|some true=>ev P cl σ c >>= λz=>(match bL .Lt (.int y) z.d with|some k=>R.ok k|none=>.bad)|some false=>.ok false|none=>.bad)=_
 rw[decide_eq_true p]
 show(ev P cl σ c >>= λz=>(match bL .Lt (.int y) z.d with|some k=>R.ok k|none=>.bad))=_
 rw[h3,aA]
 show(match some (decide (y<z)) with|some k=>R.ok k|none=>.bad)=_
 rw[q]
end
theorem aEi{α:Type}(k:Nat)(caps:List Nat)(f:α->D):∀h:List α,hZ k caps [] (h.map λx=>Vl.mk (f x) true false [])=⟨.lst (h.map f),true,false,[]⟩:=λh=>by
 have e1:(h.map λx=>Vl.mk (f x) true false []).map (·.d)=h.map f:=by rw[List.map_map];rfl
 have e2:aV (h.map λx=>Vl.mk (f x) true false [])=false:=by
  induction h with
  | nil=>rfl
  | cons x h ih=>
   unfold aV at ih ⊢
   rw[mC,List.any_cons,ih (by rw[List.map_map];rfl)];rfl
 have e3:cC (h.map λx=>Vl.mk (f x) true false [])=[]:=by
  clear e1 e2
  induction h with
  | nil=>rfl
  | cons x h ih=>
   unfold cC at ih ⊢
   rw[mC,List.flatMap_cons,ih];rfl
 unfold hZ
 rw[e1,e2,e3]
 split <;> rfl
variable {bs:List (Str×Int)}
theorem xO(n:Nat){ws:List Way}{e:Nat}(o:zQ bs.length e ws):call pg (n+38) 22 [.lst (aB bs),gB ws,.int e]=.ok (gB ws,true,false):=by
 have v1:=bT (P:=pg) (cl:=call pg (n+37)) (σ:=[.sh true (.lst (aB bs)),.sh true (gB ws),.sh true (.int e)]) 1 rfl
 have hl:=gX (b:=.len) v1 (cS _ _ _ _)
 rw[lM] at hl
 have k1:=eE (a:=.cons (.rse 3 false (.cons (.c (.str "a row is a list of one to four ways")) .nil)) .nil) (pD (kB (mV (cs:=[.tList]) (k:=true) v1 rfl)) (kB (aKc (bI (.int 1)) hl (bI (.int 4)) (by have:=o.one;omega) (by have:=o.few;omega))))
 refine aN (F:=f22) rfl rfl (v:=⟨gB ws,true,false,[]⟩) (cs k1 (dQ (aCk (ts:=ws) (al:=[]) (λw=>Vl.cl w.d) Way.d dZ ?_ (by have:=o.few;unfold lim;omega) λw hw=>⟨[.sh false w.d,.sh true (.lst (aB bs)),.sh true (.int e)],?_,cP (bT 1 rfl) (aQ 0 _) (dL 2 rfl rfl) (xN n (o.ok w hw).1 (o.ok w hw).2)⟩)))
 . rw[eB,v1,aA]
   show R.ok (items _ (ws.map Way.d),[])=_
   rw[fW dZ]
 . rw[zM];rfl
theorem vL(n:Nat){h:List (List Way)}(o:jT bs.length h):call pg (n+39) 21 [.lst (aB bs),.lst (aH h)]=.ok (.lst (aH h),true,false):=by
 have v1:=bT (P:=pg) (cl:=call pg (n+38)) (σ:=[.sh true (.lst (aB bs)),.sh true (.lst (aH h))]) 1 rfl
 have hl:=gX (b:=.len) v1 (cS _ _ _ _)
 rw[lM] at hl
 have k1:=eE (a:=.cons (.rse 3 false (.cons (.c (.str "a hand is a list of none to eight rows")) .nil)) .nil) (pD (kB (mV (cs:=[.tList]) (k:=true) v1 rfl)) (fR (o:=.Gt) (k:=false) hl (bI (.int 8)) (congrArg some (decide_eq_false (by have:=o.few;omega)))))
 have hc:ev pg (call pg (n+38)) [.sh true (.lst (aB bs)),.sh true (.lst (aH h))] (.comp 1 [0,1] (.n 0) (.seq (.v 1)) .nil (.call 22 (.cons (.v 1) (.cons (.v 0) (.cons (.bi .len (.cons (.v 2) .nil)) .nil)))))=.ok ⟨.lst (aH h),true,false,[]⟩:=by
  rw[yX (xs:=h.map λws=>⟨gB ws,false,true,[]⟩) (al:=[]) (λx=>⟨x.d,true,false,[]⟩) ?_ (by rw[lM];have:=o.few;unfold lim;omega) λx hx=>?_]
  . rw[List.map_map]
    exact congrArg R.ok (aEi 1 [0,1] gB h)
  . rw[eB,v1,aA]
    show R.ok (items _ (aH h),[])=_
    unfold items
    rw[List.map_map]
    rfl
  . obtain⟨ws,hw,rfl⟩:=List.mem_map.mp hx
    have l2:=gX (b:=.len) (bT (P:=pg) (cl:=call pg (n+38)) (σ:=[.sh true (gB ws),.sh true (.lst (aB bs)),.sh true (.lst (aH h))]) 2 rfl) (cS _ _ _ _)
    rw[lM] at l2
    exact⟨[.sh true (gB ws),.sh true (.lst (aB bs)),.sh true (.lst (aH h))],rfl,aCE (bT 1 rfl) (bT 0 rfl) l2 (xO n (o.ok ws hw))⟩
 exact aN (F:=f21) rfl rfl (v:=⟨.lst (aH h),true,false,[]⟩) (cs k1 (dQ hc))
def jF(ws:List Way)(i:Nat):Way:=ws.getD i ⟨.yes,[],0⟩
def goF(bs:List (Str×Int))(ws:List Way)(st:List Int):List Nat:=(List.range ws.length).filter λi=>(vC bs (jF ws i) st).isSome
abbrev cD(i:Nat):D:=.int (i:Int)
theorem sO(i:Nat):noL (cD i)=true:=rfl
theorem zR{ws:List Way}{i:Nat}(h:i<ws.length):jF ws i∈ws/\ws[i]? = some (jF ws i):=by
 unfold jF
 rw[List.getD_eq_getElem?_getD,List.getElem?_eq_getElem h]
 exact⟨List.getElem_mem h,rfl⟩
theorem vM:∀(ws:List Way) (a:Nat),eZ (a:Int) (ws.map Way.d)=(List.range ws.length).map λi=>.tup [cD (a+i),(jF ws i).d]
 | [],_=>rfl
 | w::ws,a=>by
  rw[lC,List.range_succ_eq_map,mC,mC,List.map_map]
  show .tup [.int (a:Int),w.d]::eZ ((a:Int)+1) (ws.map Way.d)=_
  rw[show((a:Int)+1)=((a+1:Nat):Int) by omega,vM ws (a+1)]
  refine congrArg _ (List.map_congr_left λi _=>?_)
  show D.tup [cD (a+1+i),_]=D.tup [cD (a+(i+1)),_]
  rw[show a+1+i=a+(i+1) by omega]
  rfl
theorem aES{o:Option (List Int)}:bL .IsNot (stD o) .non=some o.isSome:=by cases o <;> rfl
section
variable {P:Pg} {cl:Caller} {σ:Sg}
theorem aEj{a:E}{v:Vl}{ds:List D}(h:ev P cl σ a=.ok v)(e:v.d=.lst ds):walk P cl σ (.enum a)=.ok (items v (eZ 0 ds),v.al):=by
 show(ev P cl σ a >>= λx=>(match gF x.d with|some as=>R.ok (items x (eZ 0 as),x.al)|none=>.bad))=_
 rw[h,aA,e]
 rfl
end
variable {bs:List (Str×Int)}
theorem sP{h:List (List Way)}{p:Nat}{ws:List Way}(hp:h[p]? = some ws):bV ⟨.lst (aH h),false,true,[]⟩ (.cl (.int (p:Int)))=.ok ⟨gB ws,false,true,[]⟩:=aEP (f:=gB) (v:=⟨.lst (aH h),false,true,[]⟩) rfl hp
theorem xP(n:Nat)(h:List (List Way)){p:Nat}{ws:List Way}(hp:h[p]? = some ws):call pg (n+1) 28 [.lst (aH h),.int p]=.ok (gB ws,false,true):=by
 have v0:=bT (P:=pg) (cl:=call pg n) (σ:=[.sh true (.lst (aH h)),.sh true (.int p)]) 0 rfl
 have v1:=dL (P:=pg) (cl:=call pg n) (σ:=[.sh true (.lst (aH h)),.sh true (.int p)]) 1 rfl rfl
 have hl:=gX (b:=.len) v0 (cS _ _ _ _)
 rw[lM] at hl
 have hlt:=(List.getElem?_eq_some_iff.mp hp).1
 exact aN (F:=f28) rfl rfl (v:=⟨gB ws,false,true,[]⟩) (dQ (zB (aER (k:=true) (bI (.int 0)) v1 hl (by omega) (decide_eq_true (by omega))) (dF v0 v1 (sP hp))))
theorem vN(n:Nat)(h:List (List Way)):call pg (n+1) 28 [.lst (aH h),.int h.length]=.ok (.lst [],true,false):=by
 have v0:=bT (P:=pg) (cl:=call pg n) (σ:=[.sh true (.lst (aH h)),.sh true (.int h.length)]) 0 rfl
 have v1:=dL (P:=pg) (cl:=call pg n) (σ:=[.sh true (.lst (aH h)),.sh true (.int h.length)]) 1 rfl rfl
 have hl:=gX (b:=.len) v0 (cS _ _ _ _)
 rw[lM] at hl
 exact aN (F:=f28) rfl rfl (v:=⟨.lst [],true,false,[]⟩) (dQ (zB (aER (k:=false) (bI (.int 0)) v1 hl (by omega) (decide_eq_false (by omega))) rfl))
abbrev waF(bs:List (Str×Int))(h:List (List Way))(p:Nat)(st:List Int)(s:Sl):Sg:=[.sh true (.lst (aB bs)),.sh true (.lst (aH h)),.sh true (.int p),.sh true (aR st),s]
abbrev waC:E:=.comp 2 [0,3] (.t [0,1]) (.enum (.v 4)) (.cons (.cmp .IsNot (.call 2 (.cons (.v 2) (.cons (.v 1) (.cons (.v 3) .nil)))) (.c .non)) .nil) (.v 0)
theorem aCJ(n:Nat){h:List (List Way)}(o:jT bs.length h){st:List Int}(hs:st.length=bs.length)(hb:bs.length<=4){p:Nat}{ws:List Way}(hp:h[p]? = some ws):call pg (n+33) 27 [.lst (aB bs),.lst (aH h),.int p,aR st]=.ok (.lst ((goF bs ws st).map cD),true,false):=by
 have k1:ex pg (call pg (n+32)) (waF bs h p st .dead) (.set (.n 4) (.call 28 (.cons (.v 1) (.cons (.v 2) .nil))))=.next (waF bs h p st (.sh true (gB ws))):=aHr (aCG (bT 1 rfl) (dL 2 rfl rfl) (xP (n+31) h hp) rfl rfl)
 have ro:=o.ok ws (mG hp)
 have hc:ev pg (call pg (n+32)) (waF bs h p st (.sh true (gB ws))) waC=.ok ⟨.lst ((goF bs ws st).map cD),true,false,[]⟩:=by
  refine aCl (ts:=List.range ws.length) (al:=[]) (λi=>Vl.cl (.tup [cD i,(jF ws i).d])) cD (λi=>(vC bs (jF ws i) st).isSome) sO ?_ (by rw[List.length_range];have:=ro.few;unfold lim;omega) λi hi=>?_
  . rw[aEj (bT 4 rfl) rfl]
    have:=vM ws 0
    rw[show((0:Nat):Int)=0 from rfl] at this
    rw[this]
    refine congrArg R.ok (congrArg (·,[]) ((fW (g:=λi=>D.tup [cD (0+i),(jF ws i).d]) (λi=>nL rfl (dZ _)) _).trans (List.map_congr_left λi _=>?_)))
    rw[Nat.zero_add]
  . have hm:=zR (List.mem_range.mp hi)
    refine⟨[.sh false (cD i),.sh false (jF ws i).d,.sh true (.lst (aB bs)),.sh true (aR st)],?_,fR (cP (bT 2 rfl) (aQ 1 _) (dL 3 rfl (aZ st)) (xI n hs (by omega) (ro.ok _ hm.1).1)) (bI .non) aES,aQ 0 _⟩
    exact aEO _ rfl (dZ _)
 exact aN (F:=f27) rfl rfl (v:=⟨.lst ((goF bs ws st).map cD),true,false,[]⟩) (cs k1 (dQ hc))
theorem aCK(n:Nat)(h:List (List Way))(st:List Int):call pg (n+33) 27 [.lst (aB bs),.lst (aH h),.int h.length,aR st]=.ok (.lst [],true,false):=by
 have k1:ex pg (call pg (n+32)) (waF bs h h.length st .dead) (.set (.n 4) (.call 28 (.cons (.v 1) (.cons (.v 2) .nil))))=.next (waF bs h h.length st (.own false [])):=xJ (aCF (bT 1 rfl) (dL 2 rfl rfl) (vN (n+31) h))
 exact aN (F:=f27) rfl rfl (v:=⟨.lst [],true,false,[]⟩) (cs k1 (dQ rfl))
theorem aEk(n:Nat){h:List (List Way)}(o:jT bs.length h){st:List Int}(hs:st.length=bs.length)(hr:InR bs st)(hb:bs.length<=4){p:Nat}{ws:List Way}(hp:h[p]? = some ws):call pg (n+33) 30 [.lst (aB bs),.lst (aH h),.int p,aR st]=.ok (.lst ((goF bs ws st).map cD),true,false):=by
 have v1:=bT (P:=pg) (cl:=call pg (n+32)) (σ:=[.sh true (.lst (aB bs)),.sh true (.lst (aH h)),.sh true (.int p),.sh true (aR st)]) 1 rfl
 have v2:=dL (P:=pg) (cl:=call pg (n+32)) (σ:=[.sh true (.lst (aB bs)),.sh true (.lst (aH h)),.sh true (.int p),.sh true (aR st)]) 2 rfl rfl
 have hl:=gX (b:=.len) v1 (cS _ _ _ _)
 rw[lM] at hl
 have hlt:=(List.getElem?_eq_some_iff.mp hp).1
 have ro:=o.ok ws (mG hp)
 have k1:=eE (a:=.cons (.ret (.lst .nil)) .nil) (fR (o:=.Eq) (k:=false) v2 hl (congrArg some (beq_eq_false_iff_ne.mpr (by omega))))
 have hc:ev pg (call pg (n+32)) [.sh true (.lst (aB bs)),.sh true (.lst (aH h)),.sh true (.int p),.sh true (aR st)] (.comp 1 [0,1,2,3] (.n 0) (.rng (.c (.int 0)) (.bi .len (.cons (.idx (.v 1) (.v 2)) .nil))) (.cons (.cmp .IsNot (.call 11 (.cons (.v 1) (.cons (.idx (.idx (.v 2) (.v 3)) (.v 0)) (.cons (.v 4) .nil)))) (.c .non)) .nil) (.v 0))=.ok ⟨.lst ((goF bs ws st).map cD),true,false,[]⟩:=by
  refine aCl (ts:=List.range ws.length) (al:=[]) (λi=>Vl.cl (cD i)) cD (λi=>(vC bs (jF ws i) st).isSome) sO ?_ (by rw[List.length_range];have:=ro.few;unfold lim;omega) λi hi=>?_
  . have l2:=gX (b:=.len) (dF v1 v2 (sP hp)) (cS _ false true [])
    rw[lM] at l2
    rw[kQ,bI,aA,l2,aA]
    show R.iff (aG 0&&aG (ws.length:Int)) (R.ok ((cA 0 (ws.length:Int)).map Vl.cl,[]))=_
    rw[nI,iX (by have:=ro.few;omega),lV]
    rfl
  . have hm:=zR (List.mem_range.mp hi)
    have g:=vH n hs hb (ro.ok _ hm.1).1
    rw[aHo hs hr (ro.ok _ hm.1).1] at g
    refine⟨[.sh false (cD i),.sh true (.lst (aB bs)),.sh true (.lst (aH h)),.sh true (.int p),.sh true (aR st)],?_,fR (cP (bT 1 rfl) (dF (dF (bT 2 rfl) (dL 3 rfl rfl) (sP hp)) (aQ 0 _) ((aEP (f:=Way.d) rfl hm.2).trans (congrArg R.ok (bY (dZ _))))) (dL 4 rfl (aZ st)) g) (bI .non) aES,aQ 0 _⟩
    rw[zM];rfl
 exact aN (F:=f30) rfl rfl (v:=⟨.lst ((goF bs ws st).map cD),true,false,[]⟩) (cs k1 (dQ hc))
theorem aEl(n:Nat)(h:List (List Way))(st:List Int):call pg (n+33) 30 [.lst (aB bs),.lst (aH h),.int h.length,aR st]=.ok (.lst [],true,false):=by
 have v1:=bT (P:=pg) (cl:=call pg (n+32)) (σ:=[.sh true (.lst (aB bs)),.sh true (.lst (aH h)),.sh true (.int h.length),.sh true (aR st)]) 1 rfl
 have v2:=dL (P:=pg) (cl:=call pg (n+32)) (σ:=[.sh true (.lst (aB bs)),.sh true (.lst (aH h)),.sh true (.int h.length),.sh true (aR st)]) 2 rfl rfl
 have hl:=gX (b:=.len) v1 (cS _ _ _ _)
 rw[lM] at hl
 exact aN (F:=f30) rfl rfl (v:=⟨.lst [],true,false,[]⟩) (mQ (fR (o:=.Eq) (k:=true) v2 hl (congrArg some (beq_self_eq_true _))) rfl)
def okE:Nat->D->Bool
 | 0,_=>false
 | n+1,d=>match d with
  | .tup ds=>ds.all (okE n)
  | .lst ds=>ds.all (okE n)
  | .dic _=>false
  | .err _ _=>false
  | _=>true
theorem pE:∀(n:Nat) (d:D),okE n d=true->eqF n d d=some true
 | 0,_,h=>by cases h
 | n+1,d,h=>by
  have hs:∀ds:List D,ds.all (okE n)=true->fK n ds ds=some true:=λds=>by
   induction ds with
   | nil=>intro _;rfl
   | cons x r ih=>
    intro h
    rw[List.all_cons,bA] at h
    unfold fK
    rw[pE n x h.1,ih h.2]
    rfl
  cases d with
  | non=>rfl
  | bl b=>exact congrArg some (beq_self_eq_true b)
  | int i=>exact congrArg some (beq_self_eq_true i)
  | str s=>exact congrArg some (beq_self_eq_true s)
  | tup ds=>
   show eqL (eqF n) ds ds=_
   rw[wC,hs ds h]
  | lst ds=>
   show(if ds.length=ds.length then eqL (eqF n) ds ds else some false)=_
   rw[if_pos rfl,wC,hs ds h]
  | dic _=>cases h
  | err _ _=>cases h
theorem pF:∀(s:Sm) (n:Nat),okE (n+s.sz+1) s.d=true
 | .num _,n=>rfl
 | .box _,n=>rfl
 | .aft _,n=>rfl
 | .two p a b,n=>by
  have e1:=pF a (n+b.sz)
  have e2:=pF b (n+a.sz)
  rw[show n+b.sz+a.sz+1=n+a.sz+b.sz+1 by omega] at e1
  show okE (n+(1+a.sz+b.sz)+1) (.tup [.str (lY p),a.d,b.d])=true
  rw[show n+(1+a.sz+b.sz)+1=n+a.sz+b.sz+1+1 by omega]
  show(true&&(okE _ a.d&&(okE _ b.d&&true)))=true
  rw[e1,e2];rfl
theorem sQ:∀(s:Cn) (n:Nat),okE (n+s.sz+1) s.d=true
 | .yes,n=>rfl
 | .cmp i a b,n=>by
  have e1:=pF a (n+b.sz)
  have e2:=pF b (n+a.sz)
  rw[show n+b.sz+a.sz+1=n+a.sz+b.sz+1 by omega] at e1
  show okE (n+(1+a.sz+b.sz)+1) (.tup [.str (iM i),a.d,b.d])=true
  rw[show n+(1+a.sz+b.sz)+1=n+a.sz+b.sz+1+1 by omega]
  show(true&&(okE _ a.d&&(okE _ b.d&&true)))=true
  rw[e1,e2];rfl
 | .nt x,n=>by
  have e1:=sQ x n
  show okE (n+(1+x.sz)+1) (.tup [.str "not",x.d])=true
  rw[show n+(1+x.sz)+1=n+x.sz+1+1 by omega]
  show(true&&(okE _ x.d&&true))=true
  rw[e1];rfl
 | .two p a b,n=>by
  have e1:=sQ a (n+b.sz)
  have e2:=sQ b (n+a.sz)
  rw[show n+b.sz+a.sz+1=n+a.sz+b.sz+1 by omega] at e1
  show okE (n+(1+a.sz+b.sz)+1) (.tup [.str (eF p),a.d,b.d])=true
  rw[show n+(1+a.sz+b.sz)+1=n+a.sz+b.sz+1+1 by omega]
  show(true&&(okE _ a.d&&(okE _ b.d&&true)))=true
  rw[e1,e2];rfl
theorem aEm{m:Nat}{w:Way}(o:mT m w):okE 118 w.d=true:=by
 have e1:=sQ w.g (116-w.g.sz)
 rw[show 116-w.g.sz+w.g.sz+1=117 by have:=o.gs;omega] at e1
 show(okE 117 w.g.d&&((w.ps.map cJ).all (okE 116)&&(true&&true)))=true
 rw[e1,Bool.true_and,Bool.and_true,Bool.and_true,List.all_map,List.all_eq_true]
 intro p hp
 have e2:=pF p.2 (114-p.2.sz)
 rw[show 114-p.2.sz+p.2.sz+1=115 by have:=(o.ps p hp).sz;omega] at e2
 show(true&&(okE 115 p.2.d&&true))=true
 rw[e2];rfl
theorem zS{m:Nat}{h:List (List Way)}(o:jT m h):eqD (.lst (aH h)) (.lst (aH h))=some true:=by
 refine pE 120 _ ?_
 show(aH h).all (okE 119)=true
 rw[List.all_map,List.all_eq_true]
 intro ws hw
 show(ws.map Way.d).all (okE 118)=true
 rw[List.all_map,List.all_eq_true]
 exact λw hx=>aEm ((o.ok ws hw).ok w hx).1
theorem aEn(l:List Nat):eqD (.lst (l.map cD)) (.lst (l.map cD))=some true:=by
 refine pE 120 _ ?_
 show(l.map cD).all (okE 119)=true
 rw[List.all_map,List.all_eq_true]
 exact λ_ _=>rfl
theorem aET{x:D}(h:eqD x x=some true):bL .NotEq x x=some false:=by rw[xG,h];rfl
section
variable {P:Pg} {cl:Caller} {σ:Sg}
theorem aLE{a b c e:E}{x y z w:Vl}(h1:ev P cl σ a=.ok x)(h2:ev P cl σ b=.ok y)(h3:ev P cl σ c=.ok z)(h4:ev P cl σ e=.ok w):evs P cl σ (.cons a (.cons b (.cons c (.cons e .nil))))=.ok [x,y,z,w]:=by rw[aE,h1,aA,aE,h2,aA,aE,h3,aA,aE,h4,aA,aT];rfl
theorem nN{f:Nat}{a b c e:E}{x y z w:Vl}{d:D}{fr:Bool}(h1:ev P cl σ a=.ok x)(h2:ev P cl σ b=.ok y)(h3:ev P cl σ c=.ok z)(h4:ev P cl σ e=.ok w)(hc:cl f [x.d,y.d,z.d,w.d]=.ok (d,fr,false)):ev P cl σ (.call f (.cons a (.cons b (.cons c (.cons e .nil)))))=.ok ⟨d,fr,false,[]⟩:=by
 rw[cG,aLE h1 h2 h3 h4,aA,show [x,y,z,w].map (·.d)=[x.d,y.d,z.d,w.d] from rfl,hc];rfl
theorem zT{f:D->R Bool}:∀{ds:List D},(∀d∈ds,f d=.ok false)->tK f ds=true
 | [],_=>rfl
 | d::ds,h=>by
  unfold tK
  rw[h d List.mem_cons_self]
  exact zT λx hx=>h x (List.mem_cons_of_mem _ hx)
theorem aHs{t i:Nat}{c:E}{pa:Bool}{ds:List D}(hi:σ[i]? = some (.own pa ds))(hne:i≠t)(hn:noLs ds=true)(h:∀d∈ds,tst P cl (σ.set t (.sh false d)) c=.ok false):ex P cl σ (.forT t i c)=.next (σ.set t .dead):=by
 show(match σ[i]? with|some (.own _ ds)=>if i≠t/\noLs ds=true/\tK (λd=>tst P cl (σ.set t (.sh false d)) c) ds=true then O.next (σ.set t .dead) else .bad|_=>.bad)=_
 rw[hi]
 exact if_pos ⟨hne,hn,zT h⟩
theorem aEo{f:Nat}{a:E}{x:Vl}{k:Bool}(h1:ev P cl σ a=.ok x)(hc:cl f [x.d]=.ok (.bl k,false,false)):tst P cl σ (.call f (.cons a .nil))=.ok k:=by
 have e:evs P cl σ (.cons a .nil)=.ok [x]:=by rw[aE,h1];rfl
 rw[iH,e,aA,show [x].map (·.d)=[x.d] from rfl,hc];rfl
end
variable {bs:List (Str×Int)}
def spD(s:Nat×List Int):D:=.tup [cD s.1,aR s.2]
theorem xQ(s:Nat×List Int):noL (spD s)=true:=nL rfl (aZ s.2)
abbrev rf(bs:List (Str×Int))(h:List (List Way))(sp:List (Nat×List Int))(s4 s5 s6 s7:Sl):Sg:=[.sh true (.lst (aB bs)),.sh true (.lst (aH h)),.sh true (.lst (aH h)),.sh true (.lst (sp.map spD)),s4,s5,s6,s7]
theorem aCL(n:Nat){h:List (List Way)}(o:jT bs.length h)(hb:bs.length<=4){p:Nat}(hp:p<=h.length){st:List Int}(hst:st∈aI bs) :
 ∃l:List Nat,l.length<=4/\call pg (n+33) 27 [.lst (aB bs),.lst (aH h),.int p,aR st]=.ok (.lst (l.map cD),true,false)/\call pg (n+33) 30 [.lst (aB bs),.lst (aH h),.int p,aR st]=.ok (.lst (l.map cD),true,false):=by
 obtain⟨hl,hr⟩:=aCD hst
 by_cases hlt:p<h.length
 . have e:=List.getElem?_eq_getElem hlt
   refine⟨goF bs h[p] st,Nat.le_trans (List.length_filter_le _ _) ?_,aCJ n o hl hb e,aEk n o hl hr hb e⟩
   rw[List.length_range]
   exact(o.ok _ (List.getElem_mem hlt)).few
 . have:p=h.length:=by omega
   subst this
   exact⟨[],by decide,aCK n h st,aEl n h st⟩
theorem qR(n:Nat){h:List (List Way)}(o:jT bs.length h)(hb:bs.length<=4){sp:List (Nat×List Int)}(hs:∀s∈sp,s.1<=h.length/\s.2∈aI bs):call pg (n+34) 31 [.lst (aB bs),.lst (aH h),.lst (aH h),.lst (sp.map spD)]=.ok (.bl true,false,false):=by
 have hw:walk pg (call pg (n+33)) (rf bs h sp .dead .dead .dead .dead) (.seq (.v 3))=.ok (sp.map λs=>Vl.cl (spD s),[]):=by
  rw[eB,bT 3 rfl,aA]
  show R.ok (items _ (sp.map spD),[])=_
  rw[fW xQ]
 obtain⟨σ',ef,s4,s5,s6,s7,rfl⟩:=lW (P:=pg) (cl:=call pg (n+33)) (t:=.t [4,5]) (b:=match hdS f31.body with|.for _ _ b=>b|_=>.nil) (λ_ σ=>∃s4 s5 s6 s7,σ=rf bs h sp s4 s5 s6 s7) hw ⟨_,_,_,_,rfl⟩ λi hi σ ⟨s4,s5,s6,s7,hσ⟩=>by
  have hi':i<sp.length:=by simpa using hi
  subst hσ
  obtain⟨h1,h2⟩:=hs _ (List.getElem_mem hi')
  obtain⟨l,hl4,c1,c2⟩:=aCL n o hb h1 h2
  let σ1:Sl->Sl->Sg:=λs6 s7=>rf bs h sp (.sh false (cD sp[i].1)) (.sh false (aR sp[i].2)) s6 s7
  have v4:∀s6 s7,ev pg (call pg (n+33)) (σ1 s6 s7) (.v 4)=.ok (.cl (cD sp[i].1)):=λ_ _=>aQ 4 _
  have v5:∀s6 s7,ev pg (call pg (n+33)) (σ1 s6 s7) (.v 5)=.ok (.cl (aR sp[i].2)):=λ_ _=>aQ 5 _
  have v0:∀s6 s7,ev pg (call pg (n+33)) (σ1 s6 s7) (.v 0)=.ok ⟨.lst (aB bs),false,true,[]⟩:=λ_ _=>bT 0 rfl
  have v1:∀s6 s7,ev pg (call pg (n+33)) (σ1 s6 s7) (.v 1)=.ok ⟨.lst (aH h),false,true,[]⟩:=λ_ _=>bT 1 rfl
  have v2:∀s6 s7,ev pg (call pg (n+33)) (σ1 s6 s7) (.v 2)=.ok ⟨.lst (aH h),false,true,[]⟩:=λ_ _=>bT 2 rfl
  have k1:ex pg (call pg (n+33)) (σ1 s6 s7) (.set (.n 6) (.call 27 (.cons (.v 0) (.cons (.v 2) (.cons (.v 4) (.cons (.v 5) .nil))))))=.next (σ1 (.own false (l.map cD)) s7):=xJ (nN (v0 _ _) (v2 _ _) (v4 _ _) (v5 _ _) c1)
  have v6:∀s7,ev pg (call pg (n+33)) (σ1 (.own false (l.map cD)) s7) (.v 6)=.ok ⟨.lst (l.map cD),false,false,[6]⟩:=λ_=>fF 6 false _
  have k2:ex pg (call pg (n+33)) (σ1 (.own false (l.map cD)) s7) (.iff (.orr (.nt (.isi (.v 6) [.tList])) (.cmp .NotEq (.v 6) (.call 30 (.cons (.v 0) (.cons (.v 1) (.cons (.v 4) (.cons (.v 5) .nil))))))) (.cons (.ret (.c (.bl false))) .nil) .nil)=.next (σ1 (.own false (l.map cD)) s7):=eE (pD (kB (mV (k:=true) (v6 _) rfl)) (fR (v6 _) (nN (v0 _ _) (v1 _ _) (v4 _ _) (v5 _ _) c2) (aET (aEn l))))
  have k3:ex pg (call pg (n+33)) (σ1 (.own false (l.map cD)) s7) (.forT 7 6 (.nt (.call 13 (.cons (.v 7) .nil))))=.next (σ1 (.own false (l.map cD)) .dead):=aHs rfl (by decide) (fV sO l) λd hd=>by
   obtain⟨j,_,rfl⟩:=List.mem_map.mp hd
   show tst pg (call pg (n+33)) (σ1 (.own false (l.map cD)) (.sh false (cD j))) (.nt (.call 13 (.cons (.v 7) .nil)))=.ok false
   exact kB (aEo (show ev pg (call pg (n+33)) (σ1 (.own false (l.map cD)) (.sh false (cD j))) (.v 7)=_ from aQ 7 (cD j)) (oY (n+32) j))
  have k4:ex pg (call pg (n+33)) (σ1 (.own false (l.map cD)) .dead) (.app 6 (.c (.int 9)))=.next (σ1 (.own false (l.map cD++[.int 9])) .dead):=aHq (bI _) rfl (by rw[lM];unfold lim;omega) rfl rfl
  refine⟨σ1 s6 s7,_,?_,cs k1 (cs k2 (cs k3 (mU k4))),_,_,_,_,rfl⟩
  rw[List.getElem_map]
  exact aEO _ rfl (aZ _)
 exact aN (F:=f31) rfl rfl (v:=.cl (.bl true)) (cs ef (dQ (bI _)))
theorem aAI{α β:Type}(f:α->β)(k:Nat)(xs:List α):cB k (xs.map f)=(cB k xs).map f:=by
 unfold cB
 rw[lM,List.map_filterMap]
 congr 1
 funext m
 rw[List.getElem?_map]
theorem aAJ{α:Type}{k:Nat}{xs:List α}{x:α}(h:x∈cB k xs):x∈xs:=by
 obtain⟨m,_,e⟩:=List.mem_filterMap.mp h
 exact mG e
abbrev ds2(h:List (List Way)):List (List D):=h.map λws=>ws.map Way.d
theorem qS:∀h:List (List Way),gP (aH h)=some (ds2 h)
 | []=>rfl
 | ws::h=>by
  show(if noLs (ws.map Way.d)=true then (gP (aH h)).map (ws.map Way.d::·) else none)=_
  rw[if_pos (aAD ws),qS h]
  rfl
theorem vO(h:List (List Way)):o2D (ds2 h)=.lst (aH h):=by
 unfold o2D
 rw[List.map_map]
 rfl
section
variable {P:Pg} {cl:Caller} {σ:Sg}
theorem aAK{k:Nat}{caps:List Nat}{t:T}{it:It}{c elt:E}{xs:List Vl}{al:List Nat}(hw:walk P cl σ it=.ok (xs,al))(hb:∀x∈xs,∃σ1,bG (List.replicate k .dead++caps.map λi=>((freeze σ al)[i]?).getD .dead) x t=.ok σ1/\tst P cl σ1 c=.ok false) :
 ev P cl σ (.comp k caps t it (.cons c .nil) elt)=.ok ⟨.lst [],true,false,[]⟩:=by
 have go:∀(f:Vl->R (Option Vl)) (xs:List Vl),(∀x∈xs,f x=.ok none)->dC f xs=.ok []:=λf xs=>by
  induction xs with
  | nil=>intro _;rfl
  | cons x r ih=>
   intro h
   show(f x >>= λy=>dC f r >>= λys=>(match y with|some y=>R.ok (y::ys)|none=>.ok ys))=_
   rw[h x List.mem_cons_self,aA,ih λy hy=>h y (List.mem_cons_of_mem _ hy)]
   rfl
 rw[nG,hw,aA,go _ xs λx hx=>?_]
 . rfl
 . obtain⟨σ1,e1,e2⟩:=hb x hx
   show(bG _ x t >>= λσ1=>tsts P cl σ1 (.cons c .nil) >>= λb=>_)=_
   rw[e1,aA]
   have:tsts P cl σ1 (.cons c .nil)=.ok false:=by
    show(tst P cl σ1 c >>= λx=>if x then tsts P cl σ1 .nil else R.ok false)=_
    rw[e2];rfl
   rw[this]
   rfl
theorem aKd{i:Nat}{e:E}{ds ds':List D}(h:ev P cl σ e=.ok ⟨.lst ds',true,false,[]⟩)(hi:σ[i]? = some (.own false ds))(hl:ds.length+ds'.length<=lim):ex P cl σ (.ext i e)=.next (σ.set i (.own false (ds++ds'))):=by
 have ll:(ds++ds').length<=lim:=by rw[lA];exact hl
 have e2:nT ⟨.lst ds',true,false,[]⟩=some (⟨.non,false,false,[]⟩,ds'):=by
  show some (Vl.mk .non false (false&&!noLs ds') (if noLs ds'=true then [] else []),ds')=_
  split <;> rfl
 rw[aCh,h,aF,e2]
 show put σ i ⟨.non,false,false,[]⟩ (λds=>some (ds++ds'))=_
 unfold put gQ
 rw[show freeze σ (Vl.mk .non false false []).al=σ from rfl,hi]
 show(if (ds++ds').length<=lim then O.next _ else .bad)=_
 rw[if_pos ll]
 rfl
theorem aHt{i:Nat}{a:E}{x:Vl}{dss:List (List D)}{k:Bool}(h:ev P cl σ a=.ok x)(ho:eW σ i=some dss)(e:bL .NotEq (o2D dss) x.d=some k):tst P cl σ (.neO i a)=.ok k:=by
 show(ev P cl σ a >>= λx=>(match eW σ i with|some dss=>(match bL .NotEq (o2D dss) x.d with|some k=>R.ok k|none=>.bad)|none=>.bad))=_
 rw[h,aA,ho]
 show(match bL .NotEq (o2D dss) x.d with|some k=>R.ok k|none=>.bad)=_
 rw[e]
theorem aEp{f i:Nat}{a:E}{x:Vl}{dss:List (List D)}{d:D}{fr:Bool}(h:ev P cl σ a=.ok x)(ho:eW σ i=some dss)(hc:cl f [x.d,o2D dss]=.ok (d,fr,false)):ev P cl σ (.callO f a i)=.ok ⟨d,fr,false,[]⟩:=by
 show(ev P cl σ a >>= λx=>(match eW σ i with|some dss=>cl f [x.d,o2D dss] >>= λr=>R.iff (!r.2.2) (R.ok (Vl.mk r.1 r.2.1 false []))|none=>.bad))=_
 rw[h,aA,ho]
 show(cl f [x.d,o2D dss] >>= λr=>R.iff (!r.2.2) (R.ok (Vl.mk r.1 r.2.1 false [])))=_
 rw[hc]
 rfl
theorem aHu{i r:Nat}{dss:List (List D)}(ho:eW σ i=some dss)(h:i≠r/\r<σ.length/\∀ds∈dss,ds≠[]/\ds.length<lim):ex P cl σ (.grow2 i r)=.next ((σ.set r .dead).set i (.own2 (dss.map λds:List D=>ds++[ds.headD .non]))):=by
 show(match eW σ i with|some dss=>if i≠r/\r<σ.length/\∀ds∈dss,ds≠[]/\ds.length<lim then O.next ((σ.set r .dead).set i (.own2 (dss.map λds:List D=>ds++[ds.headD .non]))) else .bad|none=>.bad)=_
 rw[ho]
 exact if_pos h
theorem aHv{i:Nat}{dss:List (List D)}(ho:eW σ i=some dss)(h:dss.length<lim):ex P cl σ (.app2 i)=.next (σ.set i (.own2 (dss++[[]]))):=by
 show(match eW σ i with|some dss=>if dss.length<lim then O.next (σ.set i (.own2 (dss++[[]]))) else .bad|none=>.bad)=_
 rw[ho]
 exact if_pos h
end
theorem pure(ns:List Int)(_:ns.length<=63):∃fr pa,call pg 60 32 [.lst (ns.map D.int)]=.ok (.bl true,fr,pa):=by
 refine⟨false,false,aN (F:=f32) rfl rfl (v:=.cl (.bl true)) ?_⟩
 show exs pg (call pg 59) [.sh true (.lst (ns.map D.int)),.dead,.dead,.dead,.dead,.dead,.dead,.dead,.dead] _=_
 obtain⟨bs,k,T,hm,hm4,hk,hbx⟩:=aAE 56 ns
 obtain⟨h,k',o,hhd⟩:=aCH 50 ns (k:=k) (by omega) hm hm4
 let lw:Nat->Sl->Sl->Sl->Sl->Sl->Sl->Sl->Sg:=λk s2 s3 s4 s5 s6 s7 s8=>[.sh true (.lst (ns.map D.int)),.own true (aS ns k),s2,s3,s4,s5,s6,s7,s8]
 have e1:ex pg (call pg 59) [.sh true (.lst (ns.map D.int)),.dead,.dead,.dead,.dead,.dead,.dead,.dead,.dead] (hdS f32.body)=.next (lw 0 .dead .dead .dead .dead .dead .dead .dead):=rfl
 have e2:ex pg (call pg 59) (lw 0 .dead .dead .dead .dead .dead .dead .dead) (.setL 2 1 [] (.call 5 (.cons (.e (.c (.int 12))) .nil)))=.next (lw k (.own false (aB bs)) .dead .dead .dead .dead .dead .dead):=by
  rw[fJ,bE,sJ (P:=pg) (cl:=call pg 59) (l:=1) (σ:=lw 0 .dead .dead .dead .dead .dead .dead .dead) (z:=(true,aS ns 0)) rfl rfl (vs:=[.cl (.int 12)]) (σ1:=lw 0 .dead .dead .dead .dead .dead .dead .dead) rfl (pa:=true) (cs:=aS ns 0) rfl hbx]
  rfl
 have e3:ex pg (call pg 59) (lw k (.own false (aB bs)) .dead .dead .dead .dead .dead .dead) (.setL 3 1 [2] (.call 29 (.cons (.e (.v 2)) .nil)))=.next (lw k' (.sh false (.lst (aB bs))) (.own false (aH h)) .dead .dead .dead .dead .dead):=by
  rw[fJ]
  show O.from _ (evl pg (call pg 59) 1 (lw k (.sh false (.lst (aB bs))) .dead .dead .dead .dead .dead .dead) _) _=_
  rw[sJ (P:=pg) (cl:=call pg 59) (l:=1) (σ:=lw k (.sh false (.lst (aB bs))) .dead .dead .dead .dead .dead .dead) (z:=(true,aS ns k)) rfl rfl (vs:=[.cl (.lst (aB bs))]) (σ1:=lw k (.sh false (.lst (aB bs))) .dead .dead .dead .dead .dead .dead) rfl (pa:=true) (cs:=aS ns k) rfl hhd]
  rfl
 let lv:Sl->Sl->Sl->Sl->Sl->Sg:=λs4 s5 s6 s7 s8=>lw k' (.sh false (.lst (aB bs))) (.own false (aH h)) s4 s5 s6 s7 s8
 have w2:∀s4 s5 s6 s7 s8,ev pg (call pg 59) (lv s4 s5 s6 s7 s8) (.v 2)=.ok (.cl (.lst (aB bs))):=λ_ _ _ _ _=>aQ 2 _
 have w3:∀s4 s5 s6 s7 s8,ev pg (call pg 59) (lv s4 s5 s6 s7 s8) (.v 3)=.ok ⟨.lst (aH h),false,false,[3]⟩:=λ_ _ _ _ _=>fF 3 false _
 have w5:∀s4 s6 s7 s8,ev pg (call pg 59) (lv s4 (.own false (aH h)) s6 s7 s8) (.v 5)=.ok ⟨.lst (aH h),false,false,[5]⟩:=λ_ _ _ _=>fF 5 false _
 have hl8:=o.few
 have e4:ex pg (call pg 59) (lv .dead .dead .dead .dead .dead) (.set2 4 3)=.next (lv (.own2 (ds2 h)) .dead .dead .dead .dead):=by
  show O.from (lv .dead .dead .dead .dead .dead) (aX (lv .dead .dead .dead .dead .dead) 3) (λv=>match v.d with
   | .lst ds=>(match gP ds,aBm (lv .dead .dead .dead .dead .dead) with
    | some dss,true=>if ds.length<=lim then O.next ((lv .dead .dead .dead .dead .dead).set 4 (.own2 dss)) else .bad
    | _,_=>.bad)
   | _=>.bad)=_
  rw[show aX (lv .dead .dead .dead .dead .dead) 3=.ok ⟨.lst (aH h),false,false,[3]⟩ from fF 3 false _,aF]
  show(match gP (aH h),true with
   | some dss,true=>if (aH h).length<=lim then O.next ((lv .dead .dead .dead .dead .dead).set 4 (.own2 dss)) else .bad
   | _,_=>.bad)=_
  rw[qS]
  exact if_pos (by rw[lM];unfold lim;omega)
 have e5:ex pg (call pg 59) (lv (.own2 (ds2 h)) .dead .dead .dead .dead) (.set (.n 5) (.callO 21 (.v 2) 4))=.next (lv (.own2 (ds2 h)) (.own false (aH h)) .dead .dead .dead):=xJ (aEp (w2 _ _ _ _ _) rfl (by rw[vO];exact vL 20 o))
 have ne:=aET (zS o)
 have e6:ex pg (call pg 59) (lv (.own2 (ds2 h)) (.own false (aH h)) .dead .dead .dead) (hdS (drp 5 f32.body))=.next (lv (.own2 (ds2 h)) (.own false (aH h)) .dead .dead .dead):=eE (pD (kB (mV (k:=true) (w5 _ _ _ _) rfl)) (pD (fR (w5 _ _ _ _) (w3 _ _ _ _ _) ne) (aHt (w3 _ _ _ _ _) rfl (by rw[vO];exact ne))))
 have e7:ex pg (call pg 59) (lv (.own2 (ds2 h)) (.own false (aH h)) .dead .dead .dead) (hdS (drp 6 f32.body))=.next (lv (.own2 (ds2 h)) (.own false (aH h)) .dead .dead .dead):=by
  refine eE (fR (y:=⟨.lst [],true,false,[]⟩) (aAK (xs:=h.map λws=>⟨gB ws,false,false,[5]⟩) (al:=[5]) ?_ λx hx=>?_) rfl rfl)
  . rw[eB,w5,aA]
    show R.ok (items _ (aH h),[5])=_
    unfold items
    rw[List.map_map]
    rfl
  . obtain⟨ws,_,rfl⟩:=List.mem_map.mp hx
    exact⟨[.sh false (gB ws)],rfl,kB (mV (k:=true) (show ev pg (call pg 59) [.sh false (gB ws)] (.v 0)=_ from aQ 0 (gB ws)) rfl)⟩
 have e8:ex pg (call pg 59) (lv (.own2 (ds2 h)) (.own false (aH h)) .dead .dead .dead) (.grow2 4 6)=.next (lv (.own2 ((ds2 h).map λds:List D=>ds++[ds.headD .non])) (.own false (aH h)) .dead .dead .dead):=aHu (dss:=ds2 h) rfl ⟨by decide,show 6<9 by decide,λds hd=>by
  obtain⟨ws,hw,rfl⟩:=List.mem_map.mp hd
  have:=(o.ok ws hw).one
  have:=(o.ok ws hw).few
  refine⟨λz=>?_,by rw[lM];unfold lim;omega⟩
  have:=congrArg List.length z
  rw[lM,lN] at this
  omega⟩
 have e9:ex pg (call pg 59) (lv (.own2 ((ds2 h).map λds:List D=>ds++[ds.headD .non])) (.own false (aH h)) .dead .dead .dead) (.app2 4)=.next (lv (.own2 (((ds2 h).map λds:List D=>ds++[ds.headD .non])++[[]])) (.own false (aH h)) .dead .dead .dead):=aHv rfl (by rw[lM,lM];unfold lim;omega)
 generalize (((ds2 h).map λds:List D=>ds++[ds.headD .non])++[[]])=dd at e9
 have e10:ex pg (call pg 59) (lv (.own2 dd) (.own false (aH h)) .dead .dead .dead) (hdS (drp 9 f32.body))=.next (lv (.own2 dd) (.own false (aH h)) .dead .dead .dead):=eE (fR (w5 _ _ _ _) (w3 _ _ _ _ _) ne)
 have e11:ex pg (call pg 59) (lv (.own2 dd) (.own false (aH h)) .dead .dead .dead) (.set (.n 7) (.lst .nil))=.next (lv (.own2 dd) (.own false (aH h)) .dead (.own false []) .dead):=rfl
 have h24:(aI bs).length<=24:=by
  have:=aEK T bs.length (Nat.le_refl _)
  rwa [List.take_length] at this
 have hl:=aHa (o:=.Add) (gX (b:=.len) (w3 (.own2 dd) (.own false (aH h)) .dead (.own false []) .dead) (cS _ _ _ _)) (bI (.int 1)) (add_int _ 1)
 rw[lM,show(h.length:Int)+1=((h.length+1:Nat):Int) by omega] at hl
 have hw:walk pg (call pg 59) (lv (.own2 dd) (.own false (aH h)) .dead (.own false []) .dead) (.rng (.c (.int 0)) (.op .Add (.bi .len (.cons (.v 3) .nil)) (.c (.int 1))))=.ok ((List.range (h.length+1)).map λ(k:Nat)=>Vl.cl (.int (k:Int)),[]):=by
  rw[kQ,bI,aA,hl,aA]
  show R.iff (aG 0&&aG ((h.length+1:Nat):Int)) (R.ok ((cA 0 ((h.length+1:Nat):Int)).map Vl.cl,[]))=_
  rw[nI,iX (by omega),lV]
  rfl
 obtain⟨σ',e12,sp,s8,hsp,_,hσ⟩:=lW (P:=pg) (cl:=call pg 59) (t:=.n 8) (b:=match hdS (drp 11 f32.body) with|.for _ _ b=>b|_=>.nil) (λi σ=>∃(sp:List (Nat×List Int)) (s8:Sl),(∀s∈sp,s.1<=h.length/\s.2∈aI bs)/\sp.length<=24*i/\σ=lv (.own2 dd) (.own false (aH h)) .dead (.own false (sp.map spD)) s8) hw ⟨[],.dead,λ_ z=>absurd z List.not_mem_nil,Nat.le_refl _,rfl⟩ λi hi σ ⟨sp,s8,g1,g2,hσ⟩=>by
  have hi':i<h.length+1:=by simpa using hi
  subst hσ
  have hc:ev pg (call pg 59) (lv (.own2 dd) (.own false (aH h)) .dead (.own false (sp.map spD)) (.sh false (cD i))) (.comp 1 [8] (.n 0) (.seq (.call 12 (.cons (.v 2) .nil))) .nil (.tup (.cons (.v 1) (.cons (.v 0) .nil))))=.ok ⟨.lst ((aI bs).map λst=>spD (i,st)),true,false,[]⟩:=by
   refine aCk (ts:=aI bs) (al:=[]) (λst=>Vl.cl (aR st)) (λst=>spD (i,st)) (λst=>xQ _) ?_ (by unfold lim;omega) λst _=>⟨[.sh false (aR st),.sh false (cD i)],rfl,aHp (aQ 1 _) (aQ 0 _)⟩
   rw[eB,aEf (w2 _ _ _ _ _) (aAB (P:=pg) (f:=12) rfl 58 T),aA]
   show R.ok (items _ ((aI bs).map aR),[])=_
   rw[kU]
  refine⟨lv (.own2 dd) (.own false (aH h)) .dead (.own false (sp.map spD)) (.sh false (cD i)),_,?_,mU (aKd hc rfl (by rw[lM,lM];unfold lim;omega)),sp++(aI bs).map (λst=>(i,st)),.sh false (cD i),λs hs=>?_,by rw[lA,lM];omega,?_⟩
  . rw[List.getElem_map,List.getElem_range,zM];rfl
  . rcases List.mem_append.mp hs with z|z
    . exact g1 s z
    . obtain⟨st,hst,rfl⟩:=List.mem_map.mp z
      exact⟨by show i<=_;omega,hst⟩
  . rw[List.map_append,List.map_map];rfl
 subst hσ
 have w7:ev pg (call pg 59) (lv (.own2 dd) (.own false (aH h)) .dead (.own false (sp.map spD)) s8) (.v 7)=.ok ⟨.lst (sp.map spD),false,false,[7]⟩:=fF 7 false _
 have ws:ev pg (call pg 59) (lv (.own2 dd) (.own false (aH h)) .dead (.own false (sp.map spD)) s8) (.stp (.v 7) 7)=.ok ⟨.lst ((cB 7 sp).map spD),true,false,[]⟩:=by
  show(ev pg (call pg 59) (lv (.own2 dd) (.own false (aH h)) .dead (.own false (sp.map spD)) s8) (.v 7) >>= λx=>(match x.d with|.lst ds=>R.iff (decide (0<7)) (R.ok (Vl.mk (.lst (cB 7 ds)) true (x.pa&&!noLs ds) (if noLs ds then [] else x.al)))|_=>.bad))=_
  rw[w7,aA]
  show R.ok (Vl.mk (.lst (cB 7 (sp.map spD))) true (false&&!noLs (sp.map spD)) (if noLs (sp.map spD)=true then [] else [7]))=_
  rw[fV xQ,aAI]
  rfl
 have r1:=qR 25 o hm4 hsp
 have r2:=qR 25 o hm4 (sp:=cB 7 sp) λs hs=>hsp s (aAJ hs)
 have c3:ev pg (call pg 59) (lv (.own2 dd) (.own false (aH h)) .dead (.own false (sp.map spD)) s8) (.cmp .Eq (.v 5) (.v 3))=.ok (.cl (.bl true)):=aJG (w5 _ _ _ _) (w3 _ _ _ _ _) (zS o)
 exact cs e1 (cs e2 (cs e3 (cs e4 (cs e5 (cs e6 (cs e7 (cs e8 (cs e9 (cs e10 (cs e11 (cs e12 (dQ (aGZ (nN (w2 _ _ _ _ _) (w3 _ _ _ _ _) (w5 _ _ _ _) w7 r1) (aGZ (nN (w2 _ _ _ _ _) (w3 _ _ _ _ _) (w5 _ _ _ _) ws r2) c3))))))))))))))
end K12
end
noncomputable section
set_option maxRecDepth 100000
set_option maxHeartbeats 0
namespace K12
open PySem PySem.W L2 Hp Hh
def ix:List (Nat×List Str):=(18,["one", "ahead", "behind", "word", "left", "right"]) ::
 (19,["cond", "ahead", "behind", "word", "left", "right"]) ::
 (32,["boxes", "way", "stand", "held", "box", "one", "amount"]) ::
 (36,["_law_script", "_law_k", "_law_base"]) ::
 (37,["_law_pen", "_law_many", "_law_cell_here"]) ::
 (38,["_law_pen", "_law_most", "_law_boxes_here", "_law_room", "_law_k", "_law_top", "_law_letter"]) ::
 (39,["_law_pen", "_law_boxes_here", "_law_deep", "_law_way_here"]) ::
 (40,["_law_pen", "_law_boxes_here", "_law_deep", "_law_way_here"]) ::
 (41,["_law_pen", "_law_boxes_here", "_law_places", "_law_deep", "_law_guard", "_law_puts", "_law_k"]) ::
 (42,["_law_one", "_law_stand"]) ::
 (43,["_law_cond_here", "_law_stand"]) ::
 (44,["_law_boxes_here", "_law_way_here", "_law_stand", "_law_found", "_law_k", "_law_one", "_law_number", "_law_box"]) ::
 (45,["_law_boxes_here", "_law_found", "_law_name", "_law_top", "_law_longer", "_law_stand"]) ::
 (46,["_law_thing"]) ::
 (6,["thing"]) ::
 (7,["thing", "least", "most"]) ::
 (13,["boxes", "thing", "plain"]) ::
 (14,["boxes", "thing", "plain"]) ::
 (15,["boxes", "kind", "thing", "plain", "seen", "form", "due", "inner"]) ::
 (16,["kind", "thing", "plain", "word", "form"]) ::
 (17,["boxes", "due", "thing", "most"]) ::
 (26,["boxes", "thing"]) ::
 (27,["boxes", "thing", "end"]) ::
 (28,["boxes", "thing", "end"]) ::
 (29,["boxes", "thing"]) ::
 (30,["boxes", "thing", "least", "put"]) ::
 (31,["boxes", "thing", "least"]) ::
 (33,["boxes", "hand", "place", "stand", "row"]) ::
 (34,["hand", "place"]) ::
 (47,["_law_pen", "_law_boxes_here", "_law_many"]) ::
 (48,["_law_boxes_here", "_law_hand_here", "_law_place", "_law_stand"]) ::
 (49,["_law_boxes_here", "_law_hand_here", "_law_told", "_law_spots", "_law_place", "_law_stand", "_law_found", "_law_number"]) ::
 (50,["_law_script", "_law_pen", "_law_boxes_here", "_law_hand_here", "_law_handed", "_law_told", "_law_row", "_law_spots", "_law_place"])::[]
def sn:Sn:=⟨[("MOST_PARTS",(.int 40)),("MOST_NUMBER",(.int 99)),("MOST_ROWS",(.int 8)),("MOST_WAYS",(.int 4)),("GUARD",(.int 0)),("PUTS",(.int 1)),("NEXT",(.int 2))],[("SUM_FORMS",[("number",["number"]),("box",["box"]),("after",["box"]),("plus",["sum", "sum"]),("minus",["sum", "sum"])]),("COND_FORMS",[("yes",[]),("is",["sum", "sum"]),("less",["sum", "sum"]),("not",["cond"]),("both",["cond", "cond"]),("either",["cond", "cond"])])]⟩
abbrev pw:=PySem.Challenge.pw_handpromise_k12_ways_at_a_place
theorem chk:iF ⟨[],[],(ix.map (mZ pw)).map (·.x),sn.cns,[],true,sn.tbs.map (·.1)⟩ pg.fns (ix.map (mZ pw))=true:=by decide +kernel
theorem tw0:(pw.main.body.length != 0)=true:=by k_qdec
theorem lft:LeftO pw (qK pw) (sB pw) (λ_=>true) (λs=>iW pw sn s.heap) (λw=>lU pw sn w) 100000:=aGP (by kernel_rfl) rfl (λ_=>by kernel_rfl) λw os=>byRow2 "special-get-raises" (P:=λw=>aJz pw (qK pw) (sB pw) (λs=>iW pw sn s.heap) 100000 w os=some (true,openGood (qK pw) (sB pw),lU pw sn w)) (λw=>by
 have _:=tw0;unfold pw;rw[PySem.W.Fast.te1083672343903122785];kernel_rfl) (λw=>by
 have _:=tw0;unfold pw;rw[PySem.W.Fast.te1083672343903122785];kernel_rfl) w
end K12
end
noncomputable section
open PySem PySem.W PyProof.Rows Hh
set_option maxRecDepth 100000 in
set_option maxHeartbeats 0 in
theorem PySem.Challenge.cw_handpromise_k12_ways_at_a_place_holds : PySem.Challenge.rw_handpromise_k12_ways_at_a_place.Holds := by
 w_on; o_law; rename_i said
 refine aGU (l := PySem.Challenge.rw_handpromise_k12_ways_at_a_place) (k := 59) (f := 32) (x := "_law_script") (sl := ["_law_pen", "_law_boxes_here", "_law_hand_here", "_law_handed", "_law_told", "_law_row", "_law_spots", "_law_place"]) said K12.lft (by kernel_rfl) (by kernel_rfl) rfl rfl (by decide +kernel) ⟨rfl, rfl, rfl, rfl, rfl, by decide +kernel⟩ ?hw rfl rfl (by decide +kernel) (by decide +kernel) K12.chk rfl (by decide +kernel) ⟨rfl, rfl, by decide, by decide⟩ (by kernel_rfl) rfl K12.pure
 w_witness2
end
