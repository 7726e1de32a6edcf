import PyProof.Rows.All
import Wide.All
import OpenK.AllK
import Wide.FinOn
import Lean
import PySem.Challenge.RW_coverfill_k33_joins_and_groups
set_option Elab.async false
set_option linter.all false
set_option maxRecDepth 100000
set_option maxHeartbeats 4000000
set_option compiler.extract_closed false
def zzf {p:Prop}(h:false=true):p:=nomatch h
def zzb (h:Nat.ble a b=true):a<=b:=Nat.le_of_ble_eq_true h
def zzg {T:Type _}{l:List T}{i:Nat}{a:T}(h:l[i]?=some a):∃ w:i<l.length,l[i]=a:=List.getElem?_eq_some_iff.mp h
noncomputable section
open Bool (and_eq_true)
open PySem.Heap (lt_size get?_push_of_some get?_push_size)
open Nat (le_refl le_trans ne_of_lt lt_irrefl zero_le lt_of_lt_of_le mul_le_mul_right sub_self)
open Option (map_eq_some_iff)
open Classical (choose_spec)
open Int (toNat_natCast fmod_nonneg_of_pos fmod_lt_of_pos)
open List (all_eq_true append_assoc append_nil cons_append drop_eq_nil_of_le ext_getElem? filter_cons flatten_cons forIn_cons getD_eq_getElem?_getD getElem?_append_left getElem?_append_right getElem?_eq_getElem getElem?_eq_none getElem?_map getElem?_range getElem?_replicate getElem?_set_ne getElem?_set_self length_append length_cons length_map length_range length_replicate length_set length_singleton length_take lookup_cons map_append map_congr_left map_cons map_map map_nil mem_append mem_append_right mem_cons mem_cons_of_mem mem_cons_self mem_filter mem_map mem_of_getElem? mem_range mem_singleton nil_append nodup_cons not_mem_nil of_mem_zip range_succ replicate_succ reverse_cons set_append_right size_toArray)
def qx:=@Option.bind_some
def qy:=@length_map
def qj:=@decide_eq_true_eq
def qQ:=@length_append
def qX:=@PySem.wpAny_bind
def qY:=@Bool.false_ne_true
def qJ:=@mem_cons_of_mem
def q0:=@append_assoc
def q8:=@mem_cons_self
def q9:=@PySem.wpAny_pure
def xq:=@mem_append_right
def xy:=@size_toArray
def xj:=@Option.some.inj
def xQ:=@lt_of_lt_of_le
def xX:=@fmod_nonneg_of_pos
def xY:=@length_cons
def xJ:=@map_append
def x8:=@and_eq_true
def x9:=@map_eq_some_iff
section
namespace L2
open PySem Spec PyProof.Rows
abbrev Key:=Sum Int Str
noncomputable def zSU:Key->Value->Bool
 | .inl k,v=>Value.isInt k v
 | .inr x,v=>Value.isStrOf x v
noncomputable def keyH (w:World):Key->Int
 | .inl k=>hashInt k
 | .inr x=>hashStr w x
def zAz:∀ {k:Key} {v:Value},zSU k v=true->(∃ i t,k=Sum.inl i/\v=Value.int i t)\/(∃ x t,k=Sum.inr x/\v=Value.str x t)
 | .inl i,v,h=>by
  obtain⟨t,e⟩:=Value.isInt_shape (k:=i) (v:=v) h;exact .inl ⟨i,t,rfl,e⟩
 | .inr x,v,h=>by
  obtain⟨t,e⟩:=Value.isStrOf_shape (x:=x) (v:=v) h;exact .inr ⟨x,t,rfl,e⟩
def zST (a b:Int):decide ((Sum.inl a:Key)=Sum.inl b)=(a==b):=by grind
def zSQ (a b:Str):decide ((Sum.inr a:Key)=Sum.inr b)=decide (a=b):=by simp
def zSS (a:Int)(b:Str):decide ((Sum.inl a:Key)=Sum.inr b)=false:=rfl
def zSR (a:Str)(b:Int):decide ((Sum.inr a:Key)=Sum.inl b)=false:=rfl
noncomputable def zKa (prog:Program)(w:World):PySem.KeyKind prog w Key where
 is:=zSU
 hash:=keyH w
 inj:=λv a b ha hb=>by
  rcases zAz ha with ⟨i,t,rfl,rfl⟩ | ⟨x,t,rfl,rfl⟩
  .rcases zAz hb with ⟨j,u,rfl,e⟩ | ⟨y,u,rfl,e⟩
   .injection e with e1 _;rw[e1]
   .exact nomatch e
  .rcases zAz hb with ⟨j,u,rfl,e⟩ | ⟨y,u,rfl,e⟩
   .exact nomatch e
   .injection e with e1 _;rw[e1]
 byValue:=λk v h=>by
  rcases zAz h with ⟨i,t,rfl,rfl⟩ | ⟨x,t,rfl,rfl⟩<;>rfl
 pyHash:=λhv h=>by
  rcases zAz hv with ⟨i,t,rfl,rfl⟩ | ⟨x,t,rfl,rfl⟩
  .exact wpAny_pyHash_int h
  .exact wpAny_pyHash_str h
 eqBool:=λhu hv h=>by
  rcases zAz hu with ⟨i,t,rfl,rfl⟩ | ⟨x,t,rfl,rfl⟩
  .rcases zAz hv with ⟨j,u,rfl,rfl⟩ | ⟨y,u,rfl,rfl⟩
   .rw [zST] at h;exact wpAny_eqBool_int h
   .rw [zSS] at h;exact SeqAt.EqAt.int_str i t y u _ _ _ _ h
  .rcases zAz hv with ⟨j,u,rfl,rfl⟩ | ⟨y,u,rfl,rfl⟩
   .rw [zSR] at h;exact SeqAt.EqAt.str_int x t j u _ _ _ _ h
   .rw [zSQ] at h;exact wpAny_eqBool_str h
 «strs»:=λk x t v h=>by
  rcases zAz h with ⟨i,u,rfl,e⟩ | ⟨y,u,rfl,e⟩
  .exact nomatch e
  .injection e with e1 _
   subst e1;cases v<;>rfl
end L2
namespace L2
open PySem Spec PyProof.Rows
inductive V where
 | non | bl (b:Bool) | int (i:Int) | str (x:Str) | byt (b:Array UInt8) | flt (b:UInt64) | ref (a:Addr) | ty (n:String)
 deriving DecidableEq
def RelV:V->Value->Prop
 | .non,u=>u=Value.none
 | .bl b,u=>u=Value.bool b
 | .int i,u=>∃ t,u=Value.int i t
 | .str x,u=>∃ t,u=Value.str x t
 | .byt b,u=>∃ t,u=Value.bytes b t
 | .flt b,u=>∃ t,u=Value.float b t
 | .ref a,u=>u=Value.ref a
 | .ty n,u=>u=Value.type n
abbrev Vals:List V->List Value->Prop:=Paired RelV
def Vals.length (r:Vals xs us):xs.length=us.length:=Paired.length r
def Vals.get:∀ {xs:List V} {us:List Value} {i:Nat} {x:V},Vals xs us->xs[i]?=some x->∃ u,us[i]?=some u/\RelV x u
 | _,_,_,_,.nil,e=>by simp at e
 | _,_,0,_,.cons r _,e=>by simp at e;subst e;exact⟨_,rfl,r⟩
 | _,_,i+1,x,.cons _ t,e=>by
  obtain⟨u,h1,h2⟩:=Vals.get (i:=i) (x:=x) t (by simpa using e);exact⟨u,by simpa using h1,h2⟩
theorem Vals.set (r:RelV x u):∀ {xs:List V} {us:List Value} (i:Nat),Vals xs us->Vals (xs.set i x) (us.set i u)
 | _,_,_,.nil=>.nil
 | _,_,0,.cons _ t=>.cons r t
 | _,_,i+1,.cons q t=>.cons q (Vals.set r i t)
theorem Vals.append:∀ {xs ys:List V} {us ws:List Value},Vals xs us->Vals ys ws->Vals (xs++ys) (us++ws)
 | _,_,_,_,.nil,s=>s
 | _,_,_,_,.cons r t,s=>.cons r (Vals.append t s)
theorem Vals.take:∀ {xs:List V} {us:List Value} (n:Nat),Vals xs us->Vals (xs.take n) (us.take n)
 | _,_,0,_=>.nil
 | _,_,_+1,.nil=>.nil
 | _,_,n+1,.cons r t=>.cons r (Vals.take n t)
theorem Vals.drop:∀ {xs:List V} {us:List Value} (n:Nat),Vals xs us->Vals (xs.drop n) (us.drop n)
 | _,_,0,r=>r
 | _,_,_+1,.nil=>.nil
 | _,_,n+1,.cons _ t=>Vals.drop n t
def RelO:Option V->Option Value->Prop
 | some v,some u=>RelV v u
 | none,none=>True
 | _,_=>False
def KV {a:Type}:List (a×V)->List (a×Value)->Prop:=Paired λ(p:a×V) (q:a×Value)=>p.1=q.1/\RelV p.2 q.2
noncomputable def kV:Key->V
 | .inl i=>.int i
 | .inr x=>.str x
set_option genSizeOf false in
set_option genInjectivity false in
inductive HO where
 /-- a list -/
 | lst (xs:List V)
 /-- a tuple (never changes) -/
 | tup (xs:List V)
 /-- a dict whose keys are ints and texts;one whose keys are tuples of ints and texts (the empty one is both) -/
 | dK (kvs:List (Key×V)) | dT (kvs:List (List Key×V))
 /-- a set of ints: its members,its size -/
 | set (S:Int->Bool) (n:Nat)
 /-- an instance of the class at C,its dict at dx,its attributes -/
 | ins (C dx:Addr) (fs:List (Str×V))
 /-- the dict of the instance at x -/
 | own (x:Addr)
 /-- the dict of an exception -/
 | xd (fs:List (Str×V))
 /-- a bound method,f of x -/
 | met (f x:Addr)
 /-- a range object lo,lo+1,.. below hi -/
 | rng (lo hi:Int)
 /-- a thing that is known to the object (the script;a dict while a loop walks it): read,never written while it is so -/
 | frz (o:Obj) (u:HO)
 /-- a code object's table: the codes of the defs made within,all of this name -/
 | tbl (q:Str)
 /-- any other thing,by what is true of its one object (a def of one's own: SetO a S n:=HO.ext λh=>..) -/
 | ext (K:Heap->Prop)
abbrev Hp:=Addr->Option HO
noncomputable def upd (H:Hp)(a:Addr)(o:HO):Hp:=λb=>if b=a then some o else H b
def zAc :upd H a o a=some o:=by unfold upd;rw[if_pos rfl]
def zAX (h:b≠a):upd H a o b=H b:=by unfold upd;rw[if_neg h]
def zAv {H:Hp}(h:H a=some o)(h':H b=none):a≠b:=by grind
section
variable (P:Program)(w:World)
def zMD (o:Obj)(q:Str):Prop:=∃ vs t,o.data=.fields vs/\vs[1]?=some (.str q t)
def zCr (H:Hp)(h:Heap)(a:Addr):HO->Prop
 | .lst xs=>xs.length<=sizeLine/\∃ (its:List Value) (n:Nat),Vals xs its/\h.get? a=some { cls:=.type "list",data:=.seq its.toArray n }
 | .tup xs=>xs.length<=sizeLine/\∃ its:List Value,Vals xs its/\IsTup h a its.toArray
 | .dK kvs=>kvs.length<=sizeLine/\(a==sysModules)=false/\∃ vs,KV kvs vs/\h.DictOf (zKa P w) a vs
 | .dT kvs=>kvs.length<=sizeLine/\(a==sysModules)=false/\∃ xs:List (List Key×Addr×Value),
   Paired (λ(p:List Key×V) (q:List Key×Addr×Value)=>p.1=q.1/\H q.2.1=some (.tup (p.1.map kV))/\RelV p.2 q.2.2) kvs xs /\
   ∃ o es ep,h.get? a=some o/\o.ExactDict/\o.data=.dict es ep/\es.toList=xs.map (entryOfKey (tupleKind (zKa P w)))/\(xs.map (·.1)).Nodup
 | .set S n=>h.SetOf (intKind P w) a S n
 | .ins C dx fs=>H dx=some (.own a)/\fs.length<=1000/\dx≠a/\h.get? a=some (W.instObj C dx) /\
   ∃ mA,h.Ns1 dx mA/\(∀ f,RelO (fs.lookup f) (mA f))/\PySem.Within mA (fs.map (·.1))
 | .own _=>∃ o,h.get? a=some o
 | .xd fs=>∃ mA,h.Ns1 a mA/\∀ f,RelO (fs.lookup f) (mA f)
 | .rng lo hi=>∃ t u v,h.get? a=some { cls:=.type "range",data:=.fields #[.int lo t,.int hi u,.int 1 v] }
 | .frz o u=>h.get? a=some o/\zCr H h a u
 | .tbl q=>∃ ps:Array Value,h.get? a=some { cls:=.none,data:=.fields ps }/\TriplesOk ps.toList/\∀ pos cv,codeAmong pos ps.toList=some cv->∃ c oc u,cv=.ref c/\H c=some (.frz oc u)/\zMD oc q
 | .met f x=>h.get? a=some (W.methodObj (.ref f) (.ref x))
 | .ext K=>K h/\(∃ o,h.get? a=some o)/\∀ h1 h2:Heap,K h1->(∀ o,h1.get? a=some o->h2.get? a=some o)->K h2
def HOk (H:Hp)(h:Heap):Prop:=∀ a o,H a=some o->zCr P w H h a o
end
section
variable {P:Program}{w:World}{H H':Hp}{h h':Heap}{a:Addr}{o:HO}
def zCr.lt (x:zCr P w H h a o):a < h.objs.size:=by
 cases o with
 | lst c=>obtain⟨_,_,_,_,e⟩:=x;exact lt_size e
 | tup c=>obtain⟨_,_,_,p⟩:=x;exact p.lt
 | dK b=>obtain⟨_,_,_,_,o,_,_,e,_⟩:=x;exact lt_size e
 | dT b=>obtain⟨_,_,_,_,o,_,_,e,_⟩:=x;exact lt_size e
 | set S n=>obtain⟨o,_,_,_,e,_⟩:=x;exact lt_size e
 | ins C i fs=>obtain⟨_,_,_,e,_⟩:=x;exact lt_size e
 | own y=>obtain⟨_,e⟩:=x;exact lt_size e
 | xd fs=>obtain⟨_,⟨_,_,_,e,_⟩,_⟩:=x;exact lt_size e
 | rng d g=>obtain⟨_,_,_,e⟩:=x;exact lt_size e
 | frz ob u=>obtain⟨e,_⟩:=x;exact lt_size e
 | tbl q=>obtain⟨j,e,_⟩:=x;exact lt_size e
 | met f y=>exact lt_size (show h.get? a=some _ from x)
 | ext K=>obtain⟨_,⟨_,e⟩,_⟩:=x;exact lt_size e
theorem Paired.mapP {T M:Type}{F G:T->M->Prop}:∀ {Z7:List T} {Z8:List M},Paired F Z7 Z8->(∀ a b,F a b->G a b)->Paired G Z7 Z8
 | _,_,.nil,_=>.nil
 | _,_,.cons r t,f=>.cons (f _ _ r) (Paired.mapP t f)
def zCr.stay (x:zCr P w H h a o)(k:∀ b u,(b=a\/H b=some (.own a))->h.get? b=some u->h'.get? b=some u)
  (A:∀ b,H b=some (.own a)->H' b=some (.own a)) (D:∀ b xs,H b=some (.tup xs)->H' b=some (.tup xs)) (B:∀ b ob u,H b=some (.frz ob u)->(∃ vs,ob.data=.fields vs)->H' b=some (.frz ob u)):zCr P w H' h' a o:=by
 induction o with
 | lst xs=>obtain⟨z,i,n,r,e⟩:=x;exact⟨z,i,n,r,k _ _ (.inl rfl) e⟩
 | tup xs=>obtain⟨z,i,r,ob,e,c⟩:=x;exact⟨z,i,r,ob,k _ _ (.inl rfl) e,c⟩
 | dK l=>obtain⟨z,y,vs,r,ob,es,g,e,c⟩:=x;exact⟨z,y,vs,r,ob,es,g,k _ _ (.inl rfl) e,c⟩
 | dT l =>
  obtain⟨z,y,xs,r,ob,es,g,e,c⟩:=x;exact⟨z,y,xs,Paired.mapP r λp q z=>⟨z.1,D _ _ z.2.1,z.2.2⟩,ob,es,g,k _ _ (.inl rfl) e,c⟩
 | set S n=>obtain⟨ob,es,g,t,e,c⟩:=x;exact⟨ob,es,g,t,k _ _ (.inl rfl) e,c⟩
 | ins C L fs =>
  obtain⟨d,z,G,e,j,⟨m,es,g,s,c⟩,r⟩:=x;exact⟨A _ d,z,G,k _ _ (.inl rfl) e,j,⟨m,es,g,k _ _ (.inr d) s,c⟩,r⟩
 | own y=>obtain⟨ob,e⟩:=x;exact⟨ob,k _ _ (.inl rfl) e⟩
 | xd fs=>obtain⟨j,⟨m,es,g,e,c⟩,r⟩:=x;exact⟨j,⟨m,es,g,k _ _ (.inl rfl) e,c⟩,r⟩
 | rng N M=>obtain⟨t,u,v,e⟩:=x;exact⟨t,u,v,k _ _ (.inl rfl) e⟩
 | frz ob u I=>obtain⟨e,q⟩:=x;exact⟨k _ _ (.inl rfl) e,I q⟩
 | tbl q =>
  obtain⟨J,e,t,c⟩:=x;exact⟨J,k a _ (.inl rfl) e,t,λpos E z=>let ⟨c1,oc,u,e1,s,e3⟩:=c pos E z;⟨c1,oc,u,e1,B _ _ _ s (let ⟨vs,_,d,_⟩:=e3;⟨vs,d⟩),e3⟩⟩
 | met f y =>
  have e:=x;exact k a _ (.inl rfl) e
 | ext K=>obtain⟨p,⟨o,e⟩,st⟩:=x;exact⟨st _ _ p λo q=>k _ _ (.inl rfl) q,⟨o,k _ _ (.inl rfl) e⟩,st⟩
def HOk.lt (x:HOk P w H h)(e:H a=some o):a < h.objs.size:=(x a o e).lt
def HOk.fresh (x:HOk P w H h)(e:h.objs.size<=a):H a=none:=by
 cases q:H a with
 | none=>rfl
 | some u=>exact absurd (xQ (x.lt q) e) (lt_irrefl _)
def HOk.kept (x:HOk P w H h)(k:∀ b u,h.get? b=some u->h'.get? b=some u):HOk P w H h':=λa o e =>
 (x a o e).stay (λb u _ q=>k b u q) (λ_ q=>q) (λ_ _ q=>q) λ_ _ _ q _=>q
def HOk.laid (x:HOk P w H h)(k:∀ b u,h.get? b=some u->h'.get? b=some u)(f:h.objs.size<=a)(new:zCr P w (upd H a o) h' a o):HOk P w (upd H a o) h':=λb u e=>by
 have d:=x.fresh f;by_cases hb:b=a
 .subst hb;rw[zAc] at e;cases e;exact new
 .rw [zAX hb] at e;exact(x b u e).stay (λc v _ q=>k c v q) (λc q=>by rw[zAX (zAv q d)];exact q) (λc g q=>by rw[zAX (zAv q d)];exact q) λc ob u q _=>by rw[zAX (zAv q d)];exact q
end
def Rd (H:Hp)(a:Addr)(u:HO):Prop:=H a=some u\/∃ o,H a=some (.frz o u)
def Rd.ok (r:Rd H a u)(x:HOk P w H h):zCr P w H h a u:=by
 rcases r with r | ⟨o,r⟩
 .exact x a u r
 .obtain ⟨_,q⟩:=x a _ r;omega
def Mut:Option HO->Prop
 | some (.lst _)=>True
 | some (.dK _)=>True
 | some (.dT _)=>True
 | some (.set _ _)=>True
 | some (.ins _ _ _)=>True
 | some (.ext _)=>True
 | _=>False
section
variable {P:Program}{w:World}{H:Hp}{h h':Heap}{x e:Addr}{o':HO}
def HOk.write (ok:HOk P w H h)(mu:Mut (H x))(l:e=x\/H e=some (.own x))(k:∀ b u,b≠e->h.get? b=some u->h'.get? b=some u)(d:∃ u,h'.get? e=some u)
  (new:zCr P w (upd H x o') h' x o'):HOk P w (upd H x o') h':=λb u q=>by
 have a:∀ c y,H c=some (.own y)->c≠x:=λc y r z=>by subst z;rw[r] at mu;exact mu
 by_cases hb:b=x
 .subst hb;rw[zAc] at q;cases q;exact new
 .rw [zAX hb] at q;by_cases hbe:b=e
  .have i:H b=some (.own x):=by
    grind
   rw[q] at i;cases i;obtain⟨v,j⟩:=d;exact⟨v,by rw[hbe];exact j⟩
  .refine (ok b u q).stay (λc v f r=>k c v ?_ r) (λc r=>by rw[zAX (a c b r)];exact r) (λc g r=>by rw[zAX ((λc g r z=>by subst z;rw[r] at mu;exact mu) c g r)];exact r) λc ob v r _=>by rw[zAX ((λc ob v r z=>by subst z;rw[r] at mu;exact mu) c ob v r)];exact r
   rcases f with rfl | f
   .exact hbe
   .rintro rfl;rcases l with z | z
    .grind
    .rw [f] at z;cases z;exact hb rfl
end
structure Un (fs ex:List Addr)(H H':Hp)(h h':Heap):Prop where
 keep:∀ b o,h.get? b=some o->H b=none->b∉fs->b∉ex->h'.get? b=some o
 slot:∀ b o,h.get? b=some o->H b=none->b∈fs->b∉ex->∃ sl,h'.get? b=some { o with slots:=sl }
 free:∀ b o,h.get? b=some o->H b=none->b∉ex->H' b=none
 there:∀ b o,h.get? b=some o->b∉ex->∃ o',h'.get? b=some o'
 tups:∀ b xs,H b=some (.tup xs)->H' b=some (.tup xs)
 frzs:∀ b o u,H b=some (.frz o u)->H' b=some (.frz o u)
 tbls:∀ b q,H b=some (.tbl q)->H' b=some (.tbl q)
section
variable {fs fs' ex ex':List Addr}{H H1 H2:Hp}{h h1 h2 h':Heap}{a x e:Addr}{o:HO}
def Un.any (u:Un fs ex H H1 h h1)(q:h.get? b=some ob)(n:H b=none)(a:b∉ex):∃ sl,h1.get? b=some { ob with slots:=sl }:=by
 by_cases hb:b∈fs
 .exact u.slot b ob q n hb a
 .exact ⟨ob.slots,u.keep b ob q n hb a⟩
def Un.trans (a:Un fs ex H H1 h h1)(b:Un fs ex H1 H2 h1 h2):Un fs ex H H2 h h2 where
 keep:=λc ob q n f d=>b.keep c ob (a.keep c ob q n f d) (a.free c ob q n d) f d
 slot:=λc ob q n f d=>by
  obtain⟨sl,g⟩:=a.slot c ob q n f d;obtain⟨i,l⟩:=b.slot c _ g (a.free c ob q n d) f d;exact⟨i,l⟩
 free:=λc ob q n d=>by
  obtain⟨j,g⟩:=a.there c ob q d;exact b.free c j g (a.free c ob q n d) d
 there:=λc ob q d=>by
  obtain⟨j,g⟩:=a.there c ob q d;exact b.there c j g d
 tups:=λc e q=>b.tups c e (a.tups c e q)
 frzs:=λc ob e q=>b.frzs c ob e (a.frzs c ob e q)
 tbls:=λc k q=>b.tbls c _ (a.tbls c k q)
def Un.kept (k:∀ b u,h.get? b=some u->h'.get? b=some u):Un fs ex H H h h' :=
 ⟨λb ob q _ _ _=>k b ob q,λb ob q _ _ _=>⟨ob.slots,k b ob q⟩,λ_ _ _ n _=>n,λb ob q _=>⟨ob,k b ob q⟩,λ_ _ q=>q,λ_ _ _ q=>q,λ_ _ q=>q⟩
def Un.refl:Un fs ex H H h h:=Un.kept λ_ _ q=>q
def Un.laid (k:∀ b u,h.get? b=some u->h'.get? b=some u)(e:h.objs.size<=a)(c:H a=none):Un fs ex H (upd H a o) h h' where
 keep:=λb u q _ _ _=>k b u q
 slot:=λb u q _ _ _=>⟨u.slots,k b u q⟩
 free:=λb u q n _=>by rw[zAX (ne_of_lt (xQ (lt_size q) e))];exact n
 there:=λb u q _=>⟨u,k b u q⟩
 tups:=λb d q=>by rw[zAX (zAv q c)];exact q
 frzs:=λb u d q=>by rw[zAX (zAv q c)];exact q
 tbls:=λb f q=>by rw[zAX (zAv q c)];exact q
def Un.write (mu:Mut (H x))(i:e=x\/H e=some (.own x))(k:∀ b u,b≠e->h.get? b=some u->h'.get? b=some u)(f:∃ u,h'.get? e=some u):Un fs ex H (upd H x o) h h':=by
 have g:∀ b,H b=none->b≠x:=λb n z=>by subst z;rw[n] at mu;exact mu
 have c:∀ b,H b=none->b≠e:=λb n z=>by
  grind
 have a:∀ b u,H b=some u->¬ Mut (some u)->b≠x:=λb u q nm z=>by subst z;rw[q] at mu;exact nm mu
 refine⟨λb u q n _ _=>k b u (c b n) q,λb u q n _ _=>⟨u.slots,k b u (c b n) q⟩,λb u q n _=>by rw[zAX (g b n)];exact n,λb u q _=>?_,
  λb d q=>by rw[zAX (a b _ q λz=>z)];exact q,λb u d q=>by rw[zAX (a b _ q λz=>z)];exact q,λb j q=>by rw[zAX (a b _ q λz=>z)];exact q⟩
 grind
def Un.mono (u:Un fs ex H H1 h h1)(e:∀ b∈fs,b∈fs')(c:∀ b∈ex,b∈ex'):Un fs' ex' H H1 h h1 :=
 ⟨λb ob q n d a=>u.keep b ob q n (λz=>d (e b z)) λz=>a (c b z),λ_ _ q n _ a=>u.any q n λz=>a (c _ z),λb ob q n a=>u.free b ob q n λz=>a (c b z),λb ob q a=>u.there b ob q λz=>a (c b z),u.tups,u.frzs,u.tbls⟩
end
noncomputable def trk (h:Heap)(H:Hp):List Addr:=(List.range h.objs.size).filter λa=>(H a).isSome
noncomputable def hidT (h:Heap)(H:Hp):Heap:=W.hideAll h (trk h H)
def zM6 (e:h.get? b=some o)(n:H b=none):(hidT h H).get? b=some o :=
 W.hideAll_get _ e λhm=>by
  have q:=(mem_filter.mp hm).2;grind
def zPW (e:(hidT h H).get? b=some o):h.get? b=some o/\H b=none:=by
 have a:=W.of_hideAll _ e
 simp_all
 cases q:H b with
 | none=>rfl
 | some x =>
  have z:(hidT h H).get? b=none:=W.hideAll_none _ (mem_filter.mpr ⟨mem_range.mpr (lt_size a),by simp[q]⟩);grind
noncomputable def zHo (g h:Heap)(L:Addr):List (Addr×Obj):=(List.range h.objs.size).filterMap λa=>if a=L\/(g.get? a).isSome=true then none else (h.get? a).map λo=>(a,o)
def zEt (a:p∈zHo g h L):p.1≠L/\g.get? p.1=none/\h.get? p.1=some p.2:=by
 obtain⟨b,_,e⟩:=List.mem_filterMap.mp a;split at e
 .grind
 .rename_i c;cases q:h.get? b with
  | none=>rw[q] at e;simp at e
  | some u =>
   simp_all
   grind
noncomputable def rest (g h:Heap)(L d:Addr):List (Addr×Obj):=(zHo g h L).filter λp=>decide (p.1≠d)
def zMk :News g L h (zHo g h L):=λp d=>let ⟨a,b,c⟩:=zEt d;⟨c,a,b⟩
def zFu (h1:d≠L)(h2:g.get? d=none)(h3:h.get? d=some o):News g L h ((d,o)::rest g h L d):=λp a=>by
 rcases mem_cons.mp a with rfl | a
 .exact ⟨h3,h1,h2⟩
 .exact zMk p (mem_filter.mp a).1
end L2
namespace L2
open PySem Spec PyProof.Rows
noncomputable def zB6:List Str:=["thinned_covers","Fill.films","Join.films","Group.films"]
noncomputable def lamQ (x:Str):Str:=x ++ ".<locals>." ++ "<lambda>"
noncomputable def zKd:List (Str×Str×Str):=[("Fill.films","Fill","films"),("Join.films","Join","films"),("Group.films","Group","films")]
noncomputable def zRF (K:W.Frag)(f:Addr):Option (Addr×Addr):=match K.lookup f with
 | some ⟨_,_,.func fd,_⟩=>(match fd.code with
  | .ref c=>(match K.lookup c with
   | some ⟨_,_,.fields vs,_⟩=>(match (vs[11]?:Option Value) with
    | some (.ref P)=>some (c,P)
    | _=>none)
   | _=>none)
  | _=>none)
 | _=>none
noncomputable def zEc (K:W.Frag)(x:Str):Option Addr:=match zKd.lookup x with
 | some (c,m)=>(match W.nsIn K mainGlobals c with
  | some (some (.ref C))=>(match W.findIn K (.ref C) m with
   | some (some (.ref f))=>some f
   | _=>none)
  | _=>none)
 | none=>(match W.nsIn K mainGlobals x with
  | some (some (.ref f))=>some f
  | _=>none)
noncomputable def tabQ (K:W.Frag)(x:Str):Option (Addr×Addr):=(zEc K x).bind (zRF K)
def zJY {K:W.Frag}(a:tabQ K x=some (c,P))(d:zEc K x=some f)(b:K.lookup f=some ⟨oc,od,.func fd,sl⟩):fd.code=.ref c:=by
 unfold tabQ at a
 simp_all
 unfold zRF at a;rw[b] at a
 simp_all
 split at a
 .rename_i g e;split at a
  .split at a
   .grind
   .cases a
  .cases a
 .cases a
structure Mod (K:W.Frag)(mg:Str->Option Value)(base:Heap):Prop where
 kin:K.In base
 glob:base.Ns mainGlobals mg
 blt:∃ mb,base.Ns builtinsNs mb/\∀ x:Str,x ≠ "__name__"->mb x=bootBuiltins x
 nolimit:base.NoLimit
 seer:base.NoSeer
 bm:∃ bm ob,mg "__builtins__"=some (.ref bm)/\bm≠builtinsNs/\base.get? bm=some ob/\ob.cls=.type "module"/\ob.dict=some builtinsNs/\ob.data=.plain
 codes:∀ x∈zB6,∀ c P,tabQ K x=some (c,P)->W.CodeHd base c P
def zId (K:W.Frag)(H:Hp):Prop:=∀ x∈zB6,∀ c P,tabQ K x=some (c,P)->H P=some (.tbl (lamQ x))
structure Cx where
 prog:Program
 w:World
 K:W.Frag
 mg:Str->Option Value
 base:Heap
 A:Around
 N:List Str
 s0:Shared
 Y7:Hp
 env:Env
 outer:List Env
 stack:List Env
 ex:List Addr
 fn:Str->Bool
 calm:Bool
 pn:List (Addr×Obj)
 xe:Value->Shared->Prop
noncomputable def frs (l:List Env):List Addr:=l.filterMap (·.frame)
abbrev Cx.fs (X:Cx):List Addr:=frs X.outer
def Vis (sc:Scope)(x:Str):Prop:=sc.names.lookup x=some .local\/sc.names.lookup x=some .cell\/sc.names.lookup x=some .free
def Loc (sc:Scope)(x:Str):Prop:=sc.names.lookup x=some .local\/sc.names.lookup x=some .cell
def Look (env:Env)(h:Heap)(m:Str->Option Value)(x:Str)(u:Value):Prop :=
 (env.kindOf x=some .local/\m x=some u)\/((env.kindOf x=some .cell\/env.kindOf x=some .free)/\∃ c,env.cells.lookup x=some c/\h.IsCell c (some u))
structure Cx.Ok (X:Cx):Prop where
 mod:Mod X.K X.mg X.base
 kind:X.env.scope.kind=.function
 glob:X.env.globals=mainGlobals
 blt:X.env.builtins=builtinsNs
 above:X.s0.heap.objs.size<=X.env.locals
 inj:∀ x y c,X.env.cells.lookup x=some c->X.env.cells.lookup y=some c->x=y
 has:∀ x,(X.env.kindOf x=some .cell\/X.env.kindOf x=some .free)->∃ c,X.env.cells.lookup x=some c
 cab:∀ x c,X.fn x=true->X.env.cells.lookup x=some c->X.s0.heap.objs.size<=c
 hd:X.calm=true->X.A.handled=none
 frames:X.A.frames=some X.stack
 stk:X.stack=X.outer\/(X.stack=X.env::X.outer/\X.env.frame=some X.env.locals)
 exf:∀ b∈X.ex,b≠X.env.locals/\∀ x c,X.env.cells.lookup x=some c->c≠b
 bs:∀ b o,X.base.get? b=some o->X.s0.heap.get? b=some o/\X.Y7 b=none
 bsz:X.base.objs.size<=X.s0.heap.objs.size
 noex:∀ b o,X.base.get? b=some o->b∉X.ex
 exfs:∀ b∈X.ex,b∉X.fs
 funs:X.s0.heap.FunFrames X.base X.outer
 frf:∀ b∈X.fs,X.Y7 b=none
 pyl:X.A.depth+Builtin.pylongFrames < recursionLimit/\(model X.prog X.w).prog.given.tree=none/\∃ e l,X.stack=e::l/\e.scope.isGenerator=false/\e.scope.isCoroutine=false/\e.builtins=builtinsNs/\e.globals=mainGlobals
 tabs:zId X.K X.Y7
structure Inv (X:Cx)(pins:List (Addr×Obj))(B:List (Option V))(H:Hp)(s:Shared):Prop where
 ok:X.Ok
 os:s.os=X.s0.os
 bare:AllBare s.gens
 base:Un X.fs X.ex X.Y7 H X.s0.heap s.heap
 loc:∃ m,s.heap.Ns X.env.locals m/\∀ (i:Nat) (x:Str) (v:V),X.N[i]?=some x->B[i]?=some (some v)->Vis X.env.scope x->∃ u,RelV v u/\Look X.env s.heap m x u
 cell:∀ x c,X.env.cells.lookup x=some c->∃ v,s.heap.IsCell c v
 free:H X.env.locals=none
 freeC:∀ x c,X.env.cells.lookup x=some c->H c=none
 pin:∀ p∈X.pn++pins,s.heap.get? p.1=some p.2/\H p.1=none/\p.1≠X.env.locals/\p.1∉X.fs/\∀ v,p.2.data≠.cell v
 hok:HOk X.prog X.w H s.heap
 len:B.length=X.N.length
section
variable {X:Cx}{pins:List (Addr×Obj)}{B:List (Option V)}{H H':Hp}{s:Shared}{h':Heap}
def Cx.Ok.nofr (ok:X.Ok)(e:X.base.get? b=some o):b∉X.fs:=λhb=>by
 have:=(ok.funs.mem hb).1;grind
def Inv.bs (I:Inv X pins B H s):∀ b o,X.base.get? b=some o->s.heap.get? b=some o/\H b=none:=λb o e =>
 ⟨I.base.keep b o (I.ok.bs b o e).1 (I.ok.bs b o e).2 (I.ok.nofr e) (I.ok.noex b o e),I.base.free b o (I.ok.bs b o e).1 (I.ok.bs b o e).2 (I.ok.noex b o e)⟩
def Inv.bk (I:Inv X pins B H s):∀ b o,X.base.get? b=some o->s.heap.get? b=some o:=λb o e=>(I.bs b o e).1
def Inv.mod (I:Inv X pins B H s):Mod X.K X.mg X.base:=I.ok.mod
def Inv.kIn (I:Inv X pins B H s):X.K.In s.heap:=I.ok.mod.kin.keeps I.bk
def Inv.nolimit (I:Inv X pins B H s):s.heap.NoLimit:=I.ok.mod.nolimit.keeps I.bk
def Inv.lt (I:Inv X pins B H s):X.env.locals < s.heap.objs.size:=let ⟨_,hn,_⟩:=I.loc;hn.lt
def Inv.sz (I:Inv X pins B H s):X.s0.heap.objs.size<=s.heap.objs.size:=le_trans I.ok.above (Nat.le_of_lt I.lt)
def Inv.nofs (I:Inv X pins B H s){a:Addr}(h:s.heap.objs.size<=a):a∉X.fs:=λhb=>by
 obtain⟨_,o,b,_⟩:=I.ok.funs.mem hb;exact absurd (xQ (lt_size b) (le_trans I.sz h)) (lt_irrefl _)
def Inv.cne (I:Inv X pins B H s):∀ x c,X.env.cells.lookup x=some c->c≠X.env.locals:=λx c e z=>by
 obtain⟨v,o,f,h⟩:=I.cell x c e;obtain⟨m,⟨d,es,g,a,b,_⟩,_⟩:=I.loc;grind
def Inv.funs (I:Inv X pins B H s):s.heap.FunFrames X.base X.outer:=by
 have all:∀ (l:List Env),(∀ b∈frs l,b∈X.fs)->X.s0.heap.FunFrames X.base l->s.heap.FunFrames X.base l:=by
  intro l
  induction l with
  | nil=>intro _ _;trivial
  | cons n r m =>
   intro f h;obtain⟨j,⟨L,o,a,i,g,k⟩,hr⟩:=h;have c:L∈X.fs:=f L (by unfold frs;rw[List.filterMap_cons,a];exact q8);obtain⟨sl,e⟩:=I.base.slot L o g (I.ok.frf L c) c λz=>I.ok.exfs L z c
   exact⟨j,⟨L,_,a,i,e,k⟩,m (λb d=>f b (by unfold frs;rw[List.filterMap_cons,a];exact qJ _ d)) hr⟩
 exact all X.outer (λ_ d=>d) I.ok.funs
def Inv.stack (I:Inv X pins B H s):s.heap.FunFrames X.base X.stack:=by
 rcases I.ok.stk with e | ⟨e,hf⟩
 .rw [e];exact I.funs
 .rw [e];obtain⟨m,a,_⟩:=I.loc;refine .cons (by rw[I.ok.kind];decide) hf a ?_ I.funs;exact Heap.get?_none_of_le (le_trans I.ok.bsz I.ok.above)
def Inv.stkSub (I:Inv X pins B H s):∀ b∈frs X.stack,b∈X.env.locals::X.fs:=λb a=>by
 rcases I.ok.stk with e | ⟨e,hf⟩
 .simp_all
 .rw [e] at a;unfold frs at a;rw[List.filterMap_cons,hf] at a;exact a
def Inv.stkFree (I:Inv X pins B H s):∀ b∈frs X.stack,H b=none:=λb a=>by
 rcases mem_cons.mp (I.stkSub b a) with e | a
 .rw [e];exact I.free
 .obtain ⟨_,o,c,_⟩:=I.ok.funs.mem a;exact I.base.free b o c (I.ok.frf b a) λz=>I.ok.exfs b z a
def Inv.step {ch:List Addr}(I:Inv X pins B H s)
  (g:∀ b∈ch,(b∈X.ex\/X.s0.heap.objs.size<=b)/\b≠X.env.locals/\(∀ x c,X.env.cells.lookup x=some c->c≠b)/\∀ p∈X.pn++pins,p.1≠b)
  (keep:∀ b o,b≠X.env.locals->b∉X.fs->b∉ch->s.heap.get? b=some o->H b=none->h'.get? b=some o)
  (t:∀ b o,b≠X.env.locals->b∈X.fs->b∉ch->s.heap.get? b=some o->H b=none->∃ sl,h'.get? b=some { o with slots:=sl }) (free:∀ b o,b∉ch->s.heap.get? b=some o->H b=none->H' b=none)
  (w:∀ b o,b∉ch->s.heap.get? b=some o->∃ o',h'.get? b=some o')
  (E:∀ b xs,H b=some (.tup xs)->H' b=some (.tup xs)) (F:∀ b o u,H b=some (.frz o u)->H' b=some (.frz o u)) (D:∀ b q,H b=some (.tbl q)->H' b=some (.tbl q))
  (ns:∀ m,s.heap.Ns X.env.locals m->h'.Ns X.env.locals m) (M:HOk X.prog X.w H' h') (U:AllBare g') :
  Inv X pins B H' { s with heap:=h',gens:=g',drawn:=d',toks:=t' }:=by
 have G:∀ b o,X.s0.heap.get? b=some o->b≠X.env.locals:=λb o e=>ne_of_lt (xQ (lt_size e) I.ok.above)
 have j:∀ b o,X.s0.heap.get? b=some o->b∉X.ex->b∉ch:=λb o e a y=>by
  rcases(g b y).1 with z | z
  .exact a z
  .exact absurd (xQ (lt_size e) z) (lt_irrefl _)
 have f:∀ x c,X.env.cells.lookup x=some c->∀ v,s.heap.IsCell c v->h'.IsCell c v:=λx c e v N=>by
  obtain⟨o,C,J⟩:=N;have h:c∉ch:=λz=>(g c z).2.2.1 x c e rfl
  by_cases hc:c∈X.fs
  .obtain ⟨sl,q⟩:=t c o (I.cne x c e) hc h C (I.freeC x c e);exact⟨_,q,J⟩
  .exact ⟨o,keep c o (I.cne x c e) hc h C (I.freeC x c e),J⟩
 refine⟨I.ok,I.os,U,⟨λb o e n y a=>?_,λb o e n y a=>?_,λb o e n a=>?_,λb o e a=>?_,λb xs e=>E b xs (I.base.tups b xs e),λb o xs e=>F b o xs (I.base.frzs b o xs e),λb R e=>?_⟩,?_,λx c e=>?_,?_,λx c e=>?_,λp P=>?_,M,I.len⟩
 .exact keep b o (G b o e) y (j b o e a) (I.base.keep b o e n y a) (I.base.free b o e n a)
 .obtain ⟨sl,A⟩:=I.base.slot b o e n y a;obtain⟨K,L⟩:=t b _ (G b o e) y (j b o e a) A (I.base.free b o e n a);exact⟨K,L⟩
 .obtain ⟨o',A⟩:=I.base.there b o e a;exact free b o' (j b o e a) A (I.base.free b o e n a)
 .obtain ⟨o',A⟩:=I.base.there b o e a;exact w b o' (j b o e a) A
 .exact D b _ (I.base.tbls b R e)
 .obtain ⟨m,T,S⟩:=I.loc;refine⟨m,ns m T,λi x v A L V=>?_⟩;obtain⟨u,r,l⟩:=S i x v A L V;refine⟨u,r,?_⟩;rcases l with l | ⟨k,c,e,z⟩
  .exact .inl l
  .exact .inr ⟨k,c,e,f x c e _ z⟩
 .obtain ⟨v,z⟩:=I.cell x c e;exact⟨v,f x c e v z⟩
 .obtain ⟨m,⟨o,_,_,C,_⟩,_⟩:=I.loc;exact free _ o (λz=>(g _ z).2.1 rfl) C I.free
 .obtain ⟨v,o,C,J⟩:=I.cell x c e;exact free c o (λz=>(g c z).2.2.1 x c e rfl) C (I.freeC x c e)
 .obtain ⟨e,n,O,Q,d⟩:=I.pin p P;have h:p.1∉ch:=λz=>(g p.1 z).2.2.2 p P rfl
  exact⟨keep p.1 p.2 O Q h e n,free p.1 p.2 h e n,O,Q,d⟩
def Inv.un (I:Inv X pins B H s)(u:Un X.fs [] H H' s.heap h')(f:HOk X.prog X.w H' h'):Inv X pins B H' { s with heap:=h',toks:=t' }:=by
 obtain⟨m,⟨o,es,p,h,r⟩,_⟩:=id I.loc;obtain⟨sl,i⟩:=u.any h I.free (by simp);exact I.step (ch:=[]) (λ_ z=>nomatch z) (λb o _ d _ e n=>u.keep b o e n d (by simp)) (λb o _ d _ e n=>u.slot b o e n d (by simp)) (λb o _ e n=>u.free b o e n (by simp)) (λb o _ e=>u.there b o e (by simp)) u.tups u.frzs u.tbls (λm' k=>by
  obtain⟨l,g,c,a,j⟩:=k;rw[h] at a;cases a;exact⟨_,g,c,i,j⟩) f I.bare
def Inv.call (I:Inv X pins B H s)(u:Un (frs X.stack) ch H H' s.heap h')(g:HOk X.prog X.w H' h')(l:AllBare g')
  (d:∀ b∈ch,(b∈X.ex\/X.s0.heap.objs.size<=b)/\b≠X.env.locals/\(∀ x c,X.env.cells.lookup x=some c->c≠b)/\∀ p∈X.pn++pins,p.1≠b) :
  Inv X pins B H' { s with heap:=h',gens:=g',drawn:=d',toks:=t' }:=by
 obtain⟨m,⟨o,es,w,k,r⟩,_⟩:=id I.loc;obtain⟨sl,i⟩:=u.any k I.free λz=>(d _ z).2.1 rfl
 exact I.step d (λb o i v a e n=>u.keep b o e n (λz=>(mem_cons.mp (I.stkSub b z)).elim i v) a) (λb o _ _ a e n=>u.any e n a) (λb o a e n=>u.free b o e n a) (λb o a e=>u.there b o e a) u.tups u.frzs u.tbls (λm' q=>by
  obtain⟨y,j,h,f,t⟩:=q;rw[k] at f;cases f;exact⟨_,j,h,i,t⟩) g l
def Inv.turned (I:Inv X pins B H s)(k:∀ b o,b≠it->s.heap.get? b=some o->h'.get? b=some o)(j:H it=none)(d:it≠X.env.locals)
  (h1:it∈X.ex\/X.s0.heap.objs.size<=it) (h2:∀ x c,X.env.cells.lookup x=some c->c≠it) (h3:∀ p∈X.pn++pins,p.1≠it):Inv X pins B H { s with heap:=h',toks:=t' }:=by
 refine I.step (ch:=[it]) (λb h=>?_) (λb o _ _ a e _=>k b o (λz=>a (by grind)) e) (λb o _ _ a e _=>⟨o.slots,k b o (λz=>a (by simp[z])) e⟩) (λ_ _ _ _ n=>n)
  (λb o a e=>⟨o,k b o (λz=>a (by simp[z])) e⟩) (λ_ _ e=>e) (λ_ _ _ e=>e) (λ_ _ e=>e) (λm i=>?_) (λb u e=>?_) I.bare
 .have e:b=it:=by simpa using h
  subst e;exact⟨h1,d,h2,h3⟩
 .obtain ⟨o,es,g,f,r⟩:=i;exact⟨o,es,g,k _ o (Ne.symm d) f,r⟩
 .refine (I.hok b u e).stay (λc v a q=>k c v ?_ q) (λ_ q=>q) (λ_ _ q=>q) λ_ _ _ q _=>q
  grind
def Inv.tabs (I:Inv X pins B H s):zId X.K H:=λx a c P e=>I.base.tbls _ _ (I.ok.tabs x a c P e)
def Inv.tok (I:Inv X pins B H s)(t:Nat):Inv X pins B H { s with toks:=t }:=I.un Un.refl I.hok
def Inv.kept (I:Inv X pins B H s)(k:∀ b u,s.heap.get? b=some u->h'.get? b=some u):Inv X pins B H { s with heap:=h',toks:=t' }:=I.un (Un.kept k) (I.hok.kept k)
def Inv.laid {a:Addr}{o:HO}{t':Nat}(I:Inv X pins B H s)(k:∀ b u,s.heap.get? b=some u->h'.get? b=some u)(c:s.heap.objs.size<=a)(new:zCr X.prog X.w (upd H a o) h' a o) :
  Inv X pins B (upd H a o) { s with heap:=h',toks:=t' }:=I.un (Un.laid k c (I.hok.fresh c)) (I.hok.laid k c new)
def Inv.write (I:Inv X pins B H s)(mu:Mut (H x))(c:e=x\/H e=some (.own x))(k:∀ b u,b≠e->s.heap.get? b=some u->h'.get? b=some u)(a:∃ u,h'.get? e=some u)
  (new:zCr X.prog X.w (upd H x o) h' x o):Inv X pins B (upd H x o) { s with heap:=h',toks:=t' }:=I.un (Un.write mu c k a) (I.hok.write mu c k a new)
def Inv.pins_of (I:Inv X pins B H s)(h:∀ p∈pins',s.heap.get? p.1=some p.2/\H p.1=none/\p.1≠X.env.locals/\p.1∉X.fs/\∀ v,p.2.data≠.cell v):Inv X pins' B H s :=
 ⟨I.ok,I.os,I.bare,I.base,I.loc,I.cell,I.free,I.freeC,λp a=>(mem_append.mp a).elim (λz=>I.pin p (List.mem_append_left _ z)) (h p),I.hok,I.len⟩
def zH2 {N:List Str}(d:N.Nodup){j:Nat}{x:Str}(a:N[i]?=some x)(b:N[j]?=some x):i=j:=by
 obtain⟨h1,e⟩:=zzg a;obtain⟨h2,c⟩:=zzg b;exact(List.getElem_inj d).mp (e.trans c.symm)
def zJd (I:Inv X pins B H s)(hN:X.N.Nodup)(K:X.N[i]?=some x)(w:Loc X.env.scope x)(r:RelV v u)
  (h:∀ s',Inv X pins (B.set i (some v)) H s'->(∃ a,Heap.SameBut a s.heap s'.heap/\(a=X.env.locals\/X.env.cells.lookup x=some a))->Q () s') (hf:X.fn x=true\/X.env.scope.names.lookup x=some .local:=by first | exact .inl rfl | exact .inr rfl | assumption):wpAny M A (storeName X.env x u) Q E s:=by
 obtain⟨m,W,hl⟩:=id I.loc;have J:i < B.length:=by rw[I.len];exact(zzg K).1
 have cne:=I.cne;have l:∀ {a:Addr} {h':Heap},(∃ o,s.heap.get? a=some o/\H a=none)->Heap.SameBut a s.heap h'->HOk X.prog X.w H h':=λ{a h'} ha f b ob e=>by
  obtain⟨_,_,C⟩:=ha;refine(I.hok b ob e).stay (λc P t q=>(f.2 c ?_).trans q) (λ_ q=>q) (λ_ _ q=>q) λ_ _ _ q _=>q
  rintro rfl;rcases t with rfl | t
  .rw [C] at e;cases e
  .rw [C] at t;cases t
 rcases w with hk | hk
 .refine wpAny_storeName_local hk W (λh' a1 f=>?_) (by rw[I.ok.kind];rfl);obtain⟨oL,_,_,a2,_⟩:=id W;refine h _ ⟨I.ok,I.os,I.bare,⟨λb o e n F w=>?_,λb o e n F w=>?_,I.base.free,λb o e w=>?_,I.base.tups,I.base.frzs,I.base.tbls⟩,⟨_,a1,λj y Y g D V=>?_⟩,λy c e=>?_,I.free,I.freeC,λp Z=>?_,l ⟨oL,a2,I.free⟩ f,by simpa using I.len⟩ ⟨_,f,.inl rfl⟩
  .exact (f.2 b (ne_of_lt (xQ (lt_size e) I.ok.above))).trans (I.base.keep b o e n F w)
  .obtain ⟨sl,g⟩:=I.base.slot b o e n F w;exact⟨sl,(f.2 b (ne_of_lt (xQ (lt_size e) I.ok.above))).trans g⟩
  .obtain ⟨o',g⟩:=I.base.there b o e w;exact⟨o',(f.2 b (ne_of_lt (xQ (lt_size e) I.ok.above))).trans g⟩
  .by_cases hj:j=i
   .subst hj;rw[K] at g;cases g;rw[getElem?_set_self J] at D;cases D;exact⟨u,r,.inl ⟨hk,by simp⟩⟩
   .rw [getElem?_set_ne (Ne.symm hj)] at D;obtain⟨u',U,q⟩:=hl j y Y g D V;refine⟨u',U,?_⟩;rcases q with ⟨k,e⟩ | ⟨k,c,e,z⟩
    .refine .inl ⟨k,?_⟩;have:y≠x:=λe=>hj (zH2 hN g (e▸K))
     simp[this,e]
    .exact .inr ⟨k,c,e,z.sameBut f (cne y c e)⟩
  .obtain ⟨P,z⟩:=I.cell y c e;exact⟨P,z.sameBut f (cne y c e)⟩
  .obtain ⟨e,n,R,nf,d⟩:=I.pin p Z;exact⟨(f.2 p.1 R).trans e,n,R,nf,d⟩
 .have G:X.fn x=true:=by
   rcases hf with z | z
   .exact z
   .rw [z] at hk;cases hk
  obtain⟨c,t⟩:=I.ok.has x (.inl hk);obtain⟨P,z⟩:=I.cell x c t;refine wpAny_storeName_cell I.ok.kind hk t z (λh' O f=>?_);obtain⟨oc,N,L⟩:=id z;refine h { s with heap:=h' } ⟨I.ok,I.os,I.bare,⟨λb o e n F w=>?_,λb o e n F w=>?_,I.base.free,λb o e w=>?_,I.base.tups,I.base.frzs,I.base.tbls⟩,⟨m,W.sameBut f (Ne.symm (cne x c t)),λj y Y g D V=>?_⟩,λy S e=>?_,I.free,I.freeC,λp Z=>?_,l ⟨oc,N,I.freeC x c t⟩ f,by simpa using I.len⟩ ⟨c,f,.inr t⟩
  .exact (f.2 b (ne_of_lt (xQ (lt_size e) (I.ok.cab x c G t)))).trans (I.base.keep b o e n F w)
  .obtain ⟨sl,g⟩:=I.base.slot b o e n F w;exact⟨sl,(f.2 b (ne_of_lt (xQ (lt_size e) (I.ok.cab x c G t)))).trans g⟩
  .obtain ⟨o',g⟩:=I.base.there b o e w;exact⟨o',(f.2 b (ne_of_lt (xQ (lt_size e) (I.ok.cab x c G t)))).trans g⟩
  .by_cases hj:j=i
   .subst hj;rw[K] at g;cases g;rw[getElem?_set_self J] at D;cases D;exact⟨u,r,.inr ⟨.inl hk,c,t,O⟩⟩
   .rw [getElem?_set_ne (Ne.symm hj)] at D;obtain⟨u',U,q⟩:=hl j y Y g D V;refine⟨u',U,?_⟩;rcases q with q | ⟨k,S,e,z'⟩
    .exact .inl q
    .refine .inr ⟨k,S,e,z'.sameBut f ?_⟩;rintro rfl;exact hj (zH2 hN g (I.ok.inj _ _ _ e t▸K))
  .by_cases hcc:S=c
   .subst hcc;exact⟨_,O⟩
   .obtain ⟨w2,z2⟩:=I.cell y S e;exact⟨w2,z2.sameBut f hcc⟩
  .obtain ⟨e,n,R,nf,d⟩:=I.pin p Z;refine⟨(f.2 p.1 ?_).trans e,n,R,nf,d⟩;intro q;rw[q,N] at e;have q':oc=p.2:=xj e;exact d P (by rw[<- q'];exact L)
def zFd (I:Inv X pins B H s)(a:X.N.Nodup)(d:X.N[i]?=some x)(b:Loc X.env.scope x)(r:RelV v u)
  (h:∀ s',Inv X pins (B.set i (some v)) H s'->Q () s') (e:X.fn x=true\/X.env.scope.names.lookup x=some .local:=by first | exact .inl rfl | exact .inr rfl | assumption):wpAny M A (storeName X.env x u) Q E s :=
 zJd I a d b r (λs' c _=>h s' c) e
def Inv.call' (I:Inv X pins B H s)(e:s'.os=s.os)(u:Un (frs X.stack) ch H H' s.heap s'.heap)(d:HOk X.prog X.w H' s'.heap)(f:AllBare s'.gens)
  (a:∀ b∈ch,(b∈X.ex\/X.s0.heap.objs.size<=b)/\b≠X.env.locals/\(∀ x c,X.env.cells.lookup x=some c->c≠b)/\∀ p∈X.pn++pins,p.1≠b):Inv X pins B H' s':=by
 obtain⟨i,g,j,k,h⟩:=s';subst e;exact I.call u d f a
end
abbrev XK:=Value->Option Addr->Hp->Prop
abbrev St:=List (Option V)
abbrev VK:=V->Hp->Prop
abbrev TE:=St->Hp->VK->Prop
abbrev TT:=St->Hp->(Bool->Hp->Prop)->Prop
abbrev TA:=St->Hp->(List V->Hp->Prop)->Prop
structure Ends where
 nx:St->Hp->Prop
 rt:VK
 bk:St->Hp->Prop:=λ_ _=>False
 ct:St->Hp->Prop:=λ_ _=>False
abbrev TS:=Ends->St->Hp->Prop
def EP (X:Cx)(pins:List (Addr×Obj))(B:St)(Q:VK)(u:Value)(s':Shared):Prop:=∃ v H',Inv X pins B H' s'/\RelV v u/\Q v H'
def TP (X:Cx)(pins:List (Addr×Obj))(B:St)(Q:Bool->Hp->Prop)(b:Bool)(s':Shared):Prop:=∃ H',Inv X pins B H' s'/\Q b H'
def AP (X:Cx)(pins:List (Addr×Obj))(B:St)(Q:List V->Hp->Prop)(us:List Value)(s':Shared):Prop:=∃ vs H',Inv X pins B H' s'/\Vals vs us/\Q vs H'
def SP (X:Cx)(pins:List (Addr×Obj))(D:Ends)(f:Flow)(s':Shared):Prop :=
 match f with
 | .next=>∃ B' H',Inv X pins B' H' s'/\D.nx B' H'
 | .brk=>∃ B' H',Inv X pins B' H' s'/\D.bk B' H'
 | .cont=>∃ B' H',Inv X pins B' H' s'/\D.ct B' H'
 | .ret u=>∃ v B' H',Inv X pins B' H' s'/\RelV v u/\D.rt v H'
def PE (X:Cx)(e:Expr)(t:TE):Prop :=
 ∀ (pins:List (Addr×Obj)) (s:Shared) (B:St) (H:Hp) (Q:VK),Inv X pins B H s->t B H Q->wpAny (model X.prog X.w) X.A (eval e X.env) (EP X pins B Q) X.xe s
def PT (X:Cx)(e:Expr)(t:TT):Prop :=
 ∀ (pins:List (Addr×Obj)) (s:Shared) (B:St) (H:Hp) (Q:Bool->Hp->Prop),Inv X pins B H s->t B H Q->wpAny (model X.prog X.w) X.A (isTrue e X.env (eval e X.env)) (TP X pins B Q) X.xe s
def PW (X:Cx)(e:Expr)(t:TT):Prop :=
 ∀ (whole:Sem Value) (pins:List (Addr×Obj)) (s:Shared) (B:St) (H:Hp) (Q:Bool->Hp->Prop),Inv X pins B H s->t B H Q->wpAny (model X.prog X.w) X.A (isTrue e X.env whole) (TP X pins B Q) X.xe s
def PW.pt (h:PW X e t):PT X e t:=h _
def PA (X:Cx)(es:List Expr)(t:TA):Prop :=
 ∀ (pos:Pos) (pins:List (Addr×Obj)) (s:Shared) (B:St) (H:Hp) (Q:List V->Hp->Prop),Inv X pins B H s->t B H Q->wpAny (model X.prog X.w) X.A (spliced (backTo pos (starEach es X.env))) (AP X pins B Q) X.xe s
def PS (X:Cx)(st:Stmt)(t:TS):Prop :=
 ∀ (pins:List (Addr×Obj)) (s:Shared) (B:St) (H:Hp) (D:Ends),Inv X pins B H s->t D B H->wpAny (model X.prog X.w) X.A (exec st X.env) (SP X pins D) X.xe s
def PSs (X:Cx)(st:List Stmt)(t:TS):Prop :=
 ∀ (pins:List (Addr×Obj)) (s:Shared) (B:St) (H:Hp) (D:Ends),Inv X pins B H s->t D B H->wpAny (model X.prog X.w) X.A (execs st X.env) (SP X pins D) X.xe s
def thn {T:Type}{t:Sem T}{Q b:T->Shared->Prop}{M:Model}{A:Around}{E:Value->Shared->Prop}{s:Shared}(h:wpAny M A t Q E s)(c:∀ a s,Q a s->b a s):wpAny M A t b E s:=wpAny_mono h c λ_ _ x=>x
section
variable {X:Cx}
def bin {a b:Expr}{g tb:TE}(p:PE X a g)(i:PE X b tb){c:List (Addr×Obj)}{s:Shared}{B:St}{H:Hp}{R:V->V->Hp->Prop}(I:Inv X c B H s)(h:g B H λx H1=>tb B H1 λy H2=>R x y H2)
  {T:Type} {Q:T->Shared->Prop} {f:Value->Value->Sem T}
  (o:∀ v u s2 x y H2,Inv X c B H2 s2->RelV x v->RelV y u->R x y H2->wpAny (model X.prog X.w) X.A (f v u) Q X.xe s2) :
  wpAny (model X.prog X.w) X.A (eval a X.env) (λv O2=>wpAny (model X.prog X.w) X.A (eval b X.env) (λu O9=>wpAny (model X.prog X.w) X.A (f v u) Q X.xe O9) X.xe O2) X.xe s:=by
 refine thn (p c s B H _ I h) λv m d=>?_
 obtain⟨x,H1,j,r1,l⟩:=d;refine thn (i c m B H1 _ j l) λu s2 e=>?_
 obtain⟨y,H2,k,r2,n⟩:=e;exact o v u s2 x y H2 k r1 r2 n
def tVar (i:Nat):TE:=λB H Q=>∃ v,B[i]?=some (some v)/\Q v H
def tC (v:V):TE:=λ_ H Q=>Q v H
def zDS {i:Nat}{x:Str}{pos:Pos}(k:X.N[i]?=some x)(n:Vis X.env.scope x)(g:(x==("__debug__":Str))=false:=by decide)(f:(x==("__classdict__":Str))=false:=by decide):PE X (.Name x pos) (tVar i):=by
 intro d s B H Q I h;obtain⟨v,e,h⟩:=h;obtain⟨m,p,j⟩:=I.loc;obtain⟨u,r,l⟩:=j i x v k e n;have b:EP X d B Q u s:=⟨v,H,I,r,h⟩;rcases l with ⟨a,o⟩ | ⟨a,c,hc,hcell⟩
 .exact wpAny_Name (wpAny_loadName_local I.ok.kind a p o b) g
 .rcases a with a | a
  .exact wpAny_Name (wpAny_loadName_cell I.ok.kind a hc hcell b) g
  .exact wpAny_Name (wpAny_loadName_free I.ok.kind a hc hcell b f) g
def Gl (X:Cx)(x:Str):Prop:=X.env.kindOf x=some .globalImplicit
def zDo {E:Value->Shared->Prop}{a:List (Addr×Obj)}{s:Shared}{B:St}{H:Hp}{x:Str}{u:Value}{pos:Pos}{Q:Value->Shared->Prop}(I:Inv X a B H s)(c:Gl X x)(b:X.mg x=some u)(h:Q u s)
  (d:(x==("__debug__":Str))=false:=by decide):wpAny (model X.prog X.w) X.A (eval (.Name x pos) X.env) Q E s :=
 Calls.Name_function_global I.ok.kind c (Calls.loadGlobal_global (by rw[I.ok.glob];exact I.mod.glob.keeps I.bk) b h) d
def zC7 {E:Value->Shared->Prop}{a:List (Addr×Obj)}{s:Shared}{B:St}{H:Hp}{x:Str}{u:Value}{pos:Pos}{Q:Value->Shared->Prop}(I:Inv X a B H s)(f:Gl X x)(e:X.mg x=none)(c:bootBuiltins x=some u)(h:Q u s)
  (b:x ≠ "__name__":=by decide) (d:(x==("__debug__":Str))=false:=by decide):wpAny (model X.prog X.w) X.A (eval (.Name x pos) X.env) Q E s:=by
 obtain⟨g,h1,h2⟩:=I.mod.blt;exact Calls.Name_function_global I.ok.kind f (Calls.loadGlobal_builtin (by rw[I.ok.glob];exact I.mod.glob.keeps I.bk) e (by rw[I.ok.blt];exact h1.keeps I.bk) ((h2 x b).trans c) h) d
def zPE (b:Gl X x)(c:X.mg x=some u)(r:RelV v u)(a:(x==("__debug__":Str))=false:=by decide):PE X (.Name x pos) (tC v) :=
 λ_ _ _ H _ I h=>zDo I b c ⟨v,H,I,r,h⟩ a
def zPG {x:Str}{v:V}{u:Value}{pos:Pos}(b:Gl X x)(c:X.mg x=none)(a:bootBuiltins x=some u)(r:RelV v u)(d:x ≠ "__name__":=by decide)(e:(x==("__debug__":Str))=false:=by decide):PE X (.Name x pos) (tC v) :=
 λ_ _ _ H _ I h=>zC7 I b c a ⟨v,H,I,r,h⟩ d e
variable {a b:Expr}{ta tb:TE}{pos:Pos}
def tB (t:TE):TT:=λB H Q=>t B H λx H1=>∃ c,x=.bl c/\Q c H1
def zOF (h:PE X e t)(j:∀ whole,isTrue e X.env whole=(do let v<-whole;standAt e.pos;holding [v] (truthy v)):=by intro _;rfl):PT X e (tB t):=by
 intro a s B H Q I g;refine isTrue_plain (thn (h a s B H _ I g) λv k b=>?_) (j _);obtain⟨x,c,f,r1,i⟩:=b;obtain⟨d,rfl,q⟩:=i;cases r1;exact wpAny_truthy_bool ⟨c,f,q⟩
variable {tA tB':TT}{rest:List Expr}
def tAnd (t u:TT):TT:=λB H Q=>t B H λc H1=>if c=true then u B H1 Q else Q false H1
def tOr (t u:TT):TT:=λB H Q=>t B H λc H1=>if c=true then Q true H1 else u B H1 Q
def tNot (t:TT):TT:=λB H Q=>t B H λc H1=>Q (!c) H1
def zJ0 (d:PT X a tA):PW X (.BoolOp .And [a] pos) tA:=by
 intro g b s B H Q I h;refine isTrue_and (thn (d b s B H Q I h) λc f e=>?_);cases c with
 | true=>exact isTrue_and_nil e
 | false=>exact e
def zOD (d:PT X a tA):PW X (.BoolOp .Or [a] pos) tA:=by
 intro g b s B H Q I h;refine isTrue_or (thn (d b s B H Q I h) λc f e=>?_);cases c with
 | false=>exact isTrue_or_nil e
 | true=>exact e
def zOE (j:PT X a tA)(l:PW X (.BoolOp .And (b::rest) pos) tB'):PW X (.BoolOp .And (a::b::rest) pos) (tAnd tA tB'):=by
 intro k d s B H Q I h;refine isTrue_and (thn (j d s B H _ I h) λc m e=>?_);obtain⟨f,i,g⟩:=e;cases c with
 | true=>exact l k d m B f Q i g
 | false=>exact⟨f,i,g⟩
def zRZ (l:PT X a tA)(m:PW X (.BoolOp .Or (b::rest) pos) tB'):PW X (.BoolOp .Or (a::b::rest) pos) (tOr tA tB'):=by
 intro j d s B H Q I h;refine isTrue_or (thn (l d s B H _ I h) λc k e=>?_);obtain⟨i,g,f⟩:=e;cases c with
 | true=>exact⟨i,g,f⟩
 | false=>exact m j d k B i Q g f
def zRa (c:PT X a tA):PT X (.UnaryOp .Not a pos) (tNot tA):=by
 intro b s B H Q I h;exact isTrue_not (c b s B H _ I h)
def zT4 (ta tb:TE):TE:=λB H Q=>ta B H λx H1=>∃ c,x=.bl c/\if c=true then tb B H1 Q else Q (.bl false) H1
def tOrV (ta tb:TE):TE:=λB H Q=>ta B H λx H1=>∃ c,x=.bl c/\if c=true then Q (.bl true) H1 else tb B H1 Q
def zT1 (ta:TE):TE:=λB H Q=>ta B H λx H1=>∃ c,x=.bl c/\Q (.bl (!c)) H1
def zRp (l:PE X a ta)(j:PE X (.BoolOp .And (b::rest) pos) tb):PE X (.BoolOp .And (a::b::rest) pos) (zT4 ta tb):=by
 intro d s B H Q I h;refine BoolOp_and (thn (l d s B H _ I h) λv k f=>?_);obtain⟨x,g,i,r1,e⟩:=f;obtain⟨c,rfl,e⟩:=e;cases r1;refine wpAny_truthy_bool ?_;cases c with
 | true=>exact j d k B g Q i e
 | false=>exact⟨.bl false,g,i,rfl,e⟩
def zUB (l:PE X a ta)(k:PE X (.BoolOp .Or (b::rest) pos) tb):PE X (.BoolOp .Or (a::b::rest) pos) (tOrV ta tb):=by
 intro d s B H Q I h;refine BoolOp_or (thn (l d s B H _ I h) λv j f=>?_);obtain⟨x,g,i,r1,e⟩:=f;obtain⟨c,rfl,e⟩:=e;cases r1;refine wpAny_truthy_bool ?_;cases c with
 | false=>exact k d j B g Q i e
 | true=>exact⟨.bl true,g,i,rfl,e⟩
def zRl (f:PE X a ta):PE X (.UnaryOp .Not a pos) (zT1 ta):=by
 intro b s B H Q I h;refine UnaryOp_ (thn (f b s B H _ I h) λv j e=>?_);obtain⟨x,g,i,r1,d⟩:=e;obtain⟨c,rfl,d⟩:=d;cases r1;exact not_of (wpAny_truthy_bool ⟨.bl _,g,i,rfl,d⟩)
def tIf (t:TT)(ta tb:TE):TE:=λB H Q=>t B H λc H1=>if c=true then ta B H1 Q else tb B H1 Q
def zMb (n:PT X c tA)(l:PE X a ta)(m:PE X b tb):PE X (.IfExp c a b pos) (tIf tA ta tb):=by
 intro e s B H Q I h;refine wpAny_IfExp (thn (n e s B H _ I h) λd j f=>?_);obtain⟨g,k,i⟩:=f;cases d with
 | true=>exact l e j B g Q k i
 | false=>exact m e j B g Q k i
end
def SqL (K:W.Frag)(H:Hp)(a:Addr)(xs:List V):Prop :=
 Rd H a (.lst xs) \/
  ∃ (o:Obj) (its:Array Value) (n:Nat),K.lookup a=some o/\o.cls=.type "list"/\o.dict=none/\o.data=.seq its n/\its.size<=sizeLine/\Vals xs its.toList
def SqT (K:W.Frag)(H:Hp)(a:Addr)(xs:List V):Prop :=
 Rd H a (.tup xs) \/
  ∃ (o:Obj) (its:Array Value) (n:Nat),K.lookup a=some o/\o.cls=.type "tuple"/\o.data=.seq its n/\its.size<=sizeLine/\Vals xs its.toList
noncomputable def absV:Value->Option V
 | .none=>some .non
 | .bool b=>some (.bl b)
 | .int i _=>some (.int i)
 | .str x _=>some (.str x)
 | .bytes b _=>some (.byt b)
 | .float b _=>some (.flt b)
 | .ref a=>some (.ref a)
 | .type n=>some (.ty n)
 | _=>none
def RelV.abs (r:RelV x u):absV u=some x:=by
 cases x with
 | non=>cases r;rfl
 | bl _=>cases r;rfl
 | int _=>obtain⟨t,rfl⟩:=r;rfl
 | str _=>obtain⟨t,rfl⟩:=r;rfl
 | byt _=>obtain⟨t,rfl⟩:=r;rfl
 | flt _=>obtain⟨t,rfl⟩:=r;rfl
 | ref _=>cases r;rfl
 | ty _=>cases r;rfl
def RelV.inj (r:RelV x u)(q:RelV y u):x=y:=xj (r.abs.symm.trans q.abs)
theorem Vals.inj:∀ {xs ys:List V} {us:List Value},Vals xs us->Vals ys us->xs=ys
 | _,_,_,.nil,.nil=>rfl
 | _,_,_,.cons r t,.cons r' t'=>by rw[r.inj r',Vals.inj t t']
section
variable {X:Cx}{pins:List (Addr×Obj)}{B:St}{H:Hp}{s:Shared}{a:Addr}{xs ys:List V}
def SqL.of {K:W.Frag}(h:H a=some (.lst xs)):SqL K H a xs:=.inl (.inl h)
def SqT.of {K:W.Frag}(h:H a=some (.tup xs)):SqT K H a xs:=.inl (.inl h)
def Inv.list (I:Inv X pins B H s)(h:SqL X.K H a xs):∃ its:List Value,Vals xs its/\PlainL s.heap a its.toArray/\xs.length<=sizeLine:=by
 rcases h with h | ⟨o,its,n,hk,hc,hd,hs,hz,r⟩
 .obtain ⟨z,its,n,r,e⟩:=h.ok I.hok;exact⟨its,r,⟨_,n,e,rfl,rfl,rfl⟩,z⟩
 .refine ⟨its.toList,r,⟨o,n,I.kIn a o hk,hc,hd,by simpa using hs⟩,?_⟩;have e:=r.length;grind
def Inv.tuple (I:Inv X pins B H s)(h:SqT X.K H a xs):∃ its:List Value,Vals xs its/\IsTup s.heap a its.toArray/\xs.length<=sizeLine:=by
 rcases h with h | ⟨o,its,n,hk,hc,hs,hz,r⟩
 .obtain ⟨z,its,r,p⟩:=h.ok I.hok;exact⟨its,r,p,z⟩
 .refine ⟨its.toList,r,⟨o,I.kIn a o hk,hc,n,by simpa using hs⟩,?_⟩;have e:=r.length;grind
def Inv.list_inj (I:Inv X pins B H s)(h:SqL X.K H a xs)(h':SqL X.K H a ys):xs=ys:=by
 obtain⟨c,r,⟨o,n,e,_,_,d⟩,_⟩:=I.list h;obtain⟨b,f,⟨g,i,j,_,_,k⟩,_⟩:=I.list h'
 simp_all
 exact r.inj f
def Inv.tuple_inj (I:Inv X pins B H s)(h:SqT X.K H a xs)(h':SqT X.K H a ys):xs=ys:=by
 obtain⟨c,r,⟨o,e,_,n,d⟩,_⟩:=I.tuple h;obtain⟨b,f,⟨k,g,_,j,i⟩,_⟩:=I.tuple h'
 simp_all
 exact r.inj f
end
abbrev Cx.wish (X:Cx) (E:Value->Shared->Prop):Cx:={ X with xe:=E }
abbrev Cx.nox (X:Cx):Cx:=X.wish λ_ _=>False
def Cx.Ok.wish {X:Cx}(ok:X.Ok)(E:Value->Shared->Prop):(X.wish E).Ok :=
 ⟨ok.mod,ok.kind,ok.glob,ok.blt,ok.above,ok.inj,ok.has,ok.cab,ok.hd,ok.frames,ok.stk,ok.exf,ok.bs,ok.bsz,ok.noex,ok.exfs,ok.funs,ok.frf,ok.pyl,ok.tabs⟩
def Cx.Ok.unwish {X:Cx}(ok:(X.wish E).Ok):X.Ok :=
 ⟨ok.mod,ok.kind,ok.glob,ok.blt,ok.above,ok.inj,ok.has,ok.cab,ok.hd,ok.frames,ok.stk,ok.exf,ok.bs,ok.bsz,ok.noex,ok.exfs,ok.funs,ok.frf,ok.pyl,ok.tabs⟩
section
variable {X:Cx}{pins:List (Addr×Obj)}{B:St}{H:Hp}{s:Shared}{E:Value->Shared->Prop}
def Inv.wish (I:Inv X pins B H s)(E:Value->Shared->Prop):Inv (X.wish E) pins B H s:=⟨I.ok.wish E,I.os,I.bare,I.base,I.loc,I.cell,I.free,I.freeC,I.pin,I.hok,I.len⟩
def Inv.unwish (I:Inv (X.wish E) pins B H s):Inv X pins B H s:=⟨I.ok.unwish,I.os,I.bare,I.base,I.loc,I.cell,I.free,I.freeC,I.pin,I.hok,I.len⟩
def SP.unwish (h:SP (X.wish E) pins D f s'):SP X pins D f s':=by
 cases f with
 | next=>obtain⟨b,a,I,q⟩:=h;exact⟨b,a,I.unwish,q⟩
 | brk=>obtain⟨b,a,I,q⟩:=h;exact⟨b,a,I.unwish,q⟩
 | cont=>obtain⟨b,a,I,q⟩:=h;exact⟨b,a,I.unwish,q⟩
 | ret u=>obtain⟨v,b,a,I,r,q⟩:=h;exact⟨v,b,a,I.unwish,r,q⟩
def PE.nox (h:PE X.nox e t):PE X e t:=λpins s B H Q I f =>
 wpAny_mono (h pins s B H Q (I.wish _) f) (λ_ _ a=>by obtain⟨v,c,d,r,q⟩:=a;exact⟨v,c,d.unwish,r,q⟩) λ_ _ z=>False.elim z
def PSs.nox {st:List Stmt}(h:PSs X.nox st t):PSs X st t:=λpins s B H D I b =>
 wpAny_mono (h pins s B H D (I.wish _) b) (λ_ _ q=>q.unwish) λ_ _ z=>False.elim z
end
section
variable {X:Cx}{st:Stmt}{rest:List Stmt}{t u:TS}{e:Expr}{te:TE}{pos:Pos}
def zT2:TS:=λD B H=>D.nx B H
def tSeq (t u:TS):TS:=λD B H=>t { D with nx:=u D } B H
def zHF:PSs X [] zT2:=λ_ _ B H _ I h=>wpAny_execs_nil ⟨B,H,I,h⟩
def zFl (h1:PS X st t)(h2:PSs X rest u):PSs X (st::rest) (tSeq t u):=by
 intro a s B H D I h;refine wpAny_execs_cons (thn (h1 a s B H { D with nx:=u D } I h) λf e q=>?_);cases f with
 | next =>
  obtain⟨d,b,c,q⟩:=q;exact h2 a e d b D c q
 | ret v=>exact q
 | brk=>exact q
 | cont=>exact q
def Inv.quiet {a:List (Addr×Obj)}{B:St}{H:Hp}{s:Shared}(I:Inv X a B H s):interactive X.env=false:=by simp[interactive,I.ok.kind]
def zT3 (te:TE):TS:=λD B H=>te B H λ_ H1=>D.nx B H1
def zEN (c:PE X e te)(i:swapsWith e none pos.line X.env=pure false:=by rfl):PS X (.Expr e pos) (zT3 te):=by
 intro b s B H D I h;exact wpAny_Expr_any (thn (c b s B H _ I h) λv j a=>by obtain⟨x,g,f,r1,d⟩:=a;exact⟨B,g,f,d⟩) I.quiet i
def tRet (te:TE):TS:=λD B H=>te B H D.rt
def zJ2 (g:PE X e te):PS X (.Return (some e) pos) (tRet te):=by
 intro b s B H D I h;exact wpAny_Return_some (thn (g b s B H _ I h) λv i a=>by obtain⟨x,c,d,r1,f⟩:=a;exact⟨x,B,c,d,r1,f⟩)
def tIfS (c:TT)(t u:TS):TS:=λD B H=>c B H λb H1=>if b=true then t D B H1 else u D B H1
def zRb (n:PT X c tc)(m:PSs X a t)(l:PSs X b u):PS X (.If c a b pos) (tIfS tc t u):=by
 intro e s B H D I h;refine wpAny_If (thn (n e s B H _ I h) λd j f=>?_);obtain⟨i,k,g⟩:=f;cases d with
 | true=>exact m e j B i D k g
 | false=>exact l e j B i D k g
def zRI:TS:=λ_ _ _=>False
def zFm:PS X st zRI:=λ_ _ _ _ _ _ h=>h.elim
end
abbrev TG:=V->St->Hp->(St->Hp->Prop)->Prop
def PG (X:Cx)(target:Expr)(t:TG):Prop :=
 ∀ (pins:List (Addr×Obj)) (s:Shared) (B:St) (H:Hp) (v:V) (u:Value) (Q:St->Hp->Prop),Inv X pins B H s->RelV v u->t v B H Q ->
  wpAny (model X.prog X.w) X.A (assign target X.env u) (λ_ s'=>∃ B' H',Inv X pins B' H' s'/\Q B' H') X.xe s
abbrev TSet:=V->V->V->Hp->(Hp->Prop)->Prop
def PSet (X:Cx)(t:TSet):Prop :=
 ∀ (pins:List (Addr×Obj)) (s:Shared) (B:St) (H:Hp) (o i v:V) (ov iv u:Value) (Q:Hp->Prop),Inv X pins B H s->RelV o ov->RelV i iv->RelV v u->t o i v H Q ->
  wpAny (model X.prog X.w) X.A (setItem ov iv u) (λ_ s'=>∃ H',Inv X pins B H' s'/\Q H') X.xe s
abbrev TIp:=V->V->Hp->VK->Prop
def PIp (X:Cx)(op:Operator)(t:TIp):Prop :=
 ∀ (pins:List (Addr×Obj)) (s:Shared) (B:St) (H:Hp) (x y:V) (v u:Value) (Q:VK),Inv X pins B H s->RelV x v->RelV y u->t x y H Q ->
  wpAny (model X.prog X.w) X.A (inplaceOp op v u) (EP X pins B Q) X.xe s
section
variable {X:Cx}{pos:Pos}
def zTA (i:Nat):TG:=λv B H Q=>Q (B.set i (some v)) H
def zFo (f:X.N.Nodup)(c:X.N[i]?=some x)(e:Loc X.env.scope x)(b:X.fn x=true\/X.env.scope.names.lookup x=some .local:=by first | exact .inl rfl | exact .inr rfl | assumption):PG X (.Name x pos) (zTA i):=by
 intro a s B H v u Q I r h;exact wpAny_assign_Name (zFd I f c e r (λs' d=>⟨_,H,d,h⟩) b)
def gSub (to ti:TE)(t:TSet):TG:=λv B H Q=>to B H λo H1=>ti B H1 λi H2=>t o i v H2 λH3=>Q B H3
def zRg (z:PE X o to)(m:PE X i ti)(l:PSet X t)
  (n:∀ v,assign (.Subscript o i pos) X.env v=(do
   let ov<-holding [v] (eval o X.env)
   let iv<-holding [v,ov] (eval i X.env)
   standAt pos
   holding [v,ov,iv] (setItem ov iv v)
   release [v,ov,iv] []):=by intro _;rfl):PG X (.Subscript o i pos) (gSub to ti t):=by
 intro a s B H v u Q I r h;rw[n];refine qX (wpAny_holding (thn (z a s B H _ I h) λov D b=>?_));obtain⟨x,p,f,r1,k⟩:=b;refine qX (wpAny_holding (thn (m a D B p _ f k) λiv C c=>?_));obtain⟨y,q,e,r2,g⟩:=c;refine qX (wpAny_standAt (qX (wpAny_holding (thn (l a C B q x y v ov iv u _ e r1 r2 r g) λ_ E d=>?_))));obtain⟨A,w,j⟩:=d;exact wpAny_release ⟨B,A,w,j⟩
def tAsg (te:TE)(g:TG):TS:=λD B H=>te B H λx H1=>g x B H1 D.nx
def zRe {b e:Expr}{d:TE}{g:TG}(k:PE X e d)(i:PG X b g)(o:swapsWithSole [b] e pos.line X.env=pure false:=by rfl)(f:swappedStores [b] e X.env=pure none:=by rfl)
  (h1:(assignEach [b] X.env).map (·.2)=[assign b X.env]:=by rfl):PS X (.Assign [b] e pos) (tAsg d g):=by
 intro a s B H D I h;refine wpAny_Assign_stores (thn (k a s B H _ I h) λv j c=>?_) o f;obtain⟨x,m,l,r1,n⟩:=c;rw[h1];exact thn (i a j B m x v _ l r1 n) λ_ p q=>q
def zOG (f:X.N.Nodup)(o:X.N[i]?=some x)(m:Loc X.env.scope x)(l:PE X e te)(c:swapsWith e (some (.Name x pos')) pos.line X.env=pure false:=by rfl)(n:X.fn x=true\/X.env.scope.names.lookup x=some .local:=by first | exact .inl rfl | exact .inr rfl | assumption) :
  PS X (.Assign [.Name x pos'] e pos) (tAsg te (zTA i)):=by
 intro a s B H D I h;refine wpAny_Assign_Name (thn (l a s B H _ I h) λv p b=>?_) c;obtain⟨y,d,g,r1,k⟩:=b;exact zFd g f o m r1 (λs2 j=>⟨_,d,j,k⟩) n
def tAug (i:Nat)(te:TE)(ti:TIp):TS:=λD B H=>∃ x,B[i]?=some (some x)/\te B H λy H1=>ti x y H1 λz H2=>D.nx (B.set i (some z)) H2
def zRd (G:X.N.Nodup)(j:X.N[i]?=some x)(g:Loc X.env.scope x)(O:PE X e te)(P:PIp X op ti)(p:X.fn x=true\/X.env.scope.names.lookup x=some .local:=by first | exact .inl rfl | exact .inr rfl | assumption) :
  PS X (.AugAssign (.Name x pos') op e pos) (tAug i te ti):=by
 intro a s B H D I h;obtain⟨v,C,h⟩:=h;obtain⟨m,t,z⟩:=I.loc;obtain⟨u,r,l⟩:=z i x v j C (by rcases g with k | k;exact .inl k;exact .inr (.inl k));refine wpAny_AugAssign_Name ?_;have n:wpAny (model X.prog X.w) X.A (eval e X.env) (λw M=>wpAny (model X.prog X.w) X.A (inplaceOp op u w) (λr J=>wpAny (model X.prog X.w) X.A (storeName X.env x r) (λ_=>SP X a D .next) X.xe J) X.xe M) X.xe s:=by
  refine thn (O a s B H _ I h) λw K f=>?_
  obtain⟨y,N,L,r1,o⟩:=f;refine thn (P a K B N v y u w _ L r r1 o) λz S d=>?_
  obtain⟨R,E,F,r2,A⟩:=d;exact zFd F G j g r2 (λs3 Q=>⟨_,E,Q,A⟩) p
 rcases l with ⟨b,q⟩ | ⟨b,c,hc,hcell⟩
 .exact wpAny_loadName_local I.ok.kind b t q n
 .rcases b with b | b
  .exact wpAny_loadName_cell I.ok.kind b hc hcell n
  .rcases g with k | k
   .have:X.env.scope.names.lookup x=some .free:=b;rw[k] at this;cases this
   .have:X.env.scope.names.lookup x=some .free:=b;rw[k] at this;cases this
end
section
variable {X:Cx}{pos:Pos}
def zRG (c:TT)(tb:TS):TS:=λD B H=>∃ W:Nat->St->Hp->Prop,(∃ m,W m B H)/\∀ m B H,W m B H ->
 c B H λb H1=>if b=true then ∃ N:St->Hp->Prop,(∀ B' H',N B' H'->∃ m',m' < m/\W m' B' H')/\tb { D with nx:=N,ct:=N,bk:=D.nx } B H1 else D.nx B H1
def zMY (u:PassesOwn (model X.prog X.w) X.A X.env X.xe)(y:PT X c tc)(K:PSs X body tb):PS X (.While c body [] pos) (zRG tc tb):=by
 intro a s B H D I h;obtain⟨W,⟨E,A⟩,turn⟩:=h;refine wpAny_While (codeAny_whileLoop (λn C=>∃ B' H',Inv X a B' H' C/\W n B' H') ?_ E ⟨B,H,I,A⟩);rintro n G ⟨j,w,F,z⟩;refine wpAny_passesOwn u (thn (y a G j w _ F (turn n j w z)) λb J e=>?_);obtain⟨t,x,k⟩:=e;cases b with
 | true =>
  obtain⟨N,r,k⟩:=k;refine wpAny_passesOwn u (thn (K a J j t _ x k) λf L i=>?_);cases f with
  | next =>
   obtain⟨d,g,m,q⟩:=i;obtain⟨l,o,p⟩:=r d g q;exact⟨l,o,d,g,m,p⟩
  | cont =>
   obtain⟨d,g,m,q⟩:=i;obtain⟨l,o,p⟩:=r d g q;exact⟨l,o,d,g,m,p⟩
  | brk=>exact i
  | ret v=>exact i
 | false =>
  exact wpAny_execs_nil ⟨j,t,x,k⟩
end
structure It where
 go:Nat->Hp->Prop
 yld:Nat->Hp->V->Hp->Prop
 stop:Nat->Hp->Prop
def FpOk (X:Cx)(pins:List (Addr×Obj))(H:Hp)(b:Addr):Prop :=
 H b=none/\b≠X.env.locals/\b∉X.fs/\(b∈X.ex\/X.s0.heap.objs.size<=b)/\(∀ x c,X.env.cells.lookup x=some c->c≠b)/\∀ p∈X.pn++pins,p.1≠b
def Inv.fpOk {X:Cx}{a:List (Addr×Obj)}{B:St}{H f:Hp}{s:Shared}{b:Addr}(I:Inv X a B H s)(d:s.heap.objs.size<=b)(g:f b=none):FpOk X a f b:=by
 refine⟨g,Nat.ne_of_gt (xQ I.lt d),I.nofs d,.inr (le_trans I.sz d),λx c e z=>?_,λp h z=>?_⟩
 .obtain ⟨v,q⟩:=I.cell x c e;exact absurd (xQ q.lt (by simp_all)) (lt_irrefl _)
 .exact absurd (xQ (lt_size (I.pin p h).1) (by simp_all)) (lt_irrefl _)
structure Turn (P:Program)(w:World)(K:W.Frag)(tg:Expr)(J:It)(fp:List Addr)(it:Addr)(tn:Nat->Heap->Prop):Prop where
 mem:it∈fp
 obj:∀ i h,tn i h->∀ b∈fp,∃ o,h.get? b=some o/\∀ v,o.data≠.cell v
 keep:∀ i h h',tn i h->(∀ b∈fp,∀ o,h.get? b=some o->h'.get? b=some o)->tn i h'
 item:∀ (X:Cx),X.prog=P->X.w=w->X.K=K->X.calm=true->∀ (i:Nat) (pins:List (Addr×Obj)) (s:Shared) (B:St) (H:Hp) (E:Value->Shared->Prop),Inv X pins B H s->(∀ b∈fp,FpOk X pins H b)->tn i s.heap->J.go i H ->
  wpAny (model P w) X.A (pyNext (.ref it)) (λr s1=>∃ u,r=some u /\
   wpAny (model P w) X.A (letOwnedTupleGo tg (.ref it) u) (λ_ s2=>∃ x H',Inv X pins B H' s2/\RelV x u/\J.yld i H x H'/\tn (i+1) s2.heap/\∀ b∈fp,H' b=none) E s1) E s
 done:∀ (X:Cx),X.prog=P->X.w=w->X.K=K->X.calm=true->∀ (i:Nat) (pins:List (Addr×Obj)) (s:Shared) (B:St) (H:Hp) (E:Value->Shared->Prop),Inv X pins B H s->(∀ b∈fp,FpOk X pins H b)->tn i s.heap->J.stop i H ->
  wpAny (model P w) X.A (pyNext (.ref it)) (λr s1=>r=none/\Inv X pins B H s1) E s
 self:∀ (A:Around) (i:Nat) (s:Shared) (Q:Value->Shared->Prop) (E:Value->Shared->Prop),tn i s.heap->Q (.ref it) s->wpAny (model P w) A (pyIter (.ref it)) Q E s
abbrev TI:=St->Hp->(It->Hp->Prop)->Prop
def PIE (X:Cx)(pins:List (Addr×Obj))(B:St)(tg:Expr)(R:It->Hp->Prop)(itv:Value)(s2:Shared):Prop :=
 ∃ (it:Addr) (fp:List Addr) (tn:Nat->Heap->Prop) (J:It) (H':Hp),itv=.ref it/\Inv X pins B H' s2/\Turn X.prog X.w X.K tg J fp it tn/\tn 0 s2.heap/\(∀ b∈fp,FpOk X pins H' b)/\R J H'
def PI (X:Cx)(tg iter:Expr)(wi:TI):Prop :=
 ∀ (pins:List (Addr×Obj)) (s:Shared) (B:St) (H:Hp) (R:It->Hp->Prop),Inv X pins B H s->wi B H R ->
  wpAny (model X.prog X.w) X.A (eval iter X.env) (λv s1=>wpAny (model X.prog X.w) X.A (pyIter v) (PIE X pins B tg R) X.xe s1) X.xe s
def zNF (b:s.heap.get? it=some o)(d:o.cls=.type n)(c:o.data=.fields vs)
  (e:["enumerate","zip","dict_itemiterator","dict_reverseitemiterator","odict_iterator","itertools.zip_longest","itertools.pairwise"].contains n=false) (a:Q () s):wpAny M A (letOwnedTupleGo tg (.ref it) u) Q E s:=by
 cases tg<;>first
  | exact q9 a
  | cases u<;>first
    | exact q9 a
    | (refine qX (wpAny_load b ?_);rw[d,c];show wpAny M A (if _=true then _ else _) Q E s;rw[if_neg (by grind)];exact q9 a)
noncomputable def Itl (K:W.Frag)(a:Addr):It :=
 ⟨λi H=>∃ xs x,SqL K H a xs/\xs[i]?=some x,λi H x H'=>H'=H/\∀ xs,SqL K H a xs->xs[i]?=some x,λi H=>∃ xs,SqL K H a xs/\xs.length<=i⟩
noncomputable def Itt (K:W.Frag)(a:Addr):It :=
 ⟨λi H=>∃ xs x,SqT K H a xs/\xs[i]?=some x,λi H x H'=>H'=H/\∀ xs,SqT K H a xs->xs[i]?=some x,λi H=>∃ xs,SqT K H a xs/\xs.length<=i⟩
noncomputable def Itr (lo:Int)(n:Nat):It:=⟨λi _=>i < n,λi H x H'=>H'=H/\x=.int (lo+i),λi _=>n<=i⟩
def zJV {P:Program}{w:World}{K:W.Frag}{T:Expr}(a it:Addr):Turn P w K T (Itl K a) [it] it (λi h=>h.IsListIter it a i) where
 mem:=by simp
 obj:=λi h f b j=>by
  have e:b=it:=by simpa using j
  subst e;obtain⟨o,e,c,d⟩:=f;exact⟨o,e,λv z=>by rw[d] at z;cases z⟩
 keep:=λi h h' f k=>f.at λo e=>k it (by simp) o e
 item:=by
  intro X v G C L i g s B H E I m f y;subst v G C;obtain⟨U,x,hq,t⟩:=y;obtain⟨r,A,p,O⟩:=I.list hq;obtain⟨u,Q,Y⟩:=A.get t;obtain⟨n,F,S,q,J,D⟩:=m it (by simp);refine wpAny_pyNext_list_item f p.isList (x:=u) (by simpa using Q) λh' l Z=>?_
  have N:Inv X g B H { s with heap:=h' }:=I.turned (t':=s.toks) (λb o j e=>(Z.2 b j).trans e) n F q J D;obtain⟨o,e,c,d⟩:=id l;exact⟨u,rfl,zNF (s:={ s with heap:=h' }) e c d (by decide) ⟨x,H,N,Y,⟨rfl,λys V=>by rw[I.list_inj V hq];exact t⟩,l,λb j=>(m b j).1⟩⟩
 done:=by
  intro X v G C L i g s B H E I m f y;subst v G C;obtain⟨U,hq,t⟩:=y;obtain⟨r,A,p,O⟩:=I.list hq;obtain⟨n,F,S,q,J,D⟩:=m it (by simp);have hl:=A.length;exact wpAny_pyNext_list_end (I.ok.hd L) f p.isList (by simp;omega) λh' R=>⟨rfl,I.turned (t':=s.toks) (λb o j e=>R b o j e) n F q J D⟩
 self:=λ_ _ _ _ _ f h=>wpAny_pyIter_listiter f h
def zIi {P:Program}{w:World}{K:W.Frag}{N:Expr}(a it:Addr):Turn P w K N (Itt K a) [it] it (λi h=>h.IsTupleIter it a i) where
 mem:=by simp
 obj:=λi h f b j=>by
  have e:b=it:=by simpa using j
  subst e;obtain⟨o,e,c,d⟩:=f;exact⟨o,e,λv z=>by rw[d] at z;cases z⟩
 keep:=λi h h' f k=>f.at λo e=>k it (by simp) o e
 item:=by
  intro X A r y L i g s B H E I n f G;subst A r y;obtain⟨Y,x,hq,J⟩:=G;obtain⟨l,C,p,R⟩:=I.tuple hq;obtain⟨u,Q,Z⟩:=C.get J;obtain⟨v,q,O,t,F,D⟩:=n it (by simp);refine wpAny_pyNext_tuple_item f (show s.heap.IsTuple a l.toArray from p) (x:=u) (by simpa using Q) λh' m V=>?_
  have S:Inv X g B H { s with heap:=h' }:=I.turned (t':=s.toks) (λb o j e=>(V.2 b j).trans e) v q t F D;obtain⟨o,e,c,d⟩:=id m;exact⟨u,rfl,zNF (s:={ s with heap:=h' }) e c d (by decide) ⟨x,H,S,Z,⟨rfl,λys T=>by rw[I.tuple_inj T hq];exact J⟩,m,λb j=>(n b j).1⟩⟩
 done:=by
  intro X A r y L i g s B H E I n f G;subst A r y;obtain⟨Y,hq,J⟩:=G;obtain⟨l,C,p,R⟩:=I.tuple hq;obtain⟨v,q,O,t,F,D⟩:=n it (by simp);have hl:=C.length;exact wpAny_pyNext_tuple_end (I.ok.hd L) f (show s.heap.IsTuple a l.toArray from p) (by simp;omega) λh' U=>⟨rfl,I.turned (t':=s.toks) (λb o j e=>U b o j e) v q t F D⟩
 self:=λ_ _ _ _ _ f h=>wpAny_pyIter_tupleiter f h
def zIj {P:Program}{w:World}{K:W.Frag}{F:Expr}(it:Addr)(j:Int)(n:Nat):Turn P w K F (Itr j n) [it] it (λi h=>IsRangeIter h it (j+(i:Nat)*1) ((n:Int) - (i:Nat)) 1) where
 mem:=by simp
 obj:=λi h a b d=>by
  simp_all
 keep:=λi h l a k=>k it (by simp) _ a
 item:=by
  intro X v y A x i c s B H E I g a q;subst v y A;obtain⟨m,p,G,r,u,z⟩:=g it (by simp);have W:=Walks.range (prog:=X.prog) (w:=X.w) (I.ok.hd x) it j 1 n;refine W.item i s _ _ q a λv l C D f M=>?_
  obtain⟨t,rfl⟩:=D;have J:Inv X c B H { s with heap:=l,toks:=C }:=I.turned (λb o d e=>M b o (by simpa using d) e) m p r u z;refine⟨_,rfl,zNF (s:={ s with heap:=l,toks:=C }) (n := "range_iterator") f rfl rfl (by decide) ⟨.int (j+i),H,J,⟨t,?_⟩,⟨rfl,rfl⟩,f,λb d=>(g b d).1⟩⟩;rw[Int.mul_one]
 done:=by
  intro X v y A x i c s B H E I g a q;subst v y A;obtain⟨m,p,G,r,u,z⟩:=g it (by simp);exact wpAny_pyNext_range_end (I.ok.hd x) a (by have:n<=i:=q;omega) λh' L=>⟨rfl,I.turned (t':=s.toks) (λb o d e=>L b o d e) m p r u z⟩
 self:=λ_ _ _ _ _ a h=>wpAny_pyIter_rangeiter a h
section
variable {X:Cx}{tg:Expr}
def zHx {a:Int}(I:Inv X pins B H s)(h1:-(2^62)<=a)(h2:a < 2^62)(h3:-(2^62)<=hi)(h4:hi < 2^62)
  (q:R (Itr a (hi - a).toNat) H):wpAny (model X.prog X.w) X.A (pyIter (.ref s.heap.objs.size)) (PIE X pins B tg R) E { s with heap:=s.heap.push { cls:=.type "range",data:=.fields #[.int a t,.int hi u,.int 1 v] },toks:=tk }:=by
 refine wpAny_pyIter_range (IsRange.new ..) (small_one h1 h2 h3 h4) ?_;have c:Inv X pins B H { s with heap:=s.heap.push { cls:=.type "range",data:=.fields #[.int a t,.int hi u,.int 1 v] },toks:=tk }:=I.kept λb o e=>get?_push_of_some _ e
 refine⟨(s.heap.push { cls:=.type "range",data:=.fields #[.int a t,.int hi u,.int 1 v] }).objs.size,[(s.heap.push { cls:=.type "range",data:=.fields #[.int a t,.int hi u,.int 1 v] }).objs.size],_,_,H,rfl,
  c.kept λb o e=>get?_push_of_some _ e,zIj _ a (hi - a).toNat,?_,λb f=>?_,q⟩
 .have g:a+((0:Nat):Int)*1=a:=by simp
  have d:(((hi - a).toNat:Nat):Int) - ((0:Nat):Int)=Builtin.Range.rangeSize a hi 1:=by rw[rangeSize_one];split<;>omega
  rw[g,d];exact get?_push_size _ rfl
 .have e:b=(s.heap.push { cls:=.type "range",data:=.fields #[.int a t,.int hi u,.int 1 v] }).objs.size:=by simpa using f
  subst e;exact c.fpOk (le_refl _) (c.hok.fresh (le_refl _))
def zUZ (ta:TA):TI:=λB H R=>ta B H λvs H1=>∃ j:Int,vs=[.int j]/\-(2^62)<=j/\j < 2^62/\R (Itr 0 j.toNat) H1
def zUY (ta:TA):TI:=λB H R=>ta B H λvs H1=>∃ i j:Int,vs=[.int i,.int j]/\(-(2^62)<=i/\i < 2^62/\-(2^62)<=j/\j < 2^62)/\R (Itr i (j - i).toNat) H1
def zGS (g:Gl X "range")(m:X.mg "range"=none)(i:PA X [a] ta)(f:starEach [a] X.env=[(false,eval a X.env)]:=by rfl):PI X tg (.Call (.Name "range" p) [a] [] pos) (zUZ ta):=by
 intro c s B H R I h;refine Call_ (zC7 I g m boot_range (PyProof.Rows.callWith_type1 (thn (i pos c s B H _ I h) λus u b=>?_) f rfl));obtain⟨v,o,n,r1,d⟩:=b;obtain⟨j,e,d,k,q⟩:=d;subst e;cases r1 with
 | cons r l =>
  cases l;obtain⟨t,rfl⟩:=r;exact call_range_1 (zHx n (by omega) (by omega) d k (by simp_all))
def zJ6 {a b:Expr}{l:TA}{p pos:Pos}(x:Gl X "range")(y:X.mg "range"=none)(u:PA X [a,b] l)(z:starEach [a,b] X.env=[(false,eval a X.env),(false,eval b X.env)]:=by rfl)(g:starEach [b] X.env=[(false,eval b X.env)]:=by rfl) :
  PI X tg (.Call (.Name "range" p) [a,b] [] pos) (zUY l):=by
 intro c s B H R I h;refine Call_ (zC7 I x y boot_range (PyProof.Rows.callWith_type1 (thn (u pos c s B H _ I h) λus E d=>?_) (by simp_all) (by rw[g];rfl)));obtain⟨D,A,m,r1,f⟩:=d;obtain⟨i,j,e,⟨f,n,o,w⟩,q⟩:=f;subst e;cases r1 with
 | cons r k =>
  cases k with
  | cons v k =>
   cases k;obtain⟨t,rfl⟩:=r;obtain⟨C,rfl⟩:=v;exact call_range_2 (zHx m f n o w q)
def tFor (wi:TI)(g:TG)(tb:TS):TS:=λD B H=>wi B H λJ H1=>∃ W:Nat->Nat->St->Hp->Prop,(∃ m,W 0 m B H1)/\∀ i m B H,W i m B H ->
 (J.stop i H/\D.nx B H)\/(J.go i H/\∃ N:St->Hp->Prop,(∀ B' H',N B' H'->∃ m',m' < m/\W (i+1) m' B' H')/\∀ x H',J.yld i H x H'->g x B H' λB2 H2=>tb { D with nx:=N,ct:=N,bk:=D.nx } B2 H2)
noncomputable def zCb (fp:List Addr)(h:Heap):List (Addr×Obj):=fp.filterMap λb=>(h.get? b).map λo=>(b,o)
def zCv (a:b∈fp)(e:h.get? b=some o):(b,o)∈zCb fp h:=List.mem_filterMap.mpr ⟨b,a,by rw[e];rfl⟩
def zGX (d:p∈zCb fp h):p.1∈fp/\h.get? p.1=some p.2:=by
 obtain⟨b,a,e⟩:=List.mem_filterMap.mp d;cases q:h.get? b with
 | none=>rw[q] at e;cases e
 | some o =>
  rw[q] at e;have c:=xj e;subst c;exact⟨a,q⟩
def Inv.pinned {a:List (Addr×Obj)}{B:St}{H:Hp}{s:Shared}{fp:List Addr}(I:Inv X a B H s)(d:∀ b∈fp,FpOk X a H b)(f:∀ b∈fp,∃ o,s.heap.get? b=some o/\∀ v,o.data≠.cell v):Inv X (a++zCb fp s.heap) B H s :=
 I.pins_of λp g=>(mem_append.mp g).elim (λz=>I.pin p (xq _ z)) λz=>by
  obtain⟨c,e⟩:=zGX z;obtain⟨i,j,h,_⟩:=d p.1 c;obtain _:=f p.1 c
  simp_all
def Inv.unpinned {a pl:List (Addr×Obj)}{B:St}{H:Hp}{s:Shared}(I:Inv X (a++pl) B H s):Inv X a B H s:=I.pins_of λp b=>I.pin p (xq _ (List.mem_append_left _ b))
def zOH (E:PassesOwn (model X.prog X.w) X.A X.env X.xe)(Z:X.calm=true)(hi:PI X tg iter wi)(hg:PG X tg g)(l:PSs X body tb)
  (hs:∀ x,foldedSetIterable iter X.env x=pure x:=by intro _;rfl):PS X (.For tg iter body [] pos) (tFor wi g tb):=by
 intro a s B H D I h;refine wpAny_For (thn (hi a s B H _ I h) λv s1 h1=>thn h1 λitv s2 h2=>?_) hs;obtain⟨it,w,Y,J,H2,e,I2,T,P,f2,W,⟨m0,w0⟩,turn⟩:=h2;subst e;have p:∀ {H':Hp},(∀ b∈w,H' b=none)->∀ b∈w,FpOk X a H' b:=λhn b l=>⟨hn b l,(f2 b l).2⟩
 refine codeAny_forLoop_any (λn s'=>∃ i B' H',Inv X a B' H' s'/\Y i s'.heap/\(∀ b∈w,H' b=none)/\W i n B' H') ?_ m0 ⟨0,B,H2,I2,P,λb l=>(f2 b l).1,w0⟩;rintro n s3 ⟨i,G,O,I3,C,K,w3⟩;rcases turn i n G O w3 with ⟨F,qn⟩ | ⟨go,N,hN,step⟩
 .refine wpAny_passesOwn E (thn (T.done X rfl rfl rfl Z i a s3 G O X.xe I3 (p K) C F) λr s4 M=>?_);obtain⟨S,I4⟩:=M;subst S;exact wpAny_execs_nil ⟨G,O,I4,qn⟩
 .refine wpAny_passesOwn E (thn (T.item X rfl rfl rfl Z i a s3 G O X.xe I3 (p K) C go) λr s4 z=>?_);obtain⟨u,S,h4⟩:=z;subst S;refine wpAny_passesOwn E (thn h4 λ_ V L=>?_);obtain⟨x,H5,I5,r5,y5,t,R⟩:=L;have Q:=I5.pinned (p R) (T.obj _ _ t);refine wpAny_passesOwn E (thn (hg _ V G H5 x u _ Q r5 (step x H5 y5)) λ_ s6 A=>?_);obtain⟨B6,H6,I6,q6⟩:=A;refine wpAny_passesOwn E (thn (l _ s6 B6 H6 _ I6 q6) λf U r=>?_);have q:∀ {k:St} {j:Hp},Inv X (a++zCb w V.heap) k j U->N k j->∃ m,m < n/\∃ i B' H',Inv X a B' H' U/\Y i U.heap/\(∀ b∈w,H' b=none)/\W i m B' H':=λ{k j} c y=>by
   obtain⟨m',hm,w7⟩:=hN k j y;refine⟨m',hm,i+1,k,j,c.unpinned,T.keep _ _ _ t λb l o e=>(c.pin (b,o) (xq _ (xq _ (zCv l e)))).1,λb l=>?_,w7⟩;obtain⟨o,e,d⟩:=T.obj _ _ t b l;exact(c.pin (b,o) (xq _ (xq _ (zCv l e)))).2.1
  cases f with
  | next=>obtain⟨k,j,c,y⟩:=r;exact q c y
  | cont=>obtain⟨k,j,c,y⟩:=r;exact q c y
  | brk=>obtain⟨k,j,c,r⟩:=r;exact⟨k,j,c.unpinned,r⟩
  | ret v=>obtain⟨x7,k,j,c,r7,r⟩:=r;exact⟨x7,k,j,c.unpinned,r7,r⟩
end
abbrev R2:=V->V->Hp->VK->Prop
def OpR (X:Cx)(f:Value->Value->Sem Value)(r:R2):Prop :=
 ∀ (pins:List (Addr×Obj)) (s:Shared) (B:St) (H:Hp) (x y:V) (v u:Value) (Q:VK),Inv X pins B H s->RelV x v->RelV y u->r x y H Q ->
  wpAny (model X.prog X.w) X.A (f v u) (EP X pins B Q) X.xe s
def UnR (X:Cx)(f:Value->Sem Value)(r:V->Hp->VK->Prop):Prop :=
 ∀ (pins:List (Addr×Obj)) (s:Shared) (B:St) (H:Hp) (x:V) (v:Value) (Q:VK),Inv X pins B H s->RelV x v->r x H Q ->
  wpAny (model X.prog X.w) X.A (f v) (EP X pins B Q) X.xe s
def zEq (X:Cx)(f:Value)(r:List V->Hp->VK->Prop):Prop :=
 ∀ (pins:List (Addr×Obj)) (s:Shared) (B:St) (H:Hp) (xs:List V) (us:List Value) (Q:VK),Inv X pins B H s->Vals xs us->r xs H Q ->
  wpAny (model X.prog X.w) X.A (call f us) (EP X pins B Q) X.xe s
def tOp (r:R2)(ta tb:TE):TE:=λB H Q=>ta B H λx H1=>tb B H1 λy H2=>r x y H2 Q
def tUn (r:V->Hp->VK->Prop)(ta:TE):TE:=λB H Q=>ta B H λx H1=>r x H1 Q
def rI (C:Int->Int->Prop)(g:Int->Int->V):R2:=λx y H Q=>∃ i j,x=.int i/\y=.int j/\C i j/\Q (g i j) H
def rI0 (g:Int->Int->V):R2:=λx y H Q=>∃ i j,x=.int i/\y=.int j/\Q (g i j) H
def rU (g:Int->V):V->Hp->VK->Prop:=λx H Q=>∃ i,x=.int i/\Q (g i) H
section
variable {X:Cx}{a b c:Expr}{ta tb tc:TE}{pos:Pos}
def binT (k:PE X a ta)(m:PE X b tb){R:V->V->Hp->Prop}(I:Inv X pins B H s)
  (h:ta B H λx H1=>tb B H1 λy H2=>R x y H2)  {f:Value->Value->Sem Value}
  (g:∀ v u s2 x y H2,Inv X pins B H2 s2->RelV x v->RelV y u->R x y H2->wpAny (model X.prog X.w) X.A (f v u) Q X.xe s2) :
  wpAny (model X.prog X.w) X.A (eval a X.env) (λv O2=>wpAny (model X.prog X.w) X.A (eval b X.env) (λu O9=>wpAny (model X.prog X.w) X.A (f v u) Q X.xe O9) X.xe O2) X.xe s:=by
 refine thn (k pins s B H _ I h) λv j c=>?_
 obtain⟨x,H1,l,r1,e⟩:=c;refine thn (m pins j B H1 _ l e) λu s2 d=>?_
 obtain⟨y,H2,i,r2,n⟩:=d;exact g v u s2 x y H2 i r1 r2 n
def zRj (g:OpR X (binaryOp op) r)(l:PE X a ta)(j:PE X b tb):PE X (.BinOp a op b pos) (tOp r ta tb):=by
 intro c s B H Q I h;exact wpAny_BinOp (binT l j I h λv u f x y d k i e q=>g c f B d x y v u Q k i e q)
def zUA (f:UnR X (unaryOp op) r)(j:PE X a ta):PE X (.UnaryOp op a pos) (tUn r ta):=by
 intro b s B H Q I h;exact UnaryOp_ (thn (j b s B H _ I h) λv i c=>by obtain⟨x,d,e,r1,g⟩:=c;exact f b i B d x v Q e r1 g)
def opI {g:Int->Int->Int}
  (a:∀ (i j:Int) (t u:Tok) (s:Shared) (Q:Value->Shared->Prop) (E:Value->Shared->Prop),C i j->Q (.int (g i j) s.toks) { s with toks:=s.toks+1 }->wpAny (model X.prog X.w) X.A (f (.int i t) (.int j u)) Q E s) :
  OpR X f (rI C λi j=>.int (g i j)):=by
 intro b s B H x y v u Q I d c h;obtain⟨i,j,rfl,rfl,e,q⟩:=h;obtain⟨t,rfl⟩:=d;obtain⟨k,rfl⟩:=c;exact a i j t k s _ _ e ⟨.int _,H,I.tok _,⟨_,rfl⟩,q⟩
def opI0 {g:Int->Int->Int}
  (a:∀ (i j:Int) (t u:Tok) (s:Shared) (Q:Value->Shared->Prop) (E:Value->Shared->Prop),Q (.int (g i j) s.toks) { s with toks:=s.toks+1 }->wpAny (model X.prog X.w) X.A (f (.int i t) (.int j u)) Q E s) :
  OpR X f (rI0 λi j=>.int (g i j)):=by
 intro b s B H x y v u Q I e c h;obtain⟨i,j,rfl,rfl,q⟩:=h;obtain⟨t,rfl⟩:=e;obtain⟨d,rfl⟩:=c;exact a i j t d s _ _ ⟨.int _,H,I.tok _,⟨_,rfl⟩,q⟩
def opB0 {g:Int->Int->Bool}
  (a:∀ (i j:Int) (t u:Tok) (s:Shared) (Q:Value->Shared->Prop) (E:Value->Shared->Prop),Q (.bool (g i j)) s->wpAny (model X.prog X.w) X.A (f (.int i t) (.int j u)) Q E s) :
  OpR X f (rI0 λi j=>.bl (g i j)):=by
 intro b s B H x y v u Q I c d h;obtain⟨i,j,rfl,rfl,q⟩:=h;obtain⟨t,rfl⟩:=c;obtain⟨e,rfl⟩:=d;exact a i j t e s _ _ ⟨.bl _,H,I,rfl,q⟩
def CPow (i j:Int):Prop:=0<=j/\j<=1000000/\i.natAbs < 2^64
def CMul (i j:Int):Prop:=(-(2^64) < i/\i < 2^64)\/(-(2^64) < j/\j < 2^64)
def CMul.ok (h:CMul i j):IntMulOk i j:=by
 rcases h with ⟨h1,h2⟩ | ⟨h1,h2⟩
 .exact .of_left (intBits_le_64 h1 h2)
 .exact .of_right (intBits_le_64 h1 h2)
def zR4:OpR X (binaryOp .Add) (rI0 λi j=>.int (i+j)):=opI0 λ_ _ _ _ _ _ _ q=>add_int q
def zRv:OpR X (binaryOp .Pow) (rI CPow λi j=>.int (i^j.toNat)):=opI λ_ _ _ _ _ _ _ a q=>pow_int_small a.1 a.2.1 a.2.2 q
def unI {g:Int->Int}
  (a:∀ (i:Int) (t:Tok) (s:Shared) (Q:Value->Shared->Prop) (E:Value->Shared->Prop),Q (.int (g i) s.toks) { s with toks:=s.toks+1 }->wpAny (model X.prog X.w) X.A (f (.int i t)) Q E s) :
  UnR X f (rU λi=>.int (g i)):=by
 intro b s B H x v Q I c h;obtain⟨i,rfl,q⟩:=h;obtain⟨t,rfl⟩:=c;exact a i t s _ _ ⟨.int _,H,I.tok _,⟨_,rfl⟩,q⟩
end
section
variable {X:Cx}{a b c:Expr}{ta tb tc:TE}{pos:Pos}
def zOZ {a:List (Addr×Obj)}{B:St}{H:Hp}{s:Shared}{Q:VK}{k b:Bool}(I:Inv X a B H s)(q:Q (.bl k) H)(e:k=b):EP X a B Q (.bool b) s:=by
 subst e;exact⟨.bl k,H,I,rfl,q⟩
def zRx:OpR X (compareOp .Lt) (rI0 λi j=>.bl (decide (i < j))):=opB0 λ_ _ _ _ _ _ _ q=>lt_int q
def zRy:OpR X (compareOp .LtE) (rI0 λi j=>.bl (decide (i<=j))):=opB0 λ_ _ _ _ _ _ _ q=>le_int q
def zR0:OpR X (compareOp .Gt) (rI0 λi j=>.bl (decide (j < i))):=opB0 λ_ _ _ _ _ _ _ q=>gt_int q
def zR2:OpR X (compareOp .GtE) (rI0 λi j=>.bl (decide (j<=i))):=opB0 λ_ _ _ _ _ _ _ q=>ge_int q
def zRz:OpR X (compareOp .Is) (λx y H Q=>y=.non/\Q (.bl (decide (x=.non))) H):=by
 intro a s B H x y v u Q I b c h;obtain⟨rfl,q⟩:=h;cases c;refine is_none_gen (zOZ I q ?_);cases x<;>first
  | rfl
  | obtain⟨t,rfl⟩:=b;rfl
def zPO:OpR X (compareOp .IsNot) (λx y H Q=>y=.non/\Q (.bl (!decide (x=.non))) H):=by
 intro a s B H x y v u Q I c b h;obtain⟨rfl,q⟩:=h;cases b;refine isnot_none_gen (zOZ I q ?_);cases x<;>first
  | rfl
  | obtain⟨t,rfl⟩:=c;rfl
def OpR.or (h:OpR X f r)(h':OpR X f r'):OpR X f (λx y H Q=>r x y H Q\/r' x y H Q):=by
 intro a s B H x y v u Q I c b q;rcases q with q | q
 .exact h a s B H x y v u Q I c b q
 .exact h' a s B H x y v u Q I c b q
def zDW (b:Expr)(h:op≠.In:=by decide)(h2:op≠.NotIn:=by decide):behindInMarks op b=false:=by
 have a:(op==CmpOp.In)=false:=by cases op<;>first | rfl | exact absurd rfl h
 have c:(op==CmpOp.NotIn)=false:=by cases op<;>first | rfl | exact absurd rfl h2
 cases b<;>simp[behindInMarks,a,c]
def zJ7 (g:OpR X (compareOp op) r)(l:PE X a ta)(j:PE X b tb)(m:behindInMarks op b=false):PE X (.Compare a [op] [b] pos) (tOp r ta tb):=by
 intro c s B H Q I h;exact wpAny_Compare1 (binT l j I h λv u f x y d k i e q=>g c f B d x y v u Q k i e q) m
def zRH (t:TE):TT:=λB H Q=>t B H λx H'=>∃ k,x=.bl k/\Q k H'
def zJ1 (o:OpR X (compareOp op) r)(C:PE X a ta)(d:PE X b tb)(i:behindInMarks op b=false):PT X (.Compare a [op] [b] pos) (zRH (tOp r ta tb)):=by
 intro c s B H Q I h;refine wpAny_isTrue_Compare1 (thn (C c s B H _ I h) λv w ⟨x,f,n,r1,q⟩=>thn (d c w B f _ n q) λu l ⟨y,m,p,r2,A⟩ =>
  thn (o c l B m x y v u _ p r1 r2 A) λc D ⟨z,t,j,r3,k,e,g⟩=>?_) i
 subst e;cases r3;exact wpAny_truthy_bool ⟨t,j,g⟩
def zJZ (r r':R2)(ta tb tc:TE):TE:=λB H Q=>ta B H λx H1=>tb B H1 λy H2=>r x y H2 λz H3=>∃ k,z=.bl k /\
 (if k=true then tc B H3 λw' H4=>r' y w' H4 Q else Q (.bl false) H3)
def zMc (O:OpR X (compareOp op) r)(g:OpR X (compareOp op') r')(L:PE X a ta)(t:PE X b tb)(M:PE X c tc)
  (w:lastMarks [op,op'] [b,c]=false:=by with_unfolding_all rfl):PE X (.Compare a [op,op'] [b,c] pos) (zJZ r r' ta tb tc):=by
 intro d s B H Q I h;refine Compare_chain (thn (L d s B H _ I h) λv J ⟨x,N,K,r1,m⟩=>chain_link (thn (t d J B N _ K m) λu G ⟨y,D,E,r2,A⟩ =>
  thn (O d G B D x y v u _ E r1 r2 A) λd P ⟨z,i,l,r3,k,e,j⟩=>?_)) w
 subst e;cases r3;refine wpAny_truthy_bool ?_;cases k with
 | false=>exact ite_ff ⟨.bl false,i,l,rfl,j⟩
 | true=>exact ite_tt (chain_last (thn (M d P B i _ l j) λw' p f=>by obtain⟨n,C,o,F,q⟩:=f;exact g d p B C y n u w' Q o r2 F q))
def zMX (m:OpR X (compareOp op) r)(g:OpR X (compareOp op') r')(t:PE X a ta)(Y:PE X b tb)(o:PE X c tc)
  (w:lastMarks [op,op'] [b,c]=false:=by with_unfolding_all rfl):PT X (.Compare a [op,op'] [b,c] pos) (zRH (zJZ r r' ta tb tc)):=by
 intro d s B H Q I h;refine isTrue_chain (thn (t d s B H _ I h) λv P ⟨x,D,K,r1,n⟩=>test_link (thn (Y d P B D _ K n) λu U ⟨y,p,T,r2,C⟩ =>
  thn (m d U B p x y v u _ T r1 r2 C) λd R ⟨z,l,j,r3,k,e,i⟩=>?_)) w
 subst e;cases r3;refine wpAny_truthy_bool ?_;cases k with
 | false =>
  obtain⟨Z,V,O⟩:=i;cases V;exact ite_ff ⟨l,j,O⟩
 | true =>
  refine ite_tt (test_last (thn (o d R B l _ j i) λw' G ⟨W,F,L,N,E⟩=>thn (g d G B F y W u w' _ L r2 N E) λd' s5 f=>?_));obtain⟨z2,M,A,J,k2,S,q⟩:=f;subst S;cases J;exact wpAny_truthy_bool ⟨M,A,q⟩
def zH8:(sizeLine:Nat) < 2^63:=by decide
def zG4 (r:Vals [x] us):∃ u,us=[u]/\RelV x u:=by
 cases r with
 | cons r1 r2=>cases r2;exact⟨_,rfl,r1⟩
def zOt (r:Vals [x,y] us):∃ u w',us=[u,w']/\RelV x u/\RelV y w':=by
 cases r with
 | cons r1 r2 =>
  cases r2 with
  | cons r3 a=>cases a;exact⟨_,_,rfl,r1,r3⟩
def zLs (b:X.calm=true):zEq X (.builtin "max") (λxs H Q=>∃ i j,xs=[.int i,.int j]/\Q (.int (if j>i then j else i)) H):=by
 intro a s B H xs us Q I r h;obtain⟨i,j,rfl,q⟩:=h;obtain⟨u,c,rfl,⟨t,rfl⟩,⟨t',rfl⟩⟩:=zOt r;refine max_two_ints (I.ok.hd b) λh' d k=>⟨_,H,I.kept k,?_,q⟩
 by_cases hj:j>i
 .rw [if_pos hj,if_pos hj];exact⟨_,rfl⟩
 .rw [if_neg hj,if_neg hj];exact⟨_,rfl⟩
end
structure ObjM (h:Heap)(x dx C:Addr)(mA:Str->Option Value):Prop where
 obj:h.get? x=some (W.instObj C dx)
 ns:h.Ns1 dx mA
 ne:dx≠x
def zKh {h:Heap}(n:h.Ns1 dx mA):∃ od,h.get? dx=some od/\∀ name,W.lookIn name od=some (mA name):=by
 obtain⟨o,es,j,f,i,d,_,g⟩:=n;refine⟨o,f,λname=>?_⟩;have e:=g name;unfold nsFind findBy at e;unfold W.lookIn;rw[i];dsimp only;split
 .grind
 .rename_i q;have a:es.toList.any (·.refKey)=false:=by
   rw[List.any_eq_false];intro y c;obtain⟨z,t,b⟩:=d y (Array.mem_toList_iff.mp c);simp[DictEntry.refKey,b]
  grind
def ObjM.look (I:ObjM h x dx C mA):∃ od,W.InstAt h x (W.instObj C dx) C (some od)/\∀ name,W.lookIn name od=some (mA name) :=
 let ⟨od,ho,hl⟩:=zKh I.ns
 ⟨od,⟨I.obj,rfl,rfl,ho⟩,hl⟩
section
variable {prog:Program}{w:World}{A:Around}{E:Value->Shared->Prop}{s:Shared}{K:W.Frag}{x dx C f:Addr}{mA:Str->Option Value}{name:Str}{v:Value}
def zQL (X:K.In s.heap)(I:ObjM s.heap x dx C mA)(d:W.plainGet K C name=true)(b:W.hasDictIn K C=true)
  (c:W.findIn K (.ref C) name=some none) (g:mA name=some v) (a:W.handedIn v=true) (h:Q v { s with toks:=s.toks+1 }) :
  wpAny (model prog w) A (getAttr (.ref x) name expr) Q E s:=by
 obtain⟨e,J,f⟩:=I.look;exact W.get_value X J (W.plainGet_of d).1 (W.findObj_own b c rfl (by simp_all)) a h
def zNG (X:K.In s.heap)(I:ObjM s.heap x dx C mA)(a:W.plainGet K C name=true)
  (c:W.findIn K (.ref C) name=some (some (.ref f))) (d:W.isFn K (.ref f)=true) (e:mA name=none) (h:Q (.ref f,[.ref x]) s) :
  wpAny (model prog w) A (getMethod (.ref x) name pl) Q E s:=by
 obtain⟨g,J,b⟩:=I.look;exact W.method_fn X J (W.plainGet_of a).1 (W.plainGet_of a).2 c (beq_iff_eq.mp d) (by show (W.lookIn name g).map (·.isSome)=some false;rw[b,e];rfl) h
def zO0 (X:K.In s.heap)(I:ObjM s.heap x dx C mA)
  (p:W.findIn K (.ref C) "__setattr__"=some (some (.builtin "object.__setattr__"))) (n:W.plainOver K C=true) (i:W.takerIn K C name=some none) (k:W.hasDictIn K C=true)
  (j:PySem.Within mA ns) (hsz:ns.length<=sizeLine)
  (h:∀ h',ObjM h' x dx C (λy=>if y=name then some v else mA y)->Heap.SameBut dx s.heap h'->Q () { s with heap:=h',toks:=s.toks+2 }) :
  wpAny (model prog w) A (setAttr (.ref x) name v) Q E s:=by
 obtain⟨u,J,z⟩:=I.look;refine W.set_plain X J p (W.osa_open (s:={ s with toks:=s.toks+1 }) (r:=none) X J n i λb=>?_);obtain⟨t,m,f⟩:=W.any_some k;refine qX (q9 (qX (qX (wpAny_loadPart I.obj (qX (W.Looks.here (s:={ s with toks:=s.toks+1 }) (W.looks_clsIn X m) ?_))))));rw[f];refine q9 (a:=some dx) (qX (q9 (qX ?_)));refine wpAny_nsSet1 (s:={ s with toks:=s.toks+1 }) I.ns λh' c b=>?_
 obtain⟨q,l,o,e,d,g⟩:=c.count (PySem.Within.cons name v j);refine qX (wpAny_lookBehind e (by rw[d];exact pastItsLine_dict (le_trans g (by rw[xY];omega))) ?_);exact q9 (h _ ⟨(b.2 _ (Ne.symm I.ne)).trans I.obj,c,I.ne⟩ b)
def zMp (X:K.In s.heap)(b:W.makesIn K C=true)
  (d:W.findIn K (.ref C) "__init__"=some (some (.ref f))) (c:W.typeIn K (.ref f)=some (.type "function"))
  (h:codeAny (model prog w) (A.under (.builtin "type.__call__" ⟨.ref C::vs,kw⟩)) (.call (.ref f) ⟨.ref (s.heap.objs.size+1)::vs,kw⟩) (W.InitBack (s.heap.objs.size+1) R)
   { s with heap:=(s.heap.push W.emptyDict).push (W.instObj C s.heap.objs.size) }) :
  codeAny (model prog w) A (.call (.ref C) ⟨vs,kw⟩) R s:=W.make_core (W.makes_of X b) (W.looks_findIn X d) (λself=>W.bind_fn X self c) (.inl rfl) h
end
noncomputable def putF (f:Str)(v:V):List (Str×V)->List (Str×V)
 | []=>[(f,v)]
 | (g,x)::r=>if g=f then (g,v)::r else (g,x)::putF f v r
theorem zCP (f g:Str)(v:V):∀ fs:List (Str×V),(putF f v fs).lookup g=if g=f then some v else fs.lookup g
 | []=>by
  show List.lookup g [(f,v)]=_;by_cases h:g=f
  .have hb:(g==f)=true:=beq_iff_eq.mpr h;simp only[List.lookup,hb,if_pos h]
  .have hb:(g==f)=false:=beq_eq_false_iff_ne.mpr h;simp only[List.lookup,hb,if_neg h]
 | (k,x)::r=>by
  have ih:=zCP f g v r;rw[show putF f v ((k,x)::r)=(if k=f then (k,v)::r else (k,x)::putF f v r) from rfl];by_cases hk:k=f
  .rw [if_pos hk];by_cases h:g=k
   .have hb:(g==k)=true:=beq_iff_eq.mpr h;simp only[List.lookup,hb,if_pos (h.trans hk)]
   .have hb:(g==k)=false:=beq_eq_false_iff_ne.mpr h;simp only[List.lookup,hb,if_neg (λe:g=f=>h (e.trans hk.symm))]
  .rw [if_neg hk];by_cases h:g=k
   .have hb:(g==k)=true:=beq_iff_eq.mpr h;simp only[List.lookup,hb,if_neg (λe:g=f=>hk (h.symm.trans e))]
   .have hb:(g==k)=false:=beq_eq_false_iff_ne.mpr h;simp only[List.lookup,hb];exact ih
theorem zEV (f:Str)(v:V):∀ fs:List (Str×V),f∈(putF f v fs).map (·.1)/\∀ g,g∈fs.map (·.1)->g∈(putF f v fs).map (·.1)
 | []=>⟨by simp[putF],λg h=>by simp at h⟩
 | (k,x)::r=>by
  obtain⟨i1,i2⟩:=zEV f v r;rw[show putF f v ((k,x)::r)=(if k=f then (k,v)::r else (k,x)::putF f v r) from rfl];by_cases hk:k=f
  .rw [if_pos hk];subst hk;exact⟨by simp,λg h=>by simpa using h⟩
  .rw [if_neg hk];refine⟨?_,λg h=>?_⟩
   .rw [map_cons];exact qJ _ i1
   .rw [map_cons] at h ⊢;rcases mem_cons.mp h with e | e
    .exact mem_cons.mpr (.inl e)
    .exact qJ _ (i2 g e)
theorem zEU (f:Str)(v:V):∀ fs:List (Str×V),(putF f v fs).length<=fs.length+1
 | []=>by simp[putF]
 | (k,x)::r=>by
  have ih:=zEU f v r;rw[show putF f v ((k,x)::r)=(if k=f then (k,v)::r else (k,x)::putF f v r) from rfl];by_cases hk:k=f
  .rw [if_pos hk,xY,xY];omega
  .rw [if_neg hk,xY,xY];omega
def RelO.some_of (r:RelO (some v) o):∃ u,o=some u/\RelV v u:=by
 cases o with
 | none=>exact r.elim
 | some u=>exact⟨u,rfl,r⟩
def RelO.none_of (r:RelO none o):o=none:=by
 cases o with
 | none=>rfl
 | some u=>exact r.elim
def zKs (r:RelV v u):W.handedIn u=true:=by
 cases v with
 | non=>cases r;rfl
 | bl b=>cases r;rfl
 | int i=>obtain⟨t,e⟩:=r;cases e;rfl
 | str x=>obtain⟨t,e⟩:=r;cases e;rfl
 | byt b=>obtain⟨t,e⟩:=r;cases e;rfl
 | flt b=>obtain⟨t,e⟩:=r;cases e;rfl
 | ref a=>cases r;rfl
 | ty n=>cases r;rfl
section
variable {P:Program}{w:World}{H H':Hp}{h h':Heap}{a C dx:Addr}{fs fs':List (Str×V)}
def zHS (b:HOk P w H h)(e:H a=some (.ins C dx fs)):∃ mA,ObjM h a dx C mA/\(∀ f,RelO (fs.lookup f) (mA f))/\PySem.Within mA (fs.map (·.1))/\fs.length<=1000/\H dx=some (.own a):=by
 obtain⟨d,z,c,ob,mA,n,r,q⟩:=b a _ e;exact⟨mA,⟨ob,n,c⟩,r,q,z,d⟩
end
structure Cls (K:W.Frag)(C:Addr):Prop where
 pg:W.plainGet K C Str.empty=true
 hd:W.hasDictIn K C=true
 po:W.plainOver K C=true
 sa:W.findIn K (.ref C) "__setattr__"=some (some (.builtin "object.__setattr__"))
def Cls.get {K:W.Frag}(c:Cls K C)(f:Str):W.plainGet K C f=true:=c.pg
def zBY (K:W.Frag)(C:Addr)(f:Str):Prop:=W.findIn K (.ref C) f=some none
def zBY.taker {K:W.Frag}(n:zBY K C f):W.takerIn K C f=some none:=by
 unfold W.takerIn;rw[show W.findIn K _ f=some none from n]
 rfl
structure Meth (K:W.Frag)(C:Addr)(m:Str)(f:Addr):Prop where
 at_:W.findIn K (.ref C) m=some (some (.ref f))
 fn:W.isFn K (.ref f)=true
 kp:W.keepIn K (.ref f)=true
section
variable {X:Cx}{pins:List (Addr×Obj)}{B:St}{H:Hp}{s:Shared}{a C dx:Addr}{fs:List (Str×V)}{f:Str}{v:V}{A:Around}{E:Value->Shared->Prop}
def zJA (I:Inv X pins B H s)(e:H a=some (.ins C dx fs))(c:Cls X.K C)(n:zBY X.K C f)(l:fs.lookup f=some v)
  (h:∀ u s',Inv X pins B H s'->RelV v u->Q u s'):wpAny (model X.prog X.w) A (getAttr (.ref a) f b) Q E s:=by
 obtain⟨i,O,r,_,_,_⟩:=zHS I.hok e;obtain⟨u,g,d⟩:=RelO.some_of (by rw[<- l];exact r f);exact zQL I.kIn O (c.get f) c.hd n g (zKs d) (h u _ (I.tok _) d)
def zFG (I:Inv X pins B H s)(e:H a=some (.ins C dx fs))(c:Cls X.K C)(k:Meth X.K C m g)(l:fs.lookup m=none)
  (h:Q (.ref g,[.ref a]) s):wpAny (model X.prog X.w) A (getMethod (.ref a) m pl) Q E s:=by
 obtain⟨b,O,r,_,_,_⟩:=zHS I.hok e;exact zNG I.kIn O (c.get m) k.at_ k.fn (RelO.none_of (by rw[<- l];exact r m)) h
def zIm (I:Inv X pins B H s)(e:H a=some (.ins C dx fs))(c:Cls X.K C)(n:zBY X.K C f)(v:fs.length < 1000)(p:RelV y u)
  (h:∀ s',Inv X pins B (upd H a (.ins C dx (putF f y fs))) s'->Q () s'):wpAny (model X.prog X.w) A (setAttr (.ref a) f u) Q E s:=by
 obtain⟨t,O,r,j,_,i⟩:=zHS I.hok e;refine zO0 I.kIn O c.sa c.po n.taker c.hd j (by rw[qy,sizeLine_eq];omega) λh' d m=>h _ ?_
 refine I.write (x:=a) (e:=dx) (by rw[e];exact True.intro) (.inr i) (λb q k z=>(m.2 b k).trans z) (let ⟨o,_,_,e',_⟩:=d.ns;⟨o,e'⟩) ?_;refine⟨by rw[zAX O.ne];exact i,?_,O.ne,d.obj,_,d.ns,λg=>?_,λg l=>?_⟩
 .have:=zEU f y fs;omega
 .show RelO ((putF f y fs).lookup g) (if g=f then some u else t g);rw[zCP];by_cases q:g=f
  .rw [if_pos q,if_pos q];exact p
  .rw [if_neg q,if_neg q];exact r g
 .by_cases q:g=f
  .rw [q];exact(zEV f y fs).1
  .refine (zEV f y fs).2 g (j g λz=>l ?_);grind
def Inv.made (I:Inv X pins B H s):Inv X pins B (upd (upd H s.heap.objs.size (.own (s.heap.objs.size+1))) (s.heap.objs.size+1) (.ins C s.heap.objs.size []))
  { s with heap:=(s.heap.push W.emptyDict).push (W.instObj C s.heap.objs.size) }:=by
 have b:(s.heap.push W.emptyDict).get? s.heap.objs.size=some W.emptyDict:=get?_push_size s.heap rfl;have e:((s.heap.push W.emptyDict).push (W.instObj C s.heap.objs.size)).get? (s.heap.objs.size+1)=some (W.instObj C s.heap.objs.size):=by
  have:=get?_push_size (s.heap.push W.emptyDict) (o:=W.instObj C s.heap.objs.size) rfl
  simp_all
 refine(I.laid (o:=.own _) (t':=s.toks) (λb u q=>get?_push_of_some _ q) (le_refl _) ⟨_,b⟩).laid (λb u q=>get?_push_of_some _ q) (Nat.le_of_eq (Heap.size_push _ _)) ?_;have a:s.heap.objs.size≠s.heap.objs.size+1:=ne_of_lt (Nat.lt_succ_self _);refine⟨by rw[zAX a,zAc],zero_le _,a,e,λ_=>none,(Heap.Ns1.of_empty (⟨W.emptyDict,#[],_,b,rfl,λe d=>absurd d (by simp),λ_=>rfl⟩)).at λo q=>get?_push_of_some _ q,λ_=>True.intro,λy c=>absurd rfl c⟩
end
def tFld (K:W.Frag)(ta:TE)(f:Str):TE:=λB H Q=>ta B H λx H1=>∃ a C dx fs v,x=.ref a/\H1 a=some (.ins C dx fs)/\Cls K C/\zBY K C f/\fs.lookup f=some v/\Q v H1
def sFld (K:W.Frag)(ta tv:TE)(f:Str):TS:=λD B H=>tv B H λy H1=>ta B H1 λx H2=>∃ a C dx fs,x=.ref a/\H2 a=some (.ins C dx fs)/\Cls K C/\zBY K C f/\fs.length < 1000 /\
 D.nx B (upd H2 a (.ins C dx (putF f y fs)))
section
variable {X:Cx}{o e value:Expr}{f:Str}{pos pos' tpos:Pos}{ta tv:TE}
def zOK (r:PE X e ta)(j:attributeBase e f X.env (eval e X.env)=eval e X.env):PE X (.Attribute e f pos) (tFld X.K ta f):=by
 intro b s B H Q I h;refine (Attribute_any_ (thn (r b s B H _ I h) λu u d=>?_) (by rw[arm_eval_Attribute,j]));obtain⟨x,p,t,o,a,C,y,fs,v,g,k,c,n,l,q⟩:=d;subst g;obtain rfl:=o;exact zJA t k c n l λu' w m i=>⟨v,p,m,i,q⟩
def zRc (g:PE X o ta)(i:PE X value tv)(e:swapsWith value (some (.Attribute o f pos')) pos.line X.env=pure false):PS X (.Assign [.Attribute o f pos'] value pos) (sFld X.K ta tv f):=by
 intro b s B H D I h;refine plainObj_wpAny_Assign_Attribute (thn (i b s B H _ I h) λu z ⟨y,p,j,k,q⟩=>thn (g b z B p _ j q) λov F d=>?_) e;obtain⟨x,A,m,r,a,C,E,fs,v,t,c,n,l,u⟩:=d;subst v;obtain rfl:=r;exact zIm m t c n l k λs3 w=>⟨B,_,w,u⟩
end
section
variable {X:Cx}{pins:List (Addr×Obj)}{B:St}{H:Hp}{s:Shared}{A:Around}{E:Value->Shared->Prop}{Q:Value->Shared->Prop}{c:Value}{b:Bool}
inductive TyOf (K:W.Frag) (H:Hp):V->Value->Prop where
 | non:TyOf K H .non (.type "NoneType")
 | bl (x:Bool):TyOf K H (.bl x) (.type "bool")
 | int (i:Int):TyOf K H (.int i) (.type "int")
 | str (x:Str):TyOf K H (.str x) (.type "str")
 | flt (x:UInt64):TyOf K H (.flt x) (.type "float")
 | lst {a:Addr} {xs:List V} (e:H a=some (.lst xs)):TyOf K H (.ref a) (.type "list")
 | frz {a:Addr} {o:Obj} {xs:List V} (e:H a=some (.frz o (.lst xs))):TyOf K H (.ref a) (.type "list")
 | tup {a:Addr} {xs:List V} (e:H a=some (.tup xs)):TyOf K H (.ref a) (.type "tuple")
 | dK {a:Addr} {kvs:List (Key×V)} (e:H a=some (.dK kvs)):TyOf K H (.ref a) (.type "dict")
 | dT {a:Addr} {kvs:List (List Key×V)} (e:H a=some (.dT kvs)):TyOf K H (.ref a) (.type "dict")
 | ins {a C dx:Addr} {fs:List (Str×V)} (e:H a=some (.ins C dx fs)) (cl:Cls K C) (ha:W.findIn K (.ref C) "__class__"=some (some (.builtin "object.__class__")))
   (hn:W.specialIn K (.builtin "object.__class__") "__get__"=some (some (.builtin "getset_descriptor.__get__"))) (htk:W.takesIn K (.builtin "object.__class__")=some true)
   (hm:W.mroIn K C (.type "object")=some true):TyOf K H (.ref a) (.ref C)
end
structure Room (k:Nat)(A:Around):Prop where
 hd:A.handled=none
 dp:A.depth+3*k+105 < recursionLimit
 un:A.units+16*k+200 < cLine
def Room.mono (r:Room k A)(h:j<=k):Room j A:=⟨r.hd,by have:=r.dp;omega,by have:=r.un;omega⟩
def Room.deeper (r:Room (k+1) A)(env:Env):Room k (A.deeper env) :=
 ⟨r.hd,by have:=r.dp;show A.depth+1+3*k+105 < _;omega,by have:=r.un;show A.units+3+16*k+200 < _;omega⟩
def zI2 {A:Around}:(A.under (.builtin "type.__call__" ⟨.ref C::us,kw⟩)).depth=A.depth+1:=rfl
def zI1 {A:Around}:(A.under (.builtin "type.__call__" ⟨.ref C::us,kw⟩)).units=A.units+1:=rfl
def Room.make (r:Room (k+1) A)(C:Addr)(us:List Value)(kw:List (Str×Value)):Room k (A.under (.builtin "type.__call__" ⟨.ref C::us,kw⟩)) :=
 ⟨r.hd,by have:=r.dp;rw[zI2];omega,by have:=r.un;rw[zI1];omega⟩
def Room.depth (r:Room k A):A.depth < recursionLimit:=by have:=r.dp;omega
def Room.units (r:Room k A):A.units+64 < cLine:=by have:=r.un;omega
def tNil:TA:=λ_ H Q=>Q [] H
def zOz (ta:TE)(tr:TA):TA:=λB H Q=>ta B H λx H1=>tr B H1 λxs H2=>Q (x::xs) H2
section
variable {X:Cx}{e:Expr}{es:List Expr}{te:TE}{t:TA}{pos:Pos}
def zBE:PA X [] tNil:=λ_ _ _ _ H Q I h=>Calls.spliced_nil ⟨[],H,I,.nil,h⟩
def zAj (q:PE X e te)(n:PA X es t)(f:starEach (e::es) X.env=(false,eval e X.env)::starEach es X.env:=by rfl):PA X (e::es) (zOz te t):=by
 intro d a s B H Q I h;rw[f];refine Calls.spliced_cons (thn (q a s B H _ I h) λu o c=>?_);obtain⟨x,g,j,r1,l⟩:=c;exact thn (n d a o B g _ j l) λus r b=>by obtain⟨m,i,k,r2,p⟩:=b;exact⟨x::m,i,k,.cons r1 r2,p⟩
def tTup (t:TA):TE:=λB H Q=>t B H λxs H1=>xs.length<=sizeLine/\∀ p,H1 p=none->Q (.ref p) (upd H1 p (.tup xs))
def tLst (t:TA):TE:=λB H Q=>t B H λxs H1=>xs.length<=sizeLine/\∀ p,H1 p=none->Q (.ref p) (upd H1 p (.lst xs))
def zRh {x1}(h:PA X es t):PE X (.Tuple es x1 pos) (tTup t):=by
 intro a s B H Q I hq;refine wpAny_Tuple_spliced (thn (h pos a s B H _ I hq) λus b ⟨f,d,c,r,z,q⟩=>⟨by rw[<- r.length];exact z,?_⟩);refine⟨.ref b.heap.objs.size,upd d b.heap.objs.size _,c.laid (λb u e=>get?_push_of_some _ e) (le_refl _) ?_,rfl,q _ (c.hok.fresh (le_refl _))⟩;exact⟨z,us,r,⟨_,get?_push_size _ rfl,rfl,_,rfl⟩⟩
def zOJ (h:PA X es t):PE X (.List es pos) (tLst t):=by
 intro a s B H Q I hq;refine wpAny_List_spliced (thn (h pos a s B H _ I hq) λus b ⟨f,d,c,r,z,q⟩=>⟨by rw[<- r.length];exact z,?_⟩);refine⟨.ref b.heap.objs.size,upd d b.heap.objs.size _,c.laid (λb u e=>get?_push_of_some _ e) (le_refl _) ?_,rfl,q _ (c.hok.fresh (le_refl _))⟩;exact⟨z,us,0,r,get?_push_size _ rfl⟩
end
abbrev Sp:=List V->Hp->VK->XK->Prop
abbrev CXT:=List Env->Hp->Shared->XK->Value->Shared->Prop
structure Env0 (P:Program)(w:World)(K:W.Frag)(mg:Str->Option Value)(base:Heap)(A:Around)(outer:List Env)(s:Shared)(H:Hp):Prop where
 frames:A.frames=some outer
 mod:Mod K mg base
 bs:∀ b o,base.get? b=some o->s.heap.get? b=some o/\H b=none
 bsz:base.objs.size<=s.heap.objs.size
 funs:s.heap.FunFrames base outer
 frf:∀ b∈frs outer,H b=none
 hok:HOk P w H s.heap
 bare:AllBare s.gens
 tree:(model P w).prog.given.tree=none
 tabs:zId K H
def CE (outer:List Env)(P:Program)(w:World)(H:Hp)(s:Shared)(Q:VK)(u:Value)(s':Shared):Prop :=
 ∃ v H',s'.os=s.os/\AllBare s'.gens/\Un (frs outer) [] H H' s.heap s'.heap/\HOk P w H' s'.heap/\RelV v u/\Q v H'
def CR (CX:CXT)(outer:List Env)(P:Program)(w:World)(H:Hp)(s:Shared)(Q:VK)(E:XK)(r:Result)(s':Shared):Prop :=
 match r with
 | .ok (.ret u)=>CE outer P w H s Q u s'
 | .ok _=>False
 | .error e=>CX outer H s E e s'
structure FnOk (P:Program)(w:World)(K:W.Frag)(mg:Str->Option Value)(base:Heap)(CX:CXT)(k:Nat)(f:Addr)(fd:FuncData)(ps:List Str)(sp:Sp):Prop where
 len:∀ vs H Q E,sp vs H Q E->vs.length=ps.length
 run:∀ (A:Around) (outer:List Env) (s:Shared) (H:Hp) (args:Args) (us:List Value) (vs:List V) (Q:VK) (E:XK),Room k A->Env0 P w K mg base A outer s H->BindsTo s fd args (ps.zip us)->Vals vs us->sp vs H Q E ->
  codeAny (model P w) A (.call (.ref f) args) (CR CX outer P w H s Q E) s
def FnOk.mono {K:W.Frag}(F:FnOk P w K mg base CX j f fd ps sp)(h:j<=k) :
  FnOk P w K mg base CX k f fd ps sp:=⟨F.len,λA a s H b us d Q E c=>F.run A a s H b us d Q E (c.mono h)⟩
def Env0.make {K:W.Frag}(e:Env0 P w K mg base A outer s H)(C:Addr)(us:List Value)(kw:List (Str×Value)) :
  Env0 P w K mg base (A.under (.builtin "type.__call__" ⟨.ref C::us,kw⟩)) outer s H:=⟨by first | exact e.frames | simpa using e.frames,e.mod,e.bs,e.bsz,e.funs,e.frf,e.hok,e.bare,e.tree,e.tabs⟩
section
variable {X:Cx}{pins:List (Addr×Obj)}{B:St}{H:Hp}{s s':Shared}
def Inv.env0 (I:Inv X pins B H s):Env0 X.prog X.w X.K X.mg X.base X.A X.stack s H :=
 ⟨I.ok.frames,I.ok.mod,I.bs,le_trans I.ok.bsz I.sz,I.stack,I.stkFree,I.hok,I.bare,I.ok.pyl.2.1,I.tabs⟩
def Inv.after (I:Inv X pins B H s)(h:CE X.stack X.prog X.w H s Q u s'):EP X pins B Q u s':=by
 obtain⟨v,e,f,a,un,b,r,q⟩:=h;obtain⟨i,g,d,t,c⟩:=s'
 simp_all
 exact⟨v,e,I.call un b a λb z=>absurd z (by simp),r,q⟩
end
def zMN (sp:Sp)(dvs:List V)(E:XK)(t:TA):TE:=λB H Q=>t B H λvs H1=>sp (vs++dvs) H1 Q E
def zRJ (C:Addr)(m:Str)(sp:Sp)(dvs:List V)(E:XK)(ta:TE)(t:TA):TE:=λB H Q=>ta B H λx H1=>∃ a dx fs,x=.ref a/\H1 a=some (.ins C dx fs)/\fs.lookup m=none /\
 t B H1 λvs H2=>sp (x::(vs++dvs)) H2 Q E
def zBP (K:W.Frag)(fd:FuncData)(ps:List Str)(ds:List Value):Prop :=
 ∀ (s:Shared) (us:List Value),K.In s.heap->(us++ds).length=ps.length->BindsTo s fd ⟨us,[]⟩ (ps.zip (us++ds))
def zBP.all {K:W.Frag}(h:∀ us:List Value,us.length=ps.length->bindArgs fd ⟨us,[]⟩=pure (ps.zip us)):zBP K fd ps []:=λs us _ a=>by
 simp_all
 exact .of_eq (h us a)
def zFU (CX:CXT)(X:Cx)(E:XK):Prop:=∀ (pins:List (Addr×Obj)) (B:St) (H:Hp) (s:Shared) (e:Value) (s':Shared),Inv X pins B H s->CX X.stack H s E e s'->X.xe e s'
section
variable {X:Cx}{CX:CXT}{k:Nat}{f C:Addr}{fd:FuncData}{ps:List Str}{sp:Sp}{dvs:List V}{ds:List Value}{E:XK}{x m:Str}{p pos apos:Pos}{e o:Expr}{es:List Expr}{ta:TE}{t:TA}
def zE1 {a:List (Addr×Obj)}{B:St}{H:Hp}{s:Shared}{Q:VK}{us:List Value}{vs:List V}(F:FnOk X.prog X.w X.K X.mg X.base CX k f fd ps sp)(d:Room k X.A)(i:zBP X.K fd ps ds)(c:Vals dvs ds)(b:zFU CX X E)
  (I:Inv X a B H s) (r:Vals vs us) (h:sp (vs++dvs) H Q E):wpAny (model X.prog X.w) X.A (call (.ref f) us) (EP X a B Q) X.xe s:=by
 have r2:=r.append c;refine wpAny_call (codeAny_mono (F.run X.A X.stack s H _ _ _ Q E d I.env0 (i s us I.kIn (by rw[<- r2.length];exact F.len _ _ _ _ h)) r2 h) λr g hq=>?_);cases r with
 | error e=>exact b a B H s e g I hq
 | ok fl =>
  cases fl with
  | ret u=>exact I.after hq
  | next=>exact False.elim hq
  | brk=>exact False.elim hq
  | cont=>exact False.elim hq
def zJ8 (F:FnOk X.prog X.w X.K X.mg X.base CX k f fd ps sp)(m:Room k X.A)(g:Gl X x)(v:X.mg x=some (.ref f))(j:W.keepIn X.K (.ref f)=true)(o:zBP X.K fd ps ds)(u:Vals dvs ds)(n:zFU CX X E)
  (i:PA X (e::es) t) (b:(x==("__debug__":Str))=false:=by decide) (l:starEach (e::es) X.env=(false,eval e X.env)::starEach es X.env:=by rfl) (c:(backTo pos (starEach es X.env)).any (·.1)=false:=by rfl) :
  PE X (.Call (.Name x p) (e::es) [] pos) (zMN sp dvs E t):=by
 intro a s B H Q I h;refine wpAny_Call_Name_kw (zDo I g v ?_ b);refine W.callWith_K I.ok.mod.kin j (thn (i pos a s B H _ I h) λus y ⟨z,w,d,r,q⟩=>⟨d.kIn,?_⟩) l c;exact zE1 F m o u n d r q
def zMd (F:FnOk X.prog X.w X.K X.mg X.base CX k f fd ps sp)(l:Room k X.A)(c:Gl X x)(d:X.mg x=some (.ref f))(e:W.keepIn X.K (.ref f)=true)(i:zBP X.K fd ps ds)(g:Vals dvs ds)(j:zFU CX X E)
  (a:(x==("__debug__":Str))=false:=by decide):PE X (.Call (.Name x p) [] [] pos) (zMN sp dvs E tNil):=by
 intro b s B H Q I h;refine wpAny_Call_Name_kw (zDo I c d ?_ a);exact W.callWith_K0 I.kIn e (zE1 F l i g j I .nil h)
theorem zPD {pl:Sem Bool}(he:PE X o ta)(c:Cls X.K C)(hm:Meth X.K C m f)(F:FnOk X.prog X.w X.K X.mg X.base CX k f fd ps sp)(hr:Room k X.A)(hb:zBP X.K fd ps ds)(hd:Vals dvs ds)(hx:zFU CX X E)(ha:PA X (e::es) t)
  (hst:starEach (e::es) X.env=(false,eval e X.env)::starEach es X.env:=by rfl) (hpl:(backTo pos (starEach es X.env)).any (·.1)=false:=by rfl)
  (ht:eval (.Call (.Attribute o m apos) (e::es) [] pos) X.env=(do
   let ov<-eval o X.env
   standAt apos.atName
   let (f,first)<-holding [ov] (getMethod ov m pl)
   callWith pos f first (backTo pos (starEach (e::es) X.env)) (backToKw pos (keywordEach [] X.env))):=by rfl) :
  PE X (.Call (.Attribute o m apos) (e::es) [] pos) (zRJ C m sp dvs E ta t):=by
 intro pins s B H Q I h;refine W.methodCall_KW (pl:=pl) (thn (he pins s B H _ I h) λu s1 zz31=>?_) ht;obtain⟨x,H1,I1,rx,a,dx,fs,ex,ea,l,q⟩:=zz31;subst ex;obtain rfl:u=Value.ref a:=rx;refine zFG I1 ea c hm l ?_;refine W.callWith_K (first:=[.ref a]) (h₀:=X.base) I.ok.mod.kin hm.kp (thn (ha pos pins s1 B H1 _ I1 q) λus s2 ⟨vs,H2,I2,r,q2⟩=>⟨I2.kIn,?_⟩) hst hpl;exact zE1 (us:=.ref a::us) (vs:=.ref a::vs) F hr hb hd hx I2 (.cons rfl r) q2
theorem zMa {pl:Sem Bool}(he:PE X o ta)(c:Cls X.K C)(hm:Meth X.K C m f)(F:FnOk X.prog X.w X.K X.mg X.base CX k f fd ps sp)(hr:Room k X.A)(hb:zBP X.K fd ps ds)(hd:Vals dvs ds)(hx:zFU CX X E)
  (ht:eval (.Call (.Attribute o m apos) [] [] pos) X.env=(do
   let ov<-eval o X.env
   standAt apos.atName
   let (f,first)<-holding [ov] (getMethod ov m pl)
   callWith pos f first (backTo pos (starEach [] X.env)) (backToKw pos (keywordEach [] X.env))):=by rfl) :
  PE X (.Call (.Attribute o m apos) [] [] pos) (zRJ C m sp dvs E ta tNil):=by
 intro pins s B H Q I h;refine W.methodCall_KW (pl:=pl) (thn (he pins s B H _ I h) λu s1 zz32=>?_) ht;obtain⟨x,H1,I1,rx,a,dx,fs,ex,ea,l,q⟩:=zz32;subst ex;obtain rfl:u=Value.ref a:=rx;refine zFG I1 ea c hm l ?_;exact W.callWith_K0 (first:=[.ref a]) I1.kIn hm.kp (zE1 (us:=[.ref a]) (vs:=[.ref a]) F hr hb hd hx I1 (.cons rfl .nil) q)
structure Mk (K:W.Frag)(C f:Addr):Prop where
 makes:W.makesIn K C=true
 init:W.findIn K (.ref C) "__init__"=some (some (.ref f))
 fn:W.isFn K (.ref f)=true
 kp:W.keepIn K (.ref C)=true
end
def PK (X:Cx)(kws:List Keyword)(t:TA):Prop :=
 ∀ (pos:Pos) (pins:List (Addr×Obj)) (s:Shared) (B:St) (H:Hp) (Q:List V->Hp->Prop),Inv X pins B H s->t B H Q->wpAny (model X.prog X.w) X.A (evalAll ((backToKw pos (keywordEach kws X.env)).map (·.2))) (AP X pins B Q) X.xe s
section
variable {X:Cx}{CX:CXT}{k:Nat}{f C:Addr}{fd:FuncData}{ps ks:List Str}{sp:Sp}{E:XK}{x m:Str}{p pos apos kpos:Pos}{e o:Expr}{es:List Expr}{kws:List Keyword}{te ta:TE}{t tk:TA}{nm:Option Str}
def zPC (n:PE X e te)(f:PK X kws t):PK X (⟨nm,e,kpos⟩::kws) (zOz te t):=by
 intro c a s B H Q I h;refine wpAny_evalAll_cons (qX (thn (n a s B H _ I h) λu k ⟨x,l,m,r1,d⟩=>qX (wpAny_standAt (q9 ?_))));exact thn (f c a k B l _ m d) λus p b=>by obtain⟨g,i,j,r2,o⟩:=b;exact⟨x::g,i,j,.cons r1 r2,o⟩
variable {g:List Value->List Value->List Value}{gV:List V->List V->List V}
end
structure zAg (N P:List Str)(sc:Scope):Prop where
 kind:sc.kind=.function
 co:sc.isCoroutine=false
 gen:sc.isGenerator=false
 nd:N.Nodup
 pre:N.take P.length=P
 par:∀ x∈P,sc.names.lookup x=some .local\/sc.names.lookup x=some .cell
 nofree:∀ y∈sc.names,y.2≠.free
def zGw {a:Str->Option NameKind}:∀ {binds:List (Str×Value)} {m:Str->Option Value},(∀ v,(x,v)∉binds)->bindL a binds m x=m x
 | [],_,_=>rfl
 | (n,v)::r,m,h=>by
  unfold bindL;rw[zGw λw hw=>h w (qJ _ hw)];split
  .have:x≠n:=by rintro rfl;exact h v q8
   simp[this]
  .rfl
def zGy {a:Str->Option NameKind}:∀ {binds:List (Str×Value)} {m:Str->Option Value},(∀ v,(x,v)∉binds)->bindC a binds m x=m x
 | [],_,_=>rfl
 | (n,v)::r,m,h=>by
  unfold bindC;rw[zGy λw hw=>h w (qJ _ hw)];split
  .rfl
  .have:x≠n:=by rintro rfl;exact h v q8
   simp[this]
theorem zGx {kindOf:Str->Option NameKind}:∀ {P:List Str} {vs:List Value} {i:Nat} {m:Str->Option Value},P.Nodup->P[i]?=some x->vs[i]?=some v->kindOf x=some .local ->
  bindL kindOf (P.zip vs) m x=some v
 | [],_,_,_,_,h,_,_=>by simp at h
 | _::_,[],_,_,_,_,h,_=>by simp at h
 | p::P,w::vs,0,m,nd,h1,h2,hk=>by
  simp at h1 h2;subst h1;subst h2;show bindL kindOf ((p,w)::P.zip vs) m p=_;unfold bindL;rw[zGw λv hv=>(nodup_cons.mp nd).1 (of_mem_zip hv).1,if_pos hk];simp
 | p::P,w::vs,i+1,m,nd,h1,h2,hk=>by
  show bindL kindOf ((p,w)::P.zip vs) m x=_;unfold bindL;exact zGx (i:=i) (nodup_cons.mp nd).2 (by simpa using h1) (by simpa using h2) hk
theorem zGz {kindOf:Str->Option NameKind}:∀ {P:List Str} {vs:List Value} {i:Nat} {m:Str->Option Value},P.Nodup->P[i]?=some x->vs[i]?=some v->kindOf x≠some .local ->
  bindC kindOf (P.zip vs) m x=some v
 | [],_,_,_,_,h,_,_=>by simp at h
 | _::_,[],_,_,_,_,h,_=>by simp at h
 | p::P,w::vs,0,m,nd,h1,h2,hk=>by
  simp at h1 h2;subst h1;subst h2;show bindC kindOf ((p,w)::P.zip vs) m p=_;unfold bindC;rw[zGy λv hv=>(nodup_cons.mp nd).1 (of_mem_zip hv).1,if_neg hk];simp
 | p::P,w::vs,i+1,m,nd,h1,h2,hk=>by
  show bindC kindOf ((p,w)::P.zip vs) m x=_;unfold bindC;exact zGz (i:=i) (nodup_cons.mp nd).2 (by simpa using h1) (by simpa using h2) hk
noncomputable def zCM (N:List Str)(vs:List V):St:=vs.map some++List.replicate (N.length - vs.length) none
noncomputable def cxOf (CX:CXT)(P:Program)(w:World)(K:W.Frag)(mg:Str->Option Value)(base:Heap)(N:List Str)(qual:Str)(scope:Scope)(f:Addr)(cd:Value)(A:Around)(outer:List Env)(s:Shared)(H:Hp)(E:XK):Cx where
 prog:=P
 w:=w
 K:=K
 mg:=mg
 base:=base
 A:=A.deeper (envOfC qual scope s.heap.objs.size f cd)
 N:=N
 s0:=s
 Y7:=H
 env:=envOfC qual scope s.heap.objs.size f cd
 outer:=outer
 stack:=envOfC qual scope s.heap.objs.size f cd::outer
 ex:=[]
 calm:=true
 fn:=λ_=>true
 pn:=[]
 xe:=λe s'=>wpAny (model P w) (A.deeper (envOfC qual scope s.heap.objs.size f cd)) (leaving (envOfC qual scope s.heap.objs.size f cd) e) (λ_ s''=>CX outer H s E e s'') (λe' s''=>CX outer H s E e' s'') s'
def zIX {sc:Scope}(h:sc.names.lookup x=some .cell):∃ c,(cellsFrom n sc.names []).lookup x=some c:=Option.isSome_iff_exists.mp (W.cellsFrom_some sc.names n [] (.inl h))
def zGf {K:W.Frag}
  (S:zAg N ps scope) (G:A.handled=none) (o:A.depth+1+Builtin.pylongFrames < recursionLimit) (a:Env0 P w K mg base A outer s H) (J:vs.length=ps.length) (r:Vals vs us)
  (x:InCallC s s.heap.objs.size (bindL (envOfC qual scope s.heap.objs.size f cd).kindOf (ps.zip us) λ_=>none) (cellsFrom (s.heap.objs.size+1) scope.names []) (bindC (envOfC qual scope s.heap.objs.size f cd).kindOf (ps.zip us) λ_=>none) s1) :
  Inv (cxOf CX P w K mg base N qual scope f cd A outer s H E) [] (zCM N vs) H s1:=by
 have D:ps.length<=N.length:=by have:=congrArg List.length S.pre;rw[length_take] at this;omega
 obtain⟨h1,I,rfl,t⟩:=x.done;have g:∀ b:Addr,b∉(cxOf CX P w K mg base N qual scope f cd A outer s H E).ex:=λb z=>absurd (show b∈([]:List Addr) from z) (by simp)
 refine⟨⟨a.mod,S.kind,rfl,rfl,le_refl _,λy z c h1 h2=>?_,λy d=>?_,λy c _ h=>?_,λ_=>G,Around.frames_deeper a.frames,.inr ⟨rfl,rfl⟩,λb z=>absurd z (g b),a.bs,a.bsz,λb _ _=>g b,λb z=>absurd z (g b),a.funs,a.frf,⟨o,a.tree,_,_,rfl,S.gen,S.co,rfl,rfl⟩,a.tabs⟩,
  rfl,a.bare,Un.kept t,⟨_,x.toInCall.ns,λi y v h1 h2 h3=>?_⟩,λy c h=>⟨_,x.cell y c h⟩,a.hok.fresh (le_refl _),λy c h=>?_,λp l=>absurd (show p∈([]:List (Addr×Obj)) from l) (by simp),a.hok.kept t,?_⟩
 .exact name_of_addr x.apart (PySem.mem_of_lookup h1) (PySem.mem_of_lookup h2)
 .have d:=d;rcases d with d | d
  .exact zIX d
  .exact absurd rfl (S.nofree _ (PySem.mem_of_lookup d))
 .exact Nat.le_of_lt (x.above y c (PySem.mem_of_lookup h))
 .have m:i < vs.length:=by
   unfold zCM at h2;by_cases m:i < vs.length
   .exact m
   .rw [getElem?_append_right (by simpa using m)] at h2;rw[getElem?_replicate] at h2;split at h2<;>cases h2
  have F:vs[i]?=some v:=by
   unfold zCM at h2;rw[getElem?_append_left (by simpa using m),getElem?_map] at h2
   simp_all
  obtain⟨u,B,C⟩:=r.get F;have l:ps[i]?=some y:=by
   rw[<- S.pre,List.getElem?_take_of_lt (by omega)];exact h1
  have j:ps.Nodup:=by rw[<- S.pre];exact S.nd.sublist (List.take_sublist _ _)
  refine⟨u,C,?_⟩;rcases S.par y (mem_of_getElem? l) with k | k
  .exact .inl ⟨k,zGx j l B k⟩
  .obtain ⟨c,e⟩:=zIX (n:=s.heap.objs.size+1) k;refine .inr ⟨.inl k,c,e,?_⟩;have q:=x.cell y c e;rw[zGz j l B (by show scope.names.lookup y≠_;rw[k];decide)] at q;exact q
 .exact a.hok.fresh (Nat.le_of_lt (x.above y c (PySem.mem_of_lookup h)))
 .unfold zCM;show _=N.length;rw[qQ,qy,length_replicate];omega
def zTF {K:W.Frag}{kV:Value}
     (I:K.lookup f=some ⟨oc,od,.func (W.fnOf name qual params body scope dV kV doc pm an cdv ct),osl⟩) (m:W.codeIn K cdv qual=true) (S:zAg N ps scope)
  (len:∀ vs H Q E,sp vs H Q E->vs.length=ps.length)
  (c:∀ (A:Around) (outer:List Env) (s:Shared) (H:Hp) (vs:List V) (Q:VK) (E:XK),Room k (A.deeper (envOfC qual scope s.heap.objs.size f cdv))->sp vs H Q E ->
   ∃ t,PSs (cxOf CX P w K mg base N qual scope f cdv A outer s H E) body t/\t { nx:=λ_ H'=>Q .non H',rt:=Q } (zCM N vs) H) :
  FnOk P w K mg base CX (k+1) f (W.fnOf name qual params body scope dV kV doc pm an cdv ct) ps sp:=by
 refine⟨len,λA outer s H D us vs Q E j h R r i=>?_⟩;have F:=len _ _ _ _ i;have B:K.In s.heap:=h.mod.kin.keeps λb o e=>(h.bs b o e).1
 have a:∀ y∈ps.zip us,scope.names.lookup y.1=some .local\/(scope.names.lookup y.1=some .cell/\((cellsFrom (s.heap.objs.size+1) scope.names []).lookup y.1).isSome=true):=λzz33 G=>by
  obtain⟨n,v⟩:=zz33;rcases S.par n (of_mem_zip G).1 with q | q
  .exact .inl q
  .exact .inr ⟨q,W.cellsFrom_some _ _ _ (.inl q)⟩
 refine codeAny_call_function j.depth (B _ _ I) rfl S.co S.gen rfl (W.codeRec_of B m) (R _ _ _ _ ?_);refine wpAny_newFunctionEnv_cells S.kind a λenv M O x=>?_
 subst M;refine⟨(h.mod.nolimit.keeps λb o e=>(h.bs b o e).1).keeps x.toInCall.keep,codeAny_func ?_⟩;obtain⟨t,L,hq⟩:=c A outer s H vs Q E (j.deeper _) i;refine wpAny_mono (L [] O (zCM N vs) H _ (zGf S j.hd (by have:=j.dp;show A.depth+1+100 < _;omega) h F r x) hq) (λfl p d=>?_) λe p d=>d
 have g:∀ {l:St} {H':Hp} {v:V} {u:Value},Inv (cxOf CX P w K mg base N qual scope f cdv A outer s H E) [] l H' p->RelV v u->Q v H'->CE outer P w H s Q u p :=
  λ{l H' v u} J z q=>⟨v,H',J.os,J.bare,J.base,J.hok,z,q⟩
 cases fl with
 | ret u =>
  obtain⟨v,l,H',J,z,q⟩:=d;exact g J z q
 | next =>
  obtain⟨l,H',J,q⟩:=d;exact g (v:=V.non) (u:=Value.none) J rfl q
 | brk =>
  obtain⟨_,_,_,q⟩:=d;exact False.elim q
 | cont =>
  obtain⟨_,_,_,q⟩:=d;exact False.elim q
section
variable {X:Cx}{x:Str}{p pos:Pos}{e:Expr}{es:List Expr}{t:TA}{id T:String}{r:List V->Hp->VK->Prop}
def tCB (r:List V->Hp->VK->Prop)(t:TA):TE:=λB H Q=>t B H λvs H1=>r vs H1 Q
def zFq (o:zEq X (.builtin id) r)(g:Gl X x)(f:X.mg x=none)(q:bootBuiltins x=some (.builtin id))(k:PA X (e::es) t)(j:x ≠ "__name__":=by decide)(c:(x==("__debug__":Str))=false:=by decide)
  (m:starEach (e::es) X.env=(false,eval e X.env)::starEach es X.env:=by rfl) (d:(backTo pos (starEach es X.env)).any (·.1)=false:=by rfl):PE X (.Call (.Name x p) (e::es) [] pos) (tCB r t):=by
 intro a s B H Q I h;refine wpAny_Call_Name_kw (zC7 I g f q ?_ j c);exact PyProof.Rows.callWith_builtin1 (thn (k pos a s B H _ I h) λus l b=>by obtain⟨n,i,v,r1,u⟩:=b;exact o a l B i n us Q v r1 u) m d
def zGT (v:zEq X (.type T) r)(g:Gl X x)(i:X.mg x=none)(l:bootBuiltins x=some (.type T))(m:PA X (e::es) t)(j:x ≠ "__name__":=by decide)(d:(x==("__debug__":Str))=false:=by decide)
  (u:starEach (e::es) X.env=(false,eval e X.env)::starEach es X.env:=by rfl) (c:(backTo pos (starEach es X.env)).any (·.1)=false:=by rfl):PE X (.Call (.Name x p) (e::es) [] pos) (tCB r t):=by
 intro a s B H Q I h;refine wpAny_Call_Name_kw (zC7 I g i l ?_ j d);exact PyProof.Rows.callWith_type1 (thn (m pos a s B H _ I h) λus q b=>by obtain⟨k,o,n,r1,f⟩:=b;exact v a q B o k us Q n r1 f) u c
end
end L2
namespace HT
open PySem PyProof.Rows
section
open PySem.SeqAt
open PySem.AutoSeq1 (wpAny_loadPart')
open PySem.MeetsSeq PySem.MeetsSeq2 PySem.MeetsSeq3
end
section
variable {prog:Program}{w:World}{A:Around}{E:Value->Shared->Prop}{s:Shared}
def zQ1 (h:IsTup s.heap t vs.toArray)(i:IsTup s.heap b ws.toArray)(e:vs≠[])
  (h1:ws=[]->Q (.ref t) s) (h2:ws≠[]->Q (.ref s.heap.objs.size) { s with heap:=s.heap.push { cls:=.type "tuple",data:=.seq (vs++ws).toArray } })
  (hsz:vs.length+ws.length<=sizeLine):wpAny (model prog w) A (binaryOp .Add (.ref t) (.ref b)) Q E s:=by
 obtain⟨⟨cls,g,data,sl⟩,ho,hc,n,hd⟩:=id h;obtain⟨⟨f,c,d,a⟩,ho2,hc2,n2,hd2⟩:=id i
 simp_all
 by_cases hw:ws=[]
 .exact concat_meets ⟨_,ho,rfl⟩ ⟨_,ho2,rfl⟩ noFill_tuple_add seq_tuple_add PySem.F.slot_tuple_add PySem.F.entry_tuple_add (PySem.F.args_tuple_add_2 _ _)
   (tuple_addW1 t b vs.toArray ws.toArray n n2 g c sl a (by simpa using e) (by simp[hw])) ⟨ho,ho2,h1 hw⟩
 .refine concat_meets ⟨_,ho,rfl⟩ ⟨_,ho2,rfl⟩ noFill_tuple_add seq_tuple_add PySem.F.slot_tuple_add PySem.F.entry_tuple_add (PySem.F.args_tuple_add_2 _ _)
   (tuple_addW2 t b vs.toArray ws.toArray n n2 g c sl a (by simpa using e) (by simpa using hw) (by omega)) ⟨ho,ho2,?_⟩
  simp_all
noncomputable def sIx (n d:Nat):Option Int->Nat
 | none=>d
 | some v=>if v < 0 then (v+(n:Int)).toNat else min v.toNat n
def zFh (n d:Nat):sIx n d none=d:=rfl
def zHD (n d k:Nat):sIx n d (some (k:Int))=min k n:=rfl
def zRR (n d:Nat)(a:d<=n)(o:Option Int):sIx n d o<=n:=by
 cases o with
 | none=>exact a
 | some v =>
  show (if v < 0 then (v+_).toNat else min v.toNat n)<=n;grind
def zLp (v:Int)(n d:Nat):(if v < 0 then max (v+(n:Int)) 0 else min v (n:Int))=((sIx n d (some v):Nat):Int):=by
 show _=((if v < 0 then (v+_).toNat else min v.toNat n:Nat):Int);grind
def zJM (a b:Option Int)(n:Nat):Builtin.Slice.sliceAdjust a b 1 (n:Int)=(((sIx n 0 a:Nat):Int),((sIx n n b:Nat):Int)):=by
 refine Prod.ext ?_ ?_
 .cases a with
  | none=>rfl
  | some v=>exact zLp v n 0
 .cases b with
  | none=>rfl
  | some v=>exact zLp v n n
def zIt (i j:Nat):Builtin.Slice.slicePlaces (i:Int) (j:Int) 1=j - i:=by
 unfold Builtin.Slice.slicePlaces;grind
def zE0 (p:IsPart v o)(h:Q o s):wpAny (model prog w) A (Builtin.Slice.slicePartIndex v) Q E s:=by
 cases p with
 | none=>exact slicePart_none h
 | int i t=>exact slicePart_int h
def zD8 {c d:Option Int}{n:Nat}{Q:Int×Int×Nat->Shared->Prop}(g:s.heap.IsSliceOf sl vl vu .none)(pl:IsPart vl c)(f:IsPart vu d)
  (h:Q (((sIx n 0 c:Nat):Int),1,sIx n n d - sIx n 0 c) s):wpAny (model prog w) A (Builtin.Slice.sliceApplied (.ref sl) (pure (n:Int))) Q E s:=by
 obtain⟨i,b,e,a⟩:=id g;refine qX (qX (wpAny_field b a (x:=vl) rfl (qX (wpAny_field b a (x:=vu) rfl (qX (wpAny_field b a rfl (q9 ?_)))))));refine qX (slicePart_none ?_);refine qX (zE0 pl (qX (zE0 f (qX (q9 ?_)))));simp;rw[zJM c d n];simp;rw[zIt];exact q9 h
def zMZ (xs:Array Value)(i k:Nat):((List.range k).filterMap λ(m:Nat)=>xs[((i:Int)+(m:Int)*1).toNat]?).toArray=((xs.toList.drop i).take k).toArray:=by
 have e:(λ(m:Nat)=>xs[((i:Int)+(m:Int)*1).toNat]?)=λm=>xs[i+m]?:=by
  funext m;have:((i:Int)+(m:Int)*1).toNat=i+m:=by omega
  rw[this]
 rw[e];have:=pick_run xs i k
 simp_all
 assumption
def zDt {b:Option Int}(c:IsTup s.heap t items)(i:s.heap.IsSliceOf sl vl vu .none)(pl:IsPart vl b)(l:IsPart vu hi)
  (o:¬ (sIx items.size 0 b=0/\sIx items.size items.size hi=items.size))
  (h:Q (.ref s.heap.objs.size) { s with heap:=s.heap.push { cls:=.type "tuple",data:=.seq ((items.toList.drop (sIx items.size 0 b)).take (sIx items.size items.size hi - sIx items.size 0 b)).toArray } })
  (hsz:items.size<=sizeLine):wpAny (model prog w) A (getItem (.ref t) (.ref sl)) Q E s:=by
 have a:sizeOk (.seq ((items.toList.drop (sIx items.size 0 b)).take (sIx items.size items.size hi - sIx items.size 0 b)).toArray):=by
  show ((items.toList.drop (sIx items.size 0 b)).take (sIx items.size items.size hi - sIx items.size 0 b)).toArray.size<=sizeLine;rw[xy,length_take,List.length_drop,Array.length_toList];omega
 have n:sIx items.size items.size hi<=items.size:=zRR _ _ (le_refl _) hi;obtain⟨j,d,g,k⟩:=id i;have f:s.TypeIs (.ref sl) "slice":=⟨j,d,g⟩;unfold getItem
 try with_reducible refine wpAny_holding ?_
 first | refine qX (q9 ?_) | skip
 refine qX (wpAny_sequenceKey c.typeIs (by decide) ?_);refine qX (wpAny_callSpecial?_slot (name:=Str.ofString "__getitem__") c.typeIs PyProof.Rows.slot_tuple_getitem
  (wpAny_call_entry PyProof.Rows.slot_tuple_getitem c.typeIs entry_tuple_getitem ?_ (args_tuple_getitem _ _)))
 show wpAny _ _ (Builtin.Tuple.tupleItemsOf (.ref t)>>=_) _ _ s;refine qX (tupleItemsOf_ c ?_);refine qX (wpAny_typeOf f ?_);rw[if_pos (by decide)];refine qX (zD8 i pl l ?_);have e:¬ ((((sIx items.size 0 b:Nat):Int)==0&&(1:Int)==1&&(sIx items.size items.size hi - sIx items.size 0 b)==items.size)=true):=by
  grind
 show wpAny _ _ (if _=true then _ else _) _ _ s;rw[if_neg e,zMZ]
 first
  | exact qX (m:=Builtin.Tuple.tupleExact _) (wpAny_newObj_type (q9 ⟨_,rfl,q9 h⟩) a)
  | exact qX (m:=Builtin.Tuple.tupleExact _) (wpAny_newObj_type (qX (q9 (q9 ⟨_,rfl,q9 h⟩))) a)
  | exact qX (qX (m:=Builtin.Tuple.tupleExact _) (wpAny_newObj_type (q9 (q9 ⟨_,rfl,q9 h⟩)) a))
  | exact qX (qX (m:=Builtin.Tuple.tupleExact _) (wpAny_newObj_type (q9 ⟨_,rfl,q9 h⟩) a))
end
end HT
namespace L2
open PySem Spec PyProof.Rows
abbrev TO:=St->Hp->(Option Int->Hp->Prop)->Prop
def PO (X:Cx)(e:Option Expr)(t:TO):Prop :=
 ∀ (pins:List (Addr×Obj)) (s:Shared) (B:St) (H:Hp) (Q:Option Int->Hp->Prop),Inv X pins B H s->t B H Q ->
  wpAny (model X.prog X.w) X.A (evalPart e X.env) (λu s'=>∃ o H',Inv X pins B H' s'/\IsPart u o/\Q o H') X.xe s
def zOy:TO:=λ_ H Q=>Q none H
def zT0 (t:TE):TO:=λB H Q=>t B H λx H1=>∃ i,x=.int i/\Q (some i) H1
section
variable {X:Cx}{e:Expr}{te:TE}{lo hi:Option Expr}{tl th:TO}{pos p2:Pos}
def zHH:PO X none zOy:=by
 intro a s B H Q I h;exact q9 ⟨none,H,I,.none,h⟩
def zHG (h:PE X e te):PO X (some e) (zT0 te):=by
 intro a s B H Q I c;refine thn (h a s B H _ I c) λu j b=>?_
 obtain⟨x,f,d,r1,g⟩:=b;obtain⟨i,rfl,q⟩:=g;obtain⟨t,rfl⟩:=r1;exact⟨some i,f,d,.int i t,q⟩
def SlR (X:Cx)(r:V->Option Int->Option Int->Hp->VK->Prop):Prop :=
 ∀ (pins:List (Addr×Obj)) (s:Shared) (B:St) (H:Hp) (x:V) (v vl vu:Value) (lo hi:Option Int) (sl:Addr) (Q:VK),Inv X pins B H s->RelV x v->s.heap.IsSliceOf sl vl vu .none->IsPart vl lo->IsPart vu hi->r x lo hi H Q ->
  ∃ T id,typeLookup (.type T) "__getitem__"=pure (some (.builtin id))/\s.TypeIs v T/\wpAny (model X.prog X.w) X.A (getItem v (.ref sl)) (EP X pins B Q) X.xe s
def SlR.or (h:SlR X r)(h':SlR X r'):SlR X (λx lo hi H Q=>r x lo hi H Q\/r' x lo hi H Q):=by
 intro a s B H x v f g lo hi sl Q I e b c d q;rcases q with q | q
 .exact h a s B H x v f g lo hi sl Q I e b c d q
 .exact h' a s B H x v f g lo hi sl Q I e b c d q
def tSl (r:V->Option Int->Option Int->Hp->VK->Prop)(te:TE)(tl th:TO):TE:=λB H Q=>te B H λx H1=>tl B H1 λl H2=>th B H2 λu H3=>r x l u H3 Q
def zFp (t:SlR X r)(J:PE X e te)(n:PO X lo tl)(M:PO X hi th):PE X (.Subscript e (.Slice lo hi none p2) pos) (tSl r te tl th):=by
 intro a s B H Q I h;refine Subscript_ (thn (J a s B H _ I h) λv C b=>?_);obtain⟨x,G,D,r1,j⟩:=b;refine wpAny_Slice (thn (n a C B G _ D j) λvl z ⟨l,w,y,F,o⟩=>thn (M a z B w _ y o) λvu d c=>?_);obtain⟨u,i,L,E,A⟩:=c;refine q9 ?_;have m:Inv X a B i { d with heap:=d.heap.push { cls:=.type "slice",data:=.fields #[vl,vu,.none] } }:=L.kept λb ob q=>get?_push_of_some _ q
 obtain⟨T,N,k,K,p⟩:=t a { d with heap:=d.heap.push { cls:=.type "slice",data:=.fields #[vl,vu,.none] } } B i x v vl vu l u d.heap.objs.size Q m r1 (Heap.IsSliceOf.new ..) F E A;exact tail_any K k p rfl
noncomputable def cutV (xs:List V)(lo hi:Option Int):List V:=(xs.drop (HT.sIx xs.length 0 lo)).take (HT.sIx xs.length xs.length hi - HT.sIx xs.length 0 lo)
def zEi (xs:List V)(a b:Option Int):(cutV xs a b).length<=xs.length:=by
 unfold cutV;simp;omega
def rSlT (K:W.Frag):V->Option Int->Option Int->Hp->VK->Prop:=λx lo hi H Q=>∃ a xs,x=.ref a/\SqT K H a xs /\
 ¬ (HT.sIx xs.length 0 lo=0/\HT.sIx xs.length xs.length hi=xs.length)/\∀ p,H p=none->Q (.ref p) (upd H p (.tup (cutV xs lo hi)))
def zRQ:SlR X (rSlT X.K):=by
 intro f s B H x v u t o j sl Q I i g l m h;obtain⟨a,d,rfl,n,p,q⟩:=h;cases i;obtain⟨c,r,e,k⟩:=I.tuple n;have b:c.toArray.size=d.length:=by rw[xy];exact r.length.symm
 refine⟨"tuple",_,PyProof.Rows.slot_tuple_getitem.lookup,e.typeIs,?_⟩;refine HT.zDt e g l m (by grind) ?_ (by simp_all);rw[b];refine⟨.ref s.heap.objs.size,_,I.laid (λb ob q=>get?_push_of_some _ q) (le_refl _) ?_,rfl,q _ (I.hok.fresh (le_refl _))⟩;exact⟨le_trans (zEi d o j) k,_,(r.drop _).take _,IsTup.new _ _⟩
def zRX (K:W.Frag):R2:=λx y H Q=>∃ a b xs ys,x=.ref a/\y=.ref b/\SqT K H a xs/\SqT K H b ys/\xs≠[]/\xs.length+ys.length<=sizeLine /\
 (ys=[]->Q (.ref a) H)/\(ys≠[]->∀ p,H p=none->Q (.ref p) (upd H p (.tup (xs++ys))))
def Vals.nil_iff (r:Vals xs us):us=[]<->xs=[]:=by
 cases r with
 | nil=>simp
 | cons _ _=>simp
end
end L2
namespace L2
open PySem Spec PyProof.Rows
noncomputable def ixN (n:Nat)(i:Int):Option Nat:=if 0<=i then (if i < n then some i.toNat else none) else if -(n:Int)<=i then some (i+n).toNat else none
noncomputable def atI {T:Type}(xs:List T)(i:Int):Option T:=(ixN xs.length i).bind λj=>xs[j]?
def zKp (h:ixN n i=some j):seqIndex? i n=some j/\j < n/\-(n:Int)<=i/\i < n:=by
 unfold ixN at h;by_cases h0:0<=i
 .rw [if_pos h0] at h;by_cases h1:i < n
  .rw [if_pos h1] at h;have e:i.toNat=j:=xj h;exact⟨by rw[seqIndex_of h0 h1,e],by omega,by omega,h1⟩
  .simp_all
 .rw [if_neg h0] at h;by_cases h1:-(n:Int)<=i
  .rw [if_pos h1] at h;have e:(i+n).toNat=j:=xj h;exact⟨by rw[seqIndex_neg (by omega) h1,e],by omega,h1,by omega⟩
  .simp_all
def zLw {T:Type}{xs:List T}{i:Int}{v:T}(h:atI xs i=some v):∃ j,seqIndex? i xs.length=some j/\xs[j]?=some v/\j < xs.length/\-(xs.length:Int)<=i/\i < xs.length:=by
 unfold atI at h;cases e:ixN xs.length i with
 | none=>rw[e] at h;cases h
 | some j =>
  simp_all
  obtain⟨h1,h2,h3,h4⟩:=zKp e;exact⟨j,h1,h,h2,h3,h4⟩
def zAx {T:Type}{xs:List T}{j:Nat}{v:T}(h:xs[j]?=some v):atI xs (j:Int)=some v:=by
 have a:=(zzg h).1;have e:ixN xs.length j=some j:=by
  unfold ixN
  simp_all
 unfold atI;rw[e];exact h
def zGE (b:Expr):Prop:=∀ o i,subscripted b false o i=operate [o,i] (getItem o i)
def IxR (X:Cx)(r:R2):Prop :=
 ∀ (value slice:Expr) (pins:List (Addr×Obj)) (s:Shared) (B:St) (H:Hp) (x y:V) (v u:Value) (Q:VK),Inv X pins B H s->RelV x v->RelV y u->r x y H Q ->
  subscripted slice false v u=operate [v,u] (getItem v u)->wpAny (model X.prog X.w) X.A (subscriptTail value slice v u) (EP X pins B Q) X.xe s
def MtR (X:Cx)(id:String)(r:V->List V->Hp->VK->Prop):Prop :=
 ∀ (pins:List (Addr×Obj)) (s:Shared) (B:St) (H:Hp) (x:V) (xs:List V) (v:Value) (us:List Value) (Q:VK),Inv X pins B H s->RelV x v->Vals xs us->r x xs H Q ->
  wpAny (model X.prog X.w) X.A (call (.builtin id) (v::us)) (EP X pins B Q) X.xe s
section
variable {X:Cx}{a b:Expr}{ta tb:TE}{pos:Pos}
def IxR.or (h:IxR X r)(h':IxR X r'):IxR X (λx y H Q=>r x y H Q\/r' x y H Q):=by
 intro b a c s B H x y v u Q I f d q e;rcases q with q | q
 .exact h b a c s B H x y v u Q I f d q e
 .exact h' b a c s B H x y v u Q I f d q e
def zRn (k:IxR X r)(f:PE X a ta)(l:PE X b tb)(d:zGE b):PE X (.Subscript a b pos) (tOp r ta tb):=by
 intro c s B H Q I h;exact Subscript_ (binT f l I h λv u m x y i j e g q=>k a b c m B i x y v u Q j e g q (d _ _))
def rIxL (K:W.Frag):R2:=λx y H Q=>∃ p xs i v,x=.ref p/\y=.int i/\SqL K H p xs/\atI xs i=some v/\Q v H
def rIxT (K:W.Frag):R2:=λx y H Q=>∃ p xs i v,x=.ref p/\y=.int i/\SqT K H p xs/\atI xs i=some v/\Q v H
def zKn:IxR X (rIxL X.K):=by
 intro c d a s B H x y v u Q I n A h m;obtain⟨p,D,i,z,rfl,rfl,hq,o,q⟩:=h;cases n;obtain⟨t,rfl⟩:=A;obtain⟨f,r,g,F⟩:=I.list hq;obtain⟨j,h1,h2,h3,h4,h5⟩:=zLw o;obtain⟨w,l,e⟩:=r.get h2;have C:=r.length;have E:=zH8;have b:EP X a B Q w s:=⟨z,H,I,e,q⟩;by_cases h0:0<=i
 .have k:i.toNat=j:=by
   rw[seqIndex_of h0 h5] at h1;exact xj h1
  exact item_listR g.isList h0 (by omega) (by rw[k];simpa using l) b m
 .have k:(i+(f.toArray.size:Int)).toNat=j:=by
   rw[seqIndex_neg (by omega) h4] at h1
   simp_all
  exact subscriptTail_builtinR (x:=w) g.isList.typeIs slot_list_getitem.lookup
   (wpAny_getItem_list_neg g.isList (by omega) (by rw[xy]<;>omega) (by omega) (by rw[k];simpa using l) ⟨rfl,b⟩) m
def zOU:IxR X (rIxT X.K):=by
 intro c b d s B H x y v u Q I k g h n;obtain⟨p,C,i,z,rfl,rfl,hq,l,q⟩:=h;cases k;obtain⟨t,rfl⟩:=g;obtain⟨m,r,e,o⟩:=I.tuple hq;obtain⟨j,h1,h2,h3,h4,h5⟩:=zLw l;obtain⟨w,f,a⟩:=r.get h2;have A:=r.length;have D:=zH8;exact subscriptTail_builtinR e.typeIs slot_tuple_getitem.lookup
  (getItem_tuple (j:=j) e (by omega) (by omega) (by simp_all) (by simpa using f) ⟨rfl,(⟨z,H,I,a,q⟩)⟩) n
def zI0 (a:List Value)(n j:Nat)(u:Value):Obj.mapSeq (·.setIfInBounds j u) { cls:=.type "list",data:=.seq a.toArray n }={ cls:=.type "list",data:=.seq (a.set j u).toArray n }:=by
 simp[Obj.mapSeq]
def Inv.lst {b:List (Addr×Obj)}{B:St}{H:Hp}{s:Shared}{p:Addr}{xs:List V}(I:Inv X b B H s)(h:H p=some (.lst xs)) :
  ∃ (a:List Value) (n:Nat),Vals xs a/\s.heap.get? p=some { cls:=.type "list",data:=.seq a.toArray n }/\xs.length<=sizeLine:=by
 obtain⟨z,a,n,r,e⟩:=I.hok p _ h;exact⟨a,n,r,e,z⟩
def Inv.lstUpd {b:List (Addr×Obj)}{B:St}{H:Hp}{s:Shared}{p:Addr}{xs ys:List V}{c a:List Value}{n d:Nat}{f:Obj->Obj}(I:Inv X b B H s)(h:H p=some (.lst xs))
  (i:s.heap.get? p=some { cls:=.type "list",data:=.seq c.toArray n }) (g:f { cls:=.type "list",data:=.seq c.toArray n }={ cls:=.type "list",data:=.seq a.toArray d }) (r:Vals ys a) (hz:ys.length<=sizeLine) (t:Nat) :
  Inv X b B (upd H p (.lst ys)) { s with heap:=s.heap.update p f,toks:=t }:=by
 have e:(s.heap.update p f).get? p=some { cls:=.type "list",data:=.seq a.toArray d }:=by
  rw[Heap.get?_update_self f i (by rw[g]<;>rfl),g]
 refine I.write (by rw[h];trivial) (.inl rfl) (λb u j q=>(Heap.get?_update_other _ _ (Ne.symm j)).trans q) ⟨_,e⟩ ?_;exact⟨hz,a,d,r,e⟩
def zT9:V->V->V->Hp->(Hp->Prop)->Prop:=λo i v H Q=>∃ p xs k j,o=.ref p/\i=.int k/\H p=some (.lst xs)/\ixN xs.length k=some j/\Q (upd H p (.lst (xs.set j v)))
def zMQ:PSet X zT9:=by
 intro f s B H o i v C A u Q I w x g h;obtain⟨p,y,k,j,rfl,rfl,e,l,q⟩:=h;cases w;obtain⟨t,rfl⟩:=x;obtain⟨a,n,r,c,m⟩:=I.lst e;obtain⟨h1,h2,h3,h4⟩:=zKp l;have D:=r.length;have z:=zH8;have d :=
  I.lstUpd e c (zI0 a n j u) (r.set g j) (by rw[length_set];exact m) s.toks
 by_cases h0:0<=k
 .have b:k.toNat=j:=by
   rw[seqIndex_of h0 h4] at h1;exact xj h1
  exact W.ki_setAt c h0 (by omega) (by simp_all) (by rw[b];exact⟨_,d,q⟩)
 .have b:(k+(a.toArray.size:Int)).toNat=j:=by
   rw[seqIndex_neg (by omega) h3] at h1;grind
  exact W.ki_setBack c (by omega) (by simp_all) (by omega) (by rw[b];exact⟨_,d,q⟩)
def zGO (a b:Option Int)(n:Nat):(sliceBounds a b none n).1=((HT.sIx n 0 a:Nat):Int)/\(sliceBounds a b none n).2.1=((HT.sIx n n b:Nat):Int)/\(sliceBounds a b none n).2.2=1:=by
 refine⟨?_,?_,rfl⟩
 .cases a with
  | none=>simp[sliceBounds,HT.sIx]
  | some i =>
   simp only[sliceBounds,HT.sIx,Option.getD_none,show (1:Int)>0 by decide,if_true];by_cases h:i < 0
   .simp only [h,if_true]<;>omega
   .simp only [h,if_false]<;>omega
 .cases b with
  | none=>simp[sliceBounds,HT.sIx]
  | some i =>
   simp only[sliceBounds,HT.sIx,Option.getD_none,show (1:Int)>0 by decide,if_true];by_cases h:i < 0
   .simp only [h,if_true]<;>omega
   .simp only [h,if_false]<;>omega
def zFf (a:List Value)(b c:Option Int):slicePick a.toArray b c none=((a.drop (HT.sIx a.length 0 b)).take (HT.sIx a.length a.length c - HT.sIx a.length 0 b)).toArray:=by
 obtain⟨h1,h2,h3⟩:=zGO b c a.toArray.size;unfold slicePick;rw[h1,h2,h3];simp only[sliceRange_one,pick_run]<;>rfl
def rSlL (K:W.Frag):V->Option Int->Option Int->Hp->VK->Prop:=λx lo hi H Q=>∃ a xs,x=.ref a/\SqL K H a xs/\∀ p,H p=none->Q (.ref p) (upd H p (.lst (cutV xs lo hi)))
def zG8:SlR X (rSlL X.K):=by
 intro c s B H x v p t j n sl Q I i e f g h;obtain⟨a,k,rfl,m,q⟩:=h;cases i;obtain⟨l,r,d,o⟩:=I.list m;have b:=r.length;refine⟨"list",_,slot_list_getitem.lookup,d.isList.typeIs,?_⟩;refine wpAny_getItem_list_slice d.isList e f g .none (by simp) ?_ (by grind);rw[zFf,<- b];refine⟨.ref s.heap.objs.size,_,I.laid (λb ob q=>get?_push_of_some _ q) (le_refl _) ?_,rfl,q _ (I.hok.fresh (le_refl _))⟩;exact⟨le_trans (zEi k j n) o,_,0,(r.drop _).take _,get?_push_size _ rfl⟩
def zGt:zEq X (.builtin "len") (λxs H Q=>∃ p ys,xs=[.ref p]/\(SqL X.K H p ys\/SqT X.K H p ys)/\Q (.int ys.length) H):=by
 intro e s B H xs us Q I r h;obtain⟨p,ys,rfl,hq,q⟩:=h;obtain⟨u,rfl,g⟩:=zG4 r;cases g;have i:=zH8;rcases hq with hq | hq
 .obtain ⟨b,c,d,f⟩:=I.list hq;have a:=c.length;exact Calls.call_len_list d.isList (by simp only[xy]<;>omega) ⟨.int ys.length,H,I.tok _,⟨s.toks+1,by rw[xy,a]⟩,q⟩
 .obtain ⟨b,c,d,f⟩:=I.tuple hq;have a:=c.length;exact len_tuple d (by simp only[xy]<;>omega) ⟨.int ys.length,H,I.tok _,⟨s.toks+1,by rw[xy,a]⟩,q⟩
def zD5:zEq X (.type "list") (λxs H Q=>∃ p ys,xs=[.ref p]/\(SqL X.K H p ys\/SqT X.K H p ys)/\∀ l,H l=none->Q (.ref l) (upd H l (.lst ys))):=by
 intro f s B H xs us Q I r h;obtain⟨p,ys,rfl,hq,q⟩:=h;obtain⟨u,rfl,x⟩:=zG4 r;cases x;have g:∀ (its:List Value),Vals ys its->ys.length<=sizeLine->∀ (h':Heap) (b:Nat),_ ->
   h'.get? s.heap.objs.size=some { cls:=.type "list",dict:=none,data:=.seq its.toArray b,slots:=#[] }->EP X f B Q _ { s with heap:=h' }:=λits c j h' b k e =>
  ⟨.ref s.heap.objs.size,_,I.laid (t':=s.toks) k (le_refl _) (show zCr X.prog X.w _ h' _ (.lst ys) from ⟨j,its,b,c,e⟩),rfl,q _ (I.hok.fresh (le_refl _))⟩
 rcases hq with hq | hq
 .obtain ⟨its,c,w,j⟩:=I.list hq;have i:=c.length;obtain⟨o,m,v,n,t⟩:=w.isList;exact call_list_seq p (.inl rfl) m v t (λh' b k e=>g its c j h' b k e) (by simp_all)
 .obtain ⟨its,c,w,j⟩:=I.tuple hq;have i:=c.length;obtain⟨o,m,v,n,t⟩:=w;exact call_list_seq p (.inr rfl) m v t (λh' b k e=>g its c j h' b k e) (by grind)
def zF9:zEq X (.type "tuple") (λxs H Q=>∃ p ys,xs=[.ref p]/\((SqL X.K H p ys/\∀ l,H l=none->Q (.ref l) (upd H l (.tup ys)))\/(SqT X.K H p ys/\Q (.ref p) H))):=by
 intro f s B H xs us Q I r h;obtain⟨p,ys,rfl,h⟩:=h;obtain⟨u,rfl,j⟩:=zG4 r;cases j;rcases h with ⟨hq,q⟩ | ⟨hq,q⟩
 .obtain ⟨a,c,b,d⟩:=I.list hq;have i:=c.length;refine call_tuple_list b.isList (λh' m=>?_) (by grind);have g:=I.kept (t':=s.toks) m;have k :=
   g.laid (t':=s.toks) (λb o e=>get?_push_of_some _ e) (le_refl _) (show zCr X.prog X.w _ _ _ (.tup ys) from ⟨d,a,c,IsTup.new _ _⟩)
  exact⟨.ref h'.objs.size,_,k,rfl,q _ (g.hok.fresh (le_refl _))⟩
 .obtain ⟨a,c,b,d⟩:=I.tuple hq;exact call_tuple_same b ⟨.ref p,H,I,rfl,q⟩
def tyV (K:W.Frag)(T:String)(x:V)(H:Hp):Prop:=match x with
 | .str _=>T = "str"
 | .int _=>T = "int"
 | .ref p=>(T = "list"/\∃ xs,SqL K H p xs)\/(T = "tuple"/\∃ o,K.lookup p=some o/\o.cls=.type "tuple"/\o.dict=none) \/
   (T = "dict"/\((∃ kvs,H p=some (.dK kvs))\/∃ kvs,H p=some (.dT kvs)))\/(T = "set"/\∃ S n,H p=some (.set S n))
 | _=>False
def zN1 {f:List (Addr×Obj)}{B:St}{H:Hp}{s:Shared}{T:String}{x:V}{v:Value}(I:Inv X f B H s)(r:RelV x v)(ty:tyV X.K T x H) :
  s.TypeIs v T/\∀ a,v=.ref a->∃ ob,s.heap.get? a=some ob/\ob.dict=none:=by
 cases x with
 | str z =>
  obtain⟨t,rfl⟩:=r;cases ty;exact⟨typeIs_str s z t,λ_ e=>nomatch e⟩
 | int i =>
  obtain⟨t,rfl⟩:=r;cases ty;exact⟨typeIs_int s i t,λ_ e=>nomatch e⟩
 | ref p =>
  cases r;rcases ty with ⟨rfl,m,hq⟩ | ⟨rfl,o,b,hc,h⟩ | ⟨rfl,b⟩ | ⟨rfl,S,n,b⟩
  .obtain ⟨l,_,k,_⟩:=I.list hq;refine⟨k.isList.typeIs,λa e=>?_⟩;cases e;obtain⟨o,n,e,c,h,_⟩:=k;exact⟨o,e,h⟩
  .refine ⟨⟨o,I.kIn p o b,hc⟩,λa e=>?_⟩;cases e;exact⟨o,I.kIn _ o b,h⟩
  .have z:∃ o,s.heap.get? p=some o/\o.ExactDict:=by
    rcases b with ⟨g,b⟩ | ⟨g,b⟩
    .obtain ⟨_,_,_,_,o,_,_,e,d,_⟩:=I.hok p _ b;exact⟨o,e,d⟩
    .obtain ⟨_,_,_,_,o,_,_,e,d,_⟩:=I.hok p _ b;exact⟨o,e,d⟩
   obtain⟨o,e,d⟩:=z;refine⟨⟨o,e,d.1⟩,λa j=>?_⟩;cases j;exact⟨o,e,d.2.1⟩
  .obtain ⟨o,_,_,_,e,d,_⟩:=I.hok p _ b;refine⟨⟨o,e,d.1⟩,λa j=>?_⟩;cases j;exact⟨o,e,d.2.1⟩
 | _=>exact False.elim ty
def tBM0 (K:W.Frag)(T:String)(r:V->List V->Hp->VK->Prop)(to:TE):TE:=λB H Q=>to B H λx H1=>tyV K T x H1/\r x [] H1 Q
def tBM (K:W.Frag)(T:String)(r:V->List V->Hp->VK->Prop)(to:TE)(t:TA):TE:=λB H Q=>to B H λx H1=>tyV K T x H1/\t B H1 λxs H2=>r x xs H2 Q
variable {o e:Expr}{es:List Expr}{to:TE}{t:TA}{name:Str}{apos cpos:Pos}{T id:String}{r:V->List V->Hp->VK->Prop}
def zOL (pa:PlainAttrs T)(d:Slot T name id)(f:typeOf (.builtin id)=pure (.type "method_descriptor"))(l:MtR X id r)(i:PE X o to)
  (b:attributeBase o name X.env (eval o X.env)=eval o X.env:=by rfl) (c:(apos.endLine==cpos.line)=true:=by rfl):PE X (.Call (.Attribute o name apos) [] [] cpos) (tBM0 X.K T r to):=by
 intro a s B H Q I h;refine wpAny_Call_method0_late b c (thn (i a s B H _ I h) λv j e=>?_);obtain⟨x,k,g,r1,ty,m⟩:=e;obtain⟨h1,h2⟩:=zN1 g r1 ty;exact⟨T,id,pa,d,f,h1,h2,Calls.callWith_builtin rfl (PySem.evalArgs_none (l a j B k x [] v [] Q g r1 .nil m))⟩
def zPF (pa:PlainAttrs T)(i:Slot T name id)(k:typeOf (.builtin id)=pure (.type "method_descriptor"))(F:MtR X id r)(w:PE X o to)(E:PA X (e::es) t)
  (d:attributeBase o name X.env (eval o X.env)=eval o X.env:=by rfl)
  (g:((backTo cpos (starEach (e::es) X.env)).all (λx=>!x.1)&&(backToKw cpos (keywordEach [] X.env)).all (λx=>x.1.isSome)
   && decide ((e::es).length+([]:List Keyword).length+(if ([]:List Keyword).isEmpty then 0 else 1) < 30))=true:=by rfl)
  (c:(apos.endLine==cpos.line)=true:=by rfl) (A:starEach (e::es) X.env=(false,eval e X.env)::starEach es X.env:=by rfl) (j:(backTo cpos (starEach es X.env)).any (·.1)=false:=by rfl) :
  PE X (.Call (.Attribute o name apos) (e::es) [] cpos) (tBM X.K T r to t):=by
 intro a s B H Q I h;refine wpAny_Call_method_late d g c rfl (thn (w a s B H _ I h) λv z f=>?_);obtain⟨x,q,m,r1,ty,p⟩:=f;obtain⟨h1,h2⟩:=zN1 m r1 ty;refine⟨T,id,pa,i,k,h1,h2,?_⟩;have l:=E cpos a z B q _ m p;rw[A] at l ⊢;refine Calls.callWith_builtin (by assumption) (Calls.evalArgs_plain ?_);exact thn l λus n b=>by obtain⟨u,C,y,r2,D⟩:=b;exact F a n B C x u v us Q y r1 r2 D
end
def MtM (X:Cx)(id:String)(r:V->List V->Hp->VK->Prop):Prop :=
 ∀ (pins:List (Addr×Obj)) (s:Shared) (B:St) (H:Hp) (x:V) (xs:List V) (v:Value) (us:List Value) (Q:VK),Inv X pins B H s->RelV x v->Vals xs us->r x xs H Q ->
  wpAny (model X.prog X.w) X.A (call (.builtin id) (v::us)) (EP X pins B Q) X.xe s
theorem Vals.one:∀ {x:V} {us:List Value},Vals [x] us->∃ u,us=[u]/\RelV x u
 | _,_,.cons r .nil=>⟨_,rfl,r⟩
def Vals.two (h:Vals [x,y] us):∃ u v,us=[u,v]/\RelV x u/\RelV y v:=by
 cases h with
 | cons r t =>
  cases t with
  | cons q a =>
   cases a;exact⟨_,_,rfl,r,q⟩
theorem Vals.zero:∀ {us:List Value},Vals [] us->us=[]
 | _,.nil=>rfl
def Vals.dropLast (h:Vals xs us):Vals xs.dropLast us.dropLast:=by
 induction h with
 | nil=>exact .nil
 | cons r t a =>
  cases t with
  | nil=>exact .nil
  | cons q b=>exact .cons r a
def Vals.reverse (h:Vals xs us):Vals xs.reverse us.reverse:=by
 induction h with
 | nil=>exact .nil
 | cons r t a=>rw[reverse_cons,reverse_cons];exact Vals.append a (.cons r .nil)
section
variable {X:Cx}{pins:List (Addr×Obj)}{B:St}{H:Hp}{s:Shared}{l b:Addr}{xs ys zs:List V}
def Inv.lset {a:List Value}(I:Inv X pins B H s)(c:H l=some (.lst xs))
  (e:s.heap.get? l=some { cls:=.type "list",data:=.seq a.toArray n }) (h:f a.toArray=its'.toArray) (g:Vals ys its') (hz:ys.length<=sizeLine) :
  Inv X pins B (upd H l (.lst ys)) { s with heap:=s.heap.update l (Obj.mapSeq f),toks:=t' }:=by
 have q:=PySem.IsL.update e f
 simp_all
 refine I.write (by rw[c];exact trivial) (.inl rfl) (λb' u b d=>(Heap.get?_update_other s.heap _ (Ne.symm b)).trans d) ⟨_,q⟩ ?_;exact⟨hz,its',_,g,q⟩
def Inv.lnew (I:Inv X pins B H s)(a:Vals ys its)(hz:ys.length<=sizeLine) :
  Inv X pins B (upd H s.heap.objs.size (.lst ys)) { s with heap:=s.heap.push { cls:=.type "list",data:=.seq its.toArray },toks:=t' } :=
 I.laid (λ_ _ q=>get?_push_of_some _ q) (le_refl _) ⟨hz,its,0,a,get?_push_size _ rfl⟩
def Inv.fresh (I:Inv X pins B H s):H s.heap.objs.size=none:=I.hok.fresh (le_refl _)
def Inv.lstM (I:Inv X pins B H s)(b:H l=some (.lst xs)):xs.length<=sizeLine/\∃ (a:List Value) (n:Nat),Vals xs a/\xs.length=a.length/\s.heap.get? l=some { cls:=.type "list",data:=.seq a.toArray n }:=by
 obtain⟨z,a,n,r,e⟩:=I.hok l _ b;exact⟨z,a,n,r,r.length,e⟩
def zMi (h:n<=sizeLine):Builtin.List.listTooLong n=false:=decide_eq_false (by omega)
end
section
variable {X:Cx}
def zO9:V->List V->Hp->VK->Prop:=λx vs H Q=>∃ l xs y,x=.ref l/\vs=[y]/\H l=some (.lst xs)/\xs.length < sizeLine/\Q .non (upd H l (.lst (xs++[y])))
def zGY:MtM X "list.append" zO9:=by
 intro b s B H x m v us Q I d f h;obtain⟨l,k,y,rfl,rfl,c,i,q⟩:=h;cases d;obtain⟨u,rfl,g⟩:=f.one;obtain⟨z,a,n,r,j,e⟩:=I.lstM c;refine call_meets F.slot_list_append ⟨_,e,rfl⟩ F.entry_list_append (F.args_list_append_2 _ _) (PySem.list_append l a.toArray n u (by grind)) ⟨e,?_⟩;refine⟨.non,_,I.lset c e (by simp) (r.append (.cons g .nil)) ?_,rfl,q⟩;grind
def zO7:V->List V->Hp->VK->Prop:=λx vs H Q=>∃ l b xs zs,x=.ref l/\vs=[.ref b]/\H l=some (.lst xs)/\H b=some (.lst zs)/\xs.length+zs.length<=sizeLine/\Q .non (upd H l (.lst (xs++zs)))
def zKV:MtM X "list.extend" zO7:=by
 intro i s B H x y v us Q I o t h;obtain⟨l,b,E,G,rfl,rfl,g,k,A,q⟩:=h;cases o;obtain⟨u,rfl,w⟩:=t.one;cases w;obtain⟨z,its,n,r,C,e⟩:=I.lstM g;obtain⟨D,a,j,r2,m,p⟩:=I.lstM k;have f:its.toArray.size+a.toArray.size<=sizeLine:=by rw[xy,xy];omega
 have c:¬ (!its.toArray.isEmpty&&Builtin.List.listTooLong (its.toArray.size+a.toArray.size))=true:=by
  rw[zMi f,Bool.and_false];exact qY
 refine call_meets F.slot_list_extend ⟨_,e,rfl⟩ F.entry_list_extend (F.args_list_extend_2 _ _)
  (AutoSeq1.list_extend_list_list_0 l its.toArray n b a.toArray j c (by omega) (by omega)) ⟨e,p,?_⟩
 refine⟨.non,_,I.lset g e (by simp) (r.append r2) ?_,rfl,q⟩
 simp_all
def zMW:V->List V->Hp->VK->Prop:=λx vs H Q=>∃ l xs,x=.ref l/\vs=[]/\H l=some (.lst xs)/\Q .non (upd H l (.lst xs.reverse))
def zIz:MtM X "list.reverse" zMW:=by
 intro d s B H x i v us Q I g f h;obtain⟨l,j,rfl,rfl,c,q⟩:=h;cases g;have b:=f.zero;subst b;obtain⟨z,a,n,r,k,e⟩:=I.lstM c;refine call_meets F.slot_list_reverse ⟨_,e,rfl⟩ F.entry_list_reverse (F.args_list_reverse_1 _) (AutoSeq1.list_reverse_list_0 l a.toArray n (by grind)) ⟨e,?_⟩;refine⟨.non,_,I.lset c e (by simp) r.reverse ?_,rfl,q⟩
 simp_all
def zRW:V->List V->Hp->VK->Prop:=λx vs H Q=>∃ l xs,x=.ref l/\vs=[]/\H l=some (.lst xs)/\Q .non (upd H l (.lst []))
def zMl:MtM X "list.clear" zRW:=by
 intro c s B H x i v us Q I g f h;obtain⟨l,k,rfl,rfl,d,q⟩:=h;cases g;have b:=f.zero;subst b;obtain⟨z,a,n,r,j,e⟩:=I.lstM d;refine call_meets F.slot_list_clear ⟨_,e,rfl⟩ F.entry_list_clear (F.args_list_clear_1 _) (AutoSeq1.list_clear_list_0 l a.toArray n (by grind)) ⟨e,?_⟩;exact⟨.non,_,I.lset d e rfl .nil (zero_le _),rfl,q⟩
def zHR {T:Type}(xs:List T)(k:Nat):(List.replicate k xs).flatten.length=k*xs.length:=by simp
end
end L2
namespace Att
open PySem PySem.W PySem.Calls PyProof.Rows
def zEW :∀ (ns:List Int) (vs:List Value),WellAll P h vs (ns.map WData.int)->IntsAre vs ns:=by
 intro ns
 induction ns with
 | nil =>
  intro vs w;cases w;exact .nil
 | cons n ns c =>
  intro vs w;cases w with
  | cons a b =>
   cases a;exact .cons _ _ (c _ b)
theorem zIb:∀ {ns:List Int},WData.weightAll (ns.map WData.int)<=2^20->∀ x∈ns,Builtin.Int.intBits x<=2^20
 | n::ns,h,x,hx=>by
  rw[map_cons,WData.weightAll,WData.weight] at h;rcases mem_cons.mp hx with rfl | hx
  .unfold Builtin.Int.intBits;omega
  .exact zIb (by omega) x hx
def zJm {l:OpenLaw}(i:l.most=some n)
  (b:l.row.toRowW.claim.pre args=true) (g:WellAll P h vals args) (e:WData.layableAll args=true) :
  ∃ a vs ns,vals=[Value.ref a]/\args=[WData.list (ns.map WData.int)]/\h.get? a=some { cls:=.type "list",data:=.seq vs.toArray }/\IntsAre vs ns/\(ns.length<=n/\∀ x∈ns,Builtin.Int.intBits x<=2^20):=by
 have o:=(pre_splitW b).2;obtain⟨d,r,rfl,h1,h2⟩:=hasAllW_cons ((pre_splitW b).1);obtain rfl:=hasAllW_nil h2;obtain⟨p,rfl,h3⟩:=hasW_list h1;obtain⟨ns,rfl⟩:=items_int h3;have f:ns.length<=n:=by
  have h4:(WTm.not (.lt (.lit (.int (n:Int))) (.len (.arg 0)))).holds [] { args:=[.list (ns.map .int)] }=true:=by
   have h4:=(holds_andW o).1;rw[i] at h4;exact h4
  have h5:=condW_of h4 (w_not (w_lt w_lit (w_len_list (w_arg rfl))));grind
 cases g with
 | cons m j =>
  cases j;cases m with
  | list k c=>exact⟨_,_,ns,rfl,rfl,k,zEW ns _ c,f,zIb (of_decide_eq_true (Bool.and_eq_true_iff.mp (W.layW_cons e).1).2)⟩
def zJ3 (l:OpenLaw)(args:List WData):l.row.toRowW.claim.post args (.bool true) args=true :=
 postW_of
  rfl
  (w_eq_bool (w_res rfl) w_lit) rfl
def zHn {l:OpenLaw}
  (v:l.most=some n) (m:d.params.defaults=[])
  (call:∀ (w:World) (s0 O2:Shared) (mg mb:Str->Option Value) (fa:Addr) (o:Obj) (pm cd doc:Value) (a:Addr) (vs:List Value) (ns:List Int),
   Ground q loose [] XP w s0 mg mb O2.heap->YP w O2.heap ->
   O2.heap.get? fa=some o->o.data=.func (docDef d.name d.params d.body d.scope pm cd doc)->O2.heap.CodeRec cd d.name->mg d.name=some (.ref fa) ->
   O2.heap.get? a=some { cls:=.type "list",data:=.seq vs.toArray }->IntsAre vs ns->(ns.length<=n/\∀ x∈ns,Builtin.Int.intBits x<=2^20)->O2.gens=#[] ->
   codeAny (model l.prog w) callerA (.call (.ref fa) ⟨[.ref a],[]⟩) (λr s'=>r=.ok (.ret (.bool true))/\OldK O2.heap s'.heap/\s'.os=O2.os/\AllBare s'.gens) O2) :
  WalkO q loose XP YP l.row.toRowW d [] (λf vs=>PySem.call f vs):=by
 intro w s0 O2 mg mb G Y fa o pm cd doc C kV t B i hD j A s p D h e y k z;obtain rfl:=Dflts.none hD m;obtain rfl:kV=.none:=Dflts.noKw hD;obtain⟨a,vs,ns,rfl,rfl,c,b,g⟩:=zJm v h k e;refine enter_call (codeAny_mono (call w s0 O2 mg mb fa o pm cd doc a vs ns G Y t (fd_plain B) i j c b g A) λr s' hq=>?_);obtain⟨rfl,h2,h3,h4⟩:=hq;exact⟨.inl ⟨.bool true,.bool true,[],rfl,λ_=>rfl,.bool true,zJ3 l _,λ_=>⟨List.Pairwise.nil,λ_ u=>(nomatch u)⟩⟩,h2,h3,h4⟩
section
variable {prog:Program}{w:World}{A:Around}{E:Value->Shared->Prop}{s:Shared}{K:Frag}
end
end Att
namespace L2
open PySem Spec PyProof.Rows
theorem zDM:∀ {vs:List Value} {ns:List Int},IntsAre vs ns->Vals (ns.map V.int) vs
 | _,_,.nil=>.nil
 | _,_,.cons n t h=>.cons ⟨t,rfl⟩ (zDM h)
def Only (H:Hp):Prop:=∀ b,H b=none\/∃ o xs,H b=some (.frz o (.lst xs))
noncomputable def tblT (tl:List (Str×Addr×Addr)):List (Addr×Str):=tl.map λt=>(t.2.2,lamQ t.1)
noncomputable def hpT (tl:List (Str×Addr×Addr))(H:Hp):Hp:=λb=>match (tblT tl).lookup b with
 | some q=>some (.tbl q)
 | none=>H b
theorem zGb {M:Type}:∀ {l:List (Addr×M)} {a:Addr} {b:M},l.lookup a=some b->(a,b)∈l
 | [],_,_,e=>by cases e
 | (c,x)::r,a,b,e=>by
  rw[lookup_cons] at e;cases hb:a==c with
  | true=>rw[hb] at e;cases e;rw[eq_of_beq hb];exact .head _
  | false=>rw[hb] at e;exact .tail _ (zGb e)
theorem zFE:∀ {tl:List (Str×Addr×Addr)} {x:Str} {c P:Addr},(tl.map λt=>t.2.2).Nodup->(x,c,P)∈tl->(tblT tl).lookup P=some (lamQ x)
 | t::tl,x,c,P,nd,h=>by
  rcases mem_cons.mp h with e | h
  .cases e;unfold tblT;rw[map_cons,lookup_cons,beq_self_eq_true]
  .have n:=(nodup_cons.mp (show ((t.2.2)::tl.map λt=>t.2.2).Nodup from nd));have ne:(P==t.2.2)=false:=by
    refine beq_eq_false_iff_ne.mpr λz=>n.1 ?_
    rw[<- z];exact mem_map.mpr ⟨_,h,rfl⟩
   unfold tblT;rw[map_cons,lookup_cons,ne];exact zFE n.2 h
def zMy {K:W.Frag}{A:List (Str×Addr×Addr)}
  (KX:K.In O2.heap) (a0:O2.heap.Ns mainGlobals mg) (B:O2.heap.Ns builtinsNs mb) (c6:∀ x:Str,x ≠ "__name__"->mb x=bootBuiltins x) (a7:O2.heap.NoLimit) (G:O2.heap.NoSeer) (d1:(model P w).prog.given.tree=none) (hg:O2.gens=#[])
  (M:O2.heap.get? a=some { cls:=.type "list",data:=.seq vs.toArray }) (hi:IntsAre vs ns) (hl:ns.length<=sizeLine) (hr:Room k callerA)
  (F:∀ base:Heap,K.In base->base.Ns mainGlobals mg->FnOk P w K mg base CX k fa fd [x] sp) (N:∀ (s:Shared) (u:Value),BindsTo s fd ⟨[u],[]⟩ [(x,u)])
  (c0:∃ bm ob,mg "__builtins__"=some (.ref bm)/\bm≠builtinsNs/\O2.heap.get? bm=some ob/\ob.cls=.type "module"/\ob.dict=some builtinsNs/\ob.data=.plain) (I:∀ t∈A,W.CodeHd O2.heap t.2.1 t.2.2/\O2.heap.get? t.2.2=some (W.tabObj #[])) (U:∀ x∈zB6,tabQ K x=A.lookup x) (c3:(A.map λt=>t.2.2).Nodup) (d3:W.noTabs K=true)
  (c5:∀ H:Hp,(∀ xs,H a≠some (.lst xs))->SqL K H a (ns.map V.int)->sp [.ref a] H (λv _=>v=.bl true) λ_ _ _=>False)
  (d0:∀ H e s',CX [] H O2 (λ_ _ _=>False) e s'->False) :
  codeAny (model P w) callerA (.call (.ref fa) ⟨[.ref a],[]⟩) (λr s'=>r=.ok (.ret (.bool true))/\OldK O2.heap s'.heap/\s'.os=O2.os/\AllBare s'.gens) O2:=by
 have rv:=zDM hi;have a1:=hi.length;have p:∀ {b:Addr} {l:Str},(tblT A).lookup b=some l->∃ c,W.CodeHd O2.heap c b/\O2.heap.get? b=some (W.tabObj #[]):=λ{b l} e=>by
  obtain⟨t,mt,et⟩:=mem_map.mp (zGb e);cases et;exact⟨t.2.1,I t mt⟩
 have b7:(tblT A).lookup a=none:=by
  cases e:(tblT A).lookup a with
  | none=>rfl
  | some l =>
   obtain⟨_,_,g⟩:=p e;rw[M] at g;cases g
 have J:∀ E:Hp,Only E->SqL K E a (ns.map V.int)->HOk P w E O2.heap->(∀ b,E b≠none->b=a)->(E a≠none->K.lookup a=none) ->
   codeAny (model P w) callerA (.call (.ref fa) ⟨[.ref a],[]⟩) (λr s'=>r=.ok (.ret (.bool true))/\OldK O2.heap s'.heap/\s'.os=O2.os/\AllBare s'.gens) O2:=by
  intro E X d2 a2 a4 c8;obtain⟨H,eH⟩:∃ H:Hp,H=hpT A E:=⟨_,rfl⟩;have R:∀ {b:Addr} {l:Str},(tblT A).lookup b=some l->H b=some (.tbl l):=λ{b l} e=>by rw[eH];unfold hpT;rw[e]
  have i:∀ {b:Addr},(tblT A).lookup b=none->H b=E b:=λ{b} e=>by rw[eH];unfold hpT;rw[e]
  have D:∀ {b:Addr} {u:HO},E b=some u->H b=some u:=λ{b u} e=>by
   have z:b=a:=a4 b (by rw[e];simp);rw[i (by rw[z];exact b7)];exact e
  have hS:SqL K H a (ns.map V.int):=by
   rcases d2 with (z | ⟨o,z⟩) | z
   .exact .inl (.inl (D z))
   .exact .inl (.inr ⟨o,D z⟩)
   .exact .inr z
  have hL:∀ xs,H a≠some (.lst xs):=λxs e=>by
   rw[i b7] at e;rcases X a with z | ⟨o,ys,z⟩
   .rw [z] at e;cases e
   .rw [z] at e;cases e
  have a9:HOk P w H O2.heap:=λb u e=>by
   cases z:(tblT A).lookup b with
   | some l =>
    rw[R z] at e;cases e;obtain⟨_,_,g⟩:=p z;exact⟨#[],g,trivial,λpos cv z=>by cases (show (none:Option Value)=some cv from z)⟩
   | none =>
    rw[i z] at e;exact(a2 b u e).stay (λ_ _ _ q=>q) (λ_ q=>D q) (λ_ _ q=>D q) λ_ _ _ q _=>D q
  have hT:zId K H:=λx hx c P e=>R (by
   have g:=U x hx;rw[e] at g;exact zFE c3 (PySem.mem_of_lookup g.symm))
  have split:∀ {b:Addr},H b≠none->((tblT A).lookup b=none/\b=a/\E a≠none)\/∃ l,(tblT A).lookup b=some l:=λ{b} e=>by
   cases z:(tblT A).lookup b with
   | some l=>exact .inr ⟨l,rfl⟩
   | none =>
    rw[i z] at e;have:=a4 b e;exact .inl ⟨rfl,this,by rw[<- this];exact e⟩
  have f:∀ {b:Addr} {o:Obj},O2.heap.get? b=some o->H b=none->(hidT O2.heap H).get? b=some o:=λe n=>zM6 e n
  have c9:∀ {b:Addr} {o:Obj} {es:Array DictEntry} {S:Nat},O2.heap.get? b=some o->o.data=.dict es S->H b=none:=λ{b o es S} e d=>by
   cases q:H b with
   | none=>rfl
   | some u =>
    rcases split (b:=b) (by rw[q];simp) with ⟨_,Q,_⟩ | ⟨l,z⟩
    .subst Q;rw[M] at e;cases e;have d':Data.seq vs.toArray _=Data.dict es S:=d;cases d'
    .obtain ⟨_,_,g⟩:=p z;rw[g] at e;cases e;cases (show Data.fields #[]=Data.dict es S from d)
  have b0:∀ {b:Addr} {o:Obj},O2.heap.get? b=some o->o.cls=.type "module"->H b=none:=λ{b o} e d=>by
   cases q:H b with
   | none=>rfl
   | some u =>
    rcases split (b:=b) (by rw[q];simp) with ⟨_,Q,_⟩ | ⟨l,z⟩
    .subst Q;rw[M] at e;cases e;exact absurd (show Value.type "list"=Value.type "module" from d) (by decide)
    .obtain ⟨_,_,g⟩:=p z;rw[g] at e;cases e;exact absurd (show Value.none=Value.type "module" from d) (by decide)
  have j:∀ {b:Addr} {m:Str->Option Value},O2.heap.Ns b m->(hidT O2.heap H).Ns b m:=λ{b m} ⟨o,es,S,e,d,r⟩=>⟨o,es,S,f e (c9 e d),d,r⟩
  have T:K.In (hidT O2.heap H):=λb o e=>f (KX b o e) (by
   cases q:H b with
   | none=>rfl
   | some u =>
    rcases split (b:=b) (by rw[q];simp) with ⟨_,Q,n0⟩ | ⟨l,z⟩
    .subst Q;rw[c8 n0] at e;cases e
    .obtain ⟨_,_,g⟩:=p z;have e3:=KX b o e;rw[g] at e3;cases e3;have h2:=all_eq_true.mp d3 (b,W.tabObj #[]) (W.mem_of_lookupK e);exact absurd (show false=true from h2) qY)
  have hM:Mod K mg (hidT O2.heap H):=⟨T,j a0,⟨mb,j B,c6⟩,let ⟨mc,h1,h2⟩:=a7;⟨mc,j h1,h2⟩,⟨let ⟨mc,h1,h2⟩:=G.statics;⟨mc,j h1,h2⟩,let ⟨mc,h1,h2⟩:=G.mods;⟨mc,j h1,h2⟩,let ⟨mc,h1,h2⟩:=G.imp;⟨mc,j h1,h2⟩,let ⟨mc,bm,ob,h1,h2,h3,h4,h5⟩:=G.main;⟨mc,bm,ob,j h1,h2,f h3 (b0 h3 h4),h4,h5⟩⟩,let ⟨bm,ob,b1,b2,b3,b4,b5⟩:=c0;⟨bm,ob,b1,b2,f b3 (b0 b3 b4),b4,b5⟩,λx hx c P e=>by
   have g:=U x hx;rw[e] at g;obtain⟨o,b8,a3,tf,O,tg,c2,b6,tt,g1,g2,g3,g4,g5,g6,g7,g8,g9,c1⟩:=(I (x,c,P) (PySem.mem_of_lookup g.symm)).1;refine⟨o,b8,a3,tf,O,tg,c2,b6,tt,f g1 ?_,g2,g3,g4,g5,g6,g7,g8,g9,c1⟩;cases q:H c with
   | none=>rfl
   | some u =>
    rcases split (b:=c) (by rw[q];simp) with ⟨_,Q,_⟩ | ⟨l,z⟩
    .subst Q;rw[M] at g1;cases g1;exact absurd (show Value.type "list"=Value.type "code" from g2) (by decide)
    .obtain ⟨_,_,g⟩:=p z;rw[g] at g1;cases g1;exact absurd (show Value.none=Value.type "code" from g2) (by decide)⟩
  have e0:Env0 P w K mg (hidT O2.heap H) callerA [] O2 H:=⟨rfl,hM,λb o e=>zPW e,Nat.le_of_eq ((W.hideAll_size _ _)),trivial,λb B=>absurd (show b∈([]:List Addr) from B) (by simp),a9,.of_eq hg,d1,hT⟩;refine codeAny_mono ((F _ T (j a0)).run callerA [] O2 H ⟨[.ref a],[]⟩ [.ref a] [.ref a] _ _ hr e0 (N O2 (.ref a)) (.cons rfl .nil) (c5 H hL hS)) λr s' h=>?_
  cases r with
  | error e=>exact(d0 H e s' h).elim
  | ok fl =>
   cases fl with
   | next=>exact False.elim h
   | brk=>exact False.elim h
   | cont=>exact False.elim h
   | ret u =>
    obtain⟨v,H',os,Y,un,L,r',q⟩:=h;have q':v=.bl true:=q;subst q';obtain rfl:u=Value.bool true:=r';have a5:∀ b o,O2.heap.get? b=some o->asItWas O2.heap s'.heap b o/\∃ o',s'.heap.get? b=some o':=λb o e=>by
     cases z:(tblT A).lookup b with
     | some l =>
      obtain⟨c,C,g⟩:=p z;rw[e] at g;cases g;obtain⟨ps,e3,_⟩:=L b _ (un.tbls b _ (R z));exact⟨.inr (.inl ⟨(C.tab e).isCodeTable,rfl,#[],ps,rfl,by rw[e3];simp⟩),_,e3⟩
     | none =>
      have k:s'.heap.get? b=some o:=by
       cases q:H b with
       | none=>exact un.keep b o e q (by intro z;exact absurd (show b∈([]:List Addr) from z) (by simp)) (by simp)
       | some u =>
        rcases X b with y | ⟨ob,xs,y⟩
        .rw [i z,y] at q;cases q
        .have y1:=D y;have z2:=un.frzs b ob _ y1;obtain⟨e1,_⟩:=a9 b _ y1;obtain⟨g,_⟩:=L b _ z2;rw[e] at e1;cases e1;exact g
      exact⟨.inl k,o,k⟩
    exact⟨rfl,⟨λb o e=>(a5 b o e).1,λb o e=>(a5 b o e).2⟩,os,Y⟩
 cases hk:K.lookup a with
 | some o =>
  have e:=KX a o hk;rw[M] at e;cases e;refine J (λ_=>none) (λ_=>.inl rfl) (.inr ⟨_,vs.toArray,_,hk,rfl,rfl,rfl,by rw[xy,a1];exact hl,by simpa using rv⟩) (λb u z=>by have Z:(none:Option HO)=some u:=z;cases Z) (λb z=>absurd rfl z) λz=>absurd rfl z
 | none =>
  refine J (λb=>if b=a then some (.frz { cls:=.type "list",data:=.seq vs.toArray } (.lst (ns.map V.int))) else none) (λb=>?_) (.inl (.inr ⟨{ cls:=.type "list",data:=.seq vs.toArray },if_pos rfl⟩)) (λb u z=>?_) (λb z=>?_) λ_=>hk
  .by_cases B:b=a
   .exact .inr ⟨_,_,if_pos B⟩
   .exact .inl (if_neg B)
  .by_cases B:b=a
   .have Z:=(if_pos B).symm.trans z;cases Z;subst B;exact⟨M,by rw[qy];exact hl,vs,_,rv,M⟩
   .have Z:=(if_neg B).symm.trans z;cases Z
  .by_cases B:b=a
   .exact B
   .exact absurd (if_neg B) z
end L2
namespace L2
open PySem Spec PyProof.Rows
def zOs {l:W.OpenLaw}{K:Params->W.Frag}{CX:World->CXT}{D:World->Sp}
  (J:l.most=some n) (y:n<=sizeLine) (p:d.params.defaults=[]) (hq:importsNone q=true) (X:∀ w,(model l.prog w).prog.given.tree=none) (M:Room k callerA) (g:List (Str×Addr×Addr)) (i:∀ (w:World) (h:Heap),YP w h->∀ t∈g,W.CodeHd h t.2.1 t.2.2/\h.get? t.2.2=some (W.tabObj #[])) (C:∀ w:World,∀ x∈zB6,tabQ (K w.params) x=g.lookup x) (O:∀ t∈g,t.1∈zB6/\g.lookup t.1=some t.2) (B:(g.map λt=>t.2.2).Nodup) (A:∀ w:World,W.noTabs (K w.params)=true)
  (P:∀ (w:World) (h:Heap),YP w h->(K w.params).In h)
  (F:∀ (w:World) (mg:Str->Option Value) (fa:Addr) (h:Heap),(K w.params).In h->h.Ns mainGlobals mg->mg d.name=some (.ref fa) ->
   ∃ fd:FuncData,(∀ (s:Shared) (u:Value),BindsTo s fd ⟨[u],[]⟩ [(x,u)]) /\
    ∀ base:Heap,(K w.params).In base->base.Ns mainGlobals mg->FnOk l.prog w (K w.params) mg base (CX w) k fa fd [x] (D w))
  (m:∀ (w:World) (H:Hp) (a:Addr) (ns:List Int),(ns.length<=n/\∀ x∈ns,Builtin.Int.intBits x<=2^20)->(∀ xs,H a≠some (.lst xs))->SqL (K w.params) H a (ns.map V.int)->D w [.ref a] H (λv _=>v=.bl true) λ_ _ _=>False)
  (r:∀ (w:World) (H:Hp) (s:Shared) (e:Value) (s':Shared),CX w [] H s (λ_ _ _=>False) e s'->False) :
  W.WalkO q loose XP YP l.row.toRowW d [] (λf vs=>PySem.call f vs):=by
 refine Att.zHn J p λw s0 U mg mb fa o Z cd R a vs ns G Y ho hd S z j c b L=>?_
 have E:=P w _ Y;obtain⟨fd,I,N⟩:=F w mg fa _ E G.T.g z;exact zMy E G.T.g G.T.b G.T.builtins G.T.nolimit (G.T.seer hq) (X w) L j c (le_trans b.1 y) M N I G.T.bmain (i w _ Y) (C w) B (A w) (λH T Q=>m w H a ns b T Q) λH e s'=>r w H U e s'
noncomputable def zAE (s:Stmt)(j:Nat):Stmt:=match s with
 | .ClassDef _ _ _ body _ _ _ _ _ _ _=>body.getD j (.Pass ⟨0,0,0,0⟩)
 | _=>.Pass ⟨0,0,0,0⟩
noncomputable def zAl (s:Stmt):Arguments:=match s with
 | .FunctionDef _ a _ _ _ _ _ _ _ _=>a
 | _=>{ posonlyargs:=[],args:=[],vararg:=none,kwonlyargs:=[],kw_defaults:=[],kwarg:=none,defaults:=[] }
noncomputable def zAN (s:Stmt):List Stmt:=match s with
 | .FunctionDef _ _ b _ _ _ _ _ _ _=>b
 | _=>[]
noncomputable def zAA (s:Stmt):Scope:=match s with
 | .FunctionDef _ _ _ _ _ _ sc _ _ _=>sc
 | _=>{ kind:=.function,names:=[],isGenerator:=false,isCoroutine:=false }
abbrev CX0:CXT:=λ_ _ _ _ _ _=>False
abbrev E0:XK:=λ_ _ _=>False
def zHJ :zFU CX0 X E0:=λ_ _ _ _ _ _ _ h=>h.elim
structure Fun (K:W.Frag)(x qual:Str)(st:Stmt)(f:Addr)(fd:FuncData):Prop where
 ex:∃ (oc:Value) (od:Option Addr) (kV doc pm:Value) (an:Option Addr) (cdv ct:Value) (osl:Array (Option Value)),
  fd=W.fnOf x qual (zAl st) (zAN st) (zAA st) .none kV doc pm an cdv ct/\K.lookup f=some ⟨oc,od,.func fd,osl⟩/\W.codeIn K cdv qual=true
 kp:W.keepIn K (.ref f)=true
section
variable {P:Program}{w:World}{K:W.Frag}{mg:Str->Option Value}{base:Heap}
def Fun.ok {st:Stmt}(F:Fun K x qual st f fd)(S:zAg N ps (zAA st))(len:∀ vs H Q E,sp vs H Q E->vs.length=ps.length)
  (a:∀ (cdv:Value) (A:Around) (outer:List Env) (s:Shared) (H:Hp) (vs:List V) (Q:VK) (E:XK),Room k (A.deeper (envOfC qual (zAA st) s.heap.objs.size f cdv))->sp vs H Q E ->
   ∃ t,PSs (cxOf CX0 P w K mg base N qual (zAA st) f cdv A outer s H E).nox (zAN st) t/\t { nx:=λ_ H'=>Q .non H',rt:=Q } (zCM N vs) H):FnOk P w K mg base CX0 (k+1) f fd ps sp:=by
 obtain⟨j,l,kV,g,n,m,cdv,ct,d,rfl,e,c⟩:=F.ex;refine zTF e c S len λA outer s H vs Q E i b=>?_
 obtain⟨t,h,q⟩:=a cdv A outer s H vs Q E i b;exact⟨t,h.nox,q⟩
def Fun.binds {st:Stmt}(F:Fun K x qual st f fd)
  (h:∀ (kV doc pm:Value) (an:Option Addr) (cdv ct:Value) (us:List Value),us.length=ps.length->bindArgs (W.fnOf x qual (zAl st) (zAN st) (zAA st) .none kV doc pm an cdv ct) ⟨us,[]⟩=pure (ps.zip us)):zBP K fd ps []:=by
 obtain⟨c,e,kV,doc,pm,an,cdv,ct,a,rfl,d,b⟩:=F.ex;exact .all (h kV doc pm an cdv ct)
def zK9 {st:Stmt}{kV:Value}(l:K.lookup f=some ⟨oc,od,.func (W.fnOf x qual (zAl st) (zAN st) (zAA st) .none kV doc pm an cdv ct),osl⟩)
  (c:W.codeIn K cdv qual=true) (k:W.keepIn K (.ref f)=true):Fun K x qual st f (W.fnOf x qual (zAl st) (zAN st) (zAA st) .none kV doc pm an cdv ct):=⟨⟨oc,od,kV,doc,pm,an,cdv,ct,osl,rfl,l,c⟩,k⟩
end
def iteF {B:Prop}(h:B):if false=true then A else B:=by grind
def iteT {B:Prop}(h:A):if true=true then A else B:=by simp_all
def Same (H H':Hp):Prop:=∀ b o,H b=some o->H' b=some o
def Same.refl (H:Hp):Same H H:=λ_ _ h=>h
def Same.trans (a:Same H H1)(b:Same H1 H2):Same H H2:=λc o h=>b c o (a c o h)
def Same.free (e:Same H H')(h:H' l=Option.none):H l=Option.none:=by
 cases q:H l with
 | none=>rfl
 | some o =>
  rw[e l o q] at h;omega
def Same.seq {K:W.Frag}(e:Same H H')(h:SqL K H a xs):SqL K H' a xs:=by
 rcases h with (h | ⟨o,h⟩) | h
 .exact .inl (.inl (e _ _ h))
 .exact .inl (.inr ⟨o,e _ _ h⟩)
 .exact .inr h
end L2
end
section
namespace DL
def nof {p:Prop}(h:false=true):p:=nomatch h
open PySem Spec PyProof.Rows L2
abbrev St:=L2.St
abbrev anyU:HO:=.ext λ_=>True
structure LamI where
 qual:Str
 params:Arguments
 body:Expr
 scope:Scope
noncomputable def frN (L:LamI):List Str:=((L.scope.names.filter λp=>p.2==.free).map (·.1)).reverse
def zBc (H:Hp):List (Str×Addr)->List V->Prop:=Paired λp v=>∃ o u,H p.2=some (.frz o anyU)/\o.data=.cell (some u)/\RelV v u
def zEB (H:Hp)(L:LamI)(f:Addr)(vs:List V):Prop:=∃ cl pm c ctv oc u1,H f=some (.frz (W.kla_obj "<lambda>" L.qual L.params L.body L.scope cl pm c ctv) anyU)/\H c=some (.frz oc u1)/\zMD oc L.qual/\cl.map (·.1)=frN L/\(cl.map (·.2)).Nodup/\zBc H cl vs
noncomputable def zFt:List Str:=["shape","ink","strength","layer","layers"]
noncomputable def zLg (ns:List Str):Bool:=(ns.any λn=>n==("strength":Str)||n==("layer":Str))&&ns.all λn=>zFt.contains n
noncomputable def zEh (fs:List (Str×V)):Bool:=zLg (fs.map (·.1))
abbrev zCn (H H':Hp):Prop:=∀ b o,H b=some o->(∀ C dx fs,o=.ins C dx fs->zEh fs=true)->H' b=some o
def zBc.monoF (e:zCn H H')(h:zBc H cl vs):zBc H' cl vs:=Paired.mapP h λ_ _ a=>by obtain⟨o,u,h1,h2⟩:=a;exact⟨o,u,e _ _ h1 (λ_ _ _ z=>nomatch z),h2⟩
def zEB.monoF (e:zCn H H')(h:zEB H L f vs):zEB H' L f vs:=by
 obtain⟨cl,d,c,a,b,g,h1,h2,h3,h4,h5,h6⟩:=h;exact⟨cl,d,c,a,b,g,e _ _ h1 (λ_ _ _ z=>nomatch z),e _ _ h2 (λ_ _ _ z=>nomatch z),h3,h4,h5,h6.monoF e⟩
def zEB.mono (e:Same H H')(h:zEB H L f vs):zEB H' L f vs:=h.monoF λb o q _=>e b o q
inductive D where
 | non | bl (b:Bool) | int (i:Int) | str (x:Str) | tup (l:List D) | lst (l:List D) | exc (c:Str) | dct (ks:List (Int×Int)) | lam (j:Nat) (L:LamI) (l:List D) | obj (c:Str) (ns:List Str) (l:List D) | fn (n:Nat) (x:Str)
noncomputable instance:Inhabited D:=⟨.non⟩
def zBy (K:W.Frag)(c:Str)(C:Addr):Prop:=W.nsIn K mainGlobals c=some (some (.ref C))
def zMA (K:W.Frag)(H:Hp)(c:Str)(ns:List Str)(a:Addr)(vs:List V):Prop:=∃ C dx gs,H a=some (.ins C dx gs)/\zEh gs=true/\zBy K c C/\(ns.map λn=>gs.lookup n)=vs.map some
def zMA.monoF {K:W.Frag}(e:zCn H H')(h:zMA K H c ns a vs):zMA K H' c ns a vs :=
 let ⟨C,dx,gs,h1,h2,h3⟩:=h;⟨C,dx,gs,e _ _ h1 λ_ _ _ z=>by cases z;exact h2,h2,h3⟩
noncomputable def pk (p:Int×Int):List Key:=[Sum.inl p.1,Sum.inl p.2]
mutual
noncomputable def Den (K:W.Frag)(H:Hp):D->V->Prop
 | .non,v=>v=.non
 | .bl b,v=>v=.bl b
 | .int i,v=>v=.int i
 | .str x,v=>v=.str x
 | .tup ds,v=>∃ a vs,v=.ref a/\SqT K H a vs/\DenL K H ds vs
 | .lst ds,v=>∃ a vs,v=.ref a/\SqL K H a vs/\DenL K H ds vs
 | .exc c,v=>∃ a o u C,v=.ref a/\H a=some (.frz o u)/\o.cls=.ref C/\(∃ vs,o.data=.fields vs)/\zBy K c C
 | .dct ks,v=>∃ a kvs,v=.ref a/\H a=some (.dT kvs)/\kvs.map (·.1)=ks.map pk
 | .lam _ L ds,v=>∃ a vs,v=.ref a/\zEB H L a vs/\DenL K H ds vs
 | .obj c ns ds,v=>∃ a vs,v=.ref a/\zMA K H c ns a vs/\DenL K H ds vs
 | .fn _ x,v=>∃ a,v=.ref a/\zBy K x a
noncomputable def DenL (K:W.Frag)(H:Hp):List D->List V->Prop
 | [],vs=>vs=[]
 | d::ds,vs=>∃ v ws,vs=v::ws/\Den K H d v/\DenL K H ds ws
end
def Same.tupS {K:W.Frag}(e:Same H H')(h:SqT K H a xs):SqT K H' a xs:=by
 rcases h with (h | ⟨o,h⟩) | h
 .exact .inl (.inl (e _ _ h))
 .exact .inl (.inr ⟨o,e _ _ h⟩)
 .exact .inr h
def zCn.tupS {K:W.Frag}(e:zCn H H')(h:SqT K H a xs):SqT K H' a xs:=by
 rcases h with (h | ⟨o,h⟩) | h
 .exact .inl (.inl (e _ _ h λ_ _ _ z=>nomatch z))
 .exact .inl (.inr ⟨o,e _ _ h λ_ _ _ z=>nomatch z⟩)
 .exact .inr h
def zCn.seq {K:W.Frag}(e:zCn H H')(h:SqL K H a xs):SqL K H' a xs:=by
 rcases h with (h | ⟨o,h⟩) | h
 .exact .inl (.inl (e _ _ h λ_ _ _ z=>nomatch z))
 .exact .inl (.inr ⟨o,e _ _ h λ_ _ _ z=>nomatch z⟩)
 .exact .inr h
section
variable {K:W.Frag}{H H':Hp}
mutual
theorem Den.monoF (e:zCn H H'):∀ {d:D} {v:V},Den K H d v->Den K H' d v
 | .non,_,h=>by rw[Den] at h ⊢;exact h
 | .bl _,_,h=>by rw[Den] at h ⊢;exact h
 | .int _,_,h=>by rw[Den] at h ⊢;exact h
 | .str _,_,h=>by rw[Den] at h ⊢;exact h
 | .tup ds,_,h=>by
  rw[Den] at h ⊢;obtain⟨a,vs,h1,h2,h3⟩:=h;exact⟨a,vs,h1,zCn.tupS e h2,DenL.monoF e h3⟩
 | .lst ds,_,h=>by
  rw[Den] at h ⊢;obtain⟨a,vs,h1,h2,h3⟩:=h;exact⟨a,vs,h1,zCn.seq e h2,DenL.monoF e h3⟩
 | .exc c,_,h=>by
  rw[Den] at h ⊢;obtain⟨a,o,u,C,h1,h2,h3⟩:=h;exact⟨a,o,u,C,h1,e _ _ h2 (λ_ _ _ z=>nomatch z),h3⟩
 | .dct ks,_,h=>by
  rw[Den] at h ⊢;obtain⟨a,kvs,h1,h2,h3⟩:=h;exact⟨a,kvs,h1,e _ _ h2 (λ_ _ _ z=>nomatch z),h3⟩
 | .lam _ L ds,_,h=>by
  rw[Den] at h ⊢;obtain⟨a,vs,h1,h2,h3⟩:=h;exact⟨a,vs,h1,h2.monoF e,DenL.monoF e h3⟩
 | .obj c ns ds,_,h=>by
  rw[Den] at h ⊢;obtain⟨a,vs,h1,h2,h3⟩:=h;exact⟨a,vs,h1,h2.monoF e,DenL.monoF e h3⟩
 | .fn _ x,_,h=>by rw[Den] at h ⊢;exact h
theorem DenL.monoF (e:zCn H H'):∀ {ds:List D} {vs:List V},DenL K H ds vs->DenL K H' ds vs
 | [],_,h=>by rw[DenL] at h ⊢;exact h
 | d::ds,_,h=>by
  rw[DenL] at h ⊢;obtain⟨v,ws,h1,h2,h3⟩:=h;exact⟨v,ws,h1,Den.monoF e h2,DenL.monoF e h3⟩
end
def Den.mono (e:Same H H')(h:Den K H d v):Den K H' d v:=h.monoF λb o q _=>e b o q
def DenL.mono (e:Same H H')(h:DenL K H ds vs):DenL K H' ds vs:=h.monoF λb o q _=>e b o q
def DenL.nil:DenL K H [] []:=rfl
def DenL.cons (h:Den K H d v)(t:DenL K H ds vs):DenL K H (d::ds) (v::vs):=⟨v,vs,rfl,h,t⟩
def DenL.length:∀ {ds:List D} {vs:List V},DenL K H ds vs->ds.length=vs.length
 | [],_,h=>by rw[DenL] at h;rw[h];rfl
 | _::ds,_,h=>by
  rw[DenL] at h;obtain⟨v,ws,h1,h2,h3⟩:=h;rw[h1,xY,xY,DenL.length h3]
def DenL.get:∀ {ds:List D} {vs:List V} {i:Nat} {d:D},DenL K H ds vs->ds[i]?=some d->∃ v,vs[i]?=some v/\Den K H d v
 | [],_,_,_,_,e=>by simp at e
 | x::ds,_,i,d,h,e=>by
  rw[DenL] at h;obtain⟨v,ws,h1,h2,h3⟩:=h;subst h1;cases i with
  | zero=>simp at e;subst e;exact⟨v,by simp,h2⟩
  | succ i =>
   obtain⟨u,a,b⟩:=DenL.get (i:=i) (d:=d) h3 (by simpa using e);exact⟨u,by simpa using a,b⟩
theorem DenL.of_get:∀ {ds:List D} {vs:List V},ds.length=vs.length->(∀ (i:Nat) d v,ds[i]?=some d->vs[i]?=some v->Den K H d v)->DenL K H ds vs
 | [],[],_,_=>.nil
 | [],_::_,e,_=>by simp at e
 | _::_,[],e,_=>by simp at e
 | d::ds,v::vs,e,h=>.cons (h 0 d v (by simp) (by simp)) (DenL.of_get (by simpa using e) λi d' v' q1 q2=>h (i+1) d' v' (by simpa using q1) (by simpa using q2))
def DenL.append:∀ {ds es:List D} {vs ws:List V},DenL K H ds vs->DenL K H es ws->DenL K H (ds++es) (vs++ws)
 | [],_,_,_,h,t=>by rw[DenL] at h;subst h;exact t
 | _::ds,_,_,_,h,t=>by
  rw[DenL] at h;obtain⟨v,ws,h1,h2,h3⟩:=h;subst h1;exact .cons h2 (DenL.append h3 t)
def DenL.take:∀ {ds:List D} {vs:List V} (n:Nat),DenL K H ds vs->DenL K H (ds.take n) (vs.take n)
 | _,_,0,_=>by rw[List.take_zero,List.take_zero];exact .nil
 | [],_,n+1,h=>by rw[DenL] at h;subst h;exact .nil
 | _::ds,_,n+1,h=>by
  rw[DenL] at h;obtain⟨v,ws,h1,h2,h3⟩:=h;subst h1;rw[List.take_succ_cons,List.take_succ_cons];exact .cons h2 (DenL.take n h3)
def DenL.drop:∀ {ds:List D} {vs:List V} (n:Nat),DenL K H ds vs->DenL K H (ds.drop n) (vs.drop n)
 | _,_,0,h=>h
 | [],_,n+1,h=>by rw[DenL] at h;subst h;exact .nil
 | _::ds,_,n+1,h=>by
  rw[DenL] at h;obtain⟨v,ws,h1,h2,h3⟩:=h;subst h1;rw[List.drop_succ_cons,List.drop_succ_cons];exact DenL.drop n h3
def DenL.set (a:Den K H d v):∀ {ds:List D} {vs:List V} (n:Nat),DenL K H ds vs->DenL K H (ds.set n d) (vs.set n v)
 | [],_,n,h=>by rw[DenL] at h;subst h;exact .nil
 | _::ds,_,n,h=>by
  rw[DenL] at h;obtain⟨u,ws,h1,h2,h3⟩:=h;subst h1;cases n with
  | zero=>exact .cons a h3
  | succ n=>exact .cons h2 (DenL.set a n h3)
theorem DenL.ints:∀ ns:List Int,DenL K H (ns.map D.int) (ns.map V.int)
 | []=>.nil
 | n::ns=>.cons (by rw[Den]) (DenL.ints ns)
end
noncomputable def hide (H:Hp)(S:List Addr):Hp:=λb=>if b∈S then none else H b
section
variable {H H':Hp}{S:List Addr}{a b:Addr}{o:HO}
def zCR (h:b∈S):hide H S b=none:=if_pos h
def zAV (h:b∉S):hide H S b=H b:=if_neg h
def zA5 (h:hide H S b=some o):b∉S/\H b=some o:=by
 unfold hide at h;grind
def zAo:Same (hide H S) H:=λ_ _ h=>(zA5 h).2
def zAW (e:Same H H'):Same (hide H S) (hide H' S):=λb o h=>by
 obtain⟨h1,h2⟩:=zA5 h;rw[zAV h1];exact e _ _ h2
def zCE (h:∀ b∈S,b∈T):Same (hide H T) (hide H S):=λb o q=>by
 obtain⟨h1,h2⟩:=zA5 q;rw[zAV λz=>h1 (h b z)];exact h2
def zEG (e:Same H H')(n:H a=none):Same (hide H S) (hide H' (a::S)):=λb o q=>by
 obtain⟨h1,h2⟩:=zA5 q;rw[zAV λz=>(mem_cons.mp z).elim (zAv h2 n) h1];exact e _ _ h2
def zCx:hide H []=H:=rfl
def zF2 (h:a∈S):hide (upd H a o) S=hide H S:=by
 funext b;by_cases q:b∈S
 .rw [zCR q,zCR q]
 .rw [zAV q,zAV q,zAX λz=>q (by rw[z];exact h)]
def zAd (h:H p=none)(o:HO):Same H (upd H p o):=λb u q=>by rw[zAX (zAv q h)];exact q
end
inductive Kd where
 | cl | fr | dt
 deriving DecidableEq
abbrev R:=D×Kd
abbrev Dst:=List (Option (D×Bool))
def RV (K:W.Frag)(H H':Hp)(S:List Addr):R->V->Prop
 | (d,.cl),v=>Den K (hide H' S) d v
 | (d,.fr),v=>∃ a vs ds,v=.ref a/\d=.lst ds/\a∉S/\H a=none/\H' a=some (.lst vs)/\DenL K (hide H' (a::S)) ds vs
 | (d,.dt),v=>∃ a vs ds,v=.ref a/\d=.lst ds/\SqL K H' a vs/\DenL K (hide H' S) ds vs
def Rdv (K:W.Frag)(H:Hp)(S:List Addr)(d:D)(v:V):Prop :=
 Den K (hide H S) d v\/∃ a vs ds,v=.ref a/\d=.lst ds/\SqL K H a vs/\DenL K (hide H S) ds vs
section
variable {K:W.Frag}{H H1 H':Hp}{S:List Addr}{d:D}{v:V}{r:R}
def RV.clean (h:RV K H H' S (d,.fr) v):Den K (hide H' S) d v:=by
 obtain⟨a,c,f,rfl,rfl,b,_,e,t⟩:=h;exact⟨a,c,rfl,SqL.of (by rw[zAV b];exact e),t.mono (zCE λb z=>qJ _ z)⟩
def RV.den (h:RV K H H' S (d,k) v)(a:k≠.dt):Den K (hide H' S) d v:=by
 cases k with
 | cl=>exact h
 | fr=>exact h.clean
 | dt=>exact absurd rfl a
def RV.rd (h:RV K H H' S r v):Rdv K H' S r.1 v:=by
 obtain⟨d,k⟩:=r;cases k with
 | cl=>exact .inl h
 | fr=>exact .inl h.clean
 | dt=>exact .inr h
def RV.from (e:Same H H1)(h:RV K H1 H' S r v):RV K H H' S r v:=by
 obtain⟨d,k⟩:=r;cases k with
 | cl=>exact h
 | fr =>
  obtain⟨a,c,l,g,b,i,f,j⟩:=h;exact⟨a,c,l,g,b,i,e.free f,j⟩
 | dt=>exact h
def Rdv.mono (e:Same H H')(h:Rdv K H S d v):Rdv K H' S d v:=by
 rcases h with h | ⟨a,vs,ds,h1,h2,h3,h4⟩
 .exact .inl (h.mono (zAW e))
 .exact .inr ⟨a,vs,ds,h1,h2,e.seq h3,h4.mono (zAW e)⟩
def Rdv.int (h:Rdv K H S (.int i) v):v=.int i:=by
 rcases h with h | _
 .exact h
 .grind
def Rdv.bl (h:Rdv K H S (.bl b) v):v=.bl b:=by
 rcases h with h | _
 .exact h
 .grind
def Rdv.str (h:Rdv K H S (.str x) v):v=.str x:=by
 rcases h with h | _
 .exact h
 .grind
def Rdv.lst (h:Rdv K H S (.lst ds) v):∃ a vs,v=.ref a/\SqL K H a vs/\DenL K (hide H S) ds vs:=by
 rcases h with h | ⟨a,vs,ds',h1,h2,h3,h4⟩
 .rw [Den] at h;obtain⟨a,vs,h1,h2,h3⟩:=h;exact⟨a,vs,h1,zAo.seq h2,h3⟩
 .cases h2;exact⟨a,vs,h1,h3,h4⟩
def Rdv.tup (h:Rdv K H S (.tup ds) v):∃ a vs,v=.ref a/\SqT K H a vs/\DenL K (hide H S) ds vs:=by
 rcases h with h | ⟨a,vs,ds',h1,h2,h3,h4⟩
 .rw [Den] at h;obtain⟨a,vs,h1,h2,h3⟩:=h;exact⟨a,vs,h1,Same.tupS zAo h2,h3⟩
 .cases h2
def Rdv.dct (h:Rdv K H S (.dct ks) v):∃ a kvs,v=.ref a/\H a=some (.dT kvs)/\kvs.map (·.1)=ks.map pk:=by
 rcases h with h | ⟨a,vs,ds',h1,h2,h3,h4⟩
 .rw [Den] at h;obtain⟨a,kvs,h1,h2,h3⟩:=h;exact⟨a,kvs,h1,zAo _ _ h2,h3⟩
 .cases h2
def RV.int (i:Int):RV K H H' S (.int i,.cl) (.int i):=rfl
def RV.bl (b:Bool):RV K H H' S (.bl b,.cl) (.bl b):=rfl
end
def MuB:HO->Prop
 | .lst _=>True
 | .dT _=>True
 | _=>False
def OwnO (K:W.Frag)(H:Hp):D->HO->Prop
 | .lst ds,o=>∃ vs,o=.lst vs/\DenL K H ds vs
 | .dct ks,o=>∃ kvs,o=.dT kvs/\kvs.map (·.1)=ks.map pk
 | _,_=>False
def OwnO.mono {K:W.Frag}(e:Same H H')(h:OwnO K H d o):OwnO K H' d o:=by
 cases d with
 | lst b=>obtain⟨a,h1,h2⟩:=h;exact⟨a,h1,h2.mono e⟩
 | dct c=>exact h
 | non=>exact h
 | bl _=>exact h
 | int _=>exact h
 | str _=>exact h
 | tup _=>exact h
 | exc _=>exact h
 | lam _ _ _=>exact h
 | obj _ _ _=>exact h
 | fn _ _=>exact h
def OwnO.mu {K:W.Frag}(h:OwnO K H d o):MuB o:=by
 cases d with
 | lst e=>obtain⟨b,rfl,_⟩:=h;exact True.intro
 | dct c=>obtain⟨a,rfl,_⟩:=h;exact True.intro
 | non=>cases h
 | bl _=>cases h
 | int _=>cases h
 | str _=>cases h
 | tup _=>cases h
 | exc _=>cases h
 | lam _ _ _=>cases h
 | obj _ _ _=>cases h
 | fn _ _=>cases h
def OwnO.den {K:W.Frag}(h:OwnO K H d o)(e:H a=some o):Den K H d (.ref a):=by
 cases d with
 | lst g=>obtain⟨c,rfl,h2⟩:=h;exact⟨a,c,rfl,SqL.of e,h2⟩
 | dct f=>obtain⟨b,rfl,h2⟩:=h;exact⟨a,b,rfl,e,h2⟩
 | non=>cases h
 | bl _=>cases h
 | int _=>cases h
 | str _=>cases h
 | tup _=>cases h
 | exc _=>cases h
 | lam _ _ _=>cases h
 | obj _ _ _=>cases h
 | fn _ _=>cases h
def SV (K:W.Frag)(H:Hp)(S:List Addr)(d:D)(o:Bool)(v:V):Prop :=
 if o=true then ∃ a u,v=.ref a/\a∈S/\H a=some u/\OwnO K (hide H S) d u else Den K (hide H S) d v
structure DS (K:W.Frag)(H:Hp)(S:List Addr)(B:St)(O:Dst):Prop where
 len:B.length=O.length
 sok:∀ a∈S,∃ xs:HO,H a=some xs/\MuB xs
 get:∀ (i:Nat) d o,O[i]?=some (some (d,o))->∃ v,B[i]?=some (some v)/\SV K H S d o v
 inj:∀ (i j:Nat) d e a,O[i]?=some (some (d,true))->O[j]?=some (some (e,true))->B[i]?=some (some (.ref a))->B[j]?=some (some (.ref a))->i=j
section
variable {K:W.Frag}{H H1 H':Hp}{S:List Addr}{B:St}{O:Dst}{d:D}{v:V}{i:Nat}
def SV.own (h:SV K H S d o v)(b:o=true):∃ a u,v=.ref a/\a∈S/\H a=some u/\OwnO K (hide H S) d u:=by
 unfold SV at h;rw[if_pos b] at h;exact h
def SV.ownL (h:SV K H S (.lst ds) o v)(b:o=true):∃ a vs es,v=.ref a/\D.lst ds=.lst es/\a∈S/\H a=some (.lst vs)/\DenL K (hide H S) es vs:=by
 obtain⟨a,u,h1,h2,h3,vs,rfl,h5⟩:=h.own b;exact⟨a,vs,ds,h1,rfl,h2,h3,h5⟩
def SV.den (h:SV K H S d o v)(a:o=false):Den K (hide H S) d v:=by
 unfold SV at h;rw[if_neg (by simp_all)] at h;exact h
def SV.of_den (h:Den K (hide H S) d v):SV K H S d false v:=by assumption
def SV.of_own (h1:a∈S)(h2:H a=some u)(h3:OwnO K (hide H S) d u):SV K H S d true (.ref a):=⟨a,u,rfl,h1,h2,h3⟩
def SV.mono (e:Same H H')(h:SV K H S d o v):SV K H' S d o v:=by
 cases o with
 | true =>
  obtain⟨a,u,rfl,h1,h2,h3⟩:=h.own rfl;exact .of_own h1 (e _ _ h2) (h3.mono (zAW e))
 | false=>exact .of_den ((h.den rfl).mono (zAW e))
def DS.mono (h:DS K H S B O)(e:Same H H'):DS K H' S B O :=
 ⟨h.len,λa z=>let ⟨xs,q,mu⟩:=h.sok a z;⟨xs,e _ _ q,mu⟩,λi d o z=>let ⟨v,q1,q2⟩:=h.get i d o z;⟨v,q1,q2.mono e⟩,h.inj⟩
def zBX {T:Type}{l:List T}{i:Nat}{x:T}(h:i < l.length):(l.set i x)[i]?=some x:=by simp[h]
def zCF {T:Type}{l:List T}{i j:Nat}{x:T}(h:i≠j):(l.set i x)[j]?=l[j]?:=by simp_all
def zAb {T:Type}{l:List T}{i j:Nat}{x y:T}(h:(l.set i x)[j]?=some y):(i=j/\y=x/\i < l.length)\/(i≠j/\l[j]?=some y):=by
 by_cases e:i=j
 .subst e;by_cases q:i < l.length
  .simp_all
  .simp_all
 .simp_all
def DS.set (h:DS K H S B O)(c:Den K (hide H S) d v):DS K H S (B.set i (some v)) (O.set i (some (d,false))):=by
 refine⟨by rw[length_set,length_set];exact h.len,h.sok,λj e o q=>?_,λj k e f a l m b n=>?_⟩
 .rcases zAb q with ⟨rfl,z,g⟩ | ⟨ne,z⟩
  .cases z;exact⟨v,zBX (by rw[h.len];exact g),.of_den c⟩
  .obtain _:=h.get j e o z
   simp_all
 .rcases zAb l with ⟨_,z,_⟩ | ⟨ne1,z1⟩
  .grind
  .rcases zAb m with ⟨_,z,_⟩ | ⟨ne2,z2⟩
   .cases z
   .rw [zCF ne1] at b
    simp_all
    exact h.inj j k e f a z1 z2 b n
def DS.setG (h:DS K H S B O)(e:Same H H')(n:H a=none)(C:H' a=some u)(t:OwnO K (hide H' (a::S)) d u) :
  DS K H' (a::S) (B.set i (some (.ref a))) (O.set i (some (d,true))):=by
 refine⟨by rw[length_set,length_set];exact h.len,λb z=>?_,λj y o q=>?_,λj k y f b v c l g=>?_⟩
 .rcases mem_cons.mp z with rfl | z
  .exact ⟨_,C,t.mu⟩
  .obtain ⟨I,q,mu⟩:=h.sok b z;exact⟨I,e _ _ q,mu⟩
 .rcases zAb q with ⟨rfl,z,M⟩ | ⟨L,z⟩
  .cases z;exact⟨.ref a,zBX (by rw[h.len];exact M),.of_own q8 C t⟩
  .obtain ⟨u,v,c⟩:=h.get j y o z
   simp_all
   cases o with
   | true =>
    obtain⟨b,w,rfl,A,G,N⟩:=c.own rfl;exact .of_own (qJ _ A) (e _ _ G) (N.mono (zEG e n))
   | false=>exact .of_den ((c.den rfl).mono (zEG e n))
 .have m:∀ {j:Nat} {x:D},i≠j->O[j]?=some (some (x,true))->B[j]?=some (some (.ref a))->False:=λ{j x} L z q=>by
   obtain⟨u,v,c⟩:=h.get j x true z;obtain⟨b,w,rfl,A,G,_⟩:=c.own rfl;grind
  rcases zAb v with ⟨E,s,J⟩ | ⟨ne1,s⟩
  .rcases zAb c with ⟨r,p,F⟩ | ⟨ne2,p⟩
   .exact E.symm.trans r
   .rw [<- E,zBX (by rw[h.len];exact J)] at l;cases l;rw[zCF ne2] at g;exact(m ne2 p g).elim
  .rcases zAb c with ⟨r,p,F⟩ | ⟨ne2,p⟩
   .rw [<- r,zBX (by rw[h.len];exact F)] at g;cases g;rw[zCF ne1] at l;exact(m ne1 s l).elim
   .rw [zCF ne1] at l;rw[zCF ne2] at g;exact h.inj j k y f b s p l g
def DS.setF (h:DS K H S B O)(e:Same H H')(n:H a=none)(b:H' a=some (.lst vs))(t:DenL K (hide H' (a::S)) ds vs) :
  DS K H' (a::S) (B.set i (some (.ref a))) (O.set i (some (.lst ds,true))):=h.setG e n b ⟨vs,rfl,t⟩
def DS.changeG (h:DS K H S B O)(l:O[i]?=some (some (d,true)))(p:B[i]?=some (some (.ref a)))(t:OwnO K (hide H S) e0 u) :
  DS K (upd H a u) S B (O.set i (some (e0,true))):=by
 obtain⟨w,g,e⟩:=h.get i _ true l;obtain⟨b,N,m,A,Q,_⟩:=e.own rfl;subst m;rw[p] at g;cases g;have v:hide (upd H a u) S=hide H S:=zF2 A;refine⟨by rw[length_set];exact h.len,λb z=>?_,λj r o q=>?_,λj k r f b g e J C=>?_⟩
 .by_cases q:b=a
  .subst q;exact⟨_,zAc,t.mu⟩
  .rw [zAX q];exact h.sok b z
 .rcases zAb q with ⟨rfl,z,M⟩ | ⟨ne,z⟩
  .cases z;exact⟨.ref a,p,.of_own A zAc (by rw[v];exact t)⟩
  .obtain ⟨w,g,e⟩:=h.get j r o z
   simp_all
   cases o with
   | true =>
    obtain⟨b,G,rfl,F,n,P⟩:=e.own rfl;exact .of_own F (by rw[zAX (λz2=>by subst z2;exact ne (h.inj i j _ _ b l z p g))];exact n) (by simp_all)
   | false=>exact .of_den (by rw[v];exact e.den rfl)
 .have c:∀ {j:Nat} {x:D},(O.set i (some (e0,true)))[j]?=some (some (x,true))->∃ y,O[j]?=some (some (y,true)):=λ{j x} z=>by
   rcases zAb z with ⟨m,_,_⟩ | ⟨_,z⟩
   .rw [<- m];exact⟨_,l⟩
   .exact ⟨_,z⟩
  obtain⟨L,E⟩:=c g;obtain⟨I,z2⟩:=c e;exact h.inj j k L I b E z2 J C
def DS.change (h:DS K H S B O)(b:O[i]?=some (some (.lst ds,true)))(c:B[i]?=some (some (.ref a)))(t:DenL K (hide H S) es vs) :
  DS K (upd H a (.lst vs)) S B (O.set i (some (.lst es,true))):=h.changeG b c ⟨vs,rfl,t⟩
def DS.freeze (h:DS K H S B O)(s:O[i]?=some (some (d,true))):∃ S',(∀ b∈S',b∈S)/\DS K H S' B (O.set i (some (d,false))):=by
 obtain⟨u,r,y⟩:=h.get i _ true s;obtain⟨a,w,rfl,G,D,C⟩:=y.own rfl;have c:∀ b∈S.filter (λb=>decide (b≠a)),b∈S:=λb z=>(mem_filter.mp z).1
 refine⟨S.filter _,c,?_⟩;have l:Same (hide H S) _:=zCE c;refine⟨by rw[length_set];exact h.len,λb z=>h.sok b (c b z),λj m o q=>?_,λj k m f b g z2 F x=>?_⟩
 .rcases zAb q with ⟨rfl,z,I⟩ | ⟨ne,z⟩
  .cases z;exact⟨.ref a,r,.of_den ((C.mono l).den (by rw[zAV (λz=>by simpa using (mem_filter.mp z).2)];exact D))⟩
  .obtain ⟨u,t,v⟩:=h.get j m o z;refine⟨u,t,?_⟩;cases o with
   | true =>
    obtain⟨b,E,rfl,A,p,n⟩:=v.own rfl;exact .of_own (mem_filter.mpr ⟨A,by simpa using (λz2=>by subst z2;exact ne (h.inj i j _ _ b s z r t))⟩) p (n.mono l)
   | false=>exact .of_den ((v.den rfl).mono l)
 .rcases zAb g with ⟨_,z,_⟩ | ⟨_,g⟩
  .cases z
  .rcases zAb z2 with ⟨_,z,_⟩ | ⟨_,z2⟩
   .cases z
   .exact h.inj j k m f b g z2 F x
end
end DL
end
section
namespace DL
open PySem Spec PyProof.Rows L2
def gT (K:W.Frag)(f:Dst->Option R):TE:=λB H Q=>∃ S O r,DS K H S B O/\f O=some r/\∀ v H',Same H H'->RV K H H' S r v->Q v H'
def gB (K:W.Frag)(f:Dst->Option Bool):TT:=λB H Q=>∃ S O b,DS K H S B O/\f O=some b/\∀ H',Same H H'->Q b H'
def gA (K:W.Frag)(f:Dst->Option (List D)):TA:=λB H Q=>∃ S O ds,DS K H S B O/\f O=some ds/\∀ vs H',Same H H'->DenL K (hide H' S) ds vs->Q vs H'
def GE (X:Cx)(e:Expr)(f:Dst->Option R):Prop:=PE X e (gT X.K f)
def GT (X:Cx)(e:Expr)(f:Dst->Option Bool):Prop:=PT X e (gB X.K f)
def GA (X:Cx)(es:List Expr)(f:Dst->Option (List D)):Prop:=PA X es (gA X.K f)
theorem _root_.L2.PE.imp (h:PE X e t)(i:∀ B H Q,t' B H Q->t B H Q):PE X e t':=λpins s B H Q I q=>h pins s B H Q I (i B H Q q)
theorem _root_.L2.PT.imp (h:PT X e t)(i:∀ B H Q,t' B H Q->t B H Q):PT X e t':=λpins s B H Q I q=>h pins s B H Q I (i B H Q q)
theorem _root_.L2.PA.imp (h:PA X e t)(i:∀ B H Q,t' B H Q->t B H Q):PA X e t':=λpos pins s B H Q I q=>h pos pins s B H Q I (i B H Q q)
def bind_some {T M:Type}{o:Option T}{f:T->Option M}{b:M}(h:(o.bind f)=some b):∃ a,o=some a/\f a=some b:=by
 cases o with
 | none=>cases h
 | some a=>exact⟨a,rfl,h⟩
section
variable {X:Cx}
def OpD (K:W.Frag)(r:R2)(o:D->D->Option R):Prop :=
 ∀ (S:List Addr) (H:Hp) (x y:D) (z:R) (vx vy:V) (Q:VK),(∀ a∈S,∃ xs:HO,H a=some xs/\MuB xs)->o x y=some z->Rdv K H S x vx->Rdv K H S y vy->(∀ v H',Same H H'->RV K H H' S z v->Q v H')->r vx vy H Q
noncomputable def two (f g:Dst->Option R)(o:D->D->Option R):Dst->Option R:=λO=>(f O).bind λx=>(g O).bind λy=>o x.1 y.1
def zHz {r:R2}{o:D->D->Option R}{f g:Dst->Option R}(h:OpD X.K r o){B:St}{H:Hp}{Q:VK}(q:gT X.K (two f g o) B H Q):tOp r (gT X.K f) (gT X.K g) B H Q:=by
 obtain⟨S,O,z,d,e,c⟩:=q;obtain⟨x,m,e⟩:=bind_some e;obtain⟨y,l,e⟩:=bind_some e;refine⟨S,O,x,d,m,λvx n b r1=>⟨S,O,y,d.mono b,l,λvy i a r2=>?_⟩⟩;exact h S i x.1 y.1 z vx vy Q (d.mono (b.trans a)).sok e (r1.rd.mono a) r2.rd λv k j r3=>c v k (b.trans (a.trans j)) (r3.from (b.trans a))
def zJB (d:OpR X (binaryOp op) r)(h:OpD X.K r o)(c:GE X a f)(e:GE X b g):GE X (.BinOp a op b pos) (two f g o) :=
 (zRj d c e).imp λ_ _ _ q=>zHz h q
noncomputable def asB (f:Dst->Option R):Dst->Option Bool:=λO=>match f O with
 | some (.bl b,_)=>some b
 | _=>none
def zCX (h:asB f O=some b):∃ k,f O=some (.bl b,k):=by
 unfold asB at h;split at h
 .simp_all
 .cases h
def zHX {f:Dst->Option R}{B:St}{H:Hp}{Q:Bool->Hp->Prop}(q:gB X.K (asB f) B H Q):gT X.K f B H λx H'=>∃ k,x=.bl k/\Q k H':=by
 obtain⟨S,O,b,d,e,c⟩:=q;obtain⟨k,e⟩:=zCX e;refine⟨S,O,_,d,e,λv H' a r1=>⟨b,r1.rd.bl,c H' a⟩⟩
noncomputable def lstB:D->Bool
 | .lst _=>true
 | _=>false
noncomputable def varD (i:Nat):Dst->Option R:=λO=>match O[i]? with
 | some (some (d,o))=>if o=true then (if lstB d=true then some (d,.dt) else none) else some (d,.cl)
 | _=>none
def zSu (p:X.N[i]?=some x)(m:Vis X.env.scope x)(l:(x==("__debug__":Str))=false)(b:(x==("__classdict__":Str))=false) :
  GE X (.Name x pos) (varD i):=by
 refine(zDS p m l b).imp λB H Q q=>?_
 obtain⟨S,O,z,n,e,c⟩:=q;unfold varD at e;split at e
 .rename_i d o q;obtain⟨v,f,g⟩:=n.get i d o q;cases o with
  | false =>
   cases e;exact⟨v,f,c v H (Same.refl _) (g.den rfl)⟩
  | true =>
   rw[if_pos rfl] at e;cases d with
   | lst s =>
    cases e;refine⟨v,f,c v H (Same.refl _) ?_⟩;obtain⟨a,k,es,rfl,r,_,j,h⟩:=g.ownL rfl;exact⟨a,k,es,rfl,r,SqL.of j,h⟩
   | _=>cases e
 .cases e
def zEH (h:PE X e (tC v))(b:∀ K H,Den K H d v):GE X e (λ_=>some (d,.cl)) :=
 h.imp λB H Q a=>by
  obtain⟨S,O,z,f,e,c⟩:=a;cases e;exact c v H (Same.refl _) (b _ _)
def ge_int {j pos}:GE X (.Constant (.int i) j pos) (λ_=>some (.int i,.cl)):=zEH (λ_ _ _ H _ I h=>wpAny_Constant_int ⟨.int i,H,I.tok _,⟨_,rfl⟩,h⟩) λ_ _=>by rw[Den]
def zUk {j pos}:GE X (.Constant (.bool b) j pos) (λ_=>some (.bl b,.cl)):=zEH (λ_ _ _ H _ I h=>Constant_bool ⟨.bl b,H,I,rfl,h⟩) λ_ _=>by rw[Den]
def zSz {j pos}:GE X (.Constant .none j pos) (λ_=>some (.non,.cl)):=zEH (λ_ _ _ H _ I h=>Constant_none ⟨.non,H,I,rfl,h⟩) λ_ _=>by rw[Den]
def zSx {j pos}:GE X (.Constant (.str x) j pos) (λ_=>some (.str x,.cl)):=zEH (λ_ _ _ H _ I h=>Calls.Constant_str ⟨.str x,H,I.tok _,⟨_,rfl⟩,h⟩) λ_ _=>by rw[Den]
def zQM (f:Gl X x)(g:X.mg x=some u)(r:RelV v u)(h:Den X.K (λ_=>none) d v)(b:(x==("__debug__":Str))=false):GE X (.Name x pos) (λ_=>some (d,.cl)) :=
 (zPE f g r b).imp λB H Q a=>by
  obtain⟨S,O,z,i,e,c⟩:=a;cases e;exact c v H (Same.refl _) (h.mono λb o q=>by cases q)
def zHL {g:Int->Int->Int}(h:∀ x y z,o x y=some z->∃ i j,x=.int i/\y=.int j/\C i j/\z=(.int (g i j),.cl)):OpD X.K (rI C λi j=>.int (g i j)) o:=by
 intro S H x y z k f Q _ e b a c;obtain⟨i,j,rfl,rfl,d,rfl⟩:=h x y z e;exact⟨i,j,b.int,a.int,d,c _ H (Same.refl _) (.int _)⟩
def zMg {g:Int->Int->Int}(h:∀ x y z,o x y=some z->∃ i j,x=.int i/\y=.int j/\z=(.int (g i j),.cl)):OpD X.K (rI0 λi j=>.int (g i j)) o:=by
 intro S H x y z d f Q _ e a b c;obtain⟨i,j,rfl,rfl,rfl⟩:=h x y z e;exact⟨i,j,a.int,b.int,c _ H (Same.refl _) (.int _)⟩
def zBW {g:Int->Int->Bool}(h:∀ x y z,o x y=some z->∃ i j,x=.int i/\y=.int j/\z=(.bl (g i j),.cl)):OpD X.K (rI0 λi j=>.bl (g i j)) o:=by
 intro S H x y z d f Q _ e a b c;obtain⟨i,j,rfl,rfl,rfl⟩:=h x y z e;exact⟨i,j,a.int,b.int,c _ H (Same.refl _) (.bl _)⟩
def zPP:OpR X (binaryOp .Mult) (rI IntMulOk λi j=>.int (i*j)):=opI λ_ _ _ _ _ _ _ a q=>mul_int q a
def zJO (_ j:Int):Prop:=j≠0
def zMh:OpR X (binaryOp .FloorDiv) (rI zJO λi j=>.int (i.fdiv j)):=by
 intro a s B H x y v u Q I b c h;obtain⟨i,j,rfl,rfl,d,q⟩:=h;obtain⟨t,rfl⟩:=b;obtain⟨f,rfl⟩:=c;exact floordiv_int d ⟨.int (i.fdiv j),H,I.tok _,⟨_,rfl⟩,q⟩ (.inr ((by obtain⟨h1,h2,e,l,h3,h4,h5,h6,h7⟩:=I.ok.pyl;exact PylongRoom.of I.nolimit h1 (SeerAt.of (I.mod.seer.keeps I.bk) h2 (by rw[I.ok.frames,h3]) h4 h5 h6 h7))))
def zGd (l:Addr)(items:Array Value)(n:Nat)(g:Option Addr)(sl:Array (Option Value))(b:Addr)(a:Array Value)(i:Nat)(d:Option Addr)(c:Array (Option Value))(f:items.size+a.size<=sizeLine) :
  Meets (Builtin.«list.__add__» ⟨[.ref l,.ref b],[]⟩) (λ_ R s=>s.heap.get? l=some { cls:=.type "list",dict:=g,data:=.seq items n,slots:=sl }/\s.heap.get? b=some { cls:=.type "list",dict:=d,data:=.seq a i,slots:=c }/\R (.ok (.ret (Value.ref s.heap.objs.size))) { s with heap:=s.heap.push { cls:=Value.type "list",data:=Data.seq (items++a) },toks:=s.toks }) :=
 .of_wp λprog w A R s h=>by obtain _:=s;obtain⟨e,j,h⟩:=h;have k:=AutoSeq1.sub_list_list;wp_walk using AutoSeq1.wpAny_loadPart' e,AutoSeq1.wpAny_loadPart' j;exact⟨_,rfl,h⟩
end
mutual
noncomputable def toPy:D->PyData
 | .non=>.none
 | .bl b=>.bool b
 | .int i=>.int i
 | .str x=>.str x
 | .tup ds=>.tuple (toPyL ds)
 | .lst ds=>.list (toPyL ds)
 | .exc _=>.str ⟨#[1114112]⟩
 | .dct _=>.str ⟨#[1114112]⟩
 | .lam _ _ _=>.str ⟨#[1114112]⟩
 | .obj _ _ _=>.str ⟨#[1114112]⟩
 | .fn _ _=>.str ⟨#[1114112]⟩
noncomputable def toPyL:List D->List PyData
 | []=>[]
 | d::ds=>toPy d::toPyL ds
end
theorem Rdv.whole {K:W.Frag}(h:Rdv K H S d v):Den K H d v:=by
 rcases h with h | ⟨a,vs,ds,rfl,rfl,h1,h2⟩
 .exact h.mono zAo
 .exact ⟨a,vs,rfl,h1,h2.mono zAo⟩
section
variable {X:Cx}{pins:List (Addr×Obj)}{B:St}{H:Hp}{s:Shared}
mutual
theorem zDR (I:Inv X pins B H s):∀ {d:D} {v:V} {u:Value},Den X.K H d v->RelV v u->(toPy d).canLay0=true->∃ as,Reads s.heap u (toPy d) as
 | .non,_,_,h,r,_=>by rw[Den] at h;subst h;cases r;rw[toPy];exact⟨_,.none⟩
 | .bl b,_,_,h,r,_=>by rw[Den] at h;subst h;cases r;rw[toPy];exact⟨_,.bool b⟩
 | .int i,_,_,h,r,_=>by rw[Den] at h;subst h;obtain⟨t,rfl⟩:=r;rw[toPy];exact⟨_,.int i t⟩
 | .str x,_,_,h,r,_=>by rw[Den] at h;subst h;obtain⟨t,rfl⟩:=r;rw[toPy];exact⟨_,.str x t⟩
 | .tup ds,_,_,h,r,cl=>by
  rw[toPy,PyData.canLay0] at cl;rw[Den] at h;obtain⟨a,vs,rfl,h1,h2⟩:=h;cases r;obtain⟨its,rv,⟨o,e1,e2,n,e3⟩,_⟩:=I.tuple h1;obtain⟨as,q⟩:=readsL_of I h2 rv cl;rw[toPy];exact⟨_,.tuple e1 e2 e3 q⟩
 | .exc c,_,_,h,r,cl=>by rw[toPy,PyData.canLay0] at cl;exact absurd cl (by decide +kernel)
 | .dct c,_,_,h,r,cl=>by rw[toPy,PyData.canLay0] at cl;exact absurd cl (by decide +kernel)
 | .lam _ _ _,_,_,h,r,cl=>by rw[toPy,PyData.canLay0] at cl;exact absurd cl (by decide +kernel)
 | .obj _ _ _,_,_,h,r,cl=>by rw[toPy,PyData.canLay0] at cl;exact absurd cl (by decide +kernel)
 | .fn _ _,_,_,h,r,cl=>by rw[toPy,PyData.canLay0] at cl;exact absurd cl (by decide +kernel)
 | .lst ds,_,_,h,r,cl=>by
  rw[toPy,PyData.canLay0] at cl;rw[Den] at h;obtain⟨a,vs,rfl,h1,h2⟩:=h;cases r;obtain⟨its,rv,⟨o,n,e1,e2,_,e3⟩,_⟩:=I.list h1;obtain⟨as,q⟩:=readsL_of I h2 rv cl;rw[toPy];exact⟨_,.list e1 e2 e3 q⟩
theorem readsL_of (I:Inv X pins B H s):∀ {ds:List D} {vs:List V} {us:List Value},DenL X.K H ds vs->Vals vs us->PyData.canLayAll0 (toPyL ds)=true->∃ as,ReadsAll s.heap us (toPyL ds) as
 | [],_,_,h,r,_=>by rw[DenL] at h;subst h;cases r;rw[toPyL];exact⟨_,.nil⟩
 | d::ds,_,_,h,r,cl=>by
  rw[toPyL,PyData.canLayAll0,x8] at cl;rw[DenL] at h;obtain⟨v,ws,rfl,h1,h2⟩:=h;cases r with
  | cons r1 r2 =>
   obtain⟨a1,q1⟩:=zDR I h1 r1 cl.1;obtain⟨a2,q2⟩:=readsL_of I h2 r2 cl.2;rw[toPyL];exact⟨_,.cons q1 q2⟩
end
end
def EqOk (x y:D):Prop:=(toPy x).canLay0=true/\(toPy y).canLay0=true/\(toPy x).depth<=64
noncomputable instance (x y:D):Decidable (EqOk x y):=by unfold EqOk;exact inferInstance
noncomputable def eqb (x y:D):Bool:=PyData.eqv (toPy x) (toPy y)
def rEqD (K:W.Frag)(f:Bool->Bool):R2:=λvx vy H Q=>∃ x y,Den K H x vx/\Den K H y vy/\EqOk x y/\Q (.bl (f (eqb x y))) H
section
variable {X:Cx}
def eqD (f:Bool->Bool)(x y:D):Option R:=if EqOk x y then some (.bl (f (eqb x y)),.cl) else none
def zON :OpD X.K (rEqD X.K f) (eqD f):=by
 intro S H x y z d g Q _ e a b c;unfold eqD at e;by_cases ok:EqOk x y
 .rw [if_pos ok] at e;cases e;exact⟨x,y,a.whole,b.whole,ok,c _ H (Same.refl _) (.bl _)⟩
 .simp_all
noncomputable def nonB:D->Bool
 | .non=>true
 | _=>false
noncomputable def isN (f:Bool->Bool)(x y:D):Option R:=match y with
 | .non=>some (.bl (f (nonB x)),.cl)
 | _=>none
def zLk {K:W.Frag}(h:Den K H x v):decide (v=.non)=nonB x:=by
 cases x with
 | non=>rw[Den] at h;subst h;rfl
 | bl b=>rw[Den] at h;subst h;rfl
 | int i=>rw[Den] at h;subst h;rfl
 | str i=>rw[Den] at h;subst h;rfl
 | tup e=>rw[Den] at h;obtain⟨a,d,rfl,_⟩:=h;rfl
 | lst e=>rw[Den] at h;obtain⟨a,d,rfl,_⟩:=h;rfl
 | exc c=>rw[Den] at h;obtain⟨a,o,u,C,rfl,_⟩:=h;rfl
 | dct c=>rw[Den] at h;obtain⟨a,f,rfl,_⟩:=h;rfl
 | lam _ _ _=>rw[Den] at h;obtain⟨a,d,rfl,_⟩:=h;rfl
 | obj _ _ _=>rw[Den] at h;obtain⟨a,d,rfl,_⟩:=h;rfl
 | fn _ _=>rw[Den] at h;obtain⟨a,rfl,_⟩:=h;rfl
def zPL:OpD X.K (λx y H Q=>y=.non/\Q (.bl (decide (x=.non))) H) (isN id):=by
 intro S H x y z d f Q _ e b a c;cases y with
 | non =>
  cases e;exact⟨a.whole,by rw[zLk b.whole];exact c _ H (Same.refl _) (.bl _)⟩
 | _=>cases e
def zMf:OpD X.K (λx y H Q=>y=.non/\Q (.bl (!decide (x=.non))) H) (isN (λb=>!b)):=by
 intro S H x y z d f Q _ e b a c;cases y with
 | non =>
  cases e;exact⟨a.whole,by rw[zLk b.whole];exact c _ H (Same.refl _) (.bl _)⟩
 | _=>cases e
theorem DenL.atI {K:W.Frag}(h:DenL K H ds vs)(e:atI ds i=some d):∃ v,L2.atI vs i=some v/\Den K H d v:=by
 unfold L2.atI at e ⊢;obtain⟨j,e1,e2⟩:=bind_some e;obtain⟨v,q1,q2⟩:=h.get e2;refine⟨v,?_,q2⟩;rw[<- h.length,e1];exact q1
noncomputable def ixD (x y:D):Option R:=match x,y with
 | .lst ds,.int i=>(atI ds i).map λd=>(d,.cl)
 | .tup ds,.int i=>(atI ds i).map λd=>(d,.cl)
 | _,_=>none
def zRs:OpD X.K (λx y H Q=>rIxL X.K x y H Q\/rIxT X.K x y H Q) ixD:=by
 intro S H x y z n m Q _ e k j c;unfold ixD at e;split at e
 .rename_i l i;obtain⟨d,g,rfl⟩:=x9.mp e;obtain⟨a,b,rfl,h1,h2⟩:=k.lst;obtain⟨v,f,h⟩:=h2.atI g;exact .inl ⟨a,b,i,v,rfl,j.int,h1,f,c v H (Same.refl _) h⟩
 .rename_i l i;obtain⟨d,g,rfl⟩:=x9.mp e;obtain⟨a,b,rfl,h1,h2⟩:=k.tup;obtain⟨v,f,h⟩:=h2.atI g;exact .inr ⟨a,b,i,v,rfl,j.int,h1,f,c v H (Same.refl _) h⟩
 .cases e
def zUh (e:GE X a f)(c:GE X b g)(d:zGE b):GE X (.Subscript a b pos) (two f g ixD) :=
 (zRn (zKn.or zOU) e c d).imp λ_ _ _ q=>zHz zRs q
def zS9:GA X [] (λ_=>some []):=zBE.imp λB H Q a=>by
 obtain⟨S,O,z,b,e,c⟩:=a;cases e;exact c [] H (Same.refl _) .nil
noncomputable def zNl (f:Dst->Option R)(g:Dst->Option (List D)):Dst->Option (List D):=λO=>(f O).bind λx=>if x.2=.dt then none else (g O).bind λxs=>some (x.1::xs)
def zQU (j:GE X e f)(n:GA X es g)(l:starEach (e::es) X.env=(false,eval e X.env)::starEach es X.env):GA X (e::es) (zNl f g):=by
 refine(zAj j n l).imp λB H Q a=>?_
 obtain⟨S,O,z,d,e,c⟩:=a;obtain⟨x,m,e⟩:=bind_some e;by_cases hx:x.2=.dt
 .simp_all
 simp_all
 obtain⟨p,b,e⟩:=bind_some e;cases e;refine⟨S,O,x,d,m,λv q h r1=>⟨S,O,p,d.mono h,b,λvs o i r2=>?_⟩⟩;exact c _ o (h.trans i) (.cons ((RV.den (k:=x.2) r1 hx).mono (zAW i)) r2)
noncomputable def tupD (g:Dst->Option (List D)):Dst->Option R:=λO=>(g O).bind λxs=>if xs.length<=10000 then some (.tup xs,.cl) else none
noncomputable def lstD (g:Dst->Option (List D)):Dst->Option R:=λO=>(g O).bind λxs=>if xs.length<=10000 then some (.lst xs,.fr) else none
def zDP (h:n<=10000):n<=sizeLine:=le_trans h (by decide)
def notS {H:Hp}{S:List Addr}(h:∀ a∈S,∃ xs:HO,H a=some xs/\MuB xs)(n:H p=none):p∉S:=by grind
theorem RV.tupNew {K:W.Frag}(hS:∀ a∈S,∃ xs:HO,H1 a=some xs/\MuB xs)(n:H1 p=none)(t:DenL K (hide H1 S) ds vs):RV K H (upd H1 p (.tup vs)) S (.tup ds,.cl) (.ref p):=⟨p,vs,rfl,SqT.of (by rw[zAV (notS hS n)];exact zAc),t.mono (zAW (zAd n _))⟩
theorem RV.lstNew {K:W.Frag}(e:Same H H1)(hS:∀ a∈S,∃ xs:HO,H1 a=some xs/\MuB xs)(n:H1 p=none)(t:DenL K (hide H1 S) ds vs):RV K H (upd H1 p (.lst vs)) S (.lst ds,.fr) (.ref p) :=
 ⟨p,vs,ds,rfl,rfl,notS hS n,e.free n,zAc,t.mono (zEG (zAd n _) n)⟩
def zSv {x1}(h:GA X es g):GE X (.Tuple es x1 pos) (tupD g):=by
 refine(zRh h).imp λB H Q a=>?_
 obtain⟨S,O,z,i,e,c⟩:=a;obtain⟨d,b,e⟩:=bind_some e;by_cases hx:d.length<=10000
 .rw [if_pos hx] at e;cases e;refine⟨S,O,d,i,b,λvs j f r1=>⟨by rw[<- r1.length];exact zDP hx,λp n=>?_⟩⟩;exact c _ _ (f.trans (zAd n _)) (.tupNew (i.mono f).sok n r1)
 .simp_all
def zS1 (h:GA X es g):GE X (.List es pos) (lstD g):=by
 refine(zOJ h).imp λB H Q a=>?_
 obtain⟨S,O,z,f,e,c⟩:=a;obtain⟨i,d,e⟩:=bind_some e;by_cases hx:i.length<=10000
 .rw [if_pos hx] at e;cases e;refine⟨S,O,i,f,d,λvs j b r1=>⟨by rw[<- r1.length];exact zDP hx,λp n=>?_⟩⟩;exact c _ _ (b.trans (zAd n _)) (.lstNew b (f.mono b).sok n r1)
 .simp_all
end
section
variable {X:Cx}
noncomputable def notD (f:Dst->Option R):Dst->Option R:=λO=>(asB f O).bind λb=>some (.bl (!b),.cl)
theorem zHY (ds:DS X.K H S B O)(e:asB f O=some b)(c:∀ H',Same H H'->Q (.bl b) H'):gT X.K f B H Q:=by
 obtain⟨k,e⟩:=zCX e;exact⟨S,O,_,ds,e,λv H' s1 r1=>by rw[r1.rd.bl];exact c H' s1⟩
def zSy (h:GE X a f):GE X (.UnaryOp .Not a pos) (notD f):=by
 refine(zRl h).imp λB H Q d=>?_
 obtain⟨S,O,z,g,e,c⟩:=d;obtain⟨b,j,e⟩:=bind_some e;cases e;exact zHY g j λH' i=>⟨b,rfl,c _ H' i (.bl _)⟩
def zQ6 (h:asB (notD f) O=some b):asB f O=some (!b):=by
 obtain⟨k,e⟩:=zCX h;obtain⟨c,a,e⟩:=bind_some e
 simp_all
def zSc (h:GT X a (asB f)):GT X (.UnaryOp .Not a pos) (asB (notD f)) :=
 (zRa h).imp λB H Q d=>by obtain⟨S,O,b,g,e,c⟩:=d;exact⟨S,O,!b,g,zQ6 e,λH' j=>by show Q _ H';rw[Bool.not_not];exact c H' j⟩
noncomputable def andD (f g:Dst->Option R):Dst->Option R:=λO=>(asB f O).bind λb=>if b=true then g O else some (.bl false,.cl)
noncomputable def orD (f g:Dst->Option R):Dst->Option R:=λO=>(asB f O).bind λb=>if b=true then some (.bl true,.cl) else g O
def zS8 {rest:List Expr}(m:GE X a f)(l:GE X (.BoolOp .And (b::rest) pos) g):GE X (.BoolOp .And (a::b::rest) pos) (andD f g):=by
 refine(zRp m l).imp λB H Q d=>?_
 obtain⟨S,O,z,i,e,c⟩:=d;obtain⟨b,k,e⟩:=bind_some e;refine zHY i k λH1 h=>⟨b,rfl,?_⟩
 cases b with
 | true =>
  exact⟨S,O,z,i.mono h,e,λv n j r2=>c v n (h.trans j) (r2.from h)⟩
 | false =>
  cases e;exact c _ H1 h (.bl _)
def zUg {rest:List Expr}(k:GE X a f)(n:GE X (.BoolOp .Or (b::rest) pos) g):GE X (.BoolOp .Or (a::b::rest) pos) (orD f g):=by
 refine(zUB k n).imp λB H Q d=>?_
 obtain⟨S,O,z,i,e,c⟩:=d;obtain⟨b,j,e⟩:=bind_some e;refine zHY i j λH1 h=>⟨b,rfl,?_⟩
 cases b with
 | true =>
  cases e;exact c _ H1 h (.bl _)
 | false =>
  exact⟨S,O,z,i.mono h,e,λv m l r2=>c v m (h.trans l) (r2.from h)⟩
def zOY {op}(h:GE X a f):GE X (.BoolOp op [a] pos) f:=(by assumption)
def GW (X:Cx)(e:Expr)(f:Dst->Option Bool):Prop:=PW X e (gB X.K f)
theorem _root_.L2.PW.imp (h:PW X e t)(i:∀ B H Q,t' B H Q->t B H Q):PW X e t':=λwhole pins s B H Q I q=>h whole pins s B H Q I (i B H Q q)
def zQ7 (h:asB (andD f g) O=some b):(asB f O=some true/\asB g O=some b)\/(asB f O=some false/\b=false):=by
 obtain⟨k,e⟩:=zCX h;obtain⟨c,a,e⟩:=bind_some e;cases c with
 | true =>
  rw[if_pos rfl] at e;exact .inl ⟨a,by unfold asB;rw[e]⟩
 | false =>
  grind
def zTl (h:asB (orD f g) O=some b):(asB f O=some false/\asB g O=some b)\/(asB f O=some true/\b=true):=by
 obtain⟨k,e⟩:=zCX h;obtain⟨c,a,e⟩:=bind_some e;cases c with
 | true =>
  grind
 | false =>
  rw[if_neg qY] at e;exact .inl ⟨a,by unfold asB;rw[e]⟩
def zSZ {rest:List Expr}(m:GT X a (asB f))(l:GW X (.BoolOp .And (b::rest) pos) (asB g)):GW X (.BoolOp .And (a::b::rest) pos) (asB (andD f g)):=by
 refine PW.imp (zOE m l) λB H Q d=>?_
 obtain⟨S,O,b,j,e,c⟩:=d;rcases zQ7 e with ⟨h,n⟩ | ⟨h,rfl⟩
 .refine ⟨S,O,true,j,h,λH1 i=>?_⟩;exact⟨S,O,b,j.mono i,n,λH' k=>c H' (i.trans k)⟩
 .refine ⟨S,O,false,j,h,λH1 i=>?_⟩
  simp_all
def zUa {rest:List Expr}(k:GT X a (asB f))(n:GW X (.BoolOp .Or (b::rest) pos) (asB g)):GW X (.BoolOp .Or (a::b::rest) pos) (asB (orD f g)):=by
 refine PW.imp (zRZ k n) λB H Q d=>?_
 obtain⟨S,O,b,h,e,c⟩:=d;rcases zTl e with ⟨j,l⟩ | ⟨j,rfl⟩
 .refine ⟨S,O,false,h,j,λH1 i=>?_⟩;exact⟨S,O,b,h.mono i,l,λH' m=>c H' (i.trans m)⟩
 .refine ⟨S,O,true,h,j,λH1 i=>?_⟩
  simp_all
noncomputable def iteD (c f g:Dst->Option R):Dst->Option R:=λO=>(asB c O).bind λb=>if b=true then f O else g O
def zS2 (p:GT X c (asB k))(m:GE X a f)(o:GE X b g):GE X (.IfExp c a b pos) (iteD k f g):=by
 refine(zMb p m o).imp λB H Q h=>?_
 obtain⟨S,O,z,l,e,c⟩:=h;obtain⟨b,n,e⟩:=bind_some e;refine⟨S,O,b,l,n,λH1 d=>?_⟩;cases b with
 | true =>
  exact⟨S,O,z,l.mono d,e,λv i j r2=>c v i (d.trans j) (r2.from d)⟩
 | false =>
  exact⟨S,O,z,l.mono d,e,λv i j r2=>c v i (d.trans j) (r2.from d)⟩
def zSd (w:GT X c (asB k))(v:GT X a (asB f))(t:GT X b (asB g)):GT X (.IfExp c a b pos) (asB (iteD k f g)):=by
 intro h s B H Q I ⟨S,O,z,n,e,p⟩;obtain⟨y,e⟩:=zCX e;obtain⟨b,r,e⟩:=bind_some e;refine isTrue_IfExp (thn (w h s B H (λb' j=>b'=b/\Same H j) I ⟨S,O,b,n,r,λH1 l=>⟨rfl,l⟩⟩) λd l i=>?_);obtain⟨j,q,x,m⟩:=i;cases d with
 | true =>
  simp_all
  exact v h l B j Q q ⟨S,O,z,n.mono m,by unfold asB;rw[e],λH' o=>p H' (m.trans o)⟩
 | false =>
  simp_all
  exact t h l B j Q q ⟨S,O,z,n.mono m,by unfold asB;rw[e],λH' o=>p H' (m.trans o)⟩
noncomputable def negD (f:Dst->Option R):Dst->Option R:=λO=>match f O with
 | some (.int i,_)=>some (.int (-i),.cl)
 | _=>none
def zS0 (h:GE X a f):GE X (.UnaryOp .USub a pos) (negD f):=by
 refine(zUA (unI λ_ _ _ _ _ q=>neg_int q) h).imp λB H Q b=>?_
 obtain⟨S,O,z,l,e,c⟩:=b;unfold negD at e;split at e
 .rename_i i k j;cases e;exact⟨S,O,_,l,j,λv d g r1=>⟨i,r1.rd.int,c _ d g (.int _)⟩⟩
 .cases e
noncomputable def cutD (ds:List D)(lo hi:Option Int):List D:=(ds.drop (HT.sIx ds.length 0 lo)).take (HT.sIx ds.length ds.length hi - HT.sIx ds.length 0 lo)
def DenL.cut {K:W.Frag}(h:DenL K H ds vs)(a b:Option Int):DenL K H (cutD ds a b) (cutV vs a b):=by
 unfold cutD cutV;rw[<- h.length];exact(h.drop _).take _
def gO (K:W.Frag)(f:Dst->Option (Option Int)):TO:=λB H Q=>∃ S O o,DS K H S B O/\f O=some o/\∀ H',Same H H'->Q o H'
def GO (X:Cx)(e:Option Expr)(f:Dst->Option (Option Int)):Prop:=PO X e (gO X.K f)
theorem _root_.L2.PO.imp (h:PO X e t)(i:∀ B H Q,t' B H Q->t B H Q):PO X e t':=λpins s B H Q I q=>h pins s B H Q I (i B H Q q)
noncomputable def zKB (f:Dst->Option R):Dst->Option (Option Int):=λO=>match f O with
 | some (.int i,_)=>some (some i)
 | _=>none
def zQC (h:GE X e f):GO X (some e) (zKB f):=PO.imp (zHG h) λB H Q a=>by
 obtain⟨S,O,o,d,e,c⟩:=a;unfold zKB at e;split at e
 .rename_i i k b;cases e;exact⟨S,O,_,d,b,λv j g r1=>⟨i,r1.rd.int,c j g⟩⟩
 .cases e
noncomputable def slD (f:Dst->Option R)(l h:Dst->Option (Option Int)):Dst->Option R:=λO=>(f O).bind λx=>(l O).bind λlo=>(h O).bind λhi=>match x.1 with
 | .lst ds=>some (.lst (cutD ds lo hi),.fr)
 | .tup ds=>if HT.sIx ds.length 0 lo=0/\HT.sIx ds.length ds.length hi=ds.length then none else some (.tup (cutD ds lo hi),.cl)
 | _=>none
def zUf {r:Option Expr}(v:GE X a f)(A:GO X r l)(B:GO X hi h):GE X (.Subscript a (.Slice r hi none p2) pos) (slD f l h):=by
 refine(zFp (zG8.or zRQ) v A B).imp λB H Q o=>?_
 obtain⟨S,O,z,i,e,c⟩:=o;obtain⟨x,u,e⟩:=bind_some e;obtain⟨d,t,e⟩:=bind_some e;obtain⟨g,s,e⟩:=bind_some e;split at e
 .rename_i es m;cases e;refine⟨S,O,x,i,u,λvx y k r1=>⟨S,O,d,i.mono k,t,λH2 j=>⟨S,O,g,i.mono (k.trans j),s,λH3 p=>?_⟩⟩⟩;have r3:=r1.rd.mono (j.trans p)
  simp_all
  obtain⟨a,q,rfl,h1,h2⟩:=r3.lst;have b:=k.trans (j.trans p);exact .inl ⟨a,q,rfl,h1,λp n=>c _ _ (b.trans (zAd n _)) (.lstNew b (i.mono b).sok n (h2.cut d g))⟩
 .rename_i es m;split at e
  .cases e
  .rename_i w;cases e;refine⟨S,O,x,i,u,λvx y k r1=>⟨S,O,d,i.mono k,t,λH2 j=>⟨S,O,g,i.mono (k.trans j),s,λH3 p=>?_⟩⟩⟩;have r3:=r1.rd.mono (j.trans p);rw[m] at r3;obtain⟨a,q,rfl,h1,h2⟩:=r3.tup;have b:=k.trans (j.trans p);exact .inr ⟨a,q,rfl,h1,by rw[<- h2.length];exact w,λp n=>c _ _ (b.trans (zAd n _)) (.tupNew (i.mono b).sok n (h2.cut d g))⟩
 .cases e
def OpD1 (K:W.Frag)(r:List V->Hp->VK->Prop)(o:D->Option R):Prop :=
 ∀ (S:List Addr) (H:Hp) (x:D) (z:R) (vx:V) (Q:VK),(∀ a∈S,∃ xs:HO,H a=some xs/\MuB xs)->o x=some z->Rdv K H S x vx->(∀ v H',Same H H'->RV K H H' S z v->Q v H')->r [vx] H Q
noncomputable def one (f:Dst->Option R)(o:D->Option R):Dst->Option R:=λO=>(f O).bind λx=>o x.1
def zOO {r:List V->Hp->VK->Prop}{o:D->Option R}{f:Dst->Option R}(h:OpD1 X.K r o){B:St}{H:Hp}{Q:VK}(q:gT X.K (one f o) B H Q):tCB r (zOz (gT X.K f) tNil) B H Q:=by
 obtain⟨S,O,z,b,e,c⟩:=q;obtain⟨x,j,e⟩:=bind_some e;exact⟨S,O,x,b,j,λvx i a r1=>h S i x.1 z vx Q (b.mono a).sok e r1.rd λv d g r2=>c v d (a.trans g) (r2.from a)⟩
def zS7 {c:String}(i:zEq X (.builtin c) r)(h:OpD1 X.K r o)(g:Gl X x)(k:X.mg x=none)(d:bootBuiltins x=some (.builtin c))(j:GE X e f)
  (b:starEach [e] X.env=[(false,eval e X.env)]) (l:x ≠ "__name__") (a:(x==("__debug__":Str))=false):GE X (.Call (.Name x p) [e] [] pos) (one f o) :=
 (zFq i g k d (zAj j zBE b) l a b rfl).imp λ_ _ _ q=>zOO h q
def zSw (j:zEq X (.type T) r)(h:OpD1 X.K r o)(g:Gl X x)(c:X.mg x=none)(i:bootBuiltins x=some (.type T))(k:GE X e f)
  (b:starEach [e] X.env=[(false,eval e X.env)]) (d:x ≠ "__name__") (a:(x==("__debug__":Str))=false):GE X (.Call (.Name x p) [e] [] pos) (one f o) :=
 (zGT j g c i (zAj k zBE b) d a b rfl).imp λ_ _ _ q=>zOO h q
noncomputable def lenD:D->Option R
 | .lst ds=>some (.int ds.length,.cl)
 | .tup ds=>some (.int ds.length,.cl)
 | _=>none
def zPK:OpD1 X.K (λxs H Q=>∃ p ys,xs=[.ref p]/\(SqL X.K H p ys\/SqT X.K H p ys)/\Q (.int ys.length) H) lenD:=by
 intro S H x z f Q _ e d c;unfold lenD at e;split at e
 .cases e;obtain⟨a,b,rfl,h1,h2⟩:=d.lst;exact⟨a,b,rfl,.inl h1,by rw[<- h2.length];exact c _ H (Same.refl _) (.int _)⟩
 .cases e;obtain⟨a,b,rfl,h1,h2⟩:=d.tup;exact⟨a,b,rfl,.inr h1,by rw[<- h2.length];exact c _ H (Same.refl _) (.int _)⟩
 .cases e
noncomputable def absD:D->Option R
 | .int i=>some (.int (if i < 0 then -i else i),.cl)
 | _=>none
def zPN:OpD1 X.K (λxs H Q=>∃ i,xs=[.int i]/\Q (.int (if i < 0 then -i else i)) H) absD:=by
 intro S H x z b Q _ e a c;unfold absD at e;split at e
 .cases e;rename_i i;have:=a.int;subst this;exact⟨i,rfl,c _ H (Same.refl _) (.int _)⟩
 .cases e
noncomputable def zI5:D->Option R
 | .lst ds=>some (.lst ds,.fr)
 | .tup ds=>some (.lst ds,.fr)
 | _=>none
def zMe:OpD1 X.K (λxs H Q=>∃ p ys,xs=[.ref p]/\(SqL X.K H p ys\/SqT X.K H p ys)/\∀ l,H l=none->Q (.ref l) (upd H l (.lst ys))) zI5:=by
 intro S H x z g Q b e f c;unfold zI5 at e;split at e
 .cases e;obtain⟨a,d,rfl,h1,h2⟩:=f.lst;exact⟨a,d,rfl,.inl h1,λp n=>c _ _ (zAd n _) (.lstNew (Same.refl _) b n h2)⟩
 .cases e;obtain⟨a,d,rfl,h1,h2⟩:=f.tup;exact⟨a,d,rfl,.inr h1,λp n=>c _ _ (zAd n _) (.lstNew (Same.refl _) b n h2)⟩
 .cases e
def zUl {r:String}{k:Int->Int->Int}(F:zEq X (.builtin r) (λxs H Q=>∃ i j,xs=[.int i,.int j]/\Q (.int (k i j)) H))
  (h:∀ x y z,o x y=some z->∃ i j,x=.int i/\y=.int j/\z=(.int (k i j),.cl)) (G:Gl X x) (I:X.mg x=none) (v:bootBuiltins x=some (.builtin r)) (w:GE X e1 f) (E:GE X e2 g)
  (l:starEach [e1,e2] X.env=(false,eval e1 X.env)::starEach [e2] X.env) (a:starEach [e2] X.env=[(false,eval e2 X.env)]) (t:x ≠ "__name__") (d:(x==("__debug__":Str))=false):GE X (.Call (.Name x p) [e1,e2] [] pos) (two f g o):=by
 refine(zFq F G I v (zAj w (zAj E zBE a) l) t d l (by rw[a];rfl)).imp λB H Q b=>?_
 obtain⟨S,O,z,q,e,c⟩:=b;obtain⟨x,B,e⟩:=bind_some e;obtain⟨y,u,e⟩:=bind_some e;obtain⟨i,j,D,C,rfl⟩:=h _ _ _ e;refine⟨S,O,x,q,B,λvx K s r1=>⟨S,O,y,q.mono s,u,λvy A J r2=>⟨i,j,?_,c _ A (s.trans J) (.int _)⟩⟩⟩;have n:=r1.rd;have m:=r2.rd;rw[D] at n;rw[C] at m;rw[n.int,m.int]
noncomputable def maxD (x y:D):Option R:=match x,y with
 | .int i,.int j=>some (.int (if j>i then j else i),.cl)
 | _,_=>none
inductive Ty where
 | int | bool | str | tuple | list
 deriving DecidableEq
noncomputable def Ty.nm:Ty->String
 | .int => "int" | .bool => "bool" | .str => "str" | .tuple => "tuple" | .list => "list"
noncomputable def isiD (t:Ty):D->Bool
 | .non=>false
 | .bl _=>t=.bool||t=.int
 | .int _=>t=.int
 | .str _=>t=.str
 | .tup _=>t=.tuple
 | .lst _=>t=.list
 | .exc _=>false
 | .dct _=>false
 | .lam _ _ _=>false
 | .obj _ _ _=>false
 | .fn _ _=>false
noncomputable def excB:D->Bool
 | .exc _=>true
 | .dct _=>true
 | .lam _ _ _=>true
 | .obj _ _ _=>true
 | .fn _ _=>true
 | _=>false
noncomputable def tyD:D->String
 | .non => "NoneType" | .bl _ => "bool" | .int _ => "int" | .str _ => "str" | .tup _ => "tuple" | .lst _ => "list" | .exc _ => "" | .dct _ => "" | .lam _ _ _ => "" | .obj _ _ _ => "" | .fn _ _ => ""
def zSP (K:W.Frag)(d:D)(t:Ty)(a:excB d=false):W.kitOne K (.type (tyD d)) (.type t.nm)=some (isiD t d):=by
 cases d<;>cases t<;>first | rfl | decide +kernel | cases a
def zNo (t:Ty):zEq X (.builtin "isinstance") (λxs H Q=>∃ v d,xs=[v,.ty t.nm]/\Den X.K H d v/\excB d=false/\Q (.bl (isiD t d)) H):=by
 intro j s B H xs us Q I r h;obtain⟨v,d,rfl,f,g,q⟩:=h;obtain⟨u,F,rfl,r1,r2⟩:=zOt r;cases r2;have k:=zSP X.K d t g;have e:∀ tk,EP X j B Q _ { s with toks:=tk }:=λtk=>⟨.bl _,H,I.tok tk,rfl,q⟩
 cases d with
 | exc c=>cases g
 | dct c=>cases g
 | lam _ _ _=>cases g
 | obj _ _ _=>cases g
 | fn _ _=>cases g
 | non=>rw[Den] at f;subst f;cases r1;exact W.kia_one W.kitx_none I.kIn True.intro k (λz=>nomatch z) e
 | bl b=>rw[Den] at f;subst f;cases r1;exact W.kia_one W.kitx_bool I.kIn True.intro k (λz=>nomatch z) e
 | int i=>rw[Den] at f;subst f;obtain⟨E,rfl⟩:=r1;exact W.kia_one W.kitx_int I.kIn True.intro k (λz=>nomatch z) e
 | str i=>rw[Den] at f;subst f;obtain⟨E,rfl⟩:=r1;exact W.kia_one W.kitx_str I.kIn True.intro k (λz=>nomatch z) e
 | tup C =>
  obtain⟨a,A,rfl,h1,h2⟩:=f;cases r1;obtain⟨p,D,⟨o,w,m,n,y⟩,_⟩:=I.tuple h1;exact W.kia_one W.kitx_tuple I.kIn ⟨o,w,m⟩ k (λz=>nomatch z) e
 | lst C =>
  obtain⟨a,A,rfl,h1,h2⟩:=f;cases r1;obtain⟨p,D,⟨o,n,w,m,_,y⟩,_⟩:=I.list h1;exact W.kia_one W.kitx_list I.kIn ⟨o,w,m⟩ k (λz=>nomatch z) e
noncomputable def isiF (t:Ty)(x:D):Option R:=if excB x=true then none else some (.bl (isiD t x),.cl)
def zR7 (t:Ty):(Str.ofString t.nm)≠("__name__":Str)/\((Str.ofString t.nm)==("__debug__":Str))=false:=by cases t<;>decide +kernel
def zS3 (j:Gl X "isinstance")(h:X.mg "isinstance"=none)(b:Gl X (Str.ofString t.nm))(d:X.mg (Str.ofString t.nm)=none)(i:GE X e f)
  (g:starEach [e,.Name (Str.ofString t.nm) p2] X.env=(false,eval e X.env)::starEach [.Name (Str.ofString t.nm) p2] X.env):GE X (.Call (.Name "isinstance" p) [e,.Name (Str.ofString t.nm) p2] [] pos) (one f (isiF t)):=by
 refine(zFq (zNo t) j h boot_isinstance (zAj i (zAj (zPG b d ((by cases t<;>decide +kernel)) (v:=.ty t.nm) rfl (zR7 t).1 (zR7 t).2) zBE rfl) g) (by decide) (by decide) g rfl).imp λB H Q a=>?_
 obtain⟨S,O,z,k,e,c⟩:=a;obtain⟨x,l,e⟩:=bind_some e;unfold isiF at e;by_cases hx:excB x.1=true
 .simp_all
 .rw [if_neg hx] at e;cases e;exact⟨S,O,x,k,l,λvx n m r1=>⟨vx,x.1,rfl,r1.rd.whole,by simpa using hx,c _ n m (.bl _)⟩⟩
def spD (K:W.Frag)(F:List D->Option R):Sp:=λvs H Q _=>∃ S ds r,(∀ a∈S,∃ xs:HO,H a=some xs/\MuB xs)/\DenL K (hide H S) ds vs/\F ds=some r/\r.2≠.dt/\∀ v H',Same H H'->RV K H H' S r v->Q v H'
def spD0 (K:W.Frag)(F:List D->Option R):Sp:=λvs H Q _=>∃ ds r,DenL K H ds vs/\F ds=some r/\r.2≠.dt/\∀ v H',Same H H'->RV K H H' [] r v->Q v H'
noncomputable def zJJ (F:List D->Option R)(g:Dst->Option (List D)):Dst->Option R:=λO=>(g O).bind λds=>(F ds).bind λr=>if r.2=.dt then none else some r
def zIZ {F:List D->Option R}{g:Dst->Option (List D)}{B:St}{H:Hp}{Q:VK}(q:gT X.K (zJJ F g) B H Q):zMN (spD X.K F) [] E0 (gA X.K g) B H Q:=by
 obtain⟨S,O,z,d,e,c⟩:=q;obtain⟨b,i,e⟩:=bind_some e;obtain⟨r,k,e⟩:=bind_some e;by_cases hr:r.2=.dt
 .rw [if_pos hr] at e;cases e
 rw[if_neg hr] at e;cases e;refine⟨S,O,b,d,i,λvs f a r1=>?_⟩;show spD X.K F (vs++[]) f Q E0;rw[append_nil];exact⟨S,b,_,(d.mono a).sok,r1,k,hr,λv h j r2=>c v h (a.trans j) (r2.from a)⟩
def gAL (K:W.Frag)(f:Dst->Option (List D)):TA:=λB H Q=>∃ S O ds,DS K H S B O/\f O=some ds/\∀ vs H',Same H H'->DenL K H' ds vs->Q vs H'
def GAL (X:Cx)(es:List Expr)(f:Dst->Option (List D)):Prop:=PA X es (gAL X.K f)
def zQT:GAL X [] (λ_=>some []):=zBE.imp λB H Q a=>by
 obtain⟨S,O,z,b,e,c⟩:=a;cases e;exact c [] H (Same.refl _) .nil
noncomputable def zTh (f:Dst->Option R)(g:Dst->Option (List D)):Dst->Option (List D):=λO=>(f O).bind λx=>(g O).bind λxs=>some (x.1::xs)
def zNM (n:GE X e f)(l:GAL X es g)(o:starEach (e::es) X.env=(false,eval e X.env)::starEach es X.env):GAL X (e::es) (zTh f g):=by
 refine(zAj n l o).imp λB H Q a=>?_
 obtain⟨S,O,z,i,e,c⟩:=a;obtain⟨x,j,e⟩:=bind_some e;obtain⟨m,b,e⟩:=bind_some e;cases e;refine⟨S,O,x,i,j,λv p h r1=>⟨S,O,m,i.mono h,b,λvs k d r2=>?_⟩⟩;exact c _ k (h.trans d) (.cons (r1.rd.whole.mono d) r2)
theorem zEa {K:W.Frag}(e0:Env0 P w K mg base A outer s H)(hS:∀ a∈S,∃ xs:HO,H a=some xs/\MuB xs)(hk:r.2≠.dt)
  (run:Env0 P w K mg base A outer s (hide H S)->codeAny (model P w) A cd (CR CX0 outer P w (hide H S) s (λv H2=>RV K (hide H S) H2 [] r v/\Same (hide H S) H2) E) s) (c:∀ v H',Same H H'->RV K H H' S r v->Q v H'):codeAny (model P w) A cd (CR CX0 outer P w H s Q E) s:=by
 have inS:∀ {b:Addr} {o:HO},b∈S->H b=some o->MuB o:=λ{b o} z e=>by
  obtain⟨xs,q,mu⟩:=hS b z;rw[q] at e;cases e;exact mu
 have hok:HOk P w (hide H S) s.heap:=λb o e=>by
  obtain⟨nb,e'⟩:=zA5 e;refine(e0.hok b o e').stay (λc u _ q=>q) (λc q=>?_) (λc xs q=>?_) λc ob u q _=>?_
  .rw [zAV λz=>?_]
   .exact q
   .exact (inS z q).elim
  .rw [zAV λz=>?_]
   .exact q
   .exact (inS z q).elim
  .rw [zAV λz=>?_]
   .exact q
   .exact (inS z q).elim
 have none_of:∀ {b:Addr},H b=none->hide H S b=none:=λ{b} q=>by
  by_cases z:b∈S
  .exact zCR z
  .rw [zAV z];exact q
 have e1:Env0 P w K mg base A outer s (hide H S):=⟨e0.frames,e0.mod,λb o e=>⟨(e0.bs b o e).1,none_of (e0.bs b o e).2⟩,e0.bsz,e0.funs,λb z=>none_of (e0.frf b z),hok,e0.bare,e0.tree,λx hx c P e=>by
  have q:=e0.tabs x hx c P e;rw[zAV λz=>(inS z q).elim];exact q⟩
 refine codeAny_mono (run e1) λres s' h=>?_
 cases res with
 | error e=>exact h.elim
 | ok fl =>
  cases fl with
  | next=>exact h
  | brk=>exact h
  | cont=>exact h
  | ret u =>
   obtain⟨v,H2,os,bare,un,hok2,rv2,r2,s2⟩:=h;have there:∀ {b:Addr},b∈S->∃ ob xs,s.heap.get? b=some ob/\s'.heap.get? b=some ob/\H2 b=none/\H b=some xs/\MuB xs/\zCr P w H s.heap b xs:=λ{b} z=>by
    obtain⟨xs,q,mu⟩:=hS b z;have ok:=e0.hok b _ q;obtain⟨ob,e⟩:∃ ob,s.heap.get? b=some ob:=by
     cases xs with
     | lst ys=>obtain⟨z1,its,n,r1,e⟩:=id ok;exact⟨_,e⟩
     | dT kvs=>obtain⟨_,_,_,_,ob,_,_,e,_⟩:=id ok;exact⟨ob,e⟩
     | _=>exact mu.elim
    exact⟨ob,xs,e,un.keep b _ e (zCR z) (λz2=>by rw[e0.frf b z2] at q;cases q) (by simp),un.free b _ e (zCR z) (by simp),q,mu,ok⟩
   have out:∀ {b:Addr} {o:HO},H2 b=some o->b∉S:=λ{b o} e z=>by
    obtain⟨_,_,_,_,q,_⟩:=there z;rw[q] at e;cases e
   obtain⟨H',h'in,h'out⟩:∃ H':Hp,(∀ {b:Addr},b∈S->H' b=H b)/\(∀ {b:Addr},b∉S->H' b=H2 b):=⟨λb=>if b∈S then H b else H2 b,λz=>if_pos z,λz=>if_neg z⟩;have sH:Same H H':=λb o e=>by
    by_cases z:b∈S
    .rw [h'in z];exact e
    .rw [h'out z];exact s2 b o (by rw[zAV z];exact e)
   have sub:Same H2 (hide H' S):=λb o e=>by
    rw[zAV (out e),h'out (out e)];exact e
   refine⟨v,H',os,bare,⟨λb o e n=>un.keep b o e (none_of n),λb o e n=>un.slot b o e (none_of n),λb o e n hx=>?_,un.there,λb xs e=>?_,λb o u e=>?_,λb ps e=>?_⟩,λb o e=>?_,rv2,c v H' sH ?_⟩
   .by_cases z:b∈S
    .rw [h'in z];exact n
    .rw [h'out z];exact un.free b o e (none_of n) hx
   .exact sH b _ e
   .exact sH b _ e
   .exact sH b _ e
   .by_cases z:b∈S
    .rw [h'in z] at e;obtain⟨ob,xs,g1,g2,_,g4,mu,ok⟩:=there z;rw[g4] at e;cases e;cases o with
     | lst ys =>
      obtain⟨z1,its,n,r1,e⟩:=ok;rw[g1] at e;cases e;exact⟨z1,its,n,r1,g2⟩
     | dT kvs =>
      obtain⟨z1,z2,xs,r1,ob',es,ep,e,rest⟩:=ok;rw[g1] at e;cases e;exact⟨z1,z2,xs,Paired.mapP r1 λp q z=>⟨z.1,sH _ _ z.2.1,z.2.2⟩,ob,es,ep,g2,rest⟩
     | _=>exact mu.elim
    .rw [h'out z] at e;exact(hok2 b o e).stay (λc u _ q=>q) (λc q=>by rw[h'out (out q)];exact q) (λc xs q=>by rw[h'out (out q)];exact q) λc ob u q _=>by rw[h'out (out q)];exact q
   .obtain ⟨d,kd⟩:=r;cases kd with
    | cl =>
     have q:Den K (hide H2 []) d v:=r2;rw[zCx] at q;exact q.mono sub
    | fr =>
     obtain⟨a,ws,es,ev,ed,_,na,ha,t⟩:=r2;have aS:a∉S:=out ha;refine⟨a,ws,es,ev,ed,aS,by rw[zAV aS] at na;exact na,by rw[h'out aS];exact ha,t.mono λb o e=>?_⟩;obtain⟨q1,q2⟩:=zA5 e;have nb:b∉a::S:=λz=>(mem_cons.mp z).elim (λz=>q1 (by rw[z];exact q8)) (out q2)
     rw[zAV nb,h'out (out q2)];exact q2
    | dt=>exact absurd rfl hk
def FnOk.framed {K:W.Frag}(G:FnOk P w K mg base CX0 k f fd ps (spD0 K F)):FnOk P w K mg base CX0 k f fd ps (spD K F):=by
 refine⟨λvs H Q E h=>?_,λA a s H b us vs Q E o m q n h=>?_⟩
 .obtain ⟨S,g,r,l,i,e,d,c⟩:=h;exact G.len vs _ _ E ⟨g,r,i,e,d,λ_ _ _ _=>trivial⟩
 obtain⟨S,g,r,l,i,e,d,c⟩:=h;exact zEa m l d (λe1=>G.run A a s _ b us vs _ E o e1 q n ⟨g,r,i,e,d,λv u p r1=>⟨r1,p⟩⟩) c
end
inductive Out where
 | nx (O:Dst) | rt (r:R) | bk (O:Dst) | ct (O:Dst)
def Post (K:W.Frag)(H0:Hp)(o:Out)(E:Ends):Prop:=match o with
 | .nx O1=>∀ S' B' H',DS K H' S' B' O1->Same H0 (hide H' S')->E.nx B' H'
 | .bk O1=>∀ S' B' H',DS K H' S' B' O1->Same H0 (hide H' S')->E.bk B' H'
 | .ct O1=>∀ S' B' H',DS K H' S' B' O1->Same H0 (hide H' S')->E.ct B' H'
 | .rt r=>r.2≠.dt/\∀ v H',Same H0 H'->RV K H0 H' [] r v->E.rt v H'
def gS (K:W.Frag)(H0:Hp)(g:Dst->Option Out):TS:=λE B H=>∃ S O o,DS K H S B O/\Same H0 (hide H S)/\g O=some o/\Post K H0 o E
def GS (X:Cx)(st:Stmt)(g:Dst->Option Out):Prop:=∀ H0,PS X st (gS X.K H0 g)
def GSs (X:Cx)(st:List Stmt)(g:Dst->Option Out):Prop:=∀ H0,PSs X st (gS X.K H0 g)
theorem _root_.L2.PS.imp {st:Stmt}(h:PS X st t)(i:∀ E B H,t' E B H->t E B H):PS X st t':=λpins s B H E I q=>h pins s B H E I (i E B H q)
theorem _root_.L2.PSs.imp {st:List Stmt}(h:PSs X st t)(i:∀ E B H,t' E B H->t E B H):PSs X st t':=λpins s B H E I q=>h pins s B H E I (i E B H q)
section
variable {X:Cx}
noncomputable def seqD (f g:Dst->Option Out):Dst->Option Out:=λO=>(f O).bind λo=>match o with
 | .nx O1=>g O1
 | o=>some o
def zP3:GSs X [] (λO=>some (.nx O)):=λH0=>zHF.imp λE B H a=>by
 obtain⟨S,O,o,b,h0,e,p⟩:=a;cases e;exact p S B H b h0
def zNC {st:Stmt}{rest:List Stmt}(h1:GS X st f)(h2:GSs X rest g):GSs X (st::rest) (seqD f g):=λH0=>(zFl (h1 H0) (h2 H0)).imp λE B H a=>by
 obtain⟨S,O,o,i,h0,e,p⟩:=a;obtain⟨c,j,e⟩:=bind_some e;refine⟨S,O,c,i,h0,j,?_⟩;cases c with
 | nx b=>exact λS' m l k d=>⟨S',b,o,k,d,e,p⟩
 | rt r=>cases e;exact p
 | bk b=>cases e;exact p
 | ct b=>cases e;exact p
def zP2 {rest:List Stmt}(j:∀ O o,f O=some o->∃ O1,o=.nx O1/\∀ K H S B,DS K H S B O->∃ S',(∀ b∈S',b∈S)/\DS K H S' B O1)(h2:GSs X rest g):GSs X rest (seqD f g):=λH0=>(h2 H0).imp λE B H a=>by
 obtain⟨S,O,o,h,h0,e,p⟩:=a;obtain⟨i,l,e⟩:=bind_some e;obtain⟨O1,rfl,k⟩:=j O i l;obtain⟨S',c,d⟩:=k _ H S B h;exact⟨S',O1,o,d,h0.trans (zCE c),e,p⟩
theorem zTW {K:W.Frag}(ds:DS K H S B O)(h0:Same H0 (hide H S))(s1:Same H H')(p:Post K H0 (.nx O) E):E.nx B H' :=
 p S B H' (ds.mono s1) (h0.trans (zAW s1))
noncomputable def retD (f:Dst->Option R):Dst->Option Out:=λO=>(f O).bind λr=>if r.2=.dt then none else some (.rt r)
theorem RV.up {K:W.Frag}(h0:Same H0 (hide H S))(s1:Same H H')(hr:r.2≠.dt)(h:RV K H H' S r v):Same H0 H'/\RV K H0 H' [] r v:=by
 refine⟨h0.trans (zAo.trans s1),?_⟩;obtain⟨d,k⟩:=r;cases k with
 | cl =>
  exact Den.mono zAo h
 | fr =>
  obtain⟨a,vs,ds,e1,e2,e3,e4,e5,t⟩:=h;refine⟨a,vs,ds,e1,e2,by simp,?_,e5,t.mono (zCE λb z=>by
   have:b=a:=by simpa using z
   rw[this];exact q8)⟩
  cases q:H0 a with
  | none=>rfl
  | some o =>
   have:=(zA5 (h0 a o q)).2;grind
 | dt=>exact absurd rfl hr
def zSg (h:GE X e f):GS X (.Return (some e) pos) (retD f):=λH0=>(zJ2 h).imp λE B H a=>by
 obtain⟨S,O,o,j,h0,e,p⟩:=a;obtain⟨r,i,e⟩:=bind_some e;by_cases hr:r.2=.dt
 .simp_all
 simp_all
 cases e;refine⟨S,O,r,j,i,λv c b r1=>?_⟩;obtain⟨g,d⟩:=RV.up h0 b hr r1;exact p.2 v c g d
noncomputable def zEM (i:Nat):Dst->Option Out:=λO=>match O[i]? with
 | some (some (.lst d,true))=>some (.rt (.lst d,.fr))
 | _=>none
def zKy (s:X.N[i]?=some x)(n:Vis X.env.scope x)(m:(x==("__debug__":Str))=false)(f:(x==("__classdict__":Str))=false):GS X (.Return (some (.Name x pos')) pos) (zEM i):=λH0=>(zJ2 (zDS s n m f)).imp λE B H c=>by
 obtain⟨S,O,o,r,h0,e,p⟩:=c;unfold zEM at e;split at e
 .rename_i d q;cases e;obtain⟨v,j,u⟩:=r.get i _ true q;obtain⟨a,l,es,rfl,t,g,k,h⟩:=u.ownL rfl;refine⟨.ref a,j,p.2 _ H (h0.trans zAo) ⟨a,l,es,rfl,t,by simp,?_,k,h.mono (zCE λb z=>by
   have:b=a:=by simpa using z
   rw[this];exact g)⟩⟩
  cases q:H0 a with
  | none=>rfl
  | some o=>exact absurd g (zA5 (h0 a o q)).1
 .cases e
def zID {st:Stmt}:GS X st (λ_=>none):=λH0=>zFm.imp λE B H a=>by obtain⟨S,O,o,b,h0,e,p⟩:=a;cases e
noncomputable def setD (i:Nat)(f:Dst->Option R):Dst->Option Out:=λO=>(f O).bind λr=>match r.2 with
 | .cl=>some (.nx (O.set i (some (r.1,false))))
 | .fr=>some (.nx (O.set i (some (r.1,true))))
 | .dt=>none
theorem zEz {K:W.Frag}(ds:DS K H S B O)(h0:Same H0 (hide H S))(s1:Same H H')(r1:RV K H H' S r v)
  (e:(match r.2 with | .cl=>some (Out.nx (O.set i (some (r.1,false)))) | .fr=>some (Out.nx (O.set i (some (r.1,true)))) | .dt=>none)=some o) (p:Post K H0 o E):E.nx (B.set i (some v)) H':=by
 obtain⟨d,k⟩:=r;cases k with
 | cl =>
  cases e;exact p S _ H' ((ds.mono s1).set r1) (h0.trans (zAW s1))
 | fr =>
  cases e;obtain⟨a,vs,es,rfl,rfl,e3,e4,e5,t⟩:=r1;exact p (a::S) _ H' (ds.setF s1 e4 e5 t) (h0.trans (zEG s1 e4))
 | dt=>cases e
def zOX (k:X.N.Nodup)(l:X.N[i]?=some x)(c:Loc X.env.scope x)(h:GE X e f)(m:swapsWith e (some (.Name x pos')) pos.line X.env=pure false)(d:X.fn x=true\/X.env.scope.names.lookup x=some .local) :
  GS X (.Assign [.Name x pos'] e pos) (setD i f):=λH0=>(zOG k l c h m d).imp λE B H a=>by
 obtain⟨S,O,o,b,h0,e,p⟩:=a;obtain⟨r,g,e⟩:=bind_some e;exact⟨S,O,r,b,g,λv n j r1=>zEz b h0 j r1 e p⟩
noncomputable def appD (i:Nat)(f:Dst->Option R):Dst->Option Out:=λO=>match O[i]? with
 | some (some (.lst xs,true))=>(f O).bind λr=>if r.2=.dt then none else if xs.length<=10000 then some (.nx (O.set i (some (.lst (xs++[r.1]),true)))) else none
 | _=>none
def zSk (C:X.N[i]?=some x)(F:Vis X.env.scope x)(G:(x==("__debug__":Str))=false)(l:(x==("__classdict__":Str))=false)(h:GE X e f)
  (n:starEach [e] X.env=[(false,eval e X.env)]) (c:attributeBase (.Name x npos) "append" X.env (eval (.Name x npos) X.env)=eval (.Name x npos) X.env) (b:(apos.endLine==cpos.line)=true) :
  GS X (.Expr (.Call (.Attribute (.Name x npos) "append" apos) [e] [] cpos) pos) (appD i f):=λH0=>(zEN (zPF PySem.F.plainAttrs_list PySem.F.slot_list_append PySem.F.type_list_append zGY (zDS C F G l) (zAj h zBE n) c (by rw[n];rfl) b n rfl) rfl).imp λE B H g=>by
 obtain⟨S,O,o,s,h0,e,p⟩:=g;unfold appD at e;split at e
 .rename_i I q;obtain⟨r,K,e⟩:=bind_some e;by_cases hr:r.2=.dt
  .rw [if_pos hr] at e;cases e
  rw[if_neg hr] at e;by_cases hl:I.length<=10000
  .rw [if_pos hl] at e;cases e;obtain⟨v,t,D⟩:=s.get i _ true q;obtain⟨a,z,es,rfl,J,A,u,w⟩:=D.ownL rfl;cases J;refine⟨.ref a,t,.inl ⟨rfl,_,SqL.of u⟩,S,O,r,s,K,λy L j r1=>?_⟩;have m:=w.mono (zAW j (S:=S));refine⟨a,z,y,rfl,rfl,j _ _ u,by rw[<- w.length];exact Nat.lt_of_le_of_lt hl (by decide),?_⟩;have E:=(s.mono j).change (i:=i) q t (m.append (.cons (RV.den (d:=r.1) (k:=r.2) r1 hr) .nil));refine p S B _ E ?_;rw[zF2 A];exact h0.trans (zAW j)
  .rw [if_neg hl] at e;cases e
 .cases e
noncomputable def ifD (c:Dst->Option Bool)(f g:Dst->Option Out):Dst->Option Out:=λO=>(c O).bind λb=>if b=true then f O else g O
def zUb (q:GT X c k)(j:GSs X a f)(n:GSs X b g):GS X (.If c a b pos) (ifD k f g):=λH0=>(zRb q (j H0) (n H0)).imp λE B H d=>by
 obtain⟨S,O,o,i,h0,e,p⟩:=d;obtain⟨b,m,e⟩:=bind_some e;refine⟨S,O,b,i,m,λH1 h=>?_⟩;cases b with
 | true =>
  exact⟨S,O,o,i.mono h,h0.trans (zAW h),e,p⟩
 | false =>
  exact⟨S,O,o,i.mono h,h0.trans (zAW h),e,p⟩
noncomputable def zB9 (c:Dst->Option Bool)(b:Dst->Option Out):Nat->Dst->Option Out
 | 0,_=>none
 | n+1,O=>(c O).bind λk=>if k=true then (b O).bind λo=>(match o with
   | .nx O1=>zB9 c b n O1
   | .ct O1=>zB9 c b n O1
   | .bk O1=>some (.nx O1)
   | .rt r=>some (.rt r)) else some (.nx O)
theorem zDC :∀ {n:Nat} {O:Dst} {o:Out},zB9 c b n O=some o->zB9 c b (n+1) O=some o
 | 0,_,_,h=>by cases h
 | n+1,O,o,h=>by
  obtain⟨k,ek,h⟩:=bind_some h;show (c O).bind _=some o;rw[ek];cases k with
  | false =>
   rw[if_neg qY] at h;rw[qx,if_neg qY];exact h
  | true =>
   rw[if_pos rfl] at h;rw[qx,if_pos rfl];obtain⟨o1,e1,h⟩:=bind_some h;rw[e1];cases o1 with
   | nx O1=>exact zDC (n:=n) h
   | ct O1=>exact zDC (n:=n) h
   | bk O1=>exact h
   | rt r=>exact h
def zEJ (h:zB9 c b n O=some o)(l:n<=m):zB9 c b m O=some o:=by
 induction m with
 | zero =>
      have:n=0:=by omega
      grind
 | succ m a =>
  by_cases q:n<=m
  .exact zDC (a q)
  .grind
open Classical in
def zBd (c:Dst->Option Bool)(b:Dst->Option Out)(O:Dst):Option Out :=
 if h:∃ n o,zB9 c b n O=some o then some (Classical.choose (choose_spec h)) else none
def zCe (h:zB9 c b n O=some o):zBd c b O=some o:=by
 have a:∃ n o,zB9 c b n O=some o:=⟨n,o,h⟩;unfold zBd;rw[dif_pos a];have d:=zEJ h (Nat.le_max_right (Classical.choose a) n);rw[zEJ (choose_spec (choose_spec a)) (Nat.le_max_left _ n)] at d;omega
def zDf (h:zBd c b O=some o):∃ n,zB9 c b n O=some o:=by
 unfold zBd at h;by_cases ex:∃ n o,zB9 c b n O=some o
 .grind
 .grind
def zNE (A:PassesOwn (model X.prog X.w) X.A X.env X.xe)(y:GT X c k)(C:GSs X body f):GS X (.While c body [] pos) (zBd k f):=λH0=>(zMY A y (C H0)).imp λE B H d=>by
 obtain⟨S,O,o,g,h0,e,p⟩:=d;obtain⟨n,a⟩:=zDf e;refine⟨λm B H=>∃ S O,DS X.K H S B O/\Same H0 (hide H S)/\zB9 k f m O=some o,⟨n,S,O,g,h0,a⟩,?_⟩;rintro m B H ⟨S,O,g,h0,a⟩;cases m with
 | zero=>cases a
 | succ m =>
  obtain⟨b,w,a⟩:=bind_some a;refine⟨S,O,b,g,w,λH1 s=>?_⟩;cases b with
  | false =>
   cases a;exact zTW g h0 s p
  | true =>
   obtain⟨v,z,a⟩:=bind_some a;refine⟨λB' h=>∃ S O,DS X.K h S B' O/\Same H0 _/\zB9 k f m O=some o,λB' h q=>⟨m,Nat.lt_succ_self m,q⟩,S,O,v,g.mono s,h0.trans (zAW s),z,?_⟩;cases v with
   | nx i=>exact λS' B' h j l=>⟨S',i,j,l,a⟩
   | ct i=>exact λS' B' h j l=>⟨S',i,j,l,a⟩
   | bk i=>cases a;exact p
   | rt r=>cases a;exact p
noncomputable def forD (t:D->Dst->Option Dst)(b:Dst->Option Out):List D->Dst->Option Out
 | [],O=>some (.nx O)
 | x::xs,O=>(t x O).bind λO6=>(b O6).bind λo=>match o with
  | .nx O1=>forD t b xs O1
  | .ct O1=>forD t b xs O1
  | .bk O1=>some (.nx O1)
  | .rt r=>some (.rt r)
def GG (X:Cx)(tg:Expr)(t:D->Dst->Option Dst):Prop:=∃ g,PG X tg g/\∀ (K:W.Frag),K=X.K->∀ (x:D) (v:V) (B:St) (H:Hp) (S:List Addr) (O O1:Dst) (Q:St->Hp->Prop),DS K H S B O->Den K (hide H S) x v->t x O=some O1->(∀ B',DS K H S B' O1->Q B' H)->g v B H Q
def zK3 (g:X.N.Nodup)(b:X.N[i]?=some x)(c:Loc X.env.scope x)(a:X.fn x=true\/X.env.scope.names.lookup x=some .local):GG X (.Name x pos) (λd O=>some (O.set i (some (d,false)))) :=
 ⟨_,zFo g b c a,λK j x v B H S O k Q h f e q=>by
  cases e;exact q _ (h.set f)⟩
noncomputable def tg2 (i j:Nat):D->Dst->Option Dst:=λd O=>match d with
 | .tup [a,b]=>some ((O.set i (some (a,false))).set j (some (b,false)))
 | _=>none
def GI (X:Cx)(tg iter:Expr)(f:Dst->Option (List D)):Prop:=∃ wi,PI X tg iter wi/\∀ (B:St) (H:Hp) (S:List Addr) (O:Dst) (xs:List D) (Rr:It->Hp->Prop),DS X.K H S B O->f O=some xs ->
 (∀ J H1,Same H H1->(∀ (i:Nat) H2,i<=xs.length->Same (hide H1 S) H2->(i=xs.length->J.stop i H2)/\(i < xs.length->J.go i H2/\∀ v H3,J.yld i H2 v H3->H3=H2/\∀ x,xs[i]?=some x->Den X.K (hide H1 S) x v))->Rr J H1)->wi B H Rr
def zSh (V:PassesOwn (model X.prog X.w) X.A X.env X.xe)(hc:X.calm=true)(G:GI X tg iter f)(M:GG X tg t)(hb:GSs X body b)
  (hs:∀ x,foldedSetIterable iter X.env x=pure x):GS X (.For tg iter body [] pos) (λO=>(f O).bind λxs=>forD t b xs O):=by
 intro Z;obtain⟨wi,J,hI⟩:=G;obtain⟨g,M,Y⟩:=M;intro c s B H E I ⟨S,O,o,P,h0,e,p⟩;obtain⟨xs,ex,e⟩:=bind_some e;refine(zOH (tb:=λE B k=>∃ d,gS X.K (hide d S) b E B k/\Same (hide d S) (hide d S)) V hc J M ?_ hs) c s B H E I ?_
 .intro c s B H E I ⟨d,q,_⟩;exact hb (hide d S) c s B H E I q
 refine hI B H S O xs _ P ex λJ d T hJ=>?_
 refine⟨λi m F k=>i<=xs.length/\m=xs.length - i/\∃ h l,DS X.K k h F l/\Same (hide d S) (hide k h)/\forD t b (xs.drop i) l=some o,⟨xs.length,zero_le _,by omega,S,O,P.mono T,Same.refl _,e⟩,?_⟩;rintro i m F k ⟨G,rfl,h,l,u,D,a⟩;have A:Same Z (hide d S):=h0.trans (zAW T);obtain⟨j1,j2⟩:=hJ i k G (D.trans zAo);by_cases hlt:i < xs.length
 .obtain ⟨go,yl⟩:=j2 hlt;have U:xs.drop i=xs[i]::xs.drop (i+1):=List.drop_eq_getElem_cons hlt;rw[U] at a;obtain⟨N,e1,a⟩:=bind_some a;obtain⟨R,e2,a⟩:=bind_some a;refine .inr ⟨go,λB3 n=>∃ h l,DS X.K n h B3 l/\Same (hide d S) (hide n h)/\forD t b (xs.drop (i+1)) l=some o,λB3 n q=>⟨xs.length - (i+1),by omega,hlt,rfl,q⟩,λv n y=>?_⟩;obtain⟨rfl,hv⟩:=yl v n y;refine Y X.K rfl xs[i] v F n h l N _ u ((hv _ (by simp[hlt])).mono D) e1 λB4 L=>⟨d,⟨h,N,R,L,D,e2,?_⟩,Same.refl _⟩
  cases R with
  | nx C=>exact λS2 K z w j=>⟨S2,C,w,j,a⟩
  | ct C=>exact λS2 K z w j=>⟨S2,C,w,j,a⟩
  | bk C =>
   cases a;exact λS2 K z w j=>p S2 K z w (A.trans j)
  | rt r =>
   cases a;refine⟨p.1,λv z W j=>p.2 v z (A.trans W) (j.from A)⟩
 .have ei:i=xs.length:=by omega
  subst ei;rw[drop_eq_nil_of_le (le_refl _)] at a;cases a;exact .inl ⟨j1 rfl,p h F k u (A.trans D)⟩
noncomputable def rngL (lo:Int)(n:Nat):List D:=(List.range n).map λ(k:Nat)=>D.int (lo+k)
theorem zGR {K:W.Frag}{lo:Int}(i:Nat)(H2:Hp)(hi:i<=(rngL lo n).length):(i=(rngL lo n).length->(Itr lo n).stop i H2)/\(i < (rngL lo n).length->(Itr lo n).go i H2/\∀ v H3,(Itr lo n).yld i H2 v H3->H3=H2/\∀ x,(rngL lo n)[i]?=some x->Den K (hide H1 S) x v):=by
 have hl:(rngL lo n).length=n:=by unfold rngL;simp
 refine⟨λe=>by rw[hl] at e;exact Nat.le_of_eq e.symm,λh=>⟨by rw[hl] at h;exact h,λv H3 y=>⟨y.1,λx ex=>?_⟩⟩⟩;rw[hl] at h;have:(rngL lo n)[i]?=some (D.int (lo+i)):=by unfold rngL;simp[h]
 rw[this] at ex;cases ex;exact y.2
noncomputable def zJt (f:Dst->Option R):Dst->Option (List D):=λO=>match f O with
 | some (.int j,_)=>if -(2^62)<=j/\j < 2^62 then some (rngL 0 j.toNat) else none
 | _=>none
def zK2 (l:Gl X "range")(d:X.mg "range"=none)(h:GE X a f)(b:starEach [a] X.env=[(false,eval a X.env)]):GI X tg (.Call (.Name "range" p) [a] [] pos) (zJt f):=by
 refine⟨_,zGS l d (zAj h zBE b) b,λB H S O t s n e q=>?_⟩;unfold zJt at e;split at e
 .rename_i j k m;by_cases hj:-2^62<=j/\j < 2^62
  .rw [if_pos hj] at e;cases e;exact⟨S,O,_,n,m,λv c o r1=>⟨j,by rw[r1.rd.int],hj.1,hj.2,q _ c o λi g r _=>zGR i g r⟩⟩
  .simp_all
 .cases e
noncomputable def zIq (f g:Dst->Option R):Dst->Option (List D):=λO=>match f O,g O with
 | some (.int i,_),some (.int j,_)=>if (-(2^62)<=i/\i < 2^62)/\-(2^62)<=j/\j < 2^62 then some (rngL i (j - i).toNat) else none
 | _,_=>none
def zK1 (w:Gl X "range")(t:X.mg "range"=none)(s:GE X a f)(r:GE X b g)(v:starEach [a,b] X.env=(false,eval a X.env)::starEach [b] X.env)(c:starEach [b] X.env=[(false,eval b X.env)]):GI X tg (.Call (.Name "range" p) [a,b] [] pos) (zIq f g):=by
 refine⟨_,zJ6 w t (zAj s (zAj r zBE c) v) (by simp_all) c,λB H S O z x l e q=>?_⟩;unfold zIq at e;split at e
 .rename_i i k j A o n;by_cases hj:(-2^62<=i/\i < 2^62)/\-(2^62)<=j/\j < 2^62
  .rw [if_pos hj] at e;cases e;exact⟨S,O,_,l,o,λv y h r1=>⟨S,O,_,l.mono h,n,λu d m r2=>⟨i,j,by rw[r1.rd.int,r2.rd.int],⟨hj.1.1,hj.1.2,hj.2.1,hj.2.2⟩,q _ d (h.trans m) λi d u _=>zGR i d u⟩⟩⟩
  .rw [if_neg hj] at e;cases e
 .cases e
noncomputable def frzD (i:Nat):Dst->Option Out:=λO=>match O[i]? with
 | some (some (d,true))=>some (.nx (O.set i (some (d,false))))
 | _=>some (.nx O)
def zTE :∀ O o,frzD i O=some o->∃ O1,o=.nx O1/\∀ K H S B,DS K H S B O->∃ S',(∀ b∈S',b∈S)/\DS K H S' B O1:=λO o e=>by
 unfold frzD at e;split at e
 .rename_i d q;cases e;exact⟨_,rfl,λK H S B a=>a.freeze q⟩
 .cases e;exact⟨_,rfl,λK H S B a=>⟨S,λ_ z=>z,a⟩⟩
noncomputable def dFun (np nN:Nat)(g:Dst->Option Out)(ds:List D):Option R :=
 if ds.length=np/\np<=nN then (g (ds.map (λd=>some (d,false))++List.replicate (nN - np) none)).bind λo=>match o with
  | .rt r=>some r
  | .nx _=>some (.non,.cl)
  | _=>none
 else none
def zNi {K:W.Frag}(h:DenL K H ds vs)(k:ds.length<=N.length):DS K H [] (zCM N vs) (ds.map (λd=>some (d,false))++List.replicate (N.length - ds.length) none):=by
 have f:=h.length;refine⟨by unfold L2.zCM;simp[<- f],λa z=>absurd z (by simp),λi d o q=>?_,λi j d e a b _ _ _=>?_⟩
 .have c:i < ds.length:=by
   by_cases z:i < ds.length
   .exact z
   .rw [getElem?_append_right (by simpa using z),getElem?_replicate] at q;split at q<;>cases q
  rw[getElem?_append_left (by simpa using c),getElem?_map] at q;cases e:ds[i]? with
  | none=>rw[e] at q;cases q
  | some l =>
   rw[e] at q;cases q;obtain⟨v,b,g⟩:=h.get e;refine⟨v,?_,.of_den (by rw[zCx];exact g)⟩;unfold L2.zCM;rw[getElem?_append_left (by simp_all),getElem?_map,b]
   rfl
 .have c:i < ds.length:=by
   by_cases z:i < ds.length
   .exact z
   .rw [getElem?_append_right (by simpa using z),getElem?_replicate] at b;split at b<;>cases b
  rw[getElem?_append_left (by simpa using c)] at b
  simp_all
def zTD {K:W.Frag}{st:Stmt}(F:Fun K x qual st f fd)(S:zAg N ps (zAA st))
  (b:∀ (cdv:Value) (A:Around) (outer:List Env) (s:Shared) (H:Hp) (E:XK),Room k (A.deeper (envOfC qual (zAA st) s.heap.objs.size f cdv))->GSs (cxOf CX0 P w K mg base N qual (zAA st) f cdv A outer s H E).nox (zAN st) g) :
  FnOk P w K mg base CX0 (k+1) f fd ps (spD K (dFun ps.length N.length g)):=by
 refine FnOk.framed (F.ok S (λvs H Q E h=>?_) λcdv A outer s H u Q E p h=>?_)
 .obtain ⟨e,r,d,a,j,c⟩:=h;unfold dFun at a;by_cases q:e.length=ps.length/\ps.length<=N.length
  .rw [<- d.length];exact q.1
  .simp_all
 obtain⟨e,r,d,a,j,c⟩:=h;refine⟨_,b cdv A outer s H E p H,?_⟩;unfold dFun at a;by_cases q:e.length=ps.length/\ps.length<=N.length
 .rw [if_pos q] at a;obtain⟨o,l,a⟩:=bind_some a;rw[<- q.1] at l;refine⟨[],_,o,zNi d (by rw[q.1];exact q.2),by rw[zCx];exact Same.refl _,l,?_⟩;cases o with
  | nx i =>
   cases a;exact λS' v n t m=>c _ n (m.trans zAo) rfl
  | rt y =>
   cases a;exact⟨j,c⟩
  | bk i=>cases a
  | ct i=>cases a
 .simp_all
end
end DL
end
section
namespace DL
open PySem
noncomputable def zB7 (env:Env):List (Str×NameKind)->List (Str×Addr)->List (Str×Addr)
 | [],acc=>acc
 | (n,k)::r,acc=>zB7 env r (if k==.free then (match env.cells.lookup n with | some c=>(n,c)::acc | none=>acc) else acc)
theorem zF7 (f:Str×NameKind->List (Str×Addr)->Sem (ForInStep (List (Str×Addr))))
  (hf:∀ n k cs,f (n,k) cs=if k==.free then (do let a<-cellOf env n;pure (.yield ((n,a)::cs))) else pure (.yield cs)) :
  ∀ (names:List (Str×NameKind)) (acc:List (Str×Addr)),(∀ x∈names,x.2=.free->∃ c,env.cells.lookup x.1=some c)->forIn names acc f=(pure (zB7 env names acc):Sem (List (Str×Addr)))
 | [],acc,_=>by rw[List.forIn_nil];rfl
 | (n,k)::r,acc,h=>by
  rw[forIn_cons,hf];have hr:∀ x∈r,x.2=.free->∃ c,env.cells.lookup x.1=some c:=λx z=>h x (qJ _ z)
  cases e:k==.free with
  | true =>
   obtain⟨c,ec⟩:=h (n,k) q8 (by simpa using e);have e1:cellOf env n=pure c:=by unfold cellOf;rw[ec]
   rw[if_pos rfl,e1];unfold zB7;rw[e,if_pos rfl,ec];exact zF7 f hf r _ hr
  | false =>
   rw[if_neg qY];unfold zB7;rw[e,if_neg qY];exact zF7 f hf r _ hr
def zBk (h:∀ x∈scope.names,x.2=.free->∃ c,env.cells.lookup x.1=some c):closureFor scope env=pure (zB7 env scope.names []):=by
 show (forIn scope.names _ _>>=λcs=>pure cs)=_;rw[zF7 _ (λn k cs=>rfl) scope.names [] h]
 rfl
def zGr :∀ (f:List (Str×NameKind)) (a:List (Str×Addr)),(∀ x c,a.lookup x=some c->env.cells.lookup x=some c)->∀ x c,(zB7 env f a).lookup x=some c->env.cells.lookup x=some c
 | [],a,h,x,c,e=>h x c e
 | (n,k)::r,a,h,x,c,e=>by
  unfold zB7 at e;refine zGr r _ ?_ x c e;intro y d q;cases z:k==.free with
  | false=>rw[z,if_neg qY] at q;exact h y d q
  | true =>
   rw[z,if_pos rfl] at q;cases w:env.cells.lookup n with
   | none=>rw[w] at q;exact h y d q
   | some c' =>
    rw[w] at q;dsimp only at q;rw[lookup_cons] at q;cases b:y==n with
    | true =>
     rw[b] at q;cases q;have:y=n:=by simpa using b
     rw[this];exact w
    | false=>rw[b] at q;exact h y d q
theorem zFQ :∀ (names:List (Str×NameKind)) (acc:List (Str×Addr)),(∃ c,acc.lookup x=some c)->∃ c,(zB7 env names acc).lookup x=some c
 | [],acc,h=>h
 | (n,k)::r,acc,h=>by
  unfold zB7;refine zFQ r _ ?_;cases z:k==.free with
  | false=>rw[if_neg qY];exact h
  | true =>
   rw[if_pos rfl];cases w:env.cells.lookup n with
   | none=>exact h
   | some c' =>
    dsimp only;rw[lookup_cons];cases b:x==n with
    | true=>exact⟨_,rfl⟩
    | false=>exact h
theorem zEm :∀ (names:List (Str×NameKind)) (acc:List (Str×Addr)),(x,NameKind.free)∈names->(∃ c,env.cells.lookup x=some c)->∃ c,(zB7 env names acc).lookup x=some c
 | (n,k)::r,acc,hm,hc=>by
  unfold zB7;rcases mem_cons.mp hm with e | hm
  .cases e;obtain⟨c,hc⟩:=hc;refine zFQ r _ ?_;rw[show (NameKind.free==NameKind.free)=true from rfl,if_pos rfl,hc];exact⟨c,by rw[lookup_cons];simp⟩
  .exact zEm r _ hm hc
def zFP :∀ (a:List (Str×NameKind)) (e:List (Str×Addr)) (c:Addr),(zB7 env a e).lookup x=some c->(x,NameKind.free)∈a\/∃ c,e.lookup x=some c
 | [],e,c,h=>.inr ⟨c,h⟩
 | (n,k)::r,e,c,h=>by
  unfold zB7 at h;rcases zFP r _ c h with q | ⟨d,q⟩
  .exact .inl (qJ _ q)
  .cases z:k==.free with
   | false=>rw[z,if_neg qY] at q;exact .inr ⟨d,q⟩
   | true =>
    rw[z,if_pos rfl] at q;cases w:env.cells.lookup n with
    | none=>rw[w] at q;exact .inr ⟨d,q⟩
    | some c' =>
     rw[w] at q;dsimp only at q;rw[lookup_cons] at q;cases b:x==n with
     | true =>
      have e1:x=n:=by simpa using b
      have f:k=.free:=by simpa using z
      subst e1 f;exact .inl q8
     | false=>rw[b] at q;exact .inr ⟨d,q⟩
def zCV :∀ (a:List (Str×NameKind)) (n:Nat) (d:List (Str×Addr)) (c:Addr),(cellsFrom n a d).lookup x=some c->((x,NameKind.cell)∈a/\n<=c)\/d.lookup x=some c
 | [],n,d,c,h=>.inr h
 | (y,k)::r,n,d,c,h=>by
  unfold cellsFrom at h;cases z:k==.cell with
  | false =>
   rw[z,if_neg qY] at h;rcases zCV r n d c h with ⟨q1,q2⟩ | q
   .exact .inl ⟨qJ _ q1,q2⟩
   .exact .inr q
  | true =>
   rw[z,if_pos rfl] at h;rcases zCV r (n+1) _ c h with ⟨q1,q2⟩ | q
   .exact .inl ⟨qJ _ q1,by omega⟩
   .rw [lookup_cons] at q;cases b:x==y with
    | true =>
     rw[b] at q;cases q;have e1:x=y:=by simpa using b
     have e:k=.cell:=by simpa using z
     subst e1 e;exact .inl ⟨q8,le_refl _⟩
    | false=>rw[b] at q;exact .inr q
section
variable {M:Model}{A:Around}{E:Value->Shared->Prop}{s:Shared}
def zHO 
  (c:Q (newEnv scope s.heap.objs.size globals (cellsFrom (s.heap.objs.size+1) scope.names cl) qual none .none (some outer) builtinsNs) { s with heap:=pushCells (s.heap.push { cls:=.type "dict",data:=.dict #[] }) scope.names }) :
  wpAny M A (newFunctionEnv scope globals cl [] qual none .none (some outer)) Q E s:=by
 refine qX (wpAny_alloc ?_);refine qX (wpAny_layCells _ λname a b=>by cases hkc:a==NameKind.cell<;>simp[hkc] _ _ _ _ ?_);simp;exact qX (q9 (q9 c))
end
section
variable {prog:Program}{w:World}{A:Around}{R:Result->Shared->Prop}{s:Shared}
abbrev NB (prog:Program) (w:World) (A:Around) (env:Env) (R:Result->Shared->Prop):Value->Shared->Prop:=notedBy (model prog w) A env λe s'=>R (.error e) s'
theorem zGq (I:Nat->Shared->Prop)
  (turn:∀ n s,I n s->wpAny (model prog w) A (pyNext it) (λr O2=>match r with
   | none=>R (.ok .next) O2
   | some v=>wpAny (model prog w) A (letOwnedTupleGo target it v) (λ_ s1'=>wpAny (model prog w) A (assign target env v) (λ_ O9 =>
     wpAny (model prog w) A (forIn ifs true λc r=>if r=true then do let ok<-isTrue c env (eval c env);pure (ForInStep.yield ok) else pure (ForInStep.yield r)) (λok Y3 =>
      if ok=true then wpAny (model prog w) A (eval elt env) (λx Y5 =>
       wpAny (model prog w) A (call (.builtin "list.append") [acc,x]) (λ_ Z9=>∃ m,m < n/\I m Z9) (NB prog w A env R) Y5) (NB prog w A env R) Y3
      else ∃ m,m < n/\I m Y3) (NB prog w A env R) O9) (NB prog w A env R) s1') (NB prog w A env R) O2) (NB prog w A env R) s)
  (n:Nat) (h:I n s) :
  codeAny (model prog w) A (.compLoop (.ListComp elt [⟨target,iter,ifs,0⟩] scope pos) 0 it acc env) R s:=by
 refine codeAny_loop rfl I (λn s hI=>?_) n h;show wpAny _ A ((compTurn (.ListComp elt [⟨target,iter,ifs,0⟩] scope pos) 0 it acc env).onRaise (λx=>do noteFrame x env;theTreesLotGoes x)) _ _ s;refine wpAny_noted ?_;rw[compTurn_list];refine qX (wpAny_standAt (qX (wpAny_mono (turn n s hI) (λr O2 O8=>?_) λ_ _ h'=>h')));cases r with
 | none=>exact q9 O8
 | some v =>
  refine qX (wpAny_mono O8 (λ_ s1' U3=>?_) λ_ _ h'=>h');refine qX (wpAny_mono U3 (λ_ O9 Z1=>qX (wpAny_mono Z1 (λok Y3 Z2=>?_) λ_ _ h'=>h')) λ_ _ h'=>h');cases ok with
  | false=>exact q9 ⟨rfl,Z2⟩
  | true =>
   exact qX (qX (wpAny_mono Z2 (λx Y5 U4=>qX (wpAny_mono U4 (λ_ Z9 U5=>q9 (q9 ⟨rfl,U5⟩)) λ_ _ h'=>h')) λ_ _ h'=>h'))
end
end DL
end
section
namespace DL
open PySem Spec PyProof.Rows L2
noncomputable def relS (sc scope:Scope):Scope :=
 { scope with names:=scope.names.map λ(n,k)=>if (k==.free&&sc.kind==.function&&sc.names.lookup n==some .cell) then (n,.cell) else (n,k) }
def zDm {a:List (Str×NameKind)}:a.lookup x=some k->(x,k)∈a:=λh=>PySem.mem_of_lookup h
theorem zCw:∀ {names:List (Str×NameKind)} {x:Str} {k:NameKind},(names.map (·.1)).Nodup->(x,k)∈names->names.lookup x=some k
 | (y,j)::r,x,k,nd,hm=>by
  rw[map_cons,nodup_cons] at nd;rw[lookup_cons];rcases mem_cons.mp hm with e | hm2
  .cases e;simp
  .have ne:(x==y)=false:=by
    cases b:x==y with
    | false=>rfl
    | true =>
     have e1:x=y:=by simpa using b
     exact absurd (show y∈r.map (·.1) from mem_map.mpr ⟨(x,k),hm2,e1⟩) nd.1
   rw[ne];exact zCw nd.2 hm2
theorem zDl {sc:Scope}:∀ (names:List (Str×NameKind)) (x:Str),(names.map λ(n,k)=>if (k==NameKind.free&&sc.kind==.function&&sc.names.lookup n==some .cell) then (n,NameKind.cell) else (n,k)).lookup x =
  (names.lookup x).map λk=>if (k==NameKind.free&&sc.kind==.function&&sc.names.lookup x==some .cell) then NameKind.cell else k
 | [],x=>rfl
 | (n,k)::r,x=>by
  rw[map_cons,lookup_cons];have ih:=zDl (sc:=sc) r x;cases b:x==n with
  | true =>
   have e1:x=n:=by simpa using b
   subst e1;dsimp only;by_cases c:(k==NameKind.free&&sc.kind==.function&&sc.names.lookup x==some .cell)=true
   .rw [if_pos c,lookup_cons];simp only[beq_self_eq_true,Option.map_some,if_pos c]
   .rw [if_neg c,lookup_cons];simp only[beq_self_eq_true,Option.map_some,if_neg c]
  | false =>
   dsimp only;by_cases c:(k==NameKind.free&&sc.kind==.function&&sc.names.lookup n==some .cell)=true
   .rw [if_pos c,lookup_cons,b];exact ih
   .rw [if_neg c,lookup_cons,b];exact ih
noncomputable def ownB (scope:Scope)(y:Str):Bool:=match scope.names.lookup y with
 | some .local=>true
 | some .cell=>true
 | _=>false
structure zCd (sc scope:Scope):Prop where
 kind:scope.kind=.function
 nd:(scope.names.map (·.1)).Nodup
 fr:∀ x∈scope.names,x.2=.free->sc.names.lookup x.1=some .cell\/sc.names.lookup x.1=some .free
def zCT:∀ (d:List (Str×NameKind)) (n:Nat) (a:List (Str×Addr)),(∀ x y c,a.lookup x=some c->a.lookup y=some c->x=y)->(∀ x c,a.lookup x=some c->c < n)->∀ x y c,(cellsFrom n d a).lookup x=some c->(cellsFrom n d a).lookup y=some c->x=y
 | [],n,a,h1,_,x,y,c,e1,e2=>h1 x y c e1 e2
 | (z,k)::r,n,a,h1,h2,x,y,c,e1,e2=>by
  unfold cellsFrom at e1 e2;cases b:k==.cell with
  | false =>
   rw[b,if_neg qY] at e1 e2;exact zCT r n a h1 h2 x y c e1 e2
  | true =>
   rw[b,if_pos rfl] at e1 e2;refine zCT r (n+1) _ ?_ ?_ x y c e1 e2
   .intro x y c q1 q2;rw[lookup_cons] at q1 q2;cases b1:x==z with
    | true =>
     cases b2:y==z with
     | true =>
      have e3:x=z:=by simpa using b1
      have e:y=z:=by simpa using b2
      rw[e3,e]
     | false =>
      rw[b1] at q1;rw[b2] at q2;cases q1;exact absurd (h2 y _ q2) (lt_irrefl _)
    | false =>
     cases b2:y==z with
     | true =>
      rw[b1] at q1;rw[b2] at q2;cases q2;exact absurd (h2 x _ q1) (lt_irrefl _)
     | false =>
      rw[b1] at q1;rw[b2] at q2;exact h1 x y c q1 q2
   .intro x c q1;rw[lookup_cons] at q1;cases b1:x==z with
    | true=>rw[b1] at q1;cases q1;exact Nat.lt_succ_self _
    | false=>rw[b1] at q1;exact Nat.lt_succ_of_lt (h2 x c q1)
theorem zBB :∀ (names:List (Str×NameKind)) (n:Nat) (acc:List (Str×Addr)),(∃ c,acc.lookup x=some c)->∃ c,(cellsFrom n names acc).lookup x=some c
 | [],n,acc,h=>h
 | (z,k)::r,n,acc,h=>by
  unfold cellsFrom;cases b:k==.cell with
  | false=>rw[if_neg qY];exact zBB r n acc h
  | true =>
   rw[if_pos rfl];refine zBB r (n+1) _ ?_;rw[lookup_cons];cases b1:x==z with
   | true=>exact⟨_,rfl⟩
   | false=>exact h
theorem zCU :∀ (names:List (Str×NameKind)) (n:Nat) (acc:List (Str×Addr)),(x,NameKind.cell)∈names->∃ c,(cellsFrom n names acc).lookup x=some c
 | (z,k)::r,n,acc,hm=>by
  unfold cellsFrom;rcases mem_cons.mp hm with e | hm
  .cases e;rw[show (NameKind.cell==NameKind.cell)=true from rfl,if_pos rfl];exact zBB r (n+1) _ ⟨n,by rw[lookup_cons];simp⟩
  .cases b:k==.cell with
   | false=>rw[if_neg qY];exact zCU r n acc hm
   | true=>rw[if_pos rfl];exact zCU r (n+1) _ hm
theorem zA3:∀ (names:List (Str×NameKind)) (h:Heap) (b:Addr) (o:Obj),h.get? b=some o->(pushCells h names).get? b=some o
 | [],h,b,o,e=>e
 | (z,k)::r,h,b,o,e=>by
  unfold pushCells;cases c:k==.cell with
  | false=>rw[if_neg qY];exact zA3 r h b o e
  | true=>rw[if_pos rfl];exact zA3 r _ b o (get?_push_of_some _ e)
theorem zB8:∀ (names:List (Str×NameKind)) (h:Heap) (acc:List (Str×Addr)),(∀ x c,acc.lookup x=some c->∃ v,h.IsCell c v)->∀ x c,(cellsFrom h.objs.size names acc).lookup x=some c->∃ v,(pushCells h names).IsCell c v
 | [],h,acc,q,x,c,e=>q x c e
 | (z,k)::r,h,acc,q,x,c,e=>by
  unfold cellsFrom at e;unfold pushCells;cases b:k==.cell with
  | false =>
   rw[b,if_neg qY] at e;rw[if_neg qY];exact zB8 r h acc q x c e
  | true =>
   rw[b,if_pos rfl] at e;rw[if_pos rfl];have es:(h.push { cls:=.type "cell",data:=.cell none }).objs.size=h.objs.size+1:=Heap.size_push ..;rw[<- es] at e;refine zB8 r (h.push { cls:=.type "cell",data:=.cell none }) ((z,h.objs.size)::acc) ?_ x c e;intro y d p;rw[lookup_cons] at p;cases b1:y==z with
   | true =>
    rw[b1] at p;cases p;exact⟨none,_,get?_push_size _ rfl,rfl⟩
   | false =>
    rw[b1] at p;obtain⟨v,o,ho,hd⟩:=q y d p;exact⟨v,o,get?_push_of_some _ ho,hd⟩
noncomputable def zB1 (scope:Scope)(X:Cx)(s:Shared):Env :=
 { newEnv scope s.heap.objs.size X.env.globals (cellsFrom (s.heap.objs.size+1) scope.names (zB7 X.env scope.names [])) X.env.qual none .none (some X.env) builtinsNs with scope:=relabel scope X.env }
noncomputable def zAe (X:Cx)(N:List Str)(scope:Scope)(s:Shared)(H:Hp)(fp:List Addr):Cx :=
 { X with N:=N,s0:=s,Y7:=H,env:=zB1 scope X s,outer:=X.stack,stack:=X.stack,ex:=fp,fn:=ownB scope,pn:=[],xe:=λ_ _=>False }
section
variable {X:Cx}{pins:List (Addr×Obj)}{B σc:St}{H:Hp}{s:Shared}{fp:List Addr}{scope:Scope}{N:List Str}
def zEl (I:Inv X pins B H s)(cs:zCd X.env.scope scope):∀ x∈scope.names,x.2=.free->∃ c,X.env.cells.lookup x.1=some c:=λx a b =>
 I.ok.has x.1 (cs.fr x a b)
def zM2 (I:Inv X pins B H s)(E:∀ b∈fp,FpOk X pins H b/\∃ o,s.heap.get? b=some o)(cs:zCd X.env.scope scope)
  (Z5:∀ (i:Nat) (x:Str) (v:V),N[i]?=some x->σc[i]?=some (some v)->Vis (relS X.env.scope scope) x->scope.names.lookup x=some .free/\∃ j:Nat,X.N[j]?=some x/\B[j]?=some (some v)) (C:σc.length=N.length) :
  Inv (zAe X N scope s H fp) [] σc H { s with heap:=pushCells (s.heap.push { cls:=.type "dict",data:=.dict #[] }) scope.names }:=by
 have K:∀ b o,s.heap.get? b=some o->(pushCells (s.heap.push { cls:=.type "dict",data:=.dict #[] }) scope.names).get? b=some o:=λb o e=>zA3 _ _ b o (get?_push_of_some _ e)
 have a:∀ x c,(zB7 X.env scope.names []).lookup x=some c->X.env.cells.lookup x=some c:=λx c e=>zGr scope.names [] (λ_ _ q=>by simp at q) x c e
 have t:∀ x c,(zB7 X.env scope.names []).lookup x=some c->c < s.heap.objs.size:=λx c e=>by
  obtain⟨v,q⟩:=I.cell x c (a x c e);exact q.lt
 have f:∀ x c,(zB1 scope X s).cells.lookup x=some c->((x,NameKind.cell)∈scope.names/\s.heap.objs.size+1<=c)\/(zB7 X.env scope.names []).lookup x=some c:=λx c e=>zCV scope.names _ _ c e
 have T:∀ x,(zB1 scope X s).kindOf x=(scope.names.lookup x).map λk=>if (k==NameKind.free&&X.env.scope.kind==.function&&X.env.scope.names.lookup x==some .cell) then NameKind.cell else k:=λx=>zDl (sc:=X.env.scope) scope.names x
 have M:(s.heap.push { cls:=.type "dict",data:=.dict #[] }).objs.size=s.heap.objs.size+1:=Heap.size_push ..;refine⟨⟨I.ok.mod,cs.kind,I.ok.glob,I.ok.blt,le_refl _,λx y c h1 h2=>?_,λx g=>?_,λx c g h=>?_,I.ok.hd,I.ok.frames,.inl rfl,λb A=>⟨?_,λx c h z=>?_⟩,λb o e=>I.bs b o e,le_trans I.ok.bsz I.sz,λb o e A=>?_,λb A z=>?_,I.stack,I.stkFree,I.ok.pyl,I.tabs⟩,
  rfl,I.bare,Un.kept K,⟨λ_=>none,?_,λi x v h1 h2 h3=>?_⟩,λx c h=>?_,I.hok.fresh (le_refl _),λx c h=>?_,λp hp=>absurd (show p∈([]:List (Addr×Obj)) from hp) (by simp),I.hok.kept K,C⟩
 .exact zCT scope.names _ _ (λx y c D O=>I.ok.inj x y c (a x c D) (a y c O)) (λx c q=>Nat.lt_succ_of_lt (t x c q)) x y c h1 h2
 .replace g:(zB1 scope X s).kindOf x=some .cell\/(zB1 scope X s).kindOf x=some .free:=g;rw[T x] at g;cases q:scope.names.lookup x with
  | none=>rw[q] at g;simp at g
  | some k =>
   rw[q] at g;by_cases kf:k=.free
   .subst kf;have l:=zDm q;exact zBB scope.names _ _ (zEm scope.names [] l (zEl I cs _ l rfl))
   .have J:(k==NameKind.free)=false:=by simpa using kf
    simp only[J,Bool.false_and,Option.map_some,Bool.false_eq_true,if_false] at g;rcases g with g | g
    .cases g;exact zCU scope.names _ _ (zDm q)
    .cases g;exact absurd rfl kf
 .rcases f x c h with ⟨_,q⟩ | q
  .exact le_trans (Nat.le_succ _) q
  .rcases zFP scope.names [] c q with l | ⟨d,l⟩
   .have J:=zCw cs.nd l;have r:ownB scope x=true:=g;unfold ownB at r;rw[J] at r;cases r
   .simp at l
 .obtain ⟨_,o,e⟩:=E b A;exact ne_of_lt (lt_size e)
 .obtain ⟨⟨R,P,L,n,Q,S⟩,o,e⟩:=E b A;rcases f x c h with ⟨_,q⟩ | q
  .have:=lt_size e;rw[z] at q;exact absurd (xQ (Nat.lt_succ_of_lt this) q) (lt_irrefl _)
  .exact Q x c (a x c q) z
 .obtain ⟨⟨R,P,L,n,Q,S⟩,_⟩:=E b A;rcases n with n | n
  .exact I.ok.noex b o e n
  .exact absurd (xQ (lt_size e) (le_trans I.ok.bsz n)) (lt_irrefl _)
 .obtain ⟨⟨R,P,L,n,Q,S⟩,_⟩:=E b A;rcases mem_cons.mp (I.stkSub b z) with q | q
  .exact P q
  .exact L q
 .exact (Heap.Ns.new s.heap (.type "dict")).keeps (zA3 _ _)
 .obtain ⟨D,j,O,q3⟩:=Z5 i x v h1 h2 h3;have l:=zDm D;have Z:=cs.fr _ l rfl;obtain⟨m,hn,Y⟩:=I.loc;obtain⟨u,ru,U⟩:=Y j x v O q3 (Z.elim (λe=>.inr (.inl e)) λe=>.inr (.inr e));refine⟨u,ru,.inr ⟨?_,?_⟩⟩
  .show (zB1 scope X s).kindOf x=_\/(zB1 scope X s).kindOf x=_;rw[T x,D];dsimp only[Option.map_some];split
   .exact .inl rfl
   .exact .inr rfl
  .rcases U with ⟨k1,_⟩ | ⟨_,c,k2,k3⟩
   .have W:X.env.scope.names.lookup x=some .local:=k1
    simp_all
   .obtain ⟨G,F⟩:=zBB scope.names (s.heap.objs.size+1) _ (zEm (env:=X.env) scope.names [] l ⟨c,k2⟩);refine⟨G,F,?_⟩;rcases f x G F with ⟨z,_⟩ | z
    .have:=zCw cs.nd z;rw[D] at this;cases this
    .have:=a x G z;rw[k2] at this;cases this;exact k3.keeps K
 .have F:(cellsFrom (s.heap.push { cls:=.type "dict",data:=.dict #[] }).objs.size scope.names (zB7 X.env scope.names [])).lookup x=some c:=by rw[M];exact h
  exact zB8 scope.names _ _ (λy d q=>by
   obtain⟨v,w⟩:=I.cell y d (a y d q);exact⟨v,w.keeps λb o e=>get?_push_of_some _ e⟩) x c F
 .rcases f x c h with ⟨_,q⟩ | q
  .exact I.hok.fresh (le_trans (Nat.le_succ _) q)
  .exact I.freeC x c (a x c q)
end
noncomputable def noN (N:List Str):Str:=Str.ofString (String.ofList (List.replicate N.length (Char.ofNat 32)))
noncomputable def mask {T:Type}(z:T):List Nat->List T->List T
 | [],l=>l
 | m::ms,l=>mask z ms (l.set m z)
theorem zBC {T:Type}(z:T):∀ (ms:List Nat) (l:List T),(mask z ms l).length=l.length
 | [],l=>rfl
 | m::ms,l=>by unfold mask;rw[zBC z ms,length_set]
theorem zBj {T:Type}{z y:T}{i:Nat}:∀ {ms:List Nat} {l:List T},(mask z ms l)[i]?=some y->(y=z/\i∈ms)\/(l[i]?=some y/\i∉ms)
 | [],l,h=>.inr ⟨h,by simp⟩
 | m::ms,l,h=>by
  unfold mask at h;rcases zBj h with ⟨e,hm⟩ | ⟨e,hm⟩
  .exact .inl ⟨e,qJ _ hm⟩
  .rcases zAb e with ⟨e1,e2,_⟩ | ⟨ne,e1⟩
   .exact .inl ⟨e2,by rw[<- e1];exact q8⟩
   .exact .inr ⟨e1,λz=>(mem_cons.mp z).elim (λq=>ne q.symm) hm⟩
theorem zFv {T:Type}{z:T}{i:Nat}:∀ {ms:List Nat} {l:List T},i∉ms->(mask z ms l)[i]?=l[i]?
 | [],l,_=>rfl
 | m::ms,l,h=>by
  unfold mask;rw[zFv λq=>h (qJ _ q),getElem?_set_ne λq=>h (by rw[q];exact q8)]
def zCY {T:Type}{l:List (Option T)}{k i:Nat}{y:T}(h:(l++List.replicate k none)[i]?=some (some y)):l[i]?=some (some y)/\i < l.length:=by
 by_cases hi:i < l.length
 .rw [getElem?_append_left hi] at h;exact⟨h,hi⟩
 .rw [getElem?_append_right (by omega),getElem?_replicate] at h;grind
theorem DS.ext {K:W.Frag}(h:DS K H S B O)(ms:List Nat)(k:Nat):DS K H S (mask none ms B++List.replicate k none) (mask none ms O++List.replicate k none):=by
 refine⟨by rw[qQ,qQ,zBC,zBC,h.len,length_replicate,length_replicate],h.sok,λi d o q=>?_,λi j d e a q1 q2 q3 q4=>?_⟩
 .obtain ⟨q,hi⟩:=zCY q;rcases zBj q with ⟨z,_⟩ | ⟨q,ni⟩
  .cases z
  .obtain ⟨v,w1,w2⟩:=h.get i d o q;exact⟨v,by rw[getElem?_append_left (by rw[zBC] at hi ⊢;rw[h.len];exact hi),zFv ni];exact w1,w2⟩
 .obtain ⟨q1,_⟩:=zCY q1;obtain⟨q2,_⟩:=zCY q2;obtain⟨q3,_⟩:=zCY q3;obtain⟨q4,_⟩:=zCY q4;rcases zBj q1 with ⟨z,_⟩ | ⟨q1,_⟩
  .cases z
  rcases zBj q2 with ⟨z,_⟩ | ⟨q2,_⟩
  .cases z
  rcases zBj q3 with ⟨z,_⟩ | ⟨q3,_⟩
  .cases z
  rcases zBj q4 with ⟨z,_⟩ | ⟨q4,_⟩
  .cases z
  exact h.inj i j d e a q1 q2 q3 q4
noncomputable def zC3 (t:D->Dst->Option Dst)(c:Dst->Option Bool)(e:Dst->Option R):List D->Dst->Option (List D)
 | [],_=>some []
 | x::xs,O=>(t x O).bind λO6=>(c O6).bind λb=>if b=true then (e O6).bind λr=>if r.2=.dt then none else (zC3 t c e xs O6).bind λys=>some (r.1::ys) else zC3 t c e xs O6
noncomputable def zJI (ms:List Nat)(k:Nat)(f:Dst->Option (List D))(t:D->Dst->Option Dst)(c:Dst->Option Bool)(e:Dst->Option R):Dst->Option R:=λO =>
 (f O).bind λzs=>if zs.length<=10000 then (zC3 t c e zs (mask none ms O++List.replicate k none)).bind λys=>some (.lst ys,.fr) else none
def GCs (X:Cx)(ifs:List Expr)(c:Dst->Option Bool):Prop:=∀ (pins:List (Addr×Obj)) (s:Shared) (B:St) (H:Hp) (Q:Bool->Hp->Prop),Inv X pins B H s->gB X.K c B H Q ->
 wpAny (model X.prog X.w) X.A (forIn ifs true λc r=>if r=true then do let ok<-isTrue c X.env (eval c X.env);pure (ForInStep.yield ok) else pure (ForInStep.yield r)) (TP X pins B Q) X.xe s
section
variable {X:Cx}
def zIU (G:X.calm=true)(d7:PI X tg iter wi)(cs:zCd X.env.scope scope)
  (hm:∀ (i:Nat) x,X.N[i]?=some x->ownB scope x=true->i∈ms)
      (I:Inv X pins B H s) {L:It->Hp->Nat->Nat->St->Hp->List V->Prop} {Z:Hp->Hp->List V->Prop}
  (h0:wi B H λJ H2=>∃ n,L J H2 n 0 (mask none ms B++List.replicate xs.length none) H2 [])
  (len:∀ {J H2 n i B' H' vs},L J H2 n i B' H' vs->vs.length<=10000)
  (step:∀ {J H2 n i B' H' vs} (s3:Shared) (fp:List Addr),L J H2 n i B' H' vs->(J.stop i H'/\Z H2 H' vs)\/∃ n',n' < n/\J.go i H'/\∀ v H5,J.yld i H' v H5->H5=H' /\
   ∀ (Y:Cx),Y=zAe X (mask (noN X.N) ms X.N++xs) scope s3 H2 fp->∀ (pn:List (Addr×Obj)) (s5:Shared) (u:Value) (E:Value->Shared->Prop),Inv Y pn B' H' s5->RelV v u ->
    wpAny (model X.prog X.w) X.A (assign tg Y.env u) (λ_ s6=>wpAny (model X.prog X.w) X.A (forIn ifs true λc r=>if r=true then do let ok<-isTrue c Y.env (eval c Y.env);pure (ForInStep.yield ok) else pure (ForInStep.yield r)) (λok s7 =>
     if ok=true then wpAny (model X.prog X.w) X.A (eval elt Y.env) (λuv s8=>∃ v' B6 H8,Inv Y pn B6 H8 s8/\RelV v' uv/\L J H2 n' (i+1) B6 H8 (vs++[v'])) E s7 else ∃ B6 H8,Inv Y pn B6 H8 s7/\L J H2 n' (i+1) B6 H8 vs) E s6) E s5)
  {RR:Value->Addr->Result->Shared->Prop}
  (e0:∀ (D C:Addr) (s1:Shared) (H'':Hp) (m:Str->Option Value),s1.heap.Ns C m->(∀ h',Heap.SameBut C s1.heap h'->Inv X pins B H'' { s1 with heap:=h' })->H'' C=none->C≠X.env.locals->C∉X.fs->X.s0.heap.objs.size<=C ->
   (∀ x c,X.env.cells.lookup x=some c->c≠C)->(∀ p∈X.pn++pins,p.1≠C)->(∃ H2 H' vs,Z H2 H' vs/\H2 D=none/\H' D=none/\H''=upd H' D (.lst vs))->RR (.ref D) C (.ok .next) s1) :
  wpAny (model X.prog X.w) X.A (eval iter X.env) (λx O2=>wpAny (model X.prog X.w) X.A (pyIter x) (λit O9=>wpAny (model X.prog X.w) X.A (newList []) (λacc Y3 =>
   wpAny (model X.prog X.w) X.A (newFunctionEnv scope X.env.globals (zB7 X.env scope.names []) [] X.env.qual none .none (some X.env)) (λcenv Y5 =>
    codeAny (model X.prog X.w) X.A (.compStart (.ListComp elt [⟨tg,iter,ifs,0⟩] scope pos) 0 it acc { cenv with scope:=relabel scope X.env }) (RR acc cenv.locals) Y5) X.xe Y3) X.xe O9) X.xe O2) X.xe s:=by
 refine thn (d7 pins s B H _ I h0) λv s1 h1=>thn h1 λitv O h2=>?_
 obtain⟨it,fp,tn,J,H2,rfl,M,T,a7,f2,n0,l0⟩:=h2;refine wpAny_newObj_type (zHO ?_);have e3:∃ s3:Shared,s3={ O with heap:=O.heap.push { cls:=.type "list",dict:=none,data:=.seq ([]:List Value).toArray } }:=⟨_,rfl⟩;obtain⟨s3,y⟩:=e3;rw[<- y];have eD:∃ D,D=O.heap.objs.size:=⟨_,rfl⟩;obtain⟨D,hD⟩:=eD;rw[<- hD];have hC:s3.heap.objs.size=D+1:=by rw[y,hD];exact Heap.size_push ..
 have A:∀ b o,O.heap.get? b=some o->s3.heap.get? b=some o:=λb o q=>by rw[y];exact get?_push_of_some _ q
 have I3:Inv X pins B H2 s3:=by rw[y];exact M.kept (t':=O.toks) λb o q=>get?_push_of_some _ q
 have oD:s3.heap.get? D=some { cls:=.type "list",data:=.seq ([]:List Value).toArray }:=by rw[y,hD];exact get?_push_size _ rfl
 have a5:H2 D=none:=by rw[hD];exact M.hok.fresh (le_refl _)
 have W:∀ b∈fp,b < D:=λb a=>by
  obtain⟨o,q,_⟩:=T.obj _ _ a7 b a;rw[hD];exact lt_size q
 have b6:∀ b∈D::fp,FpOk X pins H2 b/\∃ o,s3.heap.get? b=some o:=λb a=>by
  rcases mem_cons.mp a with rfl | a
  .exact ⟨M.fpOk (by rw[hD];exact le_refl _) a5,_,oD⟩
  .obtain ⟨o,q,_⟩:=T.obj _ _ a7 b a;exact⟨f2 b a,o,A b o q⟩
 have c1:(mask none ms B++List.replicate xs.length none).length=(mask (noN X.N) ms X.N++xs).length:=by
  rw[qQ,qQ,zBC,zBC,length_replicate,I.len]
 have Ic:=zM2 (fp:=D::fp) (N:=mask (noN X.N) ms X.N++xs) (σc:=mask none ms B++List.replicate xs.length none) I3 b6 cs (λi x v q1 q2 q3=>by
  obtain⟨q2,b7⟩:=zCY q2;rcases zBj q2 with ⟨z,_⟩ | ⟨q2,ni⟩
  .cases z
  have e6:i < (mask (noN X.N) ms X.N).length:=by rw[zBC] at b7 ⊢;rw[<- I.len];exact b7
  rw[getElem?_append_left e6] at q1;rcases zBj q1 with ⟨_,z⟩ | ⟨q1,_⟩
  .exact absurd z ni
  refine⟨?_,i,q1,q2⟩;have no:ownB scope x=false:=by
   cases b:ownB scope x with
   | false=>rfl
   | true=>exact absurd (hm i x q1 b) ni
  unfold Vis relS at q3;rw[zDl] at q3;unfold ownB at no;cases w:scope.names.lookup x with
  | none=>rw[w] at q3;simp at q3
  | some k =>
   rw[w] at no;cases k with
   | free=>rfl
   | «local»=>cases no
   | cell=>cases no
   | _=>rw[w] at q3;simp at q3) c1
 have c5:tn 0 (pushCells (s3.heap.push { cls:=.type "dict",data:=.dict #[] }) scope.names):=T.keep 0 _ _ a7 λb a o q=>zA3 _ _ b o (get?_push_of_some _ (A b o q))
 have a1:codeAny (model X.prog X.w) X.A (.compLoop (.ListComp elt [⟨tg,iter,ifs,0⟩] scope pos) 0 (.ref it) (.ref D) (zB1 scope X s3)) (RR (.ref D) s3.heap.objs.size) { s3 with heap:=pushCells (s3.heap.push { cls:=.type "dict",data:=.dict #[] }) scope.names }:=by
  refine zGq (λn s'=>∃ (i:Nat) (B':St) (H':Hp) (vs:List V) (f:List Value),Inv (zAe X (mask (noN X.N) ms X.N++xs) scope s3 H2 (D::fp)) [] B' H' s'/\tn i s'.heap/\(∀ b∈D::fp,H' b=none)/\s'.heap.PlainList D f.toArray/\Vals vs f/\L J H2 n i B' H' vs) ?_ n0
   ⟨0,_,H2,[],[],Ic,c5,λb a=>(b6 b a).1.1,⟨_,zA3 _ _ D _ (get?_push_of_some _ oD)⟩,.nil,l0⟩
  rintro n s' ⟨i,B',H',vs,f,j,c4,a3,⟨nD,pl⟩,rv,ll⟩;have U:f.length<=10000:=by rw[<- rv.length];exact len ll
  have a6:∀ {b:Addr} {pn:List (Addr×Obj)} {Hx:Hp},b∈D::fp->Hx b=none->(∀ p∈pn,p.1≠b)->FpOk (zAe X (mask (noN X.N) ms X.N++xs) scope s3 H2 (D::fp)) pn Hx b:=λ{b pn Hx} a hn t =>
   ⟨hn,(j.ok.exf b a).1,j.ok.exfs b a,.inl a,(j.ok.exf b a).2,λp e7=>t p (show p∈pn from e7)⟩
  have c8:∀ {p:Addr×Obj} {h:Heap},p∈zCb [D] h->p.1=D:=λ{p h} t=>by simpa using (zGX t).1
  have I0:Inv (zAe X (mask (noN X.N) ms X.N++xs) scope s3 H2 (D::fp)) ([]++zCb [D] s'.heap) B' H' s':=j.pinned (fp:=[D]) (λb a=>by
   have eb:b=D:=by simpa using a
   subst eb;exact a6 q8 (a3 _ q8) λp t=>absurd t (by simp)) λb a=>by
   have eb:b=D:=by simpa using a
   subst eb;exact⟨_,pl,λv z=>by cases z⟩
  have c0:∀ b∈fp,FpOk (zAe X (mask (noN X.N) ms X.N++xs) scope s3 H2 (D::fp)) ([]++zCb [D] s'.heap) H' b:=λb a=>a6 (qJ _ a) (a3 b (qJ _ a)) λp t z=>by
   have q1:=c8 (by simpa using t);have q2:=W b a;rw[<- z,q1] at q2;exact absurd q2 (lt_irrefl _)
  have S:(D,_)∈zCb [D] s'.heap:=zCv (by simp) pl;rcases step s3 (D::fp) ll with ⟨d5,ze⟩ | ⟨n',hn',go,yl⟩
  case inr =>
   refine wpAny_mono (T.item (zAe X (mask (noN X.N) ms X.N++xs) scope s3 H2 (D::fp)) rfl rfl rfl G i ([]++zCb [D] s'.heap) s' B' H' _ I0 c0 c4 go) (λr s4 c7=>?_) λ_ _ z=>z
   obtain⟨u,hr,h4⟩:=c7;subst hr;refine wpAny_mono h4 (λ_ s5 c9=>?_) λ_ _ z=>z
   obtain⟨x,H5,I5,r5,y5,Q,i8⟩:=c9;obtain⟨rfl,hv⟩:=yl x H5 y5;have R:=(I5.pin (D,_) (xq _ (xq _ S))).1;have d8:Inv (zAe X (mask (noN X.N) ms X.N++xs) scope s3 H2 (D::fp)) ([]++zCb (D::fp) s5.heap) B' H5 s5:=I5.unpinned.pinned (fp:=D::fp) (λb a=>a6 a (a3 b a) λp t=>absurd t (by simp)) λb a=>by
    rcases mem_cons.mp a with rfl | a
    .exact ⟨_,R,λv z=>by cases z⟩
    .exact T.obj _ _ Q b a
   have e:∀ {Hx:Hp} {sx:Shared} {Bx:St},Inv (zAe X (mask (noN X.N) ms X.N++xs) scope s3 H2 (D::fp)) ([]++zCb (D::fp) s5.heap) Bx Hx sx->∀ b∈D::fp,(∀ o,s5.heap.get? b=some o->sx.heap.get? b=some o)/\Hx b=none:=λ{Hx sx Bx} Ix b a=>by
    have q:∃ o,s5.heap.get? b=some o:=by
     rcases mem_cons.mp a with rfl | a
     .exact ⟨_,R⟩
     .obtain ⟨o,q,_⟩:=T.obj _ _ Q b a;exact⟨o,q⟩
    obtain⟨o,q⟩:=q;have w:=Ix.pin (b,o) (xq _ (xq _ (zCv a q)));exact⟨λo' q'=>by rw[q] at q';cases q';exact w.1,w.2.1⟩
   refine wpAny_mono (hv _ rfl _ s5 u _ d8 r5) (λ_ s6 h6=>wpAny_mono h6 (λok s7 h7=>?_) λ_ _ z=>z) λ_ _ z=>z
   cases ok with
   | false =>
    rw[if_neg qY] at h7 ⊢;obtain⟨B6,H7,I7,l7⟩:=h7;exact⟨n',hn',i+1,B6,H7,vs,f,I7.unpinned,T.keep _ _ _ Q λb a o q=>(e I7 b (qJ _ a)).1 o q,λb a=>(e I7 b a).2,⟨nD,(e I7 D q8).1 _ R⟩,rv,l7⟩
   | true =>
    rw[if_pos rfl] at h7 ⊢;refine wpAny_mono h7 (λuv s8 d0=>?_) λ_ _ z=>z
    obtain⟨v,B6,H8,I8,e1,l8⟩:=d0;have d9:=(e I8 D q8).1 _ R;refine wpAny_list_append_plain (hsz:=by rw[xy];exact zDP U) ⟨nD,d9⟩ λh9 e5 c6=>?_
    have I9:Inv (zAe X (mask (noN X.N) ms X.N++xs) scope s3 H2 (D::fp)) [] B6 H8 { s8 with heap:=h9 }:=I8.unpinned.turned (it:=D) (t':=s8.toks) (λb o a q=>c6.extBut b o a q) (e I8 D q8).2 (j.ok.exf D q8).1 (.inl q8) (j.ok.exf D q8).2 λp t=>absurd (show p∈([]:List (Addr×Obj)) from t) (by simp)
    refine⟨n',hn',i+1,B6,H8,vs++[v],f++[uv],I9,T.keep _ _ _ Q λb a o q=>c6.extBut b o (λz=>?_) ((e I8 b (qJ _ a)).1 o q),λb a=>(e I8 b a).2,?_,rv.append (.cons e1 .nil),l8⟩
    .have:=W b a;rw[z] at this;exact absurd this (lt_irrefl _)
    .have ea:f.toArray.push uv=(f++[uv]).toArray:=by simp
     rw[<- ea];exact e5
  case inl =>
   refine wpAny_mono (T.done (zAe X (mask (noN X.N) ms X.N++xs) scope s3 H2 (D::fp)) rfl rfl rfl G _ ([]++zCb [D] s'.heap) s' B' H' _ I0 c0 c4 d5) (λr s4 b9=>?_) λ_ _ z=>z
   obtain⟨hr,l⟩:=b9;subst hr;obtain⟨m,ns,_⟩:=id l.loc;have eC:(zAe X (mask (noN X.N) ms X.N++xs) scope s3 H2 (D::fp)).env.locals=D+1:=hC;rw[eC] at ns;have c3:=l.pin (D,_) (xq _ (xq _ S));have HD:H' D=none:=c3.2.1;have HC:H' (D+1)=none:=by have:=l.free;rw[eC] at this;exact this
   have CD:D≠D+1:=ne_of_lt (Nat.lt_succ_self D);have b2:∀ {b:Addr} {o:HO},H' b=some o->b≠D:=λ{b o} q z=>by rw[z,HD] at q;cases q
   have a4:∀ {b:Addr} {o:HO},H2 b=some o->b≠D:=λ{b o} q z=>by rw[z,a5] at q;cases q
   have b1:∀ {b:Addr} {o:Obj},O.heap.get? b=some o->b < D:=λ{b o} q=>by rw[hD];exact lt_size q
   have g:∀ {b:Addr} {o:Obj},O.heap.get? b=some o->b∉fp->b∉D::fp:=λ{b o} q P z=>(mem_cons.mp z).elim (λz=>absurd (b1 q) (by rw[z];exact lt_irrefl _)) P
   have a9:∀ {b:Addr} {o:Obj},O.heap.get? b=some o->b≠D+1:=λ{b o} q=>ne_of_lt (Nat.lt_succ_of_lt (b1 q))
   have b0:O.heap.objs.size<=D+1:=by rw[<- hD];exact Nat.le_succ _
   show RR (.ref D) s3.heap.objs.size (.ok .next) s4;rw[hC];refine e0 D (D+1) s4 (upd H' D (.lst vs)) m ns (λh' sb=>?_) ?_ (Nat.ne_of_gt (xQ M.lt b0)) (M.nofs b0) (le_trans M.sz b0) (λx c q z=>?_) (λp t z=>?_) ⟨H2,H',vs,ze,a5,HD,rfl⟩
   .refine M.call' (s':={ s4 with heap:=h' }) (ch:=fp) ?_ ⟨λb o q n a P=>sb.extBut b o (a9 q) (l.base.keep b o (A b o q) n a (g q P)),λb o q n a P=>?_,λb o q n P=>?_,λb o q P=>?_,λb ws q=>?_,λb o w q=>?_,λb ps q=>?_⟩ (λb w q=>?_) l.bare λb a=>?_
    .have:=l.os;rw[y] at this;exact this
    .obtain ⟨sl,w⟩:=l.base.slot b o (A b o q) n a (g q P);exact⟨sl,sb.extBut b _ (a9 q) w⟩
    .rw [zAX (ne_of_lt (b1 q))];exact l.base.free b o (A b o q) n (g q P)
    .obtain ⟨o',w⟩:=l.base.there b o (A b o q) (g q P);exact⟨o',sb.extBut b _ (a9 q) w⟩
    .rw [zAX (a4 q)];exact l.base.tups b ws q
    .rw [zAX (a4 q)];exact l.base.frzs b o w q
    .rw [zAX (a4 q)];exact l.base.tbls b ps q
    .by_cases z:b=D
     .subst z;rw[zAc] at q;cases q;exact⟨by rw[rv.length];exact zDP U,f,nD,rv,sb.extBut b _ CD c3.1⟩
     .rw [zAX z] at q;refine(l.hok b w q).stay (λd v hd K=>sb.extBut d v (λz'=>?_) K) (λd K=>by rw[zAX (b2 K)];exact K) (λd ws K=>by rw[zAX (b2 K)];exact K) λd ob u K _=>by rw[zAX (b2 K)];exact K
      rcases hd with hd | hd
      .rw [<- hd,z',HC] at q;cases q
      .rw [z',HC] at hd;cases hd
    .obtain ⟨f0,f1,j5,f3,f4,f5⟩:=f2 b a;exact⟨f3,f1,f4,f5⟩
   .rw [zAX (Ne.symm CD)];exact HC
   .obtain ⟨v,w⟩:=M.cell x c q;have:=w.lt;rw[z,<- hD] at this;exact absurd (Nat.lt_trans this (Nat.lt_succ_self D)) (lt_irrefl _)
   .have:=lt_size (M.pin p t).1;rw[z,<- hD] at this;exact absurd (Nat.lt_trans this (Nat.lt_succ_self D)) (lt_irrefl _)
 exact codeAny_compStart_list a1 (T.self X.A 0 _ _ _ c5 a1)
theorem zGn (hcalm:X.calm=true)(hi:GI X tg iter f)(cs:zCd X.env.scope scope)
  (hm:∀ (i:Nat) x,X.N[i]?=some x->ownB scope x=true->i∈ms)
  (hg:∀ s H fp,GG (zAe X (mask (noN X.N) ms X.N++xs) scope s H fp) tg t)
  (hc:∀ s H fp,GCs (zAe X (mask (noN X.N) ms X.N++xs) scope s H fp) ifs c) (he:∀ s H fp,GE (zAe X (mask (noN X.N) ms X.N++xs) scope s H fp) elt e)
         (I:Inv X pins B H s) (ds:DS X.K H S B O) (ez:f O=some zs) (hz:zs.length<=10000) (ey:zC3 t c e zs (mask none ms O++List.replicate xs.length none)=some ys)
  {RR:Value->Addr->Result->Shared->Prop}
  (fin:∀ (D C:Addr) (s1:Shared) (H'':Hp) (m:Str->Option Value),s1.heap.Ns C m->(∀ h',Heap.SameBut C s1.heap h'->Inv X pins B H'' { s1 with heap:=h' })->H'' C=none->C≠X.env.locals->C∉X.fs->X.s0.heap.objs.size<=C ->
   (∀ x c,X.env.cells.lookup x=some c->c≠C)->(∀ p∈X.pn++pins,p.1≠C)->Same H H''->RV X.K H H'' S (.lst ys,.fr) (.ref D)->RR (.ref D) C (.ok .next) s1) :
  wpAny (model X.prog X.w) X.A (eval iter X.env) (λx O2=>wpAny (model X.prog X.w) X.A (pyIter x) (λit O9=>wpAny (model X.prog X.w) X.A (newList []) (λacc Y3 =>
   wpAny (model X.prog X.w) X.A (newFunctionEnv scope X.env.globals (zB7 X.env scope.names []) [] X.env.qual none .none (some X.env)) (λcenv Y5 =>
    codeAny (model X.prog X.w) X.A (.compStart (.ListComp elt [⟨tg,iter,ifs,0⟩] scope pos) 0 it acc { cenv with scope:=relabel scope X.env }) (RR acc cenv.locals) Y5) X.xe Y3) X.xe O9) X.xe O2) X.xe s:=by
 obtain⟨wi,hwi,hI⟩:=hi;refine zIU hcalm hwi cs hm I (L:=λJ H2 n i B' H' vs=>(Same H H2/\∀ (i:Nat) H3,i<=zs.length->Same (hide H2 S) H3->(i=zs.length->J.stop i H3)/\(i < zs.length->J.go i H3/\∀ v H4,J.yld i H3 v H4->H4=H3/\∀ x,zs[i]?=some x->Den X.K (hide H2 S) x v)) /\
   ∃ (O1:Dst) (done more:List DL.D),DS X.K H' S B' O1/\Same H2 H'/\DenL X.K (hide H' S) done vs/\zC3 t c e (zs.drop i) O1=some more/\done++more=ys/\i<=zs.length/\done.length<=i/\n=zs.length - i) (Z:=λH2 H' vs=>Same H H2/\Same H2 H'/\DenL X.K (hide H' S) ys vs)
  (hI B H S O zs _ ds ez λJ H1 s1 hJ=>⟨_,⟨s1,hJ⟩,_,[],ys,(ds.mono s1).ext ms xs.length,Same.refl _,.nil,by rw[List.drop_zero];exact ey,rfl,zero_le _,le_refl _,rfl⟩) (λ{J H2 n i B' H' vs} ll=>?_) (λ{J H2 n i B' H' vs} s3 fp ll=>?_) λD C s1 H'' m h1 h2 h3 h4 h5 h6 h7 h8 ll=>?_
 .obtain ⟨_,O1,done,more,_,_,dn,_,_,hi',hl',_⟩:=ll;rw[<- dn.length];exact le_trans hl' (le_trans hi' hz)
 .obtain ⟨⟨s12,hJ⟩,O1,done,more,ds',sm,dn,ec,ed,hi',hl',rfl⟩:=ll;obtain⟨j1,j2⟩:=hJ i H' hi' (zAo.trans sm);by_cases hlt:i < zs.length
  case neg =>
   rw[drop_eq_nil_of_le (by omega)] at ec;cases ec;rw[append_nil] at ed;exact .inl ⟨j1 (by omega),s12,sm,ed▸dn⟩
  obtain⟨go,yl⟩:=j2 hlt;refine .inr ⟨zs.length - (i+1),by omega,go,λx H5 y5=>?_⟩;obtain⟨rfl,hv⟩:=yl x H5 y5;refine⟨rfl,λY eY pn s5 u E I5 r5=>?_⟩;subst eY;rw[List.drop_eq_getElem_cons hlt] at ec;obtain⟨O6,e1,ec⟩:=bind_some ec;obtain⟨b,eb,ec⟩:=bind_some ec;obtain⟨g,hg1,hg2⟩:=hg s3 H2 fp;have dx:Den X.K (hide H5 S) zs[i] x:=(hv _ (by simp[hlt])).mono (zAW sm);refine wpAny_mono (hg1 pn s5 B' H5 x u _ I5 r5 (hg2 X.K rfl zs[i] x B' H5 S O1 O6 (λB6 H6=>H6=H5/\DS X.K H5 S B6 O6) ds' dx e1 λB6 d6=>⟨rfl,d6⟩)) (λ_ s6 zz72=>?_) λ_ _ z=>z.elim
  obtain⟨B6,H6,I6,q6,ds6⟩:=zz72;subst q6;refine wpAny_mono (hc s3 H2 fp pn s6 B6 H6 (λb' H7=>b'=b/\Same H6 H7) I6 ⟨S,O6,b,ds6,eb,λH7 s7=>⟨rfl,s7⟩⟩) (λok s7 zz73=>?_) λ_ _ z=>z.elim
  obtain⟨H7,I7,q7,s67⟩:=zz73;subst q7;cases ok with
  | false =>
   rw[if_neg qY] at ec ⊢;exact⟨B6,H7,I7,⟨s12,hJ⟩,O6,done,more,ds6.mono s67,sm.trans s67,dn.mono (zAW s67),ec,ed,hlt,Nat.le_succ_of_le hl',rfl⟩
  | true =>
   rw[if_pos rfl] at ec ⊢;obtain⟨r,er,ec⟩:=bind_some ec;by_cases hr:r.2=.dt
   .rw [if_pos hr] at ec;cases ec
   rw[if_neg hr] at ec;obtain⟨more',em,ec⟩:=bind_some ec;cases ec;refine wpAny_mono (he s3 H2 fp pn s7 B6 H7 (λv H8=>Same H7 H8/\RV X.K H7 H8 S r v) I7 ⟨S,O6,r,ds6.mono s67,er,λv H8 s8 r8=>⟨s8,r8⟩⟩) (λuv s8 zz74=>?_) λ_ _ z=>z.elim
   obtain⟨v,H8,I8,rv8,s78,r8⟩:=zz74;exact⟨v,B6,H8,I8,rv8,⟨s12,hJ⟩,O6,done++[r.1],more',ds6.mono (s67.trans s78),sm.trans (s67.trans s78),(dn.mono (zAW (s67.trans s78))).append (.cons (RV.den (d:=r.1) (k:=r.2) r8 hr) .nil),em,by rw[q0];exact ed,hlt,by rw[qQ,length_singleton];omega,rfl⟩
 .obtain ⟨H2,H',vs,⟨s12,sm,dn⟩,H2D,HD,rfl⟩:=ll;have neD:∀ {b:Addr} {o:HO},H' b=some o->b≠D:=λ{b o} q z=>by rw[z,HD] at q;cases q
  refine fin D C s1 _ m h1 h2 h3 h4 h5 h6 h7 h8 (λb o q=>?_) ⟨D,vs,ys,rfl,rfl,λz=>?_,s12.free H2D,zAc,dn.mono λb o q=>?_⟩
  .have w:=sm b o (s12 b o q);rw[zAX (neD w)];exact w
  .obtain ⟨ws,w,_⟩:=(ds.mono s12).sok D z;rw[H2D] at w;cases w
  .obtain ⟨q1,q2⟩:=zA5 q;rw[zAV λz=>(mem_cons.mp z).elim (neD q2) q1,zAX (neD q2)];exact q2
def zCz (cs:zCd sc scope):∀ x∈scope.names,x.2=.local->scope.names.lookup x.1=some .local:=λx a e=>by
 have:=zCw cs.nd a
 simp_all
def zK5 (a:X.calm=true)(o:GI X tg iter f)(v:∀ x,foldedSetIterable iter X.env x=pure x)(cs:zCd X.env.scope scope)
  (n:∀ (i:Nat) x,X.N[i]?=some x->ownB scope x=true->i∈ms)
  (q:∀ s H fp,GG (zAe X (mask (noN X.N) ms X.N++xs) scope s H fp) tg t)
  (h:∀ s H fp,GCs (zAe X (mask (noN X.N) ms X.N++xs) scope s H fp) ifs c) (u:∀ s H fp,GE (zAe X (mask (noN X.N) ms X.N++xs) scope s H fp) elt e) :
  GE X (.ListComp elt [⟨tg,iter,ifs,0⟩] scope pos) (zJI ms xs.length f t c e):=by
 intro g s B H Q I ⟨S,O,z,w,b,y⟩;obtain⟨l,F,b⟩:=bind_some b;by_cases hz:l.length<=10000
 .rw [if_pos hz] at b;obtain⟨G,A,b⟩:=bind_some b;cases b;refine wpAny_comprehension_free (use:=none) rfl v (zBk (zEl I cs)) cs.kind (zCz cs) ?_;refine zGn a o cs n q h u I w F hz A λD C K d m k j _ _ _ _ _ _ p E=>?_
  exact⟨m,k,λh' r=>⟨.ref D,d,j h' r,rfl,y _ d p E⟩⟩
 .simp_all
def zQA (d:X.calm=true)(W:GI X tg iter f)(N:∀ x,foldedSetIterable iter X.env x=pure x)(cs:zCd X.env.scope scope)
  (U:∀ (i:Nat) x,X.N[i]?=some x->ownB scope x=true->i∈ms)
  (hg:∀ s H fp,GG (zAe X (mask (noN X.N) ms X.N++xs) scope s H fp) tg t)
  (Y:∀ s H fp,GCs (zAe X (mask (noN X.N) ms X.N++xs) scope s H fp) ifs c) (T:∀ s H fp,GE (zAe X (mask (noN X.N) ms X.N++xs) scope s H fp) elt e)
  (R:X.N.Nodup) (hy:X.N[i]?=some y) (hl:Loc X.env.scope y) (hf:X.fn y=true\/X.env.scope.names.lookup y=some .local) :
  GS X (.Assign [.Name y py] (.ListComp elt [⟨tg,iter,ifs,0⟩] scope pos) spos) (setD i (zJI ms xs.length f t c e)):=by
 have M:GE X (.ListComp elt [⟨tg,iter,ifs,0⟩] scope pos) (zJI ms xs.length f t c e):=zK5 d W N cs U hg Y T;have h:∃ b,swapsWith (.ListComp elt [⟨tg,iter,ifs,0⟩] scope pos) (some (.Name y py)) spos.line X.env=pure b:=⟨_,rfl⟩;obtain⟨b,h⟩:=h;cases b with
 | false=>exact zOX R hy hl M h hf
 | true =>
  intro H0 a s B H E I ⟨S,O,o,V,h0,K,p⟩;obtain⟨r,er,K⟩:=bind_some K;obtain⟨zs,e1,j⟩:=bind_some er;by_cases hz:zs.length<=10000
  .rw [if_pos hz] at j;obtain⟨ys,e2,j⟩:=bind_some j;cases j;rw[exec_Assign_Name_used _ _ _ _ h];refine qX (wpAny_standAt (qX ?_));refine qX (wpAny_mono (wpAny_comprehension_free (use:=some (assign (.Name y py) X.env)) (Q:=λ_ v=>SP X a E .next v) rfl N (zBk (zEl I cs)) cs.kind (zCz cs) ?_) (λ_ v hq=>q9 (q9 hq)) λ_ _ e=>e);refine zGn (RR:=λacc C=>compPost (model X.prog X.w) X.A X.xe (some (assign (.Name y py) X.env)) (λ_ v=>SP X a E .next v) acc C) d W cs U hg Y T I V e1 hz e2 λD C n g m ns hI l k L J F G sm rv=>?_
   have P:Inv X a B g n:=hI n.heap (Heap.SameBut.refl ..);obtain⟨w,es,ep,ho,Z,w3⟩:=id ns;have I2:Inv X (a++[(C,w)]) B g n:=P.pins_of λq hq=>(mem_append.mp hq).elim (λz=>P.pin q (xq _ z)) λz=>by
    have e:q=(C,w):=by simpa using z
    subst e;exact⟨ho,l,k,L,λv z=>by rw[Z] at z;cases z⟩
   show wpAny (model X.prog X.w) X.A (assign (.Name y py) X.env (.ref D)) _ X.xe n;refine thn (zFo R hy hl hf _ n B g (.ref D) (.ref D) (λB6 A=>A=g/\B6=B.set i (some (.ref D))) I2 rfl ⟨rfl,rfl⟩) λ_ s6 u=>?_
   obtain⟨B6,A,I6,q1,q2⟩:=u;subst q1 q2;have pc:=I6.pin (C,w) (xq _ (xq _ (by simp)));refine⟨m,⟨w,es,ep,pc.1,Z,w3⟩,λh' sb=>?_⟩;refine⟨_,A,I6.unpinned.turned (it:=C) (t':=s6.toks) (λb o h q=>sb.extBut b o h q) l (Ne.symm (Ne.symm k)) (.inr J) F G,?_⟩;exact zEz V h0 sm rv K p
  .rw [if_neg hz] at j;cases j
end
section
variable {X:Cx}{tg:Expr}
def iAny (K:W.Frag)(tl:TE):TI:=λB H R=>tl B H λx H1=>∃ a,x=.ref a/\(((∃ xs,SqL K H1 a xs)/\R (Itl K a) H1)\/((∃ xs,SqT K H1 a xs)/\R (Itt K a) H1))
def zOI (m:PE X l tl):PI X tg l (iAny X.K tl):=by
 intro g s B H R I h;refine thn (m g s B H _ I h) λv d f=>?_
 obtain⟨x,k,c,r1,n⟩:=f;obtain⟨a,e,q⟩:=n;subst e;cases r1;rcases q with ⟨⟨r,hq⟩,q⟩ | ⟨⟨r,hq⟩,q⟩
 .obtain ⟨j,u,p,t⟩:=c.list hq;refine wpAny_pyIter_list p.isList ?_;refine⟨d.heap.objs.size,[d.heap.objs.size],_,_,k,rfl,c.kept λb o e=>get?_push_of_some _ e,zJV a _,⟨_,get?_push_size _ rfl,rfl,rfl⟩,λb i=>?_,q⟩;have e:b=d.heap.objs.size:=by simpa using i
  subst e;exact c.fpOk (le_refl _) (c.hok.fresh (le_refl _))
 .obtain ⟨j,u,p,t⟩:=c.tuple hq;refine wpAny_pyIter_tuple p ?_;refine⟨d.heap.objs.size,[d.heap.objs.size],_,_,k,rfl,c.kept λb o e=>get?_push_of_some _ e,zIi a _,⟨_,get?_push_size _ rfl,rfl,rfl⟩,λb i=>?_,q⟩;have e:b=d.heap.objs.size:=by simpa using i
  subst e;exact c.fpOk (le_refl _) (c.hok.fresh (le_refl _))
noncomputable def zGe (f:Dst->Option R):Dst->Option (List D):=λO=>match f O with
 | some (.lst ds,.cl)=>some ds
 | some (.lst ds,.fr)=>some ds
 | some (.tup ds,.cl)=>some ds
 | _=>none
def zSt (h:GE X iter f):GI X tg iter (zGe f):=by
 refine⟨_,zOI h,λB H S O s F z e q=>?_⟩;have m:∀ {k:Kd},k≠.dt->f O=some (.lst s,k)->iAny X.K (gT X.K f) B H F:=λ{k} E I=>by
  refine⟨S,O,_,z,I,λv o t r1=>?_⟩;have d1:=RV.den (d:=.lst s) (k:=k) r1 E;rw[Den] at d1;obtain⟨a,b,rfl,n,j⟩:=d1;refine⟨a,rfl,.inl ⟨⟨b,zAo.seq n⟩,q _ o t λi A C p=>?_⟩⟩;have g:=p.seq n;refine⟨λei=>⟨b,g,by rw[<- j.length,ei];exact le_refl _⟩,λhl=>?_⟩;have l:i < b.length:=by rw[<- j.length];exact hl
  refine⟨⟨b,b[i],g,by simp[l]⟩,λv G y=>⟨y.1,λx r=>?_⟩⟩;have w:=y.2 b g;obtain⟨u,c,x⟩:=j.get r
  simp_all
 unfold zGe at e;split at e
 .rename_i c;cases e;exact m (by decide) c
 .rename_i c;cases e;exact m (by decide) c
 .rename_i c;cases e;refine⟨S,O,_,z,c,λv o t r1=>?_⟩;have d1:Den X.K (hide o S) (.tup s) v:=r1;rw[Den] at d1;obtain⟨a,b,rfl,n,j⟩:=d1;refine⟨a,rfl,.inr ⟨⟨b,Same.tupS zAo n⟩,q _ o t λi A C p=>?_⟩⟩;have g:=Same.tupS p n;refine⟨λei=>⟨b,g,by rw[<- j.length,ei];exact le_refl _⟩,λhl=>?_⟩;have l:i < b.length:=by rw[<- j.length];exact hl
  refine⟨⟨b,b[i],g,by simp[l]⟩,λv G y=>⟨y.1,λx r=>?_⟩⟩;have w:=y.2 b g;obtain⟨u,c,x⟩:=j.get r;rw[w] at c;cases c;exact x
 .cases e
noncomputable def Itr3 (lo c:Int)(n:Nat):It:=⟨λi _=>i < n,λi H x H'=>H'=H/\x=.int (lo+i*c),λi _=>n<=i⟩
def zG5 {P:Program}{w:World}{K:W.Frag}{F:Expr}(it:Addr)(l c:Int)(n:Nat):Turn P w K F (Itr3 l c n) [it] it (λi h=>IsRangeIter h it (l+(i:Nat)*c) ((n:Int) - (i:Nat)) c) where
 mem:=by simp
 obj:=λi h d b f=>by
  simp_all
 keep:=λi h C d k=>k it (by simp) _ d
 item:=by
  intro X x q v p i a s B H E I j d A;subst x q v;obtain⟨u,m,G,r,z,y⟩:=j it (by simp);have W:=Walks.range (prog:=X.prog) (w:=X.w) (I.ok.hd p) it l c n;refine W.item i s _ _ A d λv C D L g J=>?_
  obtain⟨t,rfl⟩:=L;have M:Inv X a B H { s with heap:=C,toks:=D }:=I.turned (λb o f e=>J b o (by simpa using f) e) u m r z y;exact⟨_,rfl,zNF (s:={ s with heap:=C,toks:=D }) (n := "range_iterator") g rfl rfl (by decide) ⟨.int (l+i*c),H,M,⟨t,rfl⟩,⟨rfl,rfl⟩,g,λb f=>(j b f).1⟩⟩
 done:=by
  intro X x q v p i a s B H E I j d A;subst x q v;obtain⟨u,m,G,r,z,y⟩:=j it (by simp);exact wpAny_pyNext_range_end (I.ok.hd p) d (by have:n<=i:=A;omega) λh' N=>⟨rfl,I.turned (t':=s.toks) (λb o f e=>N b o f e) u m r z y⟩
 self:=λ_ _ _ _ _ d h=>wpAny_pyIter_rangeiter d h
def zG9 (a b c:Int)(d:c≠0):0<=Builtin.Range.rangeSize a b c:=by
 unfold Builtin.Range.rangeSize;split
 .split
  .have:=Int.ediv_nonneg (a:=b - a - 1) (b:=c) (by omega) (by omega);omega
  .simp
 .split
  .have:=Int.ediv_nonneg (a:=a - b - 1) (b:=-c) (by omega) (by omega);omega
  .simp
def ROk (a b c:Int):Prop:=c≠0/\c.natAbs < 1073741824/\Builtin.Range.small a b c=true
noncomputable instance (a b c:Int):Decidable (ROk a b c):=by unfold ROk;exact inferInstance
theorem zJz {R:It->Hp->Prop}{lo:Int}(I:Inv X pins B H s)(ok:ROk lo hi c)
  (q:R (Itr3 lo c (Builtin.Range.rangeSize lo hi c).toNat) H):wpAny (model X.prog X.w) X.A (pyIter (.ref s.heap.objs.size)) (PIE X pins B tg R) E { s with heap:=s.heap.push { cls:=.type "range",data:=.fields #[.int lo t,.int hi u,.int c v] },toks:=tk }:=by
 refine wpAny_pyIter_range (IsRange.new ..) ok.2.2 ?_;have I1:Inv X pins B H { s with heap:=s.heap.push { cls:=.type "range",data:=.fields #[.int lo t,.int hi u,.int c v] },toks:=tk }:=I.kept λb o e=>get?_push_of_some _ e
 refine⟨(s.heap.push { cls:=.type "range",data:=.fields #[.int lo t,.int hi u,.int c v] }).objs.size,[(s.heap.push { cls:=.type "range",data:=.fields #[.int lo t,.int hi u,.int c v] }).objs.size],_,_,H,rfl,
  I1.kept λb o e=>get?_push_of_some _ e,zG5 _ lo c (Builtin.Range.rangeSize lo hi c).toNat,?_,λb hb=>?_,q⟩
 .have e1:lo+((0:Nat):Int)*c=lo:=by simp
  have e2:(((Builtin.Range.rangeSize lo hi c).toNat:Nat):Int) - ((0:Nat):Int)=Builtin.Range.rangeSize lo hi c:=by have:=zG9 lo hi c ok.1;omega
  rw[e1,e2];exact get?_push_size _ rfl
 .have e:b=(s.heap.push { cls:=.type "range",data:=.fields #[.int lo t,.int hi u,.int c v] }).objs.size:=by simpa using hb
  subst e;exact I1.fpOk (le_refl _) (I1.hok.fresh (le_refl _))
def zUX (ta:TA):TI:=λB H R=>ta B H λvs H1=>∃ i j c:Int,vs=[.int i,.int j,.int c]/\ROk i j c/\R (Itr3 i c (Builtin.Range.rangeSize i j c).toNat) H1
def zJ5 (o:Gl X "range")(x:X.mg "range"=none)(u:PA X [a,b,c] ta)(n:starEach [a,b,c] X.env=[(false,eval a X.env),(false,eval b X.env),(false,eval c X.env)])(d:starEach [b,c] X.env=[(false,eval b X.env),(false,eval c X.env)]) :
  PI X tg (.Call (.Name "range" p) [a,b,c] [] pos) (zUX ta):=by
 intro l s B H R I h;refine Call_ (zC7 I o x boot_range (PyProof.Rows.callWith_type1 (thn (u pos l s B H _ I h) λus D f=>?_) (by rw[n,d]) (by rw[d];rfl)));obtain⟨E,A,z,r1,y⟩:=f;obtain⟨i,j,k,e,ok,q⟩:=y;subst e;cases r1 with
 | cons r g =>
  cases g with
  | cons w g =>
   cases g with
   | cons m g =>
    cases g;obtain⟨t,rfl⟩:=r;obtain⟨C,rfl⟩:=w;obtain⟨v,rfl⟩:=m;exact call_range_3 ok.1 (zJz z ok q) (.inl (PyProof.noPylong_small ok.2.1))
noncomputable def rngS (lo c:Int)(n:Nat):List D:=(List.range n).map λ(k:Nat)=>D.int (lo+k*c)
theorem zIp {K:W.Frag}{lo:Int}(i:Nat)(H2:Hp)(hi:i<=(rngS lo c n).length):(i=(rngS lo c n).length->(Itr3 lo c n).stop i H2)/\(i < (rngS lo c n).length->(Itr3 lo c n).go i H2/\∀ v H3,(Itr3 lo c n).yld i H2 v H3->H3=H2/\∀ x,(rngS lo c n)[i]?=some x->Den K (hide H1 S) x v):=by
 have hl:(rngS lo c n).length=n:=by unfold rngS;simp
 refine⟨λe=>by rw[hl] at e;exact Nat.le_of_eq e.symm,λh=>⟨by rw[hl] at h;exact h,λv H3 y=>⟨y.1,λx ex=>?_⟩⟩⟩;rw[hl] at h;have:(rngS lo c n)[i]?=some (D.int (lo+i*c)):=by unfold rngS;simp[h]
 rw[this] at ex;cases ex;exact y.2
noncomputable def zJs (f g h:Dst->Option R):Dst->Option (List D):=λO=>match f O,g O,h O with
 | some (.int i,_),some (.int j,_),some (.int c,_)=>if ROk i j c then some (rngS i c (Builtin.Range.rangeSize i j c).toNat) else none
 | _,_,_=>none
def zK0 (x:Gl X "range")(A:X.mg "range"=none)(z:GE X a f)(w:GE X b g)(u:GE X c h)(B:starEach [a,b,c] X.env=(false,eval a X.env)::starEach [b,c] X.env)(l:starEach [b,c] X.env=(false,eval b X.env)::starEach [c] X.env)(d:starEach [c] X.env=[(false,eval c X.env)]) :
  GI X tg (.Call (.Name "range" p) [a,b,c] [] pos) (zJs f g h):=by
 refine⟨_,zJ5 x A (zAj z (zAj w (zAj u zBE d) l) B) (by simp_all) (by rw[l,d]),λB H S O I K n e q=>?_⟩;unfold zJs at e;split at e
 .rename_i i k j G o F E t y;by_cases hj:ROk i j o
  .rw [if_pos hj] at e;cases e;exact⟨S,O,_,n,E,λv J m r1=>⟨S,O,_,n.mono m,t,λu r s r2=>⟨S,O,_,n.mono (m.trans s),y,λu3 C D r3=>⟨i,j,o,by rw[r1.rd.int,r2.rd.int,r3.rd.int],hj,q _ C (m.trans (s.trans D)) λi r v _=>zIp i r v⟩⟩⟩⟩
  .simp_all
 .cases e
end
end DL
end
section
namespace DL
open PySem
abbrev zCs (h:Heap) (z TI TO:Addr) (f0 f1:Value):Prop :=
 h.get? z=some { cls:=.type "zip",dict:=none,data:=.fields #[f0,f1,.bool false,.ref TI,.ref TO],slots:=#[] }
section
variable {prog:Program}{w:World}{A:Around}{E:Value->Shared->Prop}{s:Shared}
def zMH (h:Q (s.heap.get? a) s):wpAny M A (loadIfAlive a) Q E s:=λJ p b=>by
 assumption
def zE4 {T:Addr}(hz:zCs s.heap z TI TO (rawInt T) (.bool f1))(c:s.heap.get? T=some oT)
  (b:∀ h' f1',zCs h' z TI TO (rawInt T) (.bool f1')->Heap.SameBut z s.heap h'->Q false { s with heap:=h' }) :
  wpAny (model prog w) A (Builtin.SmallTypes.ownedTupleIsFree (.ref z)) Q E s:=by
 refine qX (wpAny_field hz rfl (x:=rawInt T) rfl ?_);refine qX (zMH ?_);rw[toNat_natCast,c];refine qX (wpAny_field hz rfl (x:=.bool f1) rfl ?_);cases f1 with
 | true =>
  have e:((Value.bool true) != .bool true)=false:=by simp
  rw[e];exact q9 (b s.heap true hz (Heap.SameBut.refl ..))
 | false =>
  have e:((Value.bool false) != .bool true)=true:=by simp
  rw[e];simp only[if_true];refine qX (wpAny_setField_rec hz (by simp) λO8 a d=>?_);exact q9 (b O8 true a d)
def zFY {T:Addr}{Q:Value->Shared->Prop}(D:ZipApart z TI TO i1 i2 l1 l2)
  (hz:zCs s.heap z TI TO (rawInt T) (.bool f1)) (r:s.heap.get? T=some oT) (g:IsPair s.heap TI (.ref i1) (.ref i2))
  (h1:s.heap.IsListIter i1 l1 k1) (h2:s.heap.IsListIter i2 l2 k2) (k:s.heap.IsList l1 xs) (j:s.heap.IsList l2 ys) (q:xs[k1]?=some x) (u:ys[k2]?=some y)
  (C:∀ h' f1',zCs h' z TI TO (rawInt T) (.bool f1')->h'.IsListIter i1 l1 (k1+1)->h'.IsListIter i2 l2 (k2+1)->IsPair h' s.heap.objs.size x y->h'.objs.size=s.heap.objs.size+1 ->
   (∀ c o,c≠z->c≠i1->c≠i2->s.heap.get? c=some o->h'.get? c=some o)->Q (.ref s.heap.objs.size) { s with heap:=h' }) :
  wpAny (model prog w) A (Builtin.«zip.__next__» ⟨[.ref z],[]⟩) (λfin s'=>∃ v,fin=.done (.ret v)/\Q v s') E s:=by
 show wpAny _ _ (field (.ref z) 2>>=_) _ _ _;refine qX (wpAny_field hz rfl (x:=.bool false) rfl ?_);show wpAny _ _ (field (.ref z) 3>>=_) _ _ _;refine qX (wpAny_field hz rfl (x:=.ref TI) rfl ?_);refine qX (wpAny_seqItems g rfl ?_);show wpAny _ _ (Builtin.SmallTypes.ownedTupleIsFree (.ref z)>>=_) _ _ _;refine qX (zE4 hz r λO8 f1' i b=>?_);simp only[Bool.false_eq_true,if_false];refine qX ?_;simp only[<- Array.forIn_toList,forIn_cons,List.forIn_nil];refine qX (qX (wpAny_holding ?_));show wpAny _ _ (Builtin.SmallTypes.nextOf (.ref i1)>>=_) _ _ _;refine qX (wpAny_nextOf_list_item (h1.extBut b.extBut D.i1z) (k.extBut b.extBut D.l1z) q λZ1 t d=>q9 ?_);refine q9 ?_;refine qX (qX (wpAny_holding ?_));show wpAny _ _ (Builtin.SmallTypes.nextOf (.ref i2)>>=_) _ _ _;refine qX (wpAny_nextOf_list_item ((h2.extBut b.extBut D.i2z).extBut d.extBut D.i12.symm) ((j.extBut b.extBut D.l2z).extBut d.extBut D.l2i1) u λZ2 m f=>q9 ?_);refine q9 (q9 ?_);refine qX (wpAny_newTuple ?_ (show 2<=sizeLine by decide));have a:Z2.objs.size=s.heap.objs.size:=by rw[f.1,d.1,b.1]
 have h:zCs Z2 z TI TO (rawInt T) (.bool f1'):=f.extBut _ _ D.i2z.symm (d.extBut _ _ D.i1z.symm i);refine q9 ⟨_,rfl,?_⟩;show Q (.ref Z2.objs.size) _;rw[a];refine C _ f1' (get?_push_of_some _ h) ((t.extBut f.extBut D.i12).at λo e=>get?_push_of_some _ e) (m.at λo e=>get?_push_of_some _ e) ?_ (by rw[Heap.size_push,a]) λc o p n B e=>get?_push_of_some _ (f.extBut _ _ B (d.extBut _ _ n (b.extBut _ _ p e)))
 rw[<- a];exact get?_push_size _ rfl
def zFX {T:Addr}{k2:Nat}{ys:Array Value}(g:A.handled=none)(D:ZipApart z TI TO i1 i2 l1 l2)
  (hz:zCs s.heap z TI TO (rawInt T) (.bool f1)) (k:s.heap.get? T=some oT) (d:IsPair s.heap TI (.ref i1) (.ref i2))
  (h1:s.heap.IsListIter i1 l1 k1) (f:s.heap.IsList l1 xs) (a:xs[k1]?=none)
  (n:∀ h' e,(∀ c o,c≠z->c≠i1->s.heap.get? c=some o->h'.get? c=some o)->(∃ o,h'.get? e=some o/\o.cls=.type "StopIteration")->E (.ref e) { s with heap:=h' }) :
  wpAny (model prog w) A (Builtin.«zip.__next__» ⟨[.ref z],[]⟩) Q E s:=by
 show wpAny _ _ (field (.ref z) 2>>=_) _ _ _;refine qX (wpAny_field hz rfl (x:=.bool false) rfl ?_);show wpAny _ _ (field (.ref z) 3>>=_) _ _ _;refine qX (wpAny_field hz rfl (x:=.ref TI) rfl ?_);refine qX (wpAny_seqItems d rfl ?_);show wpAny _ _ (Builtin.SmallTypes.ownedTupleIsFree (.ref z)>>=_) _ _ _;refine qX (zE4 hz k λO8 l m b=>?_);simp only[Bool.false_eq_true,if_false];refine qX ?_;simp only[<- Array.forIn_toList,forIn_cons,List.forIn_nil];refine qX (qX (wpAny_holding ?_));show wpAny _ _ (Builtin.SmallTypes.nextOf (.ref i1)>>=_) _ _ _;refine qX (wpAny_nextOf_list_end g (h1.extBut b.extBut D.i1z) (f.extBut b.extBut D.l1z) a λZ1 e p j=>?_);exact n Z1 e (λc o h i x=>p _ _ i (b.extBut _ _ h x)) j
def zKS {T:Addr}(D:ZipApart z TI TO i1 i2 l1 l2)
  (hz:zCs s.heap z TI TO (rawInt T) (.bool f1)) (f:s.heap.get? T=some oT) (d:IsPair s.heap TI (.ref i1) (.ref i2))
  (h1:s.heap.IsListIter i1 l1 k1) (h2:s.heap.IsListIter i2 l2 k2) (e:s.heap.IsList l1 xs) (b:s.heap.IsList l2 ys) (q:xs[k1]?=some x) (p:ys[k2]?=some y)
  (n:∀ h' f1',zCs h' z TI TO (rawInt T) (.bool f1')->h'.IsListIter i1 l1 (k1+1)->h'.IsListIter i2 l2 (k2+1)->IsPair h' s.heap.objs.size x y->h'.objs.size=s.heap.objs.size+1 ->
   (∀ c o,c≠z->c≠i1->c≠i2->s.heap.get? c=some o->h'.get? c=some o)->Q (some (.ref s.heap.objs.size)) { s with heap:=h' }) :
  wpAny (model prog w) A (pyNext (.ref z)) Q E s:=by
 have a:s.TypeIs (.ref z) "zip":=⟨_,hz,rfl⟩;exact qX (wpAny_attempt (wpAny_callSpecial?_slot a F.slot_zip_next
  (wpAny_call_entry F.slot_zip_next a F.entry_zip_next
   (zFY D hz f d h1 h2 e b q p λh' k j g i h l m=>q9 (n h' k j g i h l m)) (F.args_zip_next_1 _))))
def zKR {T:Addr}{k2:Nat}{ys:Array Value}(g:A.handled=none)(D:ZipApart z TI TO i1 i2 l1 l2)
  (hz:zCs s.heap z TI TO (rawInt T) (.bool f1)) (l:s.heap.get? T=some oT) (d:IsPair s.heap TI (.ref i1) (.ref i2))
  (h1:s.heap.IsListIter i1 l1 k1) (f:s.heap.IsList l1 xs) (a:xs[k1]?=none)
  (k:∀ h',(∀ c o,c≠z->c≠i1->s.heap.get? c=some o->h'.get? c=some o)->Q none { s with heap:=h' }):wpAny (model prog w) A (pyNext (.ref z)) Q E s:=by
 have b:s.TypeIs (.ref z) "zip":=⟨_,hz,rfl⟩;refine qX (wpAny_attempt (wpAny_callSpecial?_slot b F.slot_zip_next
  (wpAny_call_entry F.slot_zip_next b F.entry_zip_next (zFX (k2:=k2) (ys:=ys) g D hz l d h1 f a λh' e m i=>?_) (F.args_zip_next_1 _))))
 obtain⟨o,h,j⟩:=i;refine qX (wpAny_isInstance ⟨o,h,j⟩ isSubtype_stop ?_);exact q9 (k _ m)
end
def zIh:typeLookup (.type "zip") "__len__"=pure none:=by rw[typeLookup_type];kernel_rfl
def zG3:typeLookup (.type "zip") "__length_hint__"=pure none:=by rw[typeLookup_type];kernel_rfl
noncomputable def zCK (S n:Nat):Array Value:=((List.range n).map λk=>Value.ref (S+1+k)).toArray
def zGH (S n:Nat):(zCK S n).push (.ref (S+1+n))=zCK S (n+1):=by
 unfold zCK;rw[range_succ];simp
def zDw (S n:Nat):(zCK S n).size=n:=by unfold zCK;simp
structure ZJ (s:Shared)(S z TI TO i1 i2 l1 l2:Nat)(xs ys:Array Value)(i:Nat)(s':Shared):Prop where
 same:∃ h',s'={ s with heap:=h' }
 size:s'.heap.objs.size=S+1+i
 lst:∃ c,s'.heap.get? S=some { cls:=.type "list",dict:=none,data:=.seq (zCK S i) c,slots:=#[] }
 zip:(i=0/\IsZip s'.heap z TI TO .none)\/(0 < i/\∃ f1,zCs s'.heap z TI TO (rawInt (S+1:Nat)) (.bool f1))
 ti:IsPair s'.heap TI (.ref i1) (.ref i2)
 tO:∃ a b,IsPair s'.heap TO a b
 it1:s'.heap.IsListIter i1 l1 i
 it2:s'.heap.IsListIter i2 l2 i
 ls1:s'.heap.IsList l1 xs
 ls2:s'.heap.IsList l2 ys
 tup:∀ k x y,k < i->xs[k]?=some x->ys[k]?=some y->IsPair s'.heap (S+1+k) x y
 keep:∀ (c:Nat) o,c≠z->c≠TO->c≠i1->c≠i2->s.heap.get? c=some o->s'.heap.get? c=some o
structure ZEnd (s:Shared)(S z TO i1 i2:Nat)(xs ys:Array Value)(s':Shared):Prop where
 same:∃ h',s'={ s with heap:=h' }
 lst:∃ c,s'.heap.get? S=some { cls:=.type "list",dict:=none,data:=.seq (zCK S xs.size) c,slots:=#[] }
 tup:∀ k x y,xs[k]?=some x->ys[k]?=some y->IsPair s'.heap (S+1+k) x y
 keep:∀ (c:Nat) o,c≠z->c≠TO->c≠i1->c≠i2->s.heap.get? c=some o->s'.heap.get? c=some o
section
variable {prog:Program}{w:World}{A:Around}{E:Value->Shared->Prop}{s:Shared}{R:Result->Shared->Prop}
variable {S z TI TO i1 i2 l1 l2:Nat}{xs ys:Array Value}
def zME (hh:A.in1.handled=none)(D:ZipApart z TI TO i1 i2 l1 l2)(c2:xs.size=ys.size)(hn:xs.size<=10000)(hz:z < S)(e4:TI < S)(e0:TO < S)(d4:i1 < S)(d3:i2 < S)(e6:l1 < S)(d7:l2 < S)(p:s.heap.objs.size<=S)(m:Value)
  (hR:∀ s',ZEnd s S z TO i1 i2 xs ys s'->R (.ok (.ret m)) s') :
  ∀ (k i:Nat) (s':Shared),xs.size - i=k->i<=xs.size->ZJ s S z TI TO i1 i2 l1 l2 xs ys i s'->codeAny (model prog w) A (.builtin "list.extend.loop" ⟨[.ref S,.ref z,m],[]⟩) R s':=by
 intro k
 induction k with
 | zero =>
  intro i s' hk hi J;have T:i=xs.size:=by omega
  subst T;obtain⟨h0,rfl⟩:=J.same;refine codeAny_builtin F.entry_extend_loop ?_;rw[Around.under_plainId F.plain_extend_loop _];show wpAny _ A.in1 (pyNext (.ref z)>>=_) _ _ _;have t:xs[xs.size]?=none:=by simp
  obtain⟨c,hc⟩:=J.lst;obtain⟨ta,tb,r⟩:=J.tO;refine qX ?_;have fin:∀ h',(∀ (c:Nat) o,c≠z->c≠TO->c≠i1->c≠i2->h0.get? c=some o->h'.get? c=some o)->R (.ok (.ret m)) { s with heap:=h' }:=λh' j=>by
   have up:∀ (b:Nat) o,S<=b->h0.get? b=some o->h'.get? b=some o:=λb o hb e=>j b o (by omega) (by omega) (by omega) (by omega) e
   refine hR _ ⟨⟨h',rfl⟩,⟨c,up S _ (le_refl _) hc⟩,λk x y B M=>up _ _ (by omega) (J.tup k x y ?_ B M),λb o b1 b2 b3 b4 e=>j b o b1 b2 b3 b4 (J.keep b o b1 b2 b3 b4 e)⟩;by_cases q:k < xs.size
   .exact q
   .have:xs[k]?=none:=Array.getElem?_eq_none (Nat.le_of_not_lt q);rw[this] at B;cases B
  rcases J.zip with ⟨i0,d⟩ | ⟨ip,O,d⟩
  .exact wpAny_pyNext_zip_end hh D d J.ti r J.it1 J.it2 J.ls1 J.ls2 (.inl t) λh' j=>q9 (fin h' j)
  .have C:∃ x,xs[0]?=some x:=⟨xs[0],by simp[ip]⟩;have u:∃ y,ys[0]?=some y:=⟨ys[0]'(by omega),Array.getElem?_eq_getElem (by omega)⟩;obtain⟨Z,v⟩:=C;obtain⟨y0,E⟩:=u;have L:=J.tup 0 Z y0 ip v E;rw[Nat.add_zero] at L;exact zKR (k2:=0) (ys:=ys) hh D d L J.ti J.it1 J.ls1 t λh' j=>q9 (fin h' λc o c1 _ V _ e=>j c o c1 V e)
 | succ k ih =>
  intro i s' hk hi J;have n:i < xs.size:=by omega
  obtain⟨h0,rfl⟩:=J.same;have B:xs[i]?=some xs[i]:=by simp[n]
  have M:ys[i]?=some (ys[i]'(by omega)):=Array.getElem?_eq_getElem (by omega);refine codeAny_builtin F.entry_extend_loop ?_;rw[Around.under_plainId F.plain_extend_loop _];show wpAny _ A.in1 (pyNext (.ref z)>>=_) _ _ _;obtain⟨c,hc⟩:=J.lst;obtain⟨ta,tb,r⟩:=J.tO;have I:h0.objs.size=S+1+i:=J.size;have go:∀ h',(∀ (c:Nat) o,c≠z->c≠TO->c≠i1->c≠i2->h0.get? c=some o->h'.get? c=some o)->(∃ O,zCs h' z TI TO (rawInt (S+1:Nat)) (.bool O))->(∃ a b,IsPair h' TO a b)->h'.IsListIter i1 l1 (i+1)->h'.IsListIter i2 l2 (i+1) ->
    IsPair h' (S+1+i) xs[i] (ys[i]'(by omega))->h'.objs.size=S+1+i+1 ->
    wpAny (model prog w) A.in1 (updateSeq S (·.push (.ref (S+1+i)))>>=λ_=>again (.builtin "list.extend.loop" ⟨[.ref S,.ref z,m],[]⟩))
     (λfin s'=>match fin with | .done f=>R (.ok f) s' | .again c'=>c'.quiet=true/\codeAny (model prog w) A c' R s') (λe s'=>R (.error e) s') { s with heap:=h' }:=λh' j d l b7 U hp Y=>by
   have up:∀ (b:Nat) o,S<=b->h0.get? b=some o->h'.get? b=some o:=λb o hb e=>j b o (by omega) (by omega) (by omega) (by omega) e
   have N:=up S _ (le_refl _) hc;refine qX ?_;refine wpAny_updateSeq N rfl (q9 ⟨plainId_quiet F.plain_extend_loop _,ih (i+1) _ (by omega) n ?_⟩) (by rw[zDw];exact le_trans (Nat.le_of_lt n) (le_trans hn (by decide))) (by show ((zCK S i).push _).size<=sizeLine+1;rw[Array.size_push,zDw];exact Nat.succ_le_succ (le_trans (Nat.le_of_lt n) (le_trans hn (by decide))));have h:∀ (b:Nat) o,b≠S->h'.get? b=some o->(h'.update S (Obj.mapSeq (·.push (.ref (S+1+i))))).get? b=some o:=λb o hb e=>(Heap.get?_update_other _ _ (Ne.symm hb)).trans e
   obtain⟨O,d⟩:=d;obtain⟨a',b',l⟩:=l;have ql:∃ c,(h'.update S (Obj.mapSeq (·.push (.ref (S+1+i))))).get? S=some { cls:=.type "list",dict:=none,data:=.seq (zCK S (i+1)) c,slots:=#[] }:=⟨_,by
    rw[<- zGH];exact Heap.get?_update_self (Obj.mapSeq (·.push (Value.ref (S+1+i)))) N rfl⟩
   refine⟨⟨_,rfl⟩,?_,ql,.inr ⟨Nat.succ_pos i,O,h _ _ (by omega) d⟩,h _ _ (by omega) (j _ _ D.TIz D.TITO D.TIi1 D.TIi2 J.ti),⟨a',b',h _ _ (by omega) l⟩,b7.at λo e=>h _ o (by omega) e,U.at λo e=>h _ o (by omega) e,
    (J.ls1.at λo e=>j _ o D.l1z D.l1TO D.l1i1 D.l1i2 e).at λo e=>h _ o (by omega) e,(J.ls2.at λo e=>j _ o D.l2z D.l2TO D.l2i1 D.l2i2 e).at λo e=>h _ o (by omega) e,λk x y e7 X W=>?_,λb o b1 b2 b3 b4 e=>?_⟩
   .show (h'.update S _).objs.size=_;rw[Heap.size_update,Y];omega
   .refine h _ _ (by omega) ?_;by_cases q:k < i
    .exact up _ _ (by omega) (J.tup k x y q X W)
    .have:k=i:=by omega
     subst this;rw[B] at X;rw[M] at W;cases X;cases W;exact hp
   .by_cases q:b=S
    .subst q;have:=lt_size e;exact absurd (xQ this p) (lt_irrefl _)
    .exact h b o q (j b o b1 b2 b3 b4 (J.keep b o b1 b2 b3 b4 e))
  refine qX ?_;rcases J.zip with ⟨i0,d⟩ | ⟨ip,O,d⟩
  .subst i0;refine wpAny_pyNext_zip_item D d J.ti r J.it1 J.it2 J.ls1 J.ls2 B M λh' Q a2 a3 a4 H K P=>?_
   have e1:({ s with heap:=h0 }:Shared).heap.objs.size=S+1+0:=I;rw[e1] at Q H K ⊢;exact go h' P ⟨false,Q⟩ ⟨_,_,a2⟩ a3 a4 H K
  .have C:∃ x,xs[0]?=some x:=⟨xs[0]'(by omega),Array.getElem?_eq_getElem (by omega)⟩;have u:∃ y,ys[0]?=some y:=⟨ys[0]'(by omega),Array.getElem?_eq_getElem (by omega)⟩;obtain⟨Z,v⟩:=C;obtain⟨y0,E⟩:=u;have L:=J.tup 0 Z y0 ip v E;rw[Nat.add_zero] at L;refine zKS D d L J.ti J.it1 J.it2 J.ls1 J.ls2 B M λh' f' Q a3 a4 H K P=>?_
   have e1:({ s with heap:=h0 }:Shared).heap.objs.size=S+1+i:=I;rw[e1] at H K ⊢;exact go h' (λc o c1 _ V c4 e=>P c o c1 V c4 e) ⟨f',Q⟩ ⟨ta,tb,P _ _ D.TOz D.TOi1 D.TOi2 r⟩ a3 a4 H K
end
section
variable {prog:Program}{w:World}{A:Around}{E:Value->Shared->Prop}{s:Shared}
variable {z TI TO i1 i2 l1 l2:Nat}{xs ys:Array Value}
def zGA (W:A.handled=none)(D:ZipApart z TI TO i1 i2 l1 l2)(hz:IsZip s.heap z TI TO .none)(p:IsPair s.heap TI (.ref i1) (.ref i2))(m:IsPair s.heap TO a b)(h1:s.heap.IsListIter i1 l1 0)(h2:s.heap.IsListIter i2 l2 0)
  (q:s.heap.IsList l1 xs) (v:s.heap.IsList l2 ys) (B:xs.size=ys.size) (U:xs.size<=10000) (R:∀ s',ZEnd s s.heap.objs.size z TO i1 i2 xs ys s'->Q (.ref s.heap.objs.size) s') :
  wpAny (model prog w) A (call (.type "list") [.ref z]) Q E s:=by
 have l:z < s.heap.objs.size:=lt_size hz;have t:TI < s.heap.objs.size:=lt_size p;have n:TO < s.heap.objs.size:=lt_size m;have N:i1 < s.heap.objs.size:=by obtain⟨o,e,_⟩:=h1;exact lt_size e
 have M:i2 < s.heap.objs.size:=by obtain⟨o,e,_⟩:=h2;exact lt_size e
 have u:l1 < s.heap.objs.size:=by obtain⟨o,e,_⟩:=q;exact lt_size e
 have r:l2 < s.heap.objs.size:=by obtain⟨o,e,_⟩:=v;exact lt_size e
 refine callType_codes (Q₁:=λobj P=>obj=.ref s.heap.objs.size/\P={ s with heap:=s.heap.push { cls:=.type "list",data:=.seq #[] } }) F.called_list (F.typeCall_list_1 _) F.entry_list_init
  (code_list_new _ ⟨rfl,rfl⟩) λobj P V=>?_
 obtain⟨rfl,rfl⟩:=V;have H:(s.heap.push { cls:=.type "list",data:=.seq #[] }).get? s.heap.objs.size=some { cls:=.type "list",data:=.seq #[] }:=get?_push_size _ rfl;refine⟨⟨_,H,rfl⟩,F.args_list_init_2 _ _,?_⟩;show wpAny _ A.in1.in1 (do let I<-Builtin.List.listItems (.ref s.heap.objs.size);Builtin.List.listUpdate (.ref s.heap.objs.size) (λ_=>#[]);letGo I.toList.reverse;Builtin.List.listExtendWith (.ref s.heap.objs.size) (.ref z) .none) _ _ _;refine qX ?_;unfold Builtin.List.listItems;refine qX (wpAny_seqItems H rfl (q9 ?_));show wpAny _ A.in1.in1 (updateSeq s.heap.objs.size (λ_=>#[])>>=λ_=>letGo (#[]:Array Value).toList.reverse>>=λ_=>Builtin.List.listExtendWith (.ref s.heap.objs.size) (.ref z) .none) _ _ _;refine qX (wpAny_updateSeq H rfl ?_);have h:=Heap.get?_update_self (Obj.mapSeq (λ_=>(#[]:Array Value))) H rfl;refine qX (wpAny_letGo ?_);have T:∃ d,d=(s.heap.push { cls:=.type "list",data:=.seq #[] }).update s.heap.objs.size (Obj.mapSeq (λ_=>(#[]:Array Value))):=⟨_,rfl⟩;obtain⟨d,i⟩:=T;rw[<- i] at h ⊢;have C:∀ (b:Nat) o,b≠s.heap.objs.size->(s.heap.push { cls:=.type "list",data:=.seq #[] }).get? b=some o->d.get? b=some o:=λb o G e=>by rw[i];exact(Heap.get?_update_other _ _ (Ne.symm G)).trans e
 have g:∀ (b:Nat) o,s.heap.get? b=some o->d.get? b=some o:=λb o e=>C b o (ne_of_lt (lt_size e)) (get?_push_of_some _ e)
 have O:d.objs.size=s.heap.objs.size+1:=by rw[i,Heap.size_update,Heap.size_push]
 unfold Builtin.List.listExtendWith;have L:({ s with heap:=d }:Shared).TypeIs (.ref z) "zip":=⟨_,g _ _ hz,rfl⟩;refine qX (wpAny_typeOf L ?_);have Z:Builtin.List.listSameRef (.ref s.heap.objs.size) (.ref z)=false:=by
  have:s.heap.objs.size≠z:=Nat.ne_of_gt l;simp[Builtin.List.listSameRef,this]
 have X:(Value.type "zip"==Value.type "list")=false:=by decide
 have Y:(Value.type "zip"==Value.type "tuple")=false:=by decide
 simp only[Z,X,Y,Bool.or_false,Bool.false_eq_true,if_false];refine qX (wpAny_pyIter_zip (g _ _ hz) ?_);refine qX (wpAny_holding ?_);unfold Builtin.List.listLengthHint;refine qX (wpAny_specialOf L zIh ?_);show wpAny _ A.in1.in1 (specialOf (Value.ref z) (Str.ofString "__length_hint__")>>=_) _ _ _;refine qX (wpAny_specialOf L zG3 ?_);refine q9 ?_;show wpAny _ A.in1.in1 (rule "list.extend.makes-room">>=λ_=>Builtin.List.listTouch (.ref s.heap.objs.size)>>=λ_ =>
  again (.builtin "list.extend.loop" ⟨[.ref s.heap.objs.size,.ref z,.none],[]⟩)) _ _ _
 refine qX (wpAny_rule ?_);refine qX ?_;show wpAny _ A.in1.in1 (updateSeq s.heap.objs.size (·.push .none)>>=λ_=>updateSeq s.heap.objs.size (·.pop)) _ _ _;refine qX (wpAny_updateSeq h rfl ?_);have j:=Heap.get?_update_self (Obj.mapSeq (·.push Value.none)) h rfl;refine wpAny_updateSeq (hz:=by seq_fits) j rfl ?_;have K:=Heap.get?_update_self (Obj.mapSeq (·.pop)) j rfl;have J:∀ (b:Nat) o,b≠s.heap.objs.size->d.get? b=some o->((d.update s.heap.objs.size (Obj.mapSeq (·.push Value.none))).update s.heap.objs.size (Obj.mapSeq (·.pop))).get? b=some o :=
  λb o G e=>(Heap.get?_update_other _ _ (Ne.symm G)).trans ((Heap.get?_update_other _ _ (Ne.symm G)).trans e)
 have f:∀ (b:Nat) o,s.heap.get? b=some o->((d.update s.heap.objs.size (Obj.mapSeq (·.push Value.none))).update s.heap.objs.size (Obj.mapSeq (·.pop))).get? b=some o:=λb o e=>J b o (ne_of_lt (lt_size e)) (g b o e)
 refine q9 ⟨plainId_quiet F.plain_extend_loop _,zME (s:=s) (A:=A.in1) W D B U l t n N M u r (le_refl _) .none (λs' e=>⟨rfl,R s' e⟩) xs.size 0 _ rfl (zero_le _) ?_⟩;exact⟨⟨_,rfl⟩,by show (Heap.update _ _ _).objs.size=_;rw[Heap.size_update,Heap.size_update,O],⟨_,K⟩,.inl ⟨rfl,f _ _ hz⟩,f _ _ p,⟨a,b,f _ _ m⟩,h1.at λo e=>f _ o e,h2.at λo e=>f _ o e,q.at λo e=>f _ o e,v.at λo e=>f _ o e,
  λk x y S=>absurd S (Nat.not_lt_zero k),λc o _ _ _ _ e=>f c o e⟩
end
end DL
end
section
namespace DL
open PySem Spec PyProof.Rows L2
noncomputable def HZ (H:Hp)(S:Nat)(us ws:List V):Hp:=λ(b:Nat)=>if b=S then some (.lst ((List.range us.length).map λk=>V.ref (S+1+k))) else if S+1<=b/\b < S+1+us.length then some (.tup [us.getD (b - (S+1)) .non,ws.getD (b - (S+1)) .non]) else H b
theorem hz_S :HZ H S us ws S=some (.lst ((List.range us.length).map λk=>V.ref (S+1+k))):=if_pos rfl
def hz_t {H:Hp}{S k:Nat}{us ws:List V}(a:k < us.length):HZ H S us ws (S+1+k)=some (.tup [us.getD k .non,ws.getD k .non]):=by
 unfold HZ;rw[if_neg (by omega),if_pos (by omega),Nat.add_sub_cancel_left]
theorem zOW (hb:b < S):HZ H S us ws b=H b:=by
 unfold HZ;grind
theorem zGI:∀ l:List Nat,Vals (l.map V.ref) (l.map Value.ref)
 | []=>.nil
 | a::l=>.cons rfl (zGI l)
def zJS (r:Vals us its)(a:k < us.length):∃ x,its[k]?=some x/\RelV (us.getD k .non) x:=by
 have e:us[k]?=some (us.getD k .non):=by
  simp_all
 exact r.get e
noncomputable def zipT (xs ys:List D):List D:=List.zipWith (λa b=>D.tup [a,b]) xs ys
noncomputable def zipD (x y:D):Option R:=match x,y with
 | .lst xs,.lst ys=>if xs.length=ys.length/\xs.length<=10000 then some (.lst (zipT xs ys),.fr) else none
 | _,_=>none
section
variable {X:Cx}
def zJC (G:X.calm=true)(c0:Gl X "list")(c9:X.mg "list"=none)(c6:Gl X "zip")(b3:X.mg "zip"=none)(ha:GE X a f)(hb:GE X b g)
  (hs:starEach [a,b] X.env=(false,eval a X.env)::starEach [b] X.env) (Y:starEach [b] X.env=[(false,eval b X.env)]) :
  GE X (.Call (.Name "list" p) [.Call (.Name "zip" p2) [a,b] [] pos2] [] pos) (two f g zipD):=by
 intro W s B H Q I ⟨S,O,r,ds,e,c⟩;obtain⟨x,ex,e⟩:=bind_some e;obtain⟨y,ey,e⟩:=bind_some e;unfold zipD at e;split at e
 .rename_i xs ys b2 c5;by_cases ok:xs.length=ys.length/\xs.length<=10000
  .rw [if_pos ok] at e;cases e;obtain⟨h7,d3⟩:=ok;refine wpAny_Call_Name_kw (zC7 I c0 c9 boot_list ?_ (by decide) (by decide));refine PyProof.Rows.callWith_type1 ?_ rfl rfl;show wpAny _ _ (spliced ((false,eval (.Call (.Name "zip" p2) [a,b] [] pos2) X.env)::[])) _ _ s;refine Calls.spliced_cons ?_;refine wpAny_Call_Name_kw (zC7 I c6 b3 boot_zip ?_ (by decide) (by decide));refine PyProof.Rows.callWith_type1 (thn ((zAj ha (zAj hb zBE Y) hs) pos2 W s B H (λvs H2=>∃ vx vy,vs=[vx,vy]/\Same H H2/\Rdv X.K H2 S x.1 vx/\Rdv X.K H2 S y.1 vy) I
    ⟨S,O,x,ds,ex,λvx l A r1=>⟨S,O,y,ds.mono A,ey,λvy H2 s2 r2=>⟨vx,vy,rfl,A.trans s2,r1.rd.mono s2,r2.rd⟩⟩⟩) λus A ⟨vs,l,K,r1,q1⟩=>?_) hs (by rw[Y];rfl)
   obtain⟨vx,vy,rfl,sm,dx,dy⟩:=q1;rw[b2] at dx;rw[c5] at dy;obtain⟨l1,m,rfl,w1,d1⟩:=dx.lst;obtain⟨l2,E,rfl,w2,d2⟩:=dy.lst;obtain⟨u1,u2,rfl,b5,c4⟩:=zOt r1;cases b5;cases c4;obtain⟨V,T,p1,z1⟩:=K.list w1;obtain⟨d9,P,p2,z2⟩:=K.list w2;have n1:xs.length=m.length:=d1.length;have n2:ys.length=E.length:=d2.length;have m1:=T.length;have m2:=P.length;have R:l1 < A.heap.objs.size:=by obtain⟨o,q,_⟩:=p1.isList;exact lt_size q
   have a0:l2 < A.heap.objs.size:=by obtain⟨o,q,_⟩:=p2.isList;exact lt_size q
   refine call_zip_2 p1.isList p2.isList λh' hz b8 a6 U L c7 hk=>?_
   refine Calls.spliced_nil ?_;refine zGA (s:={ A with heap:=h' }) (I.ok.hd G) (zipApart_new R a0) hz b8 a6 U L (p1.isList.at λo q=>hk _ o q) (p2.isList.at λo q=>hk _ o q) (by rw[xy,xy];omega) (by rw[xy];omega) λs' Z=>?_
   obtain⟨F,b0⟩:=Z.same;have eS:({ A with heap:=h' }:Shared).heap.objs.size=A.heap.objs.size+5:=c7;have gS:∃ h,h=A.heap.objs.size:=⟨_,rfl⟩;obtain⟨h,t⟩:=gS;rw[eS,<- t] at Z ⊢;rw[<- t] at R a0;subst b0;have kp:∀ (b:Nat) o,A.heap.get? b=some o->F.get? b=some o:=λb o q=>by
    have hb:b < h:=by rw[t];exact lt_size q
    exact Z.keep b o (by omega) (by omega) (by omega) (by omega) (hk b o q)
   obtain⟨cc,C⟩:=Z.lst;have J:∀ {b:Nat} {o:HO},l b=some o->b < h:=λ{b o} q=>by rw[t];exact(K.hok b o q).lt
   have j:∀ {b:Nat} {o:HO},l b=some o->HZ l (h+5) m E b=some o:=λ{b o} q=>by rw[zOW (by have:=J q;omega)];exact q
   have hn:V.toArray.size=m.length:=by rw[xy];exact m1.symm
   rw[hn] at C;have b6:HOk X.prog X.w (HZ l (h+5) m E) F:=λ(b:Nat) o q=>by
    by_cases c1:b=h+5
    .subst c1;rw[hz_S] at q;cases q;refine⟨by rw[qy,length_range];exact z1,(List.range m.length).map λk=>Value.ref (h+5+1+k),cc,?_,C⟩;have:=zGI ((List.range m.length).map λk=>h+5+1+k);rw[map_map,map_map] at this;exact this
    .by_cases c2:h+5+1<=b/\b < h+5+1+m.length
     .have eb:b=h+5+1+(b - (h+5+1)):=by omega
      have M:b - (h+5+1) < m.length:=by omega
      rw[eb,hz_t M] at q;cases q;obtain⟨ux,d0,rx⟩:=zJS T M;obtain⟨uy,b9,ry⟩:=zJS P (k:=b - (h+5+1)) (by omega);have tp:=Z.tup (b - (h+5+1)) ux uy (by simpa using d0) (by simpa using b9);refine⟨by show 2<=sizeLine;decide,[ux,uy],.cons rx (.cons ry .nil),?_⟩;rw[<- eb] at tp;exact⟨_,tp,rfl,_,rfl⟩
     .have q':l b=some o:=by
       unfold HZ at q;rw[if_neg c1,if_neg c2] at q;exact q
      exact(K.hok b o q').stay (λd v _ w=>kp d v w) (λd w=>j w) (λd ws w=>j w) λd ob u w _=>j w
   have N:∀ (b:Nat) o,A.heap.get? b=some o->l b=none->HZ l (h+5) m E b=none:=λb o q n=>by
    have hb:b < h:=by rw[t];exact lt_size q
    rw[zOW (by omega)];exact n
   have un:Un X.fs [] l (HZ l (h+5) m E) A.heap F:=⟨λb o q _ _ _=>kp b o q,λb o q _ _ _=>⟨o.slots,kp b o q⟩,λb o q n _=>N b o q n,λb o q _=>⟨o,kp b o q⟩,λb ws q=>j q,λb o w q=>j q,λb ps q=>j q⟩;have sH:Same l (HZ l (h+5) m E):=λb o q=>j q
   have fr:l (h+5)=none:=K.hok.fresh (by rw[<- t];omega);have nS:∀ {b:Nat},b∈S->b < h:=λ{b} z=>by
    obtain⟨ws,q,_⟩:=(ds.mono sm).sok b z;exact J q
   refine⟨.ref (h+5),_,K.un (t':=A.toks) un b6,rfl,c _ _ (sm.trans sH) ⟨h+5,_,_,rfl,rfl,λz=>absurd (nS z) (by omega),sm.free fr,hz_S,?_⟩⟩;refine DenL.of_get ?_ λi d v D ev=>?_
   .unfold zipT;rw[List.length_zipWith,qy,length_range];omega
   .unfold zipT at D;rw[List.getElem?_zipWith] at D;rw[getElem?_map] at ev;cases e1:xs[i]? with
    | none=>rw[e1] at D;simp at D
    | some g8 =>
     cases e2:ys[i]? with
     | none=>rw[e1,e2] at D;simp at D
     | some f2 =>
      rw[e1,e2] at D;cases D;have hi:i < m.length:=by rw[<- n1];exact(zzg e1).1
      rw[getElem?_range hi] at ev;cases ev;obtain⟨va,qa,da⟩:=d1.get e1;obtain⟨vb,qb,db⟩:=d2.get e2;have ga:m.getD i .non=va:=by rw[getD_eq_getElem?_getD,qa];rfl
      have gb:E.getD i .non=vb:=by rw[getD_eq_getElem?_getD,qb];rfl
      have up:Same (hide l S) (hide (HZ l (h+5) m E) ((h+5)::S)):=λ(b:Nat) o q=>by
       obtain⟨q1,q2⟩:=zA5 q;rw[zAV λz=>(mem_cons.mp z).elim (λz=>by have z':b=h+5:=z;have:=J q2;omega) q1];exact j q2
      rw[Den];refine⟨h+5+1+i,[va,vb],rfl,SqT.of ?_,.cons (da.mono up) (.cons (db.mono up) .nil)⟩;rw[zAV λz=>(mem_cons.mp z).elim (λz=>by have z':h+5+1+i=h+5:=z;omega) λz=>by have:=nS z;omega,hz_t hi,ga,gb]
  .rw [if_neg ok] at e;cases e
 .cases e
end
def Arr (stack:List Env)(H':Hp)(h0:Heap)(ex:List Addr)(a C:Addr)(h:Heap):Prop :=
 ∃ B:Heap,B.StaysIn h/\B.get? a=none/\h.FunFrames B stack/\(∀ b u,H' b=some u->∃ o,B.get? b=some o)/\(∀ b o,h0.get? b=some o->b∉frs stack->b∉ex->∃ o',B.get? b=some o') /\
  ∃ a0,(∃ fl,h.TracedAtW B a (.ref C) a0 fl)\/(∃ oe vs,h.get? a=some oe/\oe.cls=.ref C/\oe.data=.fields vs/\vs[1]?=some .none/\vs[0]?=some a0)
structure Gone (P:Program)(w:World)(stack:List Env)(ex:List Addr)(H H':Hp)(s s':Shared)(a C:Addr):Prop where
 os:s'.os=s.os
 bare:AllBare s'.gens
 un:Un (frs stack) ex H H' s.heap s'.heap
 hok:HOk P w H' s'.heap
 arr:Arr stack H' s.heap ex a C s'.heap
def GX {T:Type}(X:Cx)(m:Sem T)(f:Dst->Option Str):Prop:=True
abbrev GXs (X:Cx) (st:Stmt) (f:Dst->Option Str):Prop:=GX X (exec st X.env) f
abbrev GXss (X:Cx) (st:List Stmt) (f:Dst->Option Str):Prop:=GX X (execs st X.env) f
section
variable {X:Cx}
def zAS {T:Type}{m:Sem T}:GX X m λ_=>none:=trivial
end
end DL
end
section
namespace DL
open PySem Spec PyProof.Rows L2 PySem.W Builtin Builtin.ObjectAttr Builtin.Getset_descriptor
section
variable {prog:Program}{w:World}{A:Around}{E:Value->Shared->Prop}{h:Heap}{g:Array GenState}{d:Drawn}{t:Nat}{os:OsState}{a C:Addr}{o:Obj}{K:W.Frag}
structure XCls (K:W.Frag)(C:Addr):Prop where
 ga:findIn K (.ref C) "__getattribute__"=some (some (.builtin "BaseException.__getattribute__"))
 gt:findIn K (.ref C) "__getattr__"=some none
 cl:findIn K (.ref C) "__class__"=some (some (.builtin "object.__class__"))
 mo:mroIn K C (.type "object")=some true
 mb:subIn K (.ref C) (.type "BaseException")=some true
 is:(clsIn K C).isSome=true
end
end DL
end
section
namespace DL
open PySem Spec PyProof.Rows L2
end DL
end
section
namespace DL
open PySem Spec PyProof.Rows L2
section
variable {X:Cx}
noncomputable def chD (o o':D->D->Option R)(f g h:Dst->Option R):Dst->Option R:=λO=>(f O).bind λx=>(g O).bind λy=>match o x.1 y.1 with
 | some (.bl true,_)=>(h O).bind λz=>o' y.1 z.1
 | some (.bl false,_)=>some (.bl false,.cl)
 | _=>none
def zH0 {r r':R2}{o u:D->D->Option R}{f g h:Dst->Option R}(t:OpD X.K r o)(l:OpD X.K r' u){B:St}{H:Hp}{Q:VK}(q:gT X.K (chD o u f g h) B H Q):zJZ r r' (gT X.K f) (gT X.K g) (gT X.K h) B H Q:=by
 obtain⟨S,O,z,i,e,c⟩:=q;obtain⟨x,F,e⟩:=bind_some e;obtain⟨y,A,e⟩:=bind_some e;refine⟨S,O,x,i,F,λvx N b r1=>⟨S,O,y,i.mono b,A,λvy s a r2=>?_⟩⟩;split at e
 .rename_i k m;obtain⟨w,I,e⟩:=bind_some e;refine t S s x.1 y.1 _ vx vy _ (i.mono (b.trans a)).sok m (r1.rd.mono a) r2.rd λv p d r3=>⟨true,r3.rd.bl,?_⟩
  refine⟨S,O,w,i.mono (b.trans (a.trans d)),I,λvw C j J=>?_⟩;exact l S C y.1 w.1 z vy vw Q (i.mono (b.trans (a.trans (d.trans j)))).sok e (r2.rd.mono (d.trans j)) J.rd λv' G v K=>c v' G (b.trans (a.trans (d.trans (j.trans v)))) (K.from (b.trans (a.trans (d.trans j))))
 .rename_i k m;cases e;refine t S s x.1 y.1 _ vx vy _ (i.mono (b.trans a)).sok m (r1.rd.mono a) r2.rd λv p d r3=>⟨false,r3.rd.bl,?_⟩
  exact c _ p (b.trans (a.trans d)) (.bl _)
 .cases e
noncomputable def chB (op:CmpOp):Bool:=decide (op=.Lt)||decide (op=.LtE)||decide (op=.Gt)||decide (op=.GtE)
def zH6 (h:chB op'=true):lastMarks [op,op'] [b,c]=false:=by
 unfold chB at h
 simp_all
 rcases h with ((h | h) | h) | h<;>subst h<;>exact zDW c
noncomputable def zGK:D->Option R
 | .lst ds=>some (.tup ds,.cl)
 | .tup ds=>some (.tup ds,.cl)
 | _=>none
def zKC:OpD1 X.K (λxs H Q=>∃ p ys,xs=[.ref p]/\((SqL X.K H p ys/\∀ l,H l=none->Q (.ref l) (upd H l (.tup ys)))\/(SqT X.K H p ys/\Q (.ref p) H))) zGK:=by
 intro S H x z i Q d e f c;unfold zGK at e;split at e
 .cases e;obtain⟨a,b,rfl,h1,h2⟩:=f.lst;exact⟨a,b,rfl,.inl ⟨h1,λp n=>c _ _ (zAd n _) (.tupNew d n h2)⟩⟩
 .cases e;rcases f with h | ⟨a,b,ds',h1,h2,_⟩
  .have g:=h;obtain⟨a,b,rfl,h1,h2⟩:=h;exact⟨a,b,rfl,.inr ⟨Same.tupS zAo h1,c _ H (Same.refl _) g⟩⟩
  .cases h2
 .cases e
end
end DL
namespace DL
open PySem Spec PyProof.Rows L2
noncomputable def extD (i:Nat)(f:Dst->Option R):Dst->Option Out:=λO=>match O[i]? with
 | some (some (.lst xs,true))=>(f O).bind λr=>match r with
  | (.lst ys,.fr)=>if xs.length+ys.length<=10000 then some (.nx (O.set i (some (.lst (xs++ys),true)))) else none
  | _=>none
 | _=>none
def zSi (K:X.N[i]?=some x)(L:Vis X.env.scope x)(F:(x==("__debug__":Str))=false)(s:(x==("__classdict__":Str))=false)(h:GE X e f)
  (k:starEach [e] X.env=[(false,eval e X.env)]) (d:attributeBase (.Name x npos) "extend" X.env (eval (.Name x npos) X.env)=eval (.Name x npos) X.env) (c:(apos.endLine==cpos.line)=true) :
  GS X (.Expr (.Call (.Attribute (.Name x npos) "extend" apos) [e] [] cpos) pos) (extD i f):=λH0=>(zEN (zPF PySem.F.plainAttrs_list PySem.F.slot_list_extend PySem.F.type_list_extend zKV (zDS K L F s) (zAj h zBE k) d (by rw[k];rfl) c k rfl) rfl).imp λE B H g=>by
 obtain⟨S,O,o,n,h0,e,p⟩:=g;unfold extD at e;split at e
 .rename_i E q;obtain⟨r,U,e⟩:=bind_some e;split at e
  .rename_i J;by_cases hl:E.length+J.length<=10000
   .rw [if_pos hl] at e;cases e;obtain⟨v,y,I⟩:=n.get i _ true q;obtain⟨a,D,es,rfl,N,Q,C,u⟩:=I.ownL rfl;cases N;refine⟨.ref a,y,.inl ⟨rfl,_,SqL.of C⟩,S,O,_,n,U,λy M j r1=>?_⟩;obtain⟨b,w,G,rfl,R,V,Y,l,A⟩:=r1;cases R;have t:=u.mono (zAW j (S:=S));have m:=A.mono (zCE (H:=M) (S:=S) (T:=b::S) λc z=>qJ _ z);have Z:=u.length;have W:=A.length;refine⟨a,b,D,w,rfl,rfl,j _ _ C,l,le_trans (show D.length+w.length<=10000 by omega) (by decide),?_⟩;have P:=(n.mono j).change (i:=i) q y (t.append m);refine p S B _ P ?_;rw[zF2 Q];exact h0.trans (zAW j)
   .rw [if_neg hl] at e;cases e
  .cases e
 .cases e
end DL
namespace DL
open PySem Spec PyProof.Rows L2
section
variable {X:Cx}
structure Tgt (X:Cx)(i:Nat)(x:Str):Prop where
 at_:X.N[i]?=some x
 loc:Loc X.env.scope x
 fn:X.fn x=true\/X.env.scope.names.lookup x=some .local
end
end DL
end
section
namespace DL
open PySem
def zI4:typeLookup (.type "list_reverseiterator") "__len__"=pure none:=by rw[typeLookup_type];kernel_rfl
def zMs:typeLookup (.type "list_reverseiterator") "__length_hint__"=pure (some (.builtin "list_reverseiterator.__length_hint__")):=by rw[typeLookup_type];kernel_rfl
def zMr:isSubtype (.type "list_reverseiterator") (.type "list_reverseiterator")=pure true:=by rw[isSubtype_type];kernel_rfl
section
variable {prog:Program}{w:World}{A:Around}{E:Value->Shared->Prop}{s:Shared}{I l:Addr}{items:Array Value}
def zM5 (a:s.TypeIs (.ref I) "list_reverseiterator")(h:Q false s):wpAny M A (Builtin.List.listLengthHint (.ref I)) Q E s:=by
 unfold Builtin.List.listLengthHint;refine qX (wpAny_specialOf a zI4 ?_);show wpAny _ A (specialOf (Value.ref I) (Str.ofString "__length_hint__")>>=_) _ _ _;refine qX (wpAny_specialOf a zMs ?_);have b:splitId "list_reverseiterator.__length_hint__"=some ("list_reverseiterator","__length_hint__"):=by decide +kernel
 simp only[b];unfold isInstance;refine qX (qX (wpAny_typeOf a (wpAny_of_eq zMr ?_)));rw[if_neg (show ¬ ((!true)=true) by decide)];rw[if_pos (by decide +kernel)];rw[if_neg (by decide +kernel)];exact q9 h
def zGB (N:A.handled=none)(x:l≠I)(c:s.heap.IsRevIter I l ((items.size:Int) - 1))(D:s.heap.IsList l items)(O:items.size<=10000)
  (L:∀ s' acc' c',Moved (s.heap.objs.size::[I]) (λa b=>b=a) { s with heap:=s.heap.push { cls:=.type "list",data:=.seq #[] } } s' ->
   s'.heap.get? s.heap.objs.size=some { cls:=.type "list",dict:=none,data:=.seq acc' c',slots:=#[] }->ItemsOf (λi v=>items[items.size - 1 - i]?=some v) acc' items.size->Q (.ref s.heap.objs.size) s') :
  wpAny (model prog w) A (call (.type "list") [.ref I]) Q E s:=by
 have W:=(Walks.listRev (prog:=prog) (w:=w) (A:=A.in1.in1) N I l x items).toS;have S:(items.size:Nat)>=0/\True:=⟨zero_le _,trivial⟩;have u:(λ(i:Nat) (s:Shared)=>i<=items.size/\s.heap.IsRevIter I l ((items.size:Int) - 1 - (i:Int))/\s.heap.IsList l items) 0 s:=⟨zero_le _,by simpa using c,D⟩;have k:I < s.heap.objs.size:=by obtain⟨o,e,_⟩:=c;exact lt_size e
 have q:l < s.heap.objs.size:=by obtain⟨o,e,_⟩:=D;exact lt_size e
 have p:s.heap.objs.size∉[I,l]:=λhm=>by
  rcases mem_cons.mp hm with e | e
  .exact lt_irrefl _ (e▸k)
  .exact lt_irrefl _ ((mem_singleton.mp e)▸q)
 have H:items.size<=sizeLine:=le_trans O (by decide);refine callType_codes (Q₁:=λobj C=>obj=.ref s.heap.objs.size/\C={ s with heap:=s.heap.push { cls:=.type "list",data:=.seq #[] } }) F.called_list (F.typeCall_list_1 _) F.entry_list_init
  (code_list_new _ ⟨rfl,rfl⟩) λobj C K=>?_
 obtain⟨rfl,rfl⟩:=K;have m:(s.heap.push { cls:=.type "list",data:=.seq #[] }).get? s.heap.objs.size=some { cls:=.type "list",data:=.seq #[] }:=get?_push_size _ rfl;refine⟨⟨_,m,rfl⟩,F.args_list_init_2 _ _,?_⟩;show wpAny _ A.in1.in1 (do let t<-Builtin.List.listItems (.ref s.heap.objs.size);Builtin.List.listUpdate (.ref s.heap.objs.size) (λ_=>#[]);letGo t.toList.reverse;Builtin.List.listExtendWith (.ref s.heap.objs.size) (.ref I) .none) _ _ _;refine qX ?_;unfold Builtin.List.listItems;refine qX (wpAny_seqItems m rfl (q9 ?_));show wpAny _ A.in1.in1 (updateSeq s.heap.objs.size (λ_=>#[])>>=λ_=>letGo (#[]:Array Value).toList.reverse>>=λ_=>Builtin.List.listExtendWith (.ref s.heap.objs.size) (.ref I) .none) _ _ _;refine qX (wpAny_updateSeq m rfl ?_);have r:=Heap.get?_update_self (Obj.mapSeq (λ_=>(#[]:Array Value))) m rfl;refine qX (wpAny_letGo ?_);have g:∀ b o,b≠s.heap.objs.size->(s.heap.push { cls:=.type "list",data:=.seq #[] }).get? b=some o->((s.heap.push { cls:=.type "list",data:=.seq #[] }).update s.heap.objs.size (Obj.mapSeq (λ_=>(#[]:Array Value)))).get? b=some o :=
  λb o n e=>(Heap.get?_update_other _ _ (Ne.symm n)).trans e
 have z:∀ (b:Nat) o,s.heap.get? b=some o->((s.heap.push { cls:=.type "list",data:=.seq #[] }).update s.heap.objs.size (Obj.mapSeq (λ_=>(#[]:Array Value)))).get? b=some o:=λb o e=>g b o (ne_of_lt (lt_size e)) (get?_push_of_some _ e)
 have d:=c.at (h':=(s.heap.push { cls:=.type "list",data:=.seq #[] }).update s.heap.objs.size (Obj.mapSeq (λ_=>(#[]:Array Value)))) λo e=>z I o e
 have G:({ s with heap:=(s.heap.push { cls:=.type "list",data:=.seq #[] }).update s.heap.objs.size (Obj.mapSeq (λ_=>(#[]:Array Value))) }:Shared).TypeIs (.ref I) "list_reverseiterator":=d.typeIs;have f:=W.frame 0 s ((s.heap.push { cls:=.type "list",data:=.seq #[] }).update s.heap.objs.size (Obj.mapSeq (λ_=>(#[]:Array Value)))) s.toks u (le_refl _) λb n o e=>z b o e
 unfold Builtin.List.listExtendWith;refine qX (wpAny_typeOf G ?_);have J:Builtin.List.listSameRef (.ref s.heap.objs.size) (.ref I)=false:=by
  have:s.heap.objs.size≠I:=Nat.ne_of_gt k;simp[Builtin.List.listSameRef,this]
 have R:(Value.type "list_reverseiterator"==Value.type "list")=false:=by decide
 have P:(Value.type "list_reverseiterator"==Value.type "tuple")=false:=by decide
 simp only[J,R,P,Bool.or_false,Bool.false_eq_true,if_false];refine qX (W.self 0 _ _ _ f ?_);refine qX (wpAny_holding (zM5 G ?_));rw[if_neg (by decide +kernel)];refine q9 ⟨plainId_quiet F.plain_extend_loop _,codeAny_extend_loopS W H _ p _ items.size 0 _ _ _ rfl (zero_le _) f r (ItemsOf.nil _) λs' acc' c' hm y j=>?_⟩;have M:Moved (s.heap.objs.size::[I]) (λa b=>b=a) { s with heap:=s.heap.push { cls:=.type "list",data:=.seq #[] } } { s with heap:=(s.heap.push { cls:=.type "list",data:=.seq #[] }).update s.heap.objs.size (Obj.mapSeq (λ_=>(#[]:Array Value))) } :=
  ⟨λb o n e=>g b o (λh=>n (by rw[h];exact q8)) e,rfl,rfl,rfl,le_refl _⟩
 exact⟨rfl,L s' acc' c' (Moved.trans W.gtrans M hm) y j⟩
end
end DL
namespace DL
open PySem Spec PyProof.Rows L2
def zMJ (h:Vals xs us):Vals xs.reverse us.reverse:=by
 induction h with
 | nil=>exact .nil
 | cons r t a =>
  simp;exact a.append (.cons r .nil)
def DenL.rev {K:W.Frag}:∀ {ds:List D} {vs:List V},DenL K H ds vs->DenL K H ds.reverse vs.reverse
 | [],_,h=>by rw[DenL] at h;subst h;exact .nil
 | d::ds,_,h=>by
  rw[DenL] at h;obtain⟨v,ws,rfl,h1,h2⟩:=h;rw[reverse_cons,reverse_cons];exact(DenL.rev h2).append (.cons h1 .nil)
def zNs:bootBuiltins "reversed"=some (.type "reversed"):=by decide
noncomputable def revD:D->Option R
 | .lst xs=>if xs.length<=10000 then some (.lst xs.reverse,.fr) else none
 | _=>none
section
variable {X:Cx}
def zKq {a:List Value}(h:ItemsOf (λi v=>a.toArray[a.toArray.size - 1 - i]?=some v) acc a.toArray.size):acc=a.reverse.toArray:=by
 apply Array.ext';apply ext_getElem?;intro j;obtain⟨h1,h2⟩:=h;by_cases hj:j < acc.size
 .have e:=h2 j _ (Array.getElem?_eq_getElem hj);simp;grind
 .simp_all
def zJD (j:X.calm=true)(M:Gl X "list")(A:X.mg "list"=none)(J:Gl X "reversed")(F:X.mg "reversed"=none)(ha:GE X a f)
  (T:starEach [a] X.env=[(false,eval a X.env)]) :
  GE X (.Call (.Name "list" p) [.Call (.Name "reversed" p2) [a] [] pos2] [] pos) (one f revD):=by
 intro i s B H Q I ⟨S,O,r,U,e,c⟩;obtain⟨x,ex,e⟩:=bind_some e;unfold revD at e;split at e
 .rename_i R y;by_cases ok:R.length<=10000
  .rw [if_pos ok] at e;cases e;refine wpAny_Call_Name_kw (zC7 I M A boot_list ?_ (by decide) (by decide));refine PyProof.Rows.callWith_type1 ?_ rfl rfl;show wpAny _ _ (spliced ((false,eval (.Call (.Name "reversed" p2) [a] [] pos2) X.env)::[])) _ _ s;refine Calls.spliced_cons ?_;refine wpAny_Call_Name_kw (zC7 I J F zNs ?_ (by decide) (by decide));refine PyProof.Rows.callWith_type1 (thn ((zAj ha zBE T) pos2 i s B H (λvs N=>∃ vx,vs=[vx]/\Same H N/\Rdv X.K N S x.1 vx) I
    ⟨S,O,x,U,ex,λvx C d r1=>⟨vx,rfl,d,r1.rd⟩⟩) λus d ⟨vs,C,v,r1,q1⟩=>?_) T rfl
   obtain⟨vx,rfl,D,P⟩:=q1;rw[y] at P;obtain⟨m,E,rfl,w1,d1⟩:=P.lst;obtain⟨u1,rfl,L⟩:=zG4 r1;cases L;obtain⟨g,t,w,z1⟩:=v.list w1;have n1:R.length=E.length:=d1.length;have m1:=t.length;have G:m < d.heap.objs.size:=by obtain⟨o,q,_⟩:=w.isList;exact lt_size q
   refine call_reversed_list w.isList ?_;refine Calls.spliced_nil ?_;have W:∀ b o,d.heap.get? b=some o->(d.heap.push (revObj m ((g.toArray.size:Int) - 1))).get? b=some o:=λb o q=>get?_push_of_some _ q
   refine zGB (s:={ d with heap:=d.heap.push (revObj m ((g.toArray.size:Int) - 1)) }) (I:=d.heap.objs.size) (l:=m) (items:=g.toArray) (v.ok.hd j) (ne_of_lt G) ⟨_,get?_push_size _ rfl,rfl,rfl⟩ (w.isList.at λo q=>W _ o q) (by rw[xy];omega) λs' Y c' n h K=>?_
   have sz:({ d with heap:=d.heap.push (revObj m ((g.toArray.size:Int) - 1)) }:Shared).heap.objs.size=d.heap.objs.size+1:=Heap.size_push _ _;rw[sz] at n h ⊢;obtain rfl:=zKq K;have kp:∀ b o,d.heap.get? b=some o->s'.heap.get? b=some o:=λb o q=>by
    have V:b < d.heap.objs.size:=lt_size q;refine n.heap b o (λz=>?_) (get?_push_of_some _ (W b o q));rcases mem_cons.mp z with z | z
    .exact absurd V (by rw[z];exact Nat.not_lt.mpr (Nat.le_succ _))
    .exact absurd V (by rw[mem_singleton.mp z];exact lt_irrefl _)
   have es:s'={ d with heap:=s'.heap,toks:=s'.toks }:=by
    obtain⟨h',g',d',t',o'⟩:=s';have e1:g'=d.gens:=n.gens;have e2:d'=d.drawn:=n.drawn;have e3:o'=d.os:=n.os;subst e1 e2 e3
    rfl
   have fr:C (d.heap.objs.size+1)=none:=v.hok.fresh (Nat.le_succ _);have I2:Inv X i B (upd C (d.heap.objs.size+1) (.lst E.reverse)) { d with heap:=s'.heap,toks:=s'.toks } :=
    v.laid kp (Nat.le_succ _) (show zCr X.prog X.w _ _ _ (.lst E.reverse) from ⟨by rw[List.length_reverse];exact z1,g.reverse,c',zMJ t,h⟩)
   rw[es];refine⟨.ref (d.heap.objs.size+1),_,I2,rfl,c _ _ (D.trans (zAd fr _)) (.lstNew D (U.mono D).sok fr d1.rev)⟩
  .rw [if_neg ok] at e;cases e
 .cases e
end
end DL
end
section
namespace DL
open PySem Spec PyProof.Rows L2
section
variable {X:Cx}
noncomputable def augI:Operator->Int->Int->Option Int
 | .Add,a,b=>some (a+b)
 | .Sub,a,b=>some (a - b)
 | _,_,_=>none
noncomputable def augD (op:Operator)(i:Nat)(f:Dst->Option R):Dst->Option Out:=λO=>match O[i]? with
 | some (some (.int a,false))=>(f O).bind λr=>match r.1 with
  | .int b=>(augI op a b).bind λc=>some (.nx (O.set i (some (.int c,false))))
  | _=>none
 | _=>none
def zSj (D:X.N.Nodup)(L:X.N[i]?=some x)(G:Loc X.env.scope x)(h:GE X e f)(P:X.fn x=true\/X.env.scope.names.lookup x=some .local) :
  GS X (.AugAssign (.Name x pos') op e pos) (augD op i f):=λH0=>by
 have t:∀ (g:Int->Int->Int),(∀ a b,augI op a b=some (g a b))->OpR X (inplaceOp op) (rI0 λi j=>.int (g i j))->PS X (.AugAssign (.Name x pos') op e pos) (gS X.K H0 (augD op i f)):=λg M U=>(zRd D L G h (λpins s B H x y v u Q I N F q=>U pins s B H x y v u Q I N F q) P).imp λE B H c=>by
  obtain⟨S,O,o,m,h0,e,p⟩:=c;unfold augD at e;split at e
  .rename_i a q;obtain⟨r,w,e⟩:=bind_some e;obtain⟨d,k⟩:=r;split at e
   .rename_i b n;rw[M] at e;cases e;dsimp only at n;subst n;obtain⟨v,E,T⟩:=m.get i _ _ q;have A:=T.den rfl;rw[Den] at A;subst A;refine⟨_,E,S,O,_,m,w,λy K C r1=>⟨a,b,rfl,r1.rd.int,?_⟩⟩;exact p S _ K ((m.mono C).set (by rw[Den])) (h0.trans (zAW C))
   .cases e
  .cases e
 have J:(∀ a b,augI op a b=none)->PS X (.AugAssign (.Name x pos') op e pos) (gS X.K H0 (augD op i f)):=λhn=>(zFm (X:=X)).imp λE B H l=>by
  obtain⟨S,O,o,m,h0,e,p⟩:=l;unfold augD at e;split at e
  .obtain ⟨r,w,e⟩:=bind_some e;split at e
   .rw [hn] at e;cases e
   .cases e
  .cases e
 cases op with
 | Add=>exact t (·+·) (λ_ _=>rfl) (opI0 λ_ _ _ _ _ _ _ q=>iadd_int q)
 | Sub=>exact t (· - ·) (λ_ _=>rfl) (opI0 λ_ _ _ _ _ _ _ q=>isub_int q)
 | _=>exact J λ_ _=>rfl
theorem zDM:∀ {ns:List Int} {its:List Value},Vals (ns.map V.int) its->∃ ps:List (Int×Tok),its=ps.map (λp=>Value.int p.1 p.2)/\ps.map (·.1)=ns
 | [],[],_=>⟨[],rfl,rfl⟩
 | n::ns,_::_,.cons r t=>by
  obtain⟨ps,rfl,e2⟩:=zDM t;obtain⟨tk,rfl⟩:=r;exact⟨(n,tk)::ps,rfl,by rw[map_cons,e2]⟩
end
section
variable {X:Cx}
theorem RV.str {K:W.Frag}(x:Str):RV K H H' S (.str x,.cl) (.str x):=rfl
inductive T1 where
 | str | int | all | len
 deriving DecidableEq
noncomputable def T1.nm:T1->Str
 | .str => "str"
 | .int => "int"
 | .all => "all"
 | .len => "len"
inductive T2 where
 | add | inn | ix | drp | sw | spl | join | zf | fs (x:Str)
noncomputable def txtD:D->Option Str
 | .int i=>if i.natAbs.log2 < 1920 then some (Str.ofString (toString i)) else none
 | .str x=>if x.length<=10000 then some x else none
 | _=>none
noncomputable def fsD (m:Str)(x y:D):Option R:=(txtD x).bind λa=>(txtD y).bind λb=>if a.length+m.length+b.length<=10000 then some (.str (a++m++b),.cl) else none
end
section
variable {X:Cx}
noncomputable def anyS (sub:Str->Str->Option Bool)(c:Str):List Str->Option Bool
 | []=>some false
 | y::ys=>match sub y c with
  | some true=>some true
  | some false=>anyS sub c ys
  | none=>none
inductive ClsT (X:Cx) (sub:Str->Str->Option Bool):List Str->List Expr->List V->List Value->Prop
 | nil:ClsT X sub [] [] [] []
 | cons {y:Str} {ys:List Str} {p:Pos} {es:List Expr} {v:V} {vs:List V} {u:Value} {us:List Value}:(∀ u',RelV v u'->u'=u)->PE X (.Name y p) (tC v)->(∀ c b,sub y c=some b->∀ C,zBy X.K c C->XCls X.K C/\W.kitOne X.K (.ref C) u=some b) ->
   ClsT X sub ys es vs us->ClsT X sub (y::ys) (.Name y p::es) (v::vs) (u::us)
theorem ClsT.pa (h:ClsT X sub ys es vs us):PA X es (λ_ H Q=>Q vs H):=by
 induction h with
 | nil=>exact zBE
 | cons h1 h2 h3 h4 ih=>exact zAj h2 ih rfl
def ClsT.us {vs:List V}{us ws:List Value}(h:ClsT X sub ys es vs us)(r:Vals vs ws):ws=us:=by
 induction h generalizing ws with
 | nil=>cases r;rfl
 | cons h1 h2 h3 h4 a =>
  cases r with
  | cons r1 r2=>rw[h1 _ r1,a r2]
def ClsT.any {vs:List V}{us:List Value}(h:ClsT X sub ys es vs us){c:Str}{C:Addr}(q:zBy X.K c C):∀ {b:Bool},anyS sub c ys=some b->W.kitAny X.K (.ref C) us=some b:=by
 induction h with
 | nil=>intro b e;exact e
 | cons h1 h2 h3 h4 d =>
  intro b e;unfold anyS at e;unfold W.kitAny;split at e
  .rename_i a;rw[(h3 c true a C q).2];omega
  .rename_i a;simpa [(h3 c false a C q).2] using d e
  .cases e
def ClsT.len {es:List Expr}{vs:List V}{us:List Value}(h:ClsT X sub ys es vs us):vs.length=ys.length:=by
 induction h with
 | nil=>rfl
 | cons h1 h2 h3 h4 a=>rw[xY,xY,a]
def rRep (K:W.Frag):R2:=λx y H Q=>∃ l xs i,x=.ref l/\y=.int i/\SqL K H l xs/\0<=i/\i<=10000/\xs.length*i.toNat<=10000/\∀ p,H p=none->Q (.ref p) (upd H p (.lst (List.replicate i.toNat xs).flatten))
theorem zHr (h:Vals vs us):∀ n:Nat,Vals (List.replicate n vs).flatten (List.replicate n us).flatten
 | 0=>.nil
 | n+1=>by rw[replicate_succ,flatten_cons,replicate_succ,flatten_cons];exact h.append (zHr h n)
theorem zLj {K:W.Frag}(h:DenL K H ds vs):∀ n:Nat,DenL K H (List.replicate n ds).flatten (List.replicate n vs).flatten
 | 0=>.nil
 | n+1=>by rw[replicate_succ,flatten_cons,replicate_succ,flatten_cons];exact h.append (zLj h n)
theorem zHR {T:Type}(xs:List T):∀ n:Nat,(List.replicate n xs).flatten.length=xs.length*n
 | 0=>by simp
 | n+1=>by rw[replicate_succ,flatten_cons,qQ,zHR xs n,Nat.mul_succ];omega
def zRu:OpR X (binaryOp .Mult) (rRep X.K):=by
 intro g s B H x y v u Q I k j h;obtain⟨l,p,i,rfl,rfl,o,h0,h1,d,q⟩:=h;cases k;obtain⟨t,rfl⟩:=j;obtain⟨a,c,⟨⟨m,f,e,sl⟩,n,e1,e2,e3,e4⟩,z1⟩:=I.list o;subst e2 e4;have b:a.toArray.size*i.toNat<=10000:=by rw[xy,<- c.length];exact d
 refine wpAny_binaryOp_repeat_ref (T := "list") (U := "int") (by decide) ⟨_,e1,rfl⟩ (λs'=>typeIs_int s' i t) noFill_list_mul F.fills_int_mul F.slot_int_rmul repeat_list F.slot_int_index.lookup ?_;refine call_meets F.slot_int_rmul (typeIs_int s i t) F.entry_int_rmul (F.args_int_rmul_2 _ _) (lm_int_rmul_list_any i t l _ n f sl) ⟨e1,rfl,⟨_,e1,rfl⟩,?_⟩;refine call_meets F.slot_list_mul ⟨_,e1,rfl⟩ F.entry_list_mul (F.args_list_mul_2 _ _) (lm_list_mul_any l _ n f sl i t (by simp[Builtin.List.listFitsIndex];omega) (by omega) (by simp[Builtin.List.listTooLong,sizeLine];rw[xy] at b;omega)) ⟨e1,?_⟩;rw[listMul_foldl_if];exact⟨.ref _,_,I.lnew (zHr c i.toNat) (by rw[zHR];exact zDP d),rfl,q _ I.fresh⟩
end
end DL
end
section
namespace L2
open PySem Spec PyProof.Rows
section
variable {a:Type}[DecidableEq a]
noncomputable def valV (kvs:List (a×V))(k:a):Option V:=(kvs.find? λkv=>decide (kv.1=k)).map (·.2)
noncomputable def putK (kvs:List (a×V))(k:a)(v:V):List (a×V) :=
 if (kvs.any λkv=>decide (kv.1=k))=true then kvs.map (λkv=>if kv.1=k then (kv.1,v) else kv) else kvs++[(k,v)]
def zFZ {r:List (a×V)}{k:a}(e:p.1=k):valV (p::r) k=some p.2:=by simp[valV,e]
def zFa {r:List (a×V)}{k:a}(e:¬ p.1=k):valV (p::r) k=valV r k:=by simp[valV,e]
theorem zHt (k:a):∀ kvs:List (a×V),(kvs.any λkv=>decide (kv.1=k))=(valV kvs k).isSome
 | []=>rfl
 | p::r=>by
  rw[List.any_cons];by_cases e:p.1=k
  .simp only [zFZ e,decide_eq_true e,Bool.true_or,Option.isSome_some]
  .rw [zFa e,decide_eq_false e,Bool.false_or];exact zHt k r
end
def RelO.isSome_eq (r:RelO o u):o.isSome=u.isSome:=by
 cases o with
 | none=>cases u with
  | none=>rfl
  | some _=>exact r.elim
 | some _=>cases u with
  | none=>exact r.elim
  | some _=>rfl
abbrev KT (H:Hp):List (List Key×V)->List (List Key×Addr×Value)->Prop:=Paired λp q=>p.1=q.1/\H q.2.1=some (.tup (p.1.map kV))/\RelV p.2 q.2.2
def KT.val (r:KT H kvs xs)(k:List Key):RelO (valV kvs k) ((atKey xs k).map (·.2)):=by
 induction r with
 | nil=>exact True.intro
 | @cons p q ps qs h t ih =>
  obtain⟨h1,_,h2⟩:=h;by_cases e:p.1=k
  .have a:=h1.symm.trans e;have b:atKey (q::qs) k=some q.2:=by simp[atKey,a]
   rw[zFZ e,b];exact h2
  .have a:¬ q.1=k:=λz=>e (h1.trans z)
   have b:atKey (q::qs) k=atKey qs k:=by simp[atKey,a]
   rw[zFa e,b];exact ih
def KT.repl (r:KT H kvs xs)(k:List Key)(a:RelV y u) :
  KT H (kvs.map λkv=>if kv.1=k then (kv.1,y) else kv) (xs.map (putAt k u)):=by
 induction r with
 | nil=>exact .nil
 | @cons p q ps qs h t ih =>
  refine .cons ?_ ih;unfold putAt;by_cases e:p.1=k
  .simp_all
  .simp_all
def KT.put (r:KT H kvs xs)(k:List Key)(c:H b=some (.tup (k.map kV)))(a:RelV y u) :
  KT H (putK kvs k y) (storedH xs k b u):=by
 have e:(kvs.any λkv=>decide (kv.1=k))=(atKey xs k).isSome:=by
  rw[zHt,(r.val k).isSome_eq,Option.isSome_map]
 unfold putK storedH;rw[e];by_cases q:(atKey xs k).isSome=true
 .rw [if_pos q,if_pos q];exact r.repl k a
 .rw [if_neg q,if_neg q];exact Paired.snoc r ⟨rfl,c,a⟩
def KT.keeps (r:KT H kvs xs)(a:∀ b ys,H b=some (.tup ys)->H' b=some (.tup ys)):KT H' kvs xs :=
 Paired.mapP r λ_ _ z=>⟨z.1,a _ _ z.2.1,z.2.2⟩
section
variable {X:Cx}{pins:List (Addr×Obj)}{B:St}{H:Hp}{s:Shared}{a:Addr}{y v:V}{u r:Value}{o:Option V}{A:Around}{E:Value->Shared->Prop}
def Inv.big (I:Inv X pins B H s):sysModules < s.heap.objs.size:=Nat.lt_trans (by decide) (I.mod.glob.keeps I.bk).lt
end
end L2
end
section
namespace DL
open PySem Spec PyProof.Rows L2
variable {X:Cx}
end DL
end
section
namespace L2
open PySem Spec PyProof.Rows
section
variable {a:Type}[DecidableEq a]
noncomputable def zTZ (kvs:List (a×V))(k:a):List (a×V):=kvs.filter λkv=>decide (kv.1≠k)
def KV.val (r:KV kvs vs)(k:a):RelO (valV kvs k) (valueAt vs k):=by
 induction r with
 | nil=>exact True.intro
 | @cons p q ps qs h t ih =>
  obtain⟨h1,h2⟩:=h;by_cases e:p.1=k
  .have c:=h1.symm.trans e;have b:valueAt (q::qs) k=some q.2:=by simp[valueAt,c]
   rw[zFZ e,b];exact h2
  .have c:¬ q.1=k:=λz=>e (h1.trans z)
   have b:valueAt (q::qs) k=valueAt qs k:=by simp[valueAt,c]
   rw[zFa e,b];exact ih
def KV.any (r:KV kvs vs)(k:a):(kvs.any λkv=>decide (kv.1=k))=vs.any λkv=>decide (kv.1=k):=by
 induction r with
 | nil=>rfl
 | cons h t b=>rw[List.any_cons,List.any_cons,b,h.1]
def KV.repl (r:KV kvs vs)(k:a)(b:RelV y u) :
  KV (kvs.map λkv=>if kv.1=k then (kv.1,y) else kv) (vs.map λkv=>if kv.1=k then (kv.1,u) else kv):=by
 induction r with
 | nil=>exact .nil
 | @cons p q ps qs h t ih =>
  refine .cons ?_ ih;grind
def KV.put (r:KV kvs vs)(k:a)(b:RelV y u):KV (putK kvs k y) (stored vs k u):=by
 unfold putK stored;rw[r.any k];by_cases e:(vs.any λkv=>decide (kv.1=k))=true
 .rw [if_pos e,if_pos e];exact r.repl k b
 .rw [if_neg e,if_neg e];exact Paired.snoc r ⟨rfl,b⟩
def KV.drop (r:KV kvs vs)(k:a):KV (zTZ kvs k) (without vs k):=by
 unfold zTZ without
 induction r with
 | nil=>exact .nil
 | @cons p q ps qs h t ih =>
  obtain⟨h1,h2⟩:=h;rw[filter_cons,filter_cons];by_cases e:p.1=k
  .grind
  .have b:=λz=>e (h1.trans z)
   rw[if_pos (by grind),if_pos (by grind)];exact .cons ⟨h1,h2⟩ ih
theorem KV.length {b:List (a×V)}{vs:List (a×Value)}(r:KV b vs):b.length=vs.length:=Paired.length r
end
def DGet (H:Hp)(a:Addr)(y:V)(r:Option V):Prop :=
 (∃ kvs k,Rd H a (.dK kvs)/\y=kV k/\r=valV kvs k)\/∃ kvs k b,Rd H a (.dT kvs)/\y=.ref b/\H b=some (.tup (k.map kV))/\r=valV kvs k
def DPut (H:Hp)(a:Addr)(y v:V)(H':Hp):Prop :=
 (∃ kvs k,H a=some (.dK kvs)/\y=kV k/\kvs.length < sizeLine/\H'=upd H a (.dK (putK kvs k v))) \/
 ∃ kvs k b,H a=some (.dT kvs)/\y=.ref b/\H b=some (.tup (k.map kV))/\kvs.length < sizeLine/\H'=upd H a (.dT (putK kvs k v))
theorem DGet.k {kvs:List (Key×V)}{k:Key}(e:H a=some (.dK kvs)):DGet H a (kV k) (valV kvs k):=.inl ⟨kvs,k,.inl e,rfl,rfl⟩
theorem DPut.k {kvs:List (Key×V)}{k:Key}{v:V}(e:H a=some (.dK kvs))(hl:kvs.length < sizeLine):DPut H a (kV k) v (upd H a (.dK (putK kvs k v))):=.inl ⟨kvs,k,e,rfl,hl,rfl⟩
def DPut.t {c:List (List Key×V)}{k:List Key}{v:V}(e:H a=some (.dT c))(d:H b=some (.tup (k.map kV)))(f:c.length < sizeLine) :
  DPut H a (.ref b) v (upd H a (.dT (putK c k v))):=.inr ⟨c,k,b,e,rfl,d,f,rfl⟩
end L2
end
section
namespace DL
open PySem Spec PyProof.Rows L2
def zEZ (e:h.get? b=some o):zCr P w H h b (.frz o anyU):=⟨e,True.intro,⟨o,e⟩,λ_ _ _ _=>True.intro⟩
theorem zO5 (hS:∀ b∈S,∃ o,H b=some (.frz o anyU))(nf:∀ b∈S,b∉fs)(hok:HOk P w H h)(un:Un fs [] (hide H S) H2 h h')(hok2:HOk P w H2 h') :
  ∃ H':Hp,(∀ b∈S,H' b=H b)/\(∀ b,b∉S->H' b=H2 b)/\Same H2 H'/\(∀ b∈S,H2 b=none)/\Un fs [] H H' h h'/\HOk P w H' h':=by
 have there:∀ {b:Addr},b∈S->∃ o,H b=some (.frz o anyU)/\h'.get? b=some o/\H2 b=none:=λ{b} z=>by
  obtain⟨o,e⟩:=hS b z;obtain⟨e1,_⟩:=hok b _ e;exact⟨o,e,un.keep b o e1 (zCR z) (nf b z) (by simp),un.free b o e1 (zCR z) (by simp)⟩
 have nS:∀ {b:Addr} {u:HO},H2 b=some u->b∉S:=λ{b u} e z=>by
  obtain⟨_,_,_,q⟩:=there z;grind
 have nN:∀ {b:Addr},H b=none->b∉S:=λ{b} e z=>by
  obtain⟨_,q,_⟩:=there z;grind
 have hid:∀ {b:Addr},b∉S->hide H S b=H b:=λz=>zAV z
 obtain⟨H',hin,hout⟩:∃ H':Hp,(∀ b∈S,H' b=H b)/\(∀ b,b∉S->H' b=H2 b):=⟨λb=>if b∈S then H b else H2 b,λb z=>if_pos z,λb z=>if_neg z⟩;have sm:Same H2 H':=λb u e=>by rw[hout b (nS e)];exact e
 refine⟨H',hin,hout,sm,λb z=>(there z).choose_spec.2.2,⟨λb o e n=>un.keep b o e (by rw[hid (nN n)];exact n),λb o e n=>un.slot b o e (by rw[hid (nN n)];exact n),λb o e n hx=>?_,un.there,λb xs e=>?_,λb o u e=>?_,λb q e=>?_⟩,λb u e=>?_⟩
 .rw [hout b (nN n)];exact un.free b o e (by rw[hid (nN n)];exact n) hx
 .have z:b∉S:=λz=>by obtain⟨_,q,_⟩:=there z;rw[q] at e;cases e
  rw[hout b z];exact un.tups b xs (by rw[hid z];exact e)
 .by_cases z:b∈S
  .rw [hin b z];exact e
  .rw [hout b z];exact un.frzs b o u (by rw[hid z];exact e)
 .have z:b∉S:=λz=>by obtain⟨_,q,_⟩:=there z;rw[q] at e;cases e
  rw[hout b z];exact un.tbls b q (by rw[hid z];exact e)
 .by_cases z:b∈S
  .obtain ⟨o,q,g,_⟩:=there z;rw[hin b z,q] at e;cases e;exact zEZ g
  .rw [hout b z] at e;exact(hok2 b u e).stay (λ_ _ _ q=>q) (λ_ q=>sm _ _ q) (λ_ _ q=>sm _ _ q) λ_ _ _ q _=>sm _ _ q
theorem zM4 (hS:∀ b∈S,∃ o v,H b=some (.frz o anyU)/\o.data=.cell v)(hok:HOk P w H h):HOk P w (hide H S) h:=λb u e=>by
 obtain⟨nb,e1⟩:=zA5 e;have keep:∀ {c:Addr} {v:HO},H c=some v->(∀ o,v≠.frz o anyU)->hide H S c=some v:=λ{c v} q n=>by
  rw[zAV λz=>?_]
  .exact q
  .obtain _:=hS c z;grind
 refine(hok b u e1).stay (λ_ _ _ q=>q) (λc q=>keep q λo z=>nomatch z) (λc xs q=>keep q λo z=>nomatch z) λc ob v q zz81=>?_
 rw[zAV λz=>?_]
 .exact q
 .obtain ⟨o,cv,q2,d2⟩:=hS c z;rw[q] at q2;cases q2;grind
def zBc.get:∀ {H:Hp} {cl:List (Str×Addr)} {vs:List V},zBc H cl vs->∀ {i:Nat} {v:V},vs[i]?=some v->∃ p o u,cl[i]?=some p/\H p.2=some (.frz o anyU)/\o.data=.cell (some u)/\RelV v u
 | _,_,_,.nil,i,v,e=>by simp at e
 | H,_,_,.cons (a:=p) (b:=v0) ⟨o,u,h1,h2,h3⟩ t,i,v,e=>by
  cases i with
  | zero=>simp at e;subst e;exact⟨p,o,u,by simp,h1,h2,h3⟩
  | succ i =>
   obtain⟨p',o',u',e1,e2⟩:=zBc.get (H:=H) t (i:=i) (v:=v) (by simpa using e);exact⟨p',o',u',by simpa using e1,e2⟩
def zBc.mem (h:zBc H cl vs):∀ p∈cl,∃ o u,H p.2=some (.frz o anyU)/\o.data=.cell (some u):=by
 induction h with
 | nil=>intro p a;exact absurd a (by simp)
 | cons r t b =>
  intro p a;rcases mem_cons.mp a with rfl | a
  .obtain ⟨o,u,h1,h2,_⟩:=r;exact⟨o,u,h1,h2⟩
  .exact b p a
noncomputable def zTc (P:Program)(w:World)(K:W.Frag)(mg:Str->Option Value)(base:Heap)(N:List Str)(L:LamI)(f c:Addr)(cl:List (Str×Addr))(A:Around)(outer:List Env)(s:Shared)(H:Hp):Cx where
 prog:=P
 w:=w
 K:=K
 mg:=mg
 base:=base
 A:=A.deeper (W.envX L.qual L.scope s.heap.objs.size f (.ref c) cl)
 N:=N
 s0:=s
 Y7:=H
 env:=W.envX L.qual L.scope s.heap.objs.size f (.ref c) cl
 outer:=outer
 stack:=W.envX L.qual L.scope s.heap.objs.size f (.ref c) cl::outer
 ex:=[]
 calm:=true
 fn:=λ_=>false
 pn:=[]
 xe:=λ_ _=>False
structure zGG (x:Str)(ys:List Str)(L:LamI):Prop where
 kind:L.scope.kind=.function
 co:L.scope.isCoroutine=false
 gen:L.scope.isGenerator=false
 nd:(x::ys).Nodup
 par:L.scope.names.lookup x=some .local
 fr:∀ y∈ys,L.scope.names.lookup y=some .free
 all:∀ y,L.scope.names.lookup y=some .free->y∈ys
 nocell:∀ y∈L.scope.names,y.2≠.cell
 bind:∀ cl pm c ctv u,bindArgs (W.kla_fn "<lambda>" L.qual L.params L.body L.scope cl pm c ctv) ⟨[u],[]⟩=pure [(x,u)]
def zGc {ys:List Str}:∀ {cl:List (Str×Addr)},cl.map (·.1)=ys->ys.Nodup->∀ {i:Nat} {p:Str×Addr},cl[i]?=some p->cl.lookup p.1=some p.2/\ys[i]?=some p.1:=λ{cl} h a {i p} e=>by
 refine⟨?_,by rw[<- h,getElem?_map,e];rfl⟩;subst h
 induction cl generalizing i with
 | nil=>simp at e
 | cons q cl c =>
  rw[map_cons,nodup_cons] at a;cases i with
  | zero=>simp at e;subst e;rw[lookup_cons,beq_self_eq_true]
  | succ i =>
   have b:cl[i]?=some p:=by simpa using e
   rw[lookup_cons,beq_eq_false_iff_ne.mpr λz=>a.1 (by rw[<- z];exact mem_map.mpr ⟨p,mem_of_getElem? b,rfl⟩)];exact c b a.2
def zPw {P:Program}{w:World}{K:W.Frag}{Z:Str->Option Value}{base:Heap}{x:Str}{ys:List Str}{L:LamI}{f c:Addr}{cl:List (Str×Addr)}{A:Around}{k:List Env}{s:Shared}{H:Hp}{u:Value}{v:V}{vs:List V}{E:Heap}
  (S:zGG x ys L) (hd:A.handled=none) (Q:A.depth+1+Builtin.pylongFrames < recursionLimit) (g:Env0 P w K Z base A k s H) (r:RelV v u) (J:cl.map (·.1)=ys) (T:(cl.map (·.2)).Nodup) (G:zBc H cl vs)
  (N:E.Ns s.heap.objs.size (λy=>([(x,u)]:List (Str×Value)).reverse.lookup y)) (R:Heap.SameBut s.heap.objs.size (s.heap.push { cls:=.type "frame",data:=.dict #[] }) E) (tk:Nat) :
  Inv (zTc P w K Z base (x::ys) L f c cl A k s (hide H (cl.map (·.2)))) [] (some v::vs.map some) (hide H (cl.map (·.2))) { s with heap:=E,toks:=tk }:=by
 have I:∀ b o,s.heap.get? b=some o->E.get? b=some o:=λb o e=>R.extBut b o (ne_of_lt (lt_size e)) (get?_push_of_some _ e)
 have hS:∀ b∈cl.map (·.2),∃ o v,H b=some (.frz o anyU)/\o.data=.cell v:=λb z=>by
  obtain⟨p,n,rfl⟩:=mem_map.mp z;obtain⟨o,u,h1,h2⟩:=G.mem p n;exact⟨o,_,h1,h2⟩
 have X:=zM4 hS g.hok;have none_of:∀ {b:Addr},H b=none->hide H (cl.map (·.2)) b=none:=λ{b} q=>by
  by_cases z:b∈cl.map (·.2)
  .exact zCR z
  .rw [zAV z];exact q
 have M:∀ {y:Str} {j:Addr},cl.lookup y=some j->(y,j)∈cl:=λe=>PySem.mem_of_lookup e
 have cell:∀ {y:Str} {j:Addr},(y,j)∈cl->∃ cv,E.IsCell j cv:=λ{y j} m=>by
  obtain⟨o,u,h1,h2⟩:=G.mem _ m;obtain⟨D,_⟩:=g.hok _ _ h1;exact⟨_,o,I _ _ D,h2⟩
 have d:ys.Nodup:=(nodup_cons.mp S.nd).2;have nx:x∉ys:=(nodup_cons.mp S.nd).1;have t:∀ b:Addr,b∉([]:List Addr):=λb z=>absurd z (by simp)
 have lv:vs.length=cl.length:=(Paired.length G).symm;refine⟨⟨g.mod,S.kind,rfl,rfl,le_refl _,λy z j h1 h2=>?_,λy C=>?_,λy j q _=>(by cases q),λ_=>hd,Around.frames_deeper g.frames,.inr ⟨rfl,rfl⟩,λb z=>absurd z (t b),λb o e=>⟨(g.bs b o e).1,none_of (g.bs b o e).2⟩,g.bsz,λb _ _=>t b,λb z=>absurd z (t b),g.funs,λb z=>none_of (g.frf b z),⟨Q,g.tree,_,_,rfl,S.gen,S.co,rfl,rfl⟩,λy C j Y e=>?_⟩,
  rfl,g.bare,Un.kept I,⟨_,N,λi y v' h1 h2 h3=>?_⟩,λy j h=>cell (M h),g.hok.fresh (le_refl _) |> none_of,λy j h=>zCR (mem_map.mpr ⟨_,M h,rfl⟩),λp n=>absurd (show p∈([]:List (Addr×Obj)) from n) (by simp),X.kept I,?_⟩
 .-- the cells are apart
  have a1:=M h1;have a2:=M h2;have O:∀ {l:List (Str×Addr)},(l.map (·.2)).Nodup->∀ {p q:Str×Addr},p∈l->q∈l->p.2=q.2->p=q:=by
   intro l nd
   induction l with
   | nil=>intro p q n;exact absurd n (by simp)
   | cons a l ih =>
    grind
  exact congrArg Prod.fst (O T a1 a2 rfl)
 .have F:L.scope.names.lookup y=some .cell\/L.scope.names.lookup y=some .free:=C;rcases F with q | q
  .exact absurd rfl (S.nocell _ (PySem.mem_of_lookup q))
  .have m:=S.all y q;rw[<- J] at m;obtain⟨p,n,rfl⟩:=mem_map.mp m;obtain⟨i,hi,e⟩:=List.getElem_of_mem n;exact⟨p.2,(zGc J d (i:=i) (p:=p) (by rw[<- e];exact getElem?_eq_getElem hi)).1⟩
 .have q:=g.tabs y C j Y e;show hide H _ Y=_;rw[zAV λz=>?_]
  .exact q
  .obtain ⟨o,_,q2,_⟩:=hS Y z;rw[q] at q2;cases q2
 .cases i with
  | zero =>
   have D:x=y:=by
    have B:(x::ys)[0]?=some y:=h1;simpa using B
   have U:v=v':=by simpa using h2
   subst D U;exact⟨u,r,.inl ⟨S.par,by simp⟩⟩
  | succ i =>
   have D:ys[i]?=some y:=by
    have B:(x::ys)[i+1]?=some y:=h1;simpa using B
   have U:vs[i]?=some v':=by
    simp_all
   obtain⟨p,o,uu,g1,g2,g3,g4⟩:=G.get U;obtain⟨k1,k2⟩:=zGc J d g1;rw[D] at k2;have ey:y=p.1:=xj k2;subst ey;obtain⟨g5,_⟩:=g.hok _ _ g2;exact⟨uu,g4,.inr ⟨.inr (S.fr _ (mem_of_getElem? D)),p.2,k1,o,I _ _ g5,g3⟩⟩
 .show (some v::vs.map some).length=(x::ys).length;rw[xY,xY,qy,lv,<- J,qy]
def zM0 {P:Program}{w:World}{K:W.Frag}{C:Str->Option Value}{base:Heap}{A:Around}{a:List Env}{s:Shared}{H:Hp}{Q:VK}{E:XK}{k:Nat}{f:Addr}{L:LamI}{x:Str}{ys:List Str}{v:V}{u:Value}{vs:List V}
  (n:Room (k+1) A) (d:Env0 P w K C base A a s H) (G:zEB H L f vs) (ey:frN L=ys) (S:zGG x ys L) (rv:RelV v u)
  (g:∀ (c:Addr) (cl:List (Str×Addr)),cl.map (·.1)=ys->zBc H cl vs->(∀ b∈cl.map (·.2),∃ o v,H b=some (.frz o anyU)/\o.data=.cell v)->∃ t:TE,PE (zTc P w K C base (x::ys) L f c cl A a s (hide H (cl.map (·.2)))) L.body t /\
   t (some v::vs.map some) (hide H (cl.map (·.2))) λv' H2=>∀ H',(∀ b∈cl.map (·.2),H' b=H b)->(∀ b,b∉cl.map (·.2)->H' b=H2 b)->Same H2 H'->(∀ b∈cl.map (·.2),H2 b=none)->Q v' H') :
  codeAny (model P w) A (.call (.ref f) ⟨[u],[]⟩) (CR CX0 a P w H s Q E) s:=by
 obtain⟨cl,pm,c,Y,X,u1,h1,h2,h3,h4,h5,h6⟩:=G;rw[ey] at h4;obtain⟨F,_⟩:=d.hok _ _ h1;obtain⟨O,_⟩:=d.hok _ _ h2;obtain⟨r,ct,d1,U⟩:=h3;have y:∀ b∈cl.map (·.2),∃ o v,H b=some (.frz o anyU)/\o.data=.cell v:=λb z=>by
  obtain⟨p,T,rfl⟩:=mem_map.mp z;obtain⟨o,u,M,q2⟩:=h6.mem p T;exact⟨o,_,M,q2⟩
 refine W.kla_callFunE n.depth F rfl S.co S.gen rfl ⟨c,X,r,ct,rfl,O,d1,U⟩ ?_;rw[S.bind];have B:s.heap.NoLimit:=d.mod.nolimit.keeps λb o e=>(d.bs b o e).1
 refine q9 (wpAny_newFunctionEnv S.nocell (λy hy=>by rw[mem_singleton.mp hy];exact S.par) (λO8 l i=>⟨B.fresh _ i,?_⟩) S.kind);obtain⟨t,ht,hq⟩:=g c cl h4 h6 y;have I:=zPw (f:=f) (c:=c) S n.hd (by have:=n.dp;show A.depth+1+100 < _;omega) d rv h4 h5 h6 l i (s.toks+1);refine W.kla_codeExpr (wpAny_mono (ht [] _ _ _ _ I hq) (λuu Z j=>?_) λe Z j=>j.elim);obtain⟨v',H2,J,m,q⟩:=j;obtain⟨H',D,p2,p3,R,un,h⟩:=zO5 (P:=P) (w:=w) (fs:=frs a) (S:=cl.map (·.2)) (λb z=>let ⟨o,_,q,_⟩:=y b z;⟨o,q⟩) (λb z N=>by
  obtain⟨o,_,q,_⟩:=y b z;rw[d.frf b N] at q;cases q) d.hok J.base J.hok
 exact⟨v',H',J.os,J.bare,un,h,m,q H' D p2 p3 R⟩
noncomputable def clos:List (Str×NameKind)->List (Str×Addr)->List (Str×Addr)->Option (List (Str×Addr))
 | [],_,acc=>some acc
 | (x,k)::r,cs,acc=>if k==.free then (match cs.lookup x with
  | some c=>clos r cs ((x,c)::acc)
  | none=>none) else clos r cs acc
theorem zHm :∀ {l:List (Str×NameKind)} {acc:List (Str×Addr)},clos l env.cells acc=some cl ->
  (forIn l acc (λ(x:Str×NameKind) (r:List (Str×Addr))=>match x with
   | (name,kind)=>if (kind==.free)=true then (do let c<-cellOf env name;pure (ForInStep.yield ((name,c)::r))) else pure (ForInStep.yield r)):Sem (List (Str×Addr)))=pure cl
 | [],acc,h=>by
  cases h;simp
 | (x,k)::l,acc,h=>by
  unfold clos at h;rw[forIn_cons];by_cases e:(k==NameKind.free)=true
  .rw [if_pos e] at h;split at h
   .rename_i c ec;have:=zHm (l:=l) h;have ce:cellOf env x=pure c:=by unfold cellOf;rw[ec]
    simp only[e,if_true,ce,pure_bind];exact this
   .cases h
  .rw [if_neg e] at h;have:=zHm (l:=l) h;simp only[e,Bool.false_eq_true,if_false,pure_bind];exact this
def zFO (h:clos sc.names env.cells []=some cl):closureFor sc env=pure cl:=by
 unfold closureFor;have:=zHm h;simp only[bind_pure];omega
def zGL {a b:Nat}{c:Value}(l:List Value)(h:TriplesOk l):TriplesOk (l++[rawInt a,rawInt b,c]):=by
 fun_induction TriplesOk l with
 | case1=>simp[TriplesOk,rawInt]
 | case2 _ _ _ _ _ rest d=>simpa [TriplesOk] using d h
 | case3=>cases h
def zJL {pos:Pos}{a b:Nat}{c d:Value}(l:List Value)(h:TriplesOk l)(e:codeAmong pos (l++[rawInt a,rawInt b,c])=some d):codeAmong pos l=some d\/d=c:=by
 fun_induction TriplesOk l with
 | case1 =>
  simp only[nil_append,rawInt,codeAmong] at e
  simp_all
 | case2 f t i u x rest g =>
  simp only[cons_append,codeAmong] at e ⊢;split at e
  .simp_all
  .rename_i z;rw[if_neg z];exact g h e
 | case3=>cases h
section
variable {X:Cx}{pins:List (Addr×Obj)}{B:St}{H:Hp}{s:Shared}
theorem zMz (I:Inv X pins B H s)
  (hd:defaultsOf params X.env=([],[])) (hcl:clos scope.names X.env.cells []=some cl) (hcode:X.env.code=.ref c) (C:W.CodeHd X.base c P) (hP:H P=some (.tbl (X.env.qual ++ "<lambda>")))
  (h:∀ f c' ctv pm oc u1 H1 s',Same H H1->H f=none->H1 f=some (.frz (W.kla_obj "<lambda>" (X.env.qual ++ "<lambda>") params body scope cl pm c' ctv) anyU)->H1 c'=some (.frz oc u1)->zMD oc (X.env.qual ++ "<lambda>")->Inv X pins B H1 s'->Q (.ref f) s') :
  wpAny (model X.prog X.w) X.A (eval (.Lambda params body scope pos) X.env) Q E s:=by
 refine W.kla_eval hd ?_;have hg:s.heap.Ns mainGlobals X.mg:=I.ok.mod.glob.keeps I.bk;obtain⟨ps,e1,t1,cs⟩:=I.hok P _ hP;have C':=C.keeps I.bk;have hgP:mainGlobals≠P:=λz=>by
  obtain⟨o,es,ep,e,d,_⟩:=hg;rw[z,e1] at e;cases e;cases d
 obtain⟨bm,ob,b1,b2,b3,b4,b5,b6⟩:=I.ok.mod.bm;have b3':=I.bk _ _ b3;have hbm:bm≠mainGlobals:=λz=>by
  obtain⟨o,es,ep,e,d,_⟩:=hg;rw[<- z,b3'] at e;cases e;rw[b6] at d;cases d
 have hbP:bm≠P:=λz=>by
  rw[z,e1] at b3';cases b3';cases b4
 have hb:s.heap.BuiltinsAt X.mg P:=⟨bm,ob,b1,b2,hbm,hbP,b3',b4,b5,b6⟩;cases e:codeAmong pos ps.toList with
 | none =>
  refine W.kla_makeFunction (zFO hcl) I.ok.glob hg hcode C' e1 t1 e hgP hb λc' ctv h' tk hx hge hlt hrec htb=>?_
  obtain⟨c2,oc,vs,t,q1,q2,q3,q4⟩:=hrec;cases q1;have szh:s.heap.objs.size<=h'.objs.size:=le_trans hge (Nat.le_of_lt hlt);have nc:H c'=none:=I.hok.fresh hge;have nf:H h'.objs.size=none:=I.hok.fresh szh;have ncf:c'≠h'.objs.size:=ne_of_lt hlt;obtain⟨fo,efo⟩:∃ fo:Obj,fo=W.kla_obj "<lambda>" (X.env.qual ++ "<lambda>") params body scope cl ((X.mg "__name__").getD .none) c' ctv:=⟨_,rfl⟩;obtain⟨H1,eH⟩:∃ H1:Hp,H1=upd (upd H c' (.frz oc anyU)) h'.objs.size (.frz fo anyU):=⟨_,rfl⟩;have sm:Same H H1:=λb o q=>by
   rw[eH,zAX (zAv q nf),zAX (zAv q nc)];exact q
  have at1:H1 h'.objs.size=some (.frz fo anyU):=by rw[eH];exact zAc
  have at2:H1 c'=some (.frz oc anyU):=by rw[eH,zAX ncf];exact zAc
  have oth:∀ {b:Addr},b≠c'->b≠h'.objs.size->H1 b=H b:=λ{b} z1 z2=>by rw[eH,zAX z2,zAX z1]
  have kp:∀ b o,b≠P->s.heap.get? b=some o->(h'.push fo).get? b=some o:=λb o z q=>get?_push_of_some _ (hx b o z q)
  have lt:∀ {b:Addr} {o:Obj},s.heap.get? b=some o->b≠c'/\b≠h'.objs.size:=λ{b o} q=>⟨ne_of_lt (xQ (lt_size q) hge),ne_of_lt (xQ (lt_size q) szh)⟩
  have nP:∀ {b:Addr},H b=none->b≠P:=λ{b} q z=>by rw[z,hP] at q;cases q
  have un:Un X.fs [] H H1 s.heap (h'.push fo):=⟨λb o q n _ _=>kp b o (nP n) q,λb o q n _ _=>⟨o.slots,kp b o (nP n) q⟩,λb o q n _=>by
    obtain⟨z1,z2⟩:=lt q;rw[oth z1 z2];exact n,λb o q _=>by
    by_cases z:b=P
    .subst z;exact⟨_,get?_push_of_some _ htb⟩
    .exact ⟨o,kp b o z q⟩,λb xs q=>sm _ _ q,λb o u q=>sm _ _ q,λb q' q=>sm _ _ q⟩
  have hok:HOk X.prog X.w H1 (h'.push fo):=λb u q=>by
   by_cases z1:b=h'.objs.size
   .subst z1;rw[at1] at q;cases q;exact zEZ (get?_push_size _ (by rw[efo];rfl))
   .by_cases z2:b=c'
    .subst z2;rw[at2] at q;cases q;exact zEZ (get?_push_of_some _ q2)
    .rw [oth z2 z1] at q;by_cases z3:b=P
     .subst z3;rw[hP] at q;cases q;refine⟨_,get?_push_of_some _ htb,?_,λpos' cv z=>?_⟩
      .rw [Array.toList_append];exact zGL _ t1
      .rw [Array.toList_append] at z;rcases zJL _ t1 z with z | z
       .obtain ⟨c3,oc3,u3,g1,g2,g3⟩:=cs pos' cv z;exact⟨c3,oc3,u3,g1,sm _ _ g2,g3⟩
       .exact ⟨c',oc,anyU,z,at2,vs,t,q3,q4⟩
     .refine (I.hok b u q).stay (λd v hd w'=>kp d v ?_ w') (λd w'=>sm _ _ w') (λd xs w'=>sm _ _ w') λd o' u' w' _=>sm _ _ w'
      grind
  have I1:=I.un (t':=tk) un hok;rw[efo] at I1 at1;exact h _ c' ctv _ oc anyU H1 _ sm nf at1 at2 ⟨vs,t,q3,q4⟩ I1
 | some cv =>
  obtain⟨c',oc,u1,rfl,hc',co⟩:=cs pos cv e;refine W.kla_makeFunctionHit (zFO hcl) I.ok.glob hg hcode C' e1 t1 e hb λctv h' tk hk hsz=>?_
  have nf:H h'.objs.size=none:=I.hok.fresh hsz;have I1:=I.laid (a:=h'.objs.size) (o:=.frz (W.kla_obj "<lambda>" (X.env.qual ++ "<lambda>") params body scope cl ((X.mg "__name__").getD .none) c' ctv) anyU) (t':=tk) (λb o q=>get?_push_of_some _ (hk b o q)) hsz (zEZ (get?_push_size _ rfl));exact h _ c' ctv _ oc u1 _ _ (zAd nf _) nf zAc (by rw[zAX (zAv hc' nf)];exact hc') co I1
end
end DL
end
section
namespace DL
open PySem Spec PyProof.Rows L2
mutual
noncomputable def noF:D->Bool
 | .lam _ _ _=>false
 | .tup ds=>noFs ds
 | .lst ds=>noFs ds
 | .obj _ _ ds=>noFs ds
 | _=>true
noncomputable def noFs:List D->Bool
 | []=>true
 | d::ds=>noF d&&noFs ds
end
abbrev zRB (H:Hp) (S:List Addr):Prop:=∀ b∈S,∃ o v,H b=some (.frz o anyU)/\o.data=.cell v
section
variable {K:W.Frag}{H:Hp}{S:List Addr}
def zCW (a:zRB H S)(e:H b=some u)(n:∀ o v,u=.frz o anyU->o.data≠.cell v):hide H S b=some u:=by
 rw[zAV λz=>?_]
 .omega
 .obtain ⟨o,v,c,d⟩:=a b z
  simp_all
mutual
theorem Den.hideC (hS:zRB H S):∀ {d:D} {v:V},noF d=true->Den K H d v->Den K (hide H S) d v
 | .non,_,_,h=>by rw[Den] at h ⊢;exact h
 | .bl _,_,_,h=>by rw[Den] at h ⊢;exact h
 | .int _,_,_,h=>by rw[Den] at h ⊢;exact h
 | .str _,_,_,h=>by rw[Den] at h ⊢;exact h
 | .tup ds,_,n,h=>by
  rw[noF] at n;rw[Den] at h ⊢;obtain⟨a,vs,h1,h2,h3⟩:=h;refine⟨a,vs,h1,?_,DenL.hideC hS n h3⟩;rcases h2 with (q | ⟨o,q⟩) | q
  .exact .inl (.inl (zCW hS q λo v z=>nomatch z))
  .exact .inl (.inr ⟨o,zCW hS q λo v z=>nomatch z⟩)
  .exact .inr q
 | .lst ds,_,n,h=>by
  rw[noF] at n;rw[Den] at h ⊢;obtain⟨a,vs,h1,h2,h3⟩:=h;refine⟨a,vs,h1,?_,DenL.hideC hS n h3⟩;rcases h2 with (q | ⟨o,q⟩) | q
  .exact .inl (.inl (zCW hS q λo v z=>nomatch z))
  .exact .inl (.inr ⟨o,zCW hS q λo v z=>nomatch z⟩)
  .exact .inr q
 | .exc c,_,_,h=>by
  rw[Den] at h ⊢;obtain⟨a,o,u,C,h1,h2,h3,⟨vs,h4⟩,h5⟩:=h;exact⟨a,o,u,C,h1,zCW hS h2 (λo' v z d=>by cases z;rw[h4] at d;cases d),h3,⟨vs,h4⟩,h5⟩
 | .dct ks,_,_,h=>by
  rw[Den] at h ⊢;obtain⟨a,kvs,h1,h2,h3⟩:=h;exact⟨a,kvs,h1,zCW hS h2 (λo v z=>nomatch z),h3⟩
 | .lam _ _ _,_,n,_=>by rw[noF] at n;cases n
 | .obj c ns ds,_,n,h=>by
  rw[noF] at n;rw[Den] at h ⊢;obtain⟨a,vs,h1,⟨C,dx,gs,h2,h3⟩,h4⟩:=h;exact⟨a,vs,h1,⟨C,dx,gs,zCW hS h2 (λo v z=>nomatch z),h3⟩,DenL.hideC hS n h4⟩
 | .fn _ x,_,_,h=>by rw[Den] at h ⊢;exact h
theorem DenL.hideC (hS:zRB H S):∀ {ds:List D} {vs:List V},noFs ds=true->DenL K H ds vs->DenL K (hide H S) ds vs
 | [],_,_,h=>by rw[DenL] at h ⊢;exact h
 | d::ds,_,n,h=>by
  rw[noFs,x8] at n;rw[DenL] at h ⊢;obtain⟨v,ws,h1,h2,h3⟩:=h;exact⟨v,ws,h1,Den.hideC hS n.1 h2,DenL.hideC hS n.2 h3⟩
end
end
def zFW (P:Program)(w:World)(K:W.Frag)(mg:Str->Option Value)(base:Heap)(k:Nat)(L:LamI)(F:List D->Option R):Prop :=
 ∀ (A:Around) (outer:List Env) (s:Shared) (H:Hp) (f:Addr) (vs:List V) (ds:List D) (v:V) (u:Value) (d:D) (r:R) (Q:VK) (E:XK),Room k A->Env0 P w K mg base A outer s H->zEB H L f vs->DenL K H ds vs->RelV v u->Den K H d v->F (d::ds)=some r->r.2≠.dt ->
  (∀ v' H',Same H H'->RV K H H' [] r v'->Q v' H')->codeAny (model P w) A (.call (.ref f) ⟨[u],[]⟩) (CR CX0 outer P w H s Q E) s
def zFW.mono {K:W.Frag}(h:zFW P w K mg base j L F)(e:j<=k):zFW P w K mg base k L F :=
 λA a s H f b c v u d r Q E g=>h A a s H f b c v u d r Q E (g.mono e)
def zPm {K:W.Frag}(S:zGG x ys L)(ey:frN L=ys)
  (V:∀ Y:Cx,Y.prog=P->Y.w=w->Y.K=K->Y.mg=mg->Y.base=base->Room k Y.A->Y.calm=true->Y.N=x::ys->Y.env.scope=L.scope->Y.xe=(λ_ _=>False)->GE Y L.body G) :
  zFW P w K mg base (k+1) L (λds=>if ds.length=ys.length+1/\noFs ds=true then G (ds.map λd=>some (d,false)) else none):=by
 intro A y s H f vs ds v u d r Q E J e0 T M rv dd h Z c;replace h:(if (d::ds).length=ys.length+1/\noFs (d::ds)=true then G ((d::ds).map λd=>some (d,false)) else none)=some r:=h;have q:=Classical.byContradiction λz=>by rw[if_neg z] at h;cases h
 rw[if_pos q] at h;have p:=q.2;rw[noFs,x8] at p;refine zM0 J e0 T ey S rv λcc cl b0 hc I=>⟨_,V _ rfl rfl rfl rfl rfl (J.deeper _) rfl rfl rfl rfl,?_⟩
 have n:=Den.hideC I p.1 dd;have B:=DenL.hideC I p.2 M;refine⟨[],(d::ds).map λd=>some (d,false),r,⟨?_,λa z=>absurd z (by simp),λi g o z=>?_,λi j g e' a l _ _ _=>?_⟩,h,λv' R s2 r2 m p1 p2 t p4=>?_⟩
 .rw [qy,xY,xY,qy,M.length]
 .rw [getElem?_map] at z;obtain⟨d2,l,F⟩:=x9.mp z;cases F;cases i with
  | zero =>
   have:d=g:=by simpa using l
   subst this;exact⟨v,rfl,.of_den (by rw[zCx];exact n)⟩
  | succ i =>
   have D:ds[i]?=some g:=by simpa using l
   obtain⟨v2,g1,g2⟩:=B.get D;exact⟨v2,by show (vs.map some)[i]?=_;rw[getElem?_map,g1];rfl,.of_den (by rw[zCx];exact g2)⟩
 .rw [getElem?_map] at l;obtain⟨d2,_,F⟩:=x9.mp l;cases F
 .have U:Same H m:=λb o e=>by
   by_cases z:b∈cl.map (·.2)
   .rw [p1 b z];exact e
   .rw [p2 b z];exact s2 b o (by rw[zAV z];exact e)
  refine c v' m U ?_;obtain⟨g,kd⟩:=r;cases kd with
  | cl =>
   have z:Den K (hide R []) g v':=r2;show Den K (hide m []) g v';rw[zCx] at z ⊢;exact z.mono t
  | fr =>
   obtain⟨a,ws,es,n,B,e3,O,C,X⟩:=r2;have na:a∉cl.map (·.2):=λz=>by rw[p4 a z] at C;cases C
   refine⟨a,ws,es,n,B,e3,by rw[zAV na] at O;exact O,t _ _ C,X.mono (zAW t)⟩
  | dt=>exact absurd rfl Z
open Classical in
noncomputable def lamF (lm:List (LamI×(List D->Option R)))(j:Nat)(L:LamI)(ds:List D):Option R:=match lm[j]? with
 | some (L',F)=>if L'=L then F ds else none
 | none=>none
noncomputable def fnvF (fns:List (Str×(List D->Option R)))(n:Nat)(x:Str)(ds:List D):Option R:=match fns[n]? with
 | some (y,F)=>if y=x then F ds else none
 | none=>none
noncomputable def zEn (lm:List (LamI×(List D->Option R)))(fns:List (Str×(List D->Option R)))(i:Nat)(f:Dst->Option R):Dst->Option R:=λO=>match O[i]? with
 | some (some (.fn n y,false))=>(f O).bind λx=>if x.2=.dt then none else (fnvF fns n y [x.1]).bind λr=>if r.2=.dt then none else some r
 | some (some (.lam j L ds,false))=>(f O).bind λx=>if x.2=.dt then none else (lamF lm j L (x.1::ds)).bind λr=>if r.2=.dt then none else some r
 | _=>none
variable {X:Cx}
def zNJ (LR:∀ (j:Nat) L F,lm[j]?=some (L,F)->zFW X.prog X.w X.K X.mg X.base k L F)(FR:∀ x F,(x,F)∈fns->∃ f fd ps,FnOk X.prog X.w X.K X.mg X.base CX0 k f fd ps (spD X.K F)/\X.mg x=some (.ref f)/\W.keepIn X.K (.ref f)=true/\zBP X.K fd ps [])(hr:Room k X.A)(hN:X.N[i]?=some y)(hv:Vis X.env.scope y)(hd:(y==("__debug__":Str))=false)(Z:(y==("__classdict__":Str))=false)
  (ha:GE X a f) (he:starEach (a::[]) X.env=(false,eval a X.env)::starEach [] X.env) (px:PassesOwn (model X.prog X.w) X.A X.env X.xe:=by assumption):GE X (.Call (.Name y p) [a] [] pos) (zEn lm fns i f):=by
 intro l s B H Q I ⟨S,O,z,C,e,c⟩;unfold zEn at e;split at e
 .rename_i n x0 q;obtain⟨x,ex,e⟩:=bind_some e;by_cases hx:x.2=.dt
  .rw [if_pos hx] at e;cases e
  rw[if_neg hx] at e;obtain⟨r,b,e⟩:=bind_some e;by_cases hk:r.2=.dt
  .rw [if_pos hk] at e;cases e
  rw[if_neg hk] at e;cases e;obtain⟨v0,q1,q2⟩:=C.get i _ false q;have P:=q2.den rfl;rw[Den] at P;obtain⟨m,rfl,cn⟩:=P;unfold fnvF at b;split at b
  .rename_i y' F el;have R:y'=x0:=Classical.byContradiction λz=>by rw[if_neg z] at b;cases b
   rw[if_pos R] at b;subst R;obtain⟨f1,fd,ps,FO,hm,b2,hb⟩:=FR _ F (mem_of_getElem? el);have K:X.mg y'=some (.ref m):=W.mg_of I.ok.mod.kin I.ok.mod.glob cn;rw[hm] at K;cases K;refine wpAny_Call_Name_kw (thn (zDS hN hv hd Z l s B H (λx g=>x=.ref m/\g=H) I ⟨_,q1,rfl,rfl⟩) λu w T=>?_);obtain⟨x1,g,G,rx,e1,e2⟩:=T;subst e1 e2;obtain rfl:u=Value.ref m:=rx;refine W.callWith_K (h₀:=X.base) G.ok.mod.kin b2 (thn (zAj ha zBE he pos l w B _ (λvs h=>spD X.K F (vs++[]) h Q E0) G ?_) λus o A=>by obtain⟨vs,h,D,rr,qq⟩:=A;exact⟨D.kIn,zE1 FO hr hb .nil zHJ D rr qq⟩) he rfl;refine⟨S,O,x,C,ex,λvx h o r2=>?_⟩;exact⟨S,[x.1],_,(C.mono o).sok,.cons (RV.den (d:=x.1) (k:=x.2) r2 hx) .nil,b,hk,λv H' J r3=>c v H' (o.trans J) (r3.from o)⟩
  .cases b
 .rename_i j L dl q;obtain⟨x,ex,e⟩:=bind_some e;by_cases hx:x.2=.dt
  .rw [if_pos hx] at e;cases e
  rw[if_neg hx] at e;obtain⟨r,b,e⟩:=bind_some e;by_cases hk:r.2=.dt
  .rw [if_pos hk] at e;cases e
  rw[if_neg hk] at e;cases e;obtain⟨v0,q1,q2⟩:=C.get i _ false q;have P:=q2.den rfl;rw[Den] at P;obtain⟨m,vs,rfl,la,b3⟩:=P;unfold lamF at b;split at b
  .rename_i L' F el;have R:L'=L:=Classical.byContradiction λz=>by rw[if_neg z] at b;cases b
   rw[if_pos R] at b;subst R;have Y:∀ {g:Hp} {w:Shared},zEB g L' m vs->HOk X.prog X.w g w.heap->W.FnAt m w.heap:=λ{g w} la b7=>by
    obtain⟨cl,pm,c',d8,oc,u1,g1,_⟩:=la;obtain⟨g2,_⟩:=b7 _ _ g1;exact⟨_,_,_,_,g2⟩
   refine wpAny_Call_Name_kw (thn (zDS hN hv hd Z l s B H (λx g=>x=.ref m/\g=H) I ⟨_,q1,rfl,rfl⟩) λu w M=>?_);obtain⟨x1,g,G,rx,e1,e2⟩:=M;subst e1 e2;obtain rfl:u=Value.ref m:=rx;have a8:gT X.K f B g λvx h=>Same g h/\RV X.K g h S x vx:=⟨S,O,x,C,ex,λvx h o r2=>⟨o,r2⟩⟩
   refine W.callWith_F (Y (la.mono zAo) G.hok) (thn (zAj ha zBE he pos l w B _ (λxs h=>∃ vx,xs=[vx]/\Same g h/\RV X.K g h S x vx) G (by
    obtain⟨S',O1,r',g1,g2,g3⟩:=a8;exact⟨S',O1,r',g1,g2,λvx h o r2=>⟨vx,rfl,g3 vx h o r2⟩⟩)) λus o ⟨xs,h,D,a6,vx,b1,V,b0⟩=>?_) he
   subst b1;obtain⟨uu,rfl,b8⟩:=zG4 a6;have N:zEB (hide h S) L' m vs:=la.mono (zAW V);refine⟨Y (N.mono zAo) D.hok,?_⟩;refine wpAny_call (codeAny_mono (zEa (r:=z) (Q:=Q) (E:=E0) D.env0 (C.mono V).sok hk (λe1=>LR j L' F el _ _ _ _ m vs dl vx uu x.1 z _ _ hr e1 N (b3.mono (zAW V)) b8 (RV.den (d:=x.1) (k:=x.2) b0 hx) b hk λv' H' J r3=>⟨r3,J⟩) λv H' J r3=>c v H' (V.trans J) (r3.from V)) λrr s' hq=>?_);cases rr with
   | error e=>exact hq.elim
   | ok fl =>
    cases fl with
    | ret u=>exact D.after hq
    | next=>exact False.elim hq
    | brk=>exact False.elim hq
    | cont=>exact False.elim hq
  .cases b
 .cases e
noncomputable def zGs (fns:List (Str×(List D->Option R)))(i:Nat)(g:Dst->Option (List D)):Dst->Option R:=λO=>match O[i]? with
 | some (some (.fn n y,false))=>(g O).bind λds=>(fnvF fns n y ds).bind λr=>if r.2=.dt then none else some r
 | _=>none
def zNI {k i:Nat}{l:List (Str×(List D->Option R))}{y:Str}{a:Expr}{es:List Expr}{g:Dst->Option (List D)}{p pos:Pos}(FR:∀ x F,(x,F)∈l->∃ f fd ps,FnOk X.prog X.w X.K X.mg X.base CX0 k f fd ps (spD X.K F)/\X.mg x=some (.ref f)/\W.keepIn X.K (.ref f)=true/\zBP X.K fd ps [])(hr:Room k X.A)(hN:X.N[i]?=some y)(hv:Vis X.env.scope y)(hd:(y==("__debug__":Str))=false)(G:(y==("__classdict__":Str))=false)
  (ha:GA X (a::es) g) (he:starEach (a::es) X.env=(false,eval a X.env)::starEach es X.env) (t:∀ pos,(backTo pos (starEach es X.env)).any (·.1)=false) (px:PassesOwn (model X.prog X.w) X.A X.env X.xe:=by assumption):GE X (.Call (.Name y p) (a::es) [] pos) (zGs l i g):=by
 intro b s B H Q I ⟨S,O,z,A,e,c⟩;unfold zGs at e;split at e
 .rename_i n Y q;obtain⟨L,ex,e⟩:=bind_some e;obtain⟨r,d,e⟩:=bind_some e;by_cases hk:r.2=.dt
  .rw [if_pos hk] at e;cases e
  rw[if_neg hk] at e;cases e;obtain⟨v0,U,q2⟩:=A.get i _ false q;have M:=q2.den rfl;rw[Den] at M;obtain⟨w,rfl,cn⟩:=M;unfold fnvF at d;split at d
  .rename_i K F Z;have P:K=Y:=Classical.byContradiction λz=>by rw[if_neg z] at d;cases d
   rw[if_pos P] at d;subst P;obtain⟨f1,fd,ps,FO,hm,E,hb⟩:=FR _ F (mem_of_getElem? Z);have m:X.mg K=some (.ref w):=W.mg_of I.ok.mod.kin I.ok.mod.glob cn;rw[hm] at m;cases m;refine wpAny_Call_Name_kw (thn (zDS hN hv hd G b s B H (λx T=>x=.ref w/\T=H) I ⟨_,U,rfl,rfl⟩) λu s1 j=>?_);obtain⟨x1,T,N,rx,e1,e2⟩:=j;subst e1 e2;obtain rfl:u=Value.ref w:=rx;refine W.callWith_K (h₀:=X.base) N.ok.mod.kin E (thn (ha pos b s1 B _ (λvs C=>spD X.K F (vs++[]) C Q E0) N ⟨S,O,L,A,ex,λvs C o dl=>⟨S,L,_,(A.mono o).sok,by rw[append_nil];exact dl,d,hk,λv H' s3 r3=>c v H' (o.trans s3) (r3.from o)⟩⟩) λus o h=>by obtain⟨vs,C,J,rr,qq⟩:=h;exact⟨J.kIn,zE1 FO hr hb .nil zHJ J rr qq⟩) he (t pos)
  .cases d
 .cases e
end DL
end
section
namespace DL
open PySem Spec PyProof.Rows L2
variable {X:Cx}
noncomputable def fldD (ob:List (Str×Str×Option Bool))(f:Str):D->Option R
 | .obj c ns l=>if (c,f,none)∈ob then ((ns.zip l).lookup f).map λd=>(d,.cl) else none
 | _=>none
theorem zLD {K:W.Frag}{gs:List (Str×V)}:∀ {ns:List Str} {vs:List V} {l:List D},(ns.map λn=>gs.lookup n)=vs.map some->DenL K H l vs->(ns.zip l).lookup f=some d->∃ v,gs.lookup f=some v/\Den K H d v
 | [],_,_,_,_,e=>by simp at e
 | n::ns,vs,[],_,_,e=>by simp at e
 | n::ns,vs,x::l,h,t,e=>by
  rw[DenL] at t;obtain⟨v,us,rfl,t1,t2⟩:=t;simp only[map_cons,List.cons.injEq] at h;rw[List.zip_cons_cons,lookup_cons] at e;by_cases q:(f==n)=true
  .rw [q] at e;cases e;exact⟨v,by rw[eq_of_beq q];exact h.1,t1⟩
  .rw [Bool.not_eq_true] at q;rw[q] at e;exact zLD h.2 t2 e
theorem Rdv.obj {K:W.Frag}(h:Rdv K H S (.obj c ns l) v):Den K (hide H S) (.obj c ns l) v:=by
 rcases h with h | ⟨_,_,_,_,h2,_⟩
 .omega
 .cases h2
def zS4 (k:GE X e g)(w:attributeBase e fl X.env (eval e X.env)=eval e X.env)(y:∀ c,(c,fl,none)∈ob->∀ C,zBy X.K c C->Cls X.K C/\zBY X.K C fl):GE X (.Attribute e fl pos) (one g (fldD ob fl)):=by
 refine(zOK k w).imp λB H Q b=>?_
 obtain⟨S,O,z,s,e,c⟩:=b;obtain⟨x,p,e⟩:=bind_some e;unfold fldD at e;split at e
 .rename_i f D l q;by_cases m:(f,fl,none)∈ob
  .rw [if_pos m] at e;obtain⟨d,t,o⟩:=x9.mp e;cases o;refine⟨S,O,x,s,p,λvx n B r1=>?_⟩;have r2:=r1.rd;rw[q] at r2;have r3:=r2.obj;obtain⟨a,E,rfl,⟨C,r,u,h1,h2,h3,h4⟩,h5⟩:=r3;obtain⟨v,j,i⟩:=zLD h4 h5 t;obtain⟨A,h⟩:=y f m C h3;exact⟨a,C,r,u,v,rfl,zAo _ _ h1,A,h,j,c v n B i⟩
  .rw [if_neg m] at e;cases e
 .cases e
structure OCls (K:W.Frag)(C:Addr):Prop where
 cl:Cls K C
 ha:W.findIn K (.ref C) "__class__"=some (some (.builtin "object.__class__"))
 hm:W.mroIn K C (.type "object")=some true
 hn:W.specialIn K (.builtin "object.__class__") "__get__"=some (some (.builtin "getset_descriptor.__get__"))
 htk:W.takesIn K (.builtin "object.__class__")=some true
def ObOk (K:W.Frag)(mg:Str->Option Value)(p:Str×Str×Option Bool):Prop:=match p.2.2 with
 | none=>∀ C,zBy K p.1 C->Cls K C/\zBY K C p.2.1
 | some b=>∃ Y,mg p.2.1=some (.ref Y)/\∀ C,zBy K p.1 C->OCls K C/\W.kitOne K (.ref C) (.ref Y)=some b
end DL
end
section
namespace DL
open PySem Spec PyProof.Rows L2
set_option genSizeOf false in
set_option genInjectivity false in
inductive E where
 | var (i:Nat) | glob (n:Nat) (x:Str) | int (i:Int) | bl (b:Bool) | non | str (x:Str)
 | bin (op:Operator) (a b:E) | neg (a:E) | not (a:E) | cmp (op:CmpOp) (a b:E)
 | andl (es:E) | orl (es:E) | ite (c a b:E) | tup (es:E) | lst (es:E) | ix (a i:E) | sl (a lo hi:E)
 | comp1 (n:Nat) (ms:List Nat) (x:Str) (src c elt:E) 
 | lzip (a b:E)
 | it (e:E) | r1 (a:E) | r2 (a b:E) | r3 (a b c:E)
 | call (n:Nat) (f:Str) (es:E) | len (a:E) | abs (a:E) | list (a:E) | max (a b:E) | isi (t:Ty) (a:E) | chn (op op':CmpOp) (a b c:E) | tupl (a:E) | lrev (a:E) | callv (i:Nat) (a:E) | callw (i:Nat) (es:E) | fld (a:E) (f:Str) 
 | nil | cons (e es:E)
set_option genSizeOf false in
set_option genInjectivity false in
inductive S where
 | nil | cons (a b:S) | frz (i:Nat) (rest:S)
 | set (i:Nat) (e:E) | setC (i:Nat) (e:E) | app (i:Nat) (e:E) 
 | ife (c:E) (a b:S) | whl (c:E) (b:S) | for1 (i:Nat) (it:E) (b:S) 
 | ret (e:E) | retOwn (i:Nat) | never | ext (i:Nat) (e:E) | aug (op:Operator) (i:Nat) (e:E) | rse (c:Str) (m:E) 
structure Gm where
 fns:List (Str×(List D->Option R))
 cs:List (Str×D)
 xf:List (Str×(List D->Option Str))
 sub:List (Str×Str×Bool)
 rs:List Str
 lm:List (LamI×(List D->Option R))
 ob:List (Str×Str×Option Bool)
open Classical in
def mulD (i j:Int):Option R:=if IntMulOk i j then some (.int (i*j),.cl) else none
open Classical in
def zQX (i j:Int):Option R:=if zJO i j then some (.int (i.fdiv j),.cl) else none
noncomputable def binD (op:Operator)(x y:D):Option R:=match op with
 | .Add=>(match x,y with
  | .int i,.int j=>some (.int (i+j),.cl)
  | .lst xs,.lst ys=>if xs.length+ys.length<=10000 then some (.lst (xs++ys),.fr) else none
  | .tup (x::xs),.tup (y::ys)=>if (x::xs).length+(y::ys).length<=10000 then some (.tup ((x::xs)++(y::ys)),.cl) else none
  | _,_=>none)
 | .Sub=>(match x,y with
  | .int i,.int j=>some (.int (i - j),.cl)
  | _,_=>none)
 | .Mult=>(match x,y with
  | .int i,.int j=>mulD i j
  | .lst xs,.int j=>if 0<=j/\j<=10000/\xs.length*j.toNat<=10000 then some (.lst (List.replicate j.toNat xs).flatten,.fr) else none
  | _,_=>none)
 | .FloorDiv=>(match x,y with
  | .int i,.int j=>zQX i j
  | _,_=>none)
 | .Mod=>(match x,y with
  | .int i,.int j=>if j=0 then none else some (.int (i.fmod j),.cl)
  | _,_=>none)
 | .Pow=>(match x,y with
  | .int i,.int j=>if 0<=j/\j<=1000000/\i.natAbs < 2^64 then some (.int (i^j.toNat),.cl) else none
  | _,_=>none)
 | _=>none
def cmpD (op:CmpOp)(x y:D):Option R:=match op with
 | .Lt=>(match x,y with
  | .int i,.int j=>some (.bl (decide (i < j)),.cl)
  | _,_=>none)
 | .LtE=>(match x,y with
  | .int i,.int j=>some (.bl (decide (i<=j)),.cl)
  | _,_=>none)
 | .Gt=>(match x,y with
  | .int i,.int j=>some (.bl (decide (j < i)),.cl)
  | _,_=>none)
 | .GtE=>(match x,y with
  | .int i,.int j=>some (.bl (decide (j<=i)),.cl)
  | _,_=>none)
 | .Eq=>eqD id x y
 | .NotEq=>eqD (λb=>!b) x y
 | .Is=>isN id x y
 | .IsNot=>isN (λb=>!b) x y
 | _=>none
noncomputable def zGh (J:Gm)(n:Nat)(x:Str):Dst->Option R:=λ_=>match J.cs[n]? with
 | some (y,d)=>if y=x then some (d,.cl) else none
 | none=>none
noncomputable def fnD (J:Gm)(n:Nat)(x:Str)(g:Dst->Option (List D)):Dst->Option R:=λO=>match J.fns[n]? with
 | some (y,F)=>if y=x then zJJ F g O else none
 | none=>none
noncomputable def tg1 (i:Nat):D->Dst->Option Dst:=λd O=>some (O.set i (some (d,false)))
mutual
def evE (J:Gm):E->Dst->Option R
 | .var i=>varD i
 | .glob n x=>zGh J n x
 | .int i=>λ_=>some (.int i,.cl)
 | .bl b=>λ_=>some (.bl b,.cl)
 | .non=>λ_=>some (.non,.cl)
 | .str x=>λ_=>some (.str x,.cl)
 | .bin op a b=>two (evE J a) (evE J b) (binD op)
 | .neg a=>negD (evE J a)
 | .not a=>notD (evE J a)
 | .cmp op a b=>two (evE J a) (evE J b) (cmpD op)
 | .andl es=>evAnd J es
 | .orl es=>evOr J es
 | .ite c a b=>iteD (evE J c) (evE J a) (evE J b)
 | .tup es=>tupD (evEs J es)
 | .lst es=>lstD (evEs J es)
 | .ix a i=>two (evE J a) (evE J i) ixD
 | .sl a lo hi=>slD (evE J a) (evO J lo) (evO J hi)
 | .call n f es=>fnD J n f (evEs J es)
 | .len a=>one (evE J a) lenD
 | .abs a=>one (evE J a) absD
 | .list a=>one (evE J a) zI5
 | .max a b=>two (evE J a) (evE J b) maxD
 | .isi t a=>one (evE J a) (isiF t)
 | .chn op op' a b c=>chD (cmpD op) (cmpD op') (evE J a) (evE J b) (evE J c)
 | .tupl a=>one (evE J a) zGK
 | .lrev a=>one (evE J a) revD
 | .callv i a=>zEn J.lm J.fns i (evE J a)
 | .callw i es=>zGs J.fns i (evEs J es)
 | .fld a f=>one (evE J a) (fldD J.ob f)
 | .comp1 n ms _ src c e=>zJI ms 1 (evI J src) (tg1 n) (evC J c) (evE J e)
 | .lzip a b=>two (evE J a) (evE J b) zipD
 | .it _=>λ_=>none
 | .r1 _=>λ_=>none
 | .r2 _ _=>λ_=>none
 | .r3 _ _ _=>λ_=>none
 | .nil=>λ_=>none
 | .cons _ _=>λ_=>none
def evI (J:Gm):E->Dst->Option (List D)
 | .it e=>zGe (evE J e)
 | .r1 a=>zJt (evE J a)
 | .r2 a b=>zIq (evE J a) (evE J b)
 | .r3 a b c=>zJs (evE J a) (evE J b) (evE J c)
 | _=>λ_=>none
def evC (J:Gm):E->Dst->Option Bool
 | .nil=>λ_=>some true
 | .cons c _=>asB (evE J c)
 | _=>λ_=>none
def evEs (J:Gm):E->Dst->Option (List D)
 | .nil=>λ_=>some []
 | .cons e es=>zNl (evE J e) (evEs J es)
 | _=>λ_=>none
def evLs (J:Gm):E->Dst->Option (List D)
 | .nil=>λ_=>some []
 | .cons e es=>zTh (evE J e) (evLs J es)
 | _=>λ_=>none
def evAnd (J:Gm):E->Dst->Option R
 | .cons e es=>(match es with
  | .nil=>evE J e
  | es=>andD (evE J e) (evAnd J es))
 | _=>λ_=>none
def evOr (J:Gm):E->Dst->Option R
 | .cons e es=>(match es with
  | .nil=>evE J e
  | es=>orD (evE J e) (evOr J es))
 | _=>λ_=>none
def evO (J:Gm):E->Dst->Option (Option Int)
 | .cons e _=>zKB (evE J e)
 | _=>λ_=>some none
end
noncomputable def xvS (J:Gm):S->Dst->Option Str:=λ_ _=>none
noncomputable def xvSs (J:Gm):S->Dst->Option Str:=λ_ _=>none
mutual
noncomputable def evS (J:Gm):S->Dst->Option Out
 | .set i e=>setD i (evE J e)
 | .setC i e=>setD i (evE J e)
 | .app i e=>appD i (evE J e)
 | .ext i e=>extD i (evE J e)
 | .aug op i e=>augD op i (evE J e)
 | .ife c a b=>ifD (asB (evE J c)) (evSs J a) (evSs J b)
 | .whl c b=>zBd (asB (evE J c)) (evSs J b)
 | .for1 i it b=>λO=>(evI J it O).bind λxs=>forD (tg1 i) (evSs J b) xs O
 | .ret e=>retD (evE J e)
 | .retOwn i=>zEM i
 | .nil=>λ_=>none
 | .cons _ _=>λ_=>none
 | .frz _ _=>λ_=>none
 | .never=>λ_=>none
 | .rse _ _=>λ_=>none
noncomputable def evSs (J:Gm):S->Dst->Option Out
 | .nil=>λO=>some (.nx O)
 | .cons a b=>seqD (evS J a) (evSs J b)
 | .frz i r=>seqD (frzD i) (evSs J r)
 | _=>λ_=>none
end
noncomputable def visB (sc:Scope)(x:Str):Bool:=match sc.names.lookup x with
 | some .local=>true
 | some .cell=>true
 | some .free=>true
 | _=>false
noncomputable def locB (sc:Scope)(x:Str):Bool:=match sc.names.lookup x with
 | some .local=>true
 | some .cell=>true
 | _=>false
noncomputable def glB (sc:Scope)(x:Str):Bool:=match sc.names.lookup x with
 | some .globalImplicit=>true
 | _=>false
noncomputable def okN (x:Str):Bool:=!(x==("__debug__":Str))&&!(x==("__classdict__":Str))
noncomputable def zAk:Expr->Bool
 | .Starred _ _=>false
 | _=>true
noncomputable def zER:Expr->Bool
 | .Slice _ _ _ _=>false
 | _=>true
noncomputable def zFB:Expr->Bool
 | .ListComp _ _ _ _=>false
 | .SetComp _ _ _ _=>false
 | .DictComp _ _ _ _ _=>false
 | _=>true
noncomputable def zKO:Expr->Bool
 | .Set _ _ _=>false
 | _=>true
noncomputable def bltB (sc:Scope)(bs:List Str)(x:Str):Bool:=glB sc x&&bs.contains x
noncomputable def opB (op op':Operator):Bool:=decide (op=op')
noncomputable def cmB (op op':CmpOp):Bool:=decide (op=op')
noncomputable def cscB (sc scope:Scope):Bool:=(scope.kind==.function)&&decide ((scope.names.map (·.1)).Nodup)&&scope.names.all λx=>!(x.2==.free)||sc.names.lookup x.1==some .cell||sc.names.lookup x.1==some .free
noncomputable def zMo (scope:Scope)(N:List Str)(ms:List Nat):Bool:=(List.range N.length).all λi=>!(ownB scope (N.getD i (noN N)))||ms.contains i
noncomputable def zR8:Expr->Bool
 | .Name _ _=>true
 | _=>false
noncomputable def zA1 (e:Expr)(k:Str->Pos->Bool):Bool:=match e with
 | .Name x0 x1=>k x0 x1
 | _=>false
def zAQ (h:zA1 e k=true):∃ x0 x1,e=.Name x0 x1/\k x0 x1=true:=by
 cases e<;>first | exact⟨_,_,rfl,h⟩ | exact nof h
noncomputable def zCC (e:Expr)(k:Const->Nat->Pos->Bool):Bool:=match e with
 | .Constant x0 x1 x2=>k x0 x1 x2
 | _=>false
def zBh (h:zCC e k=true):∃ x0 x1 x2,e=.Constant x0 x1 x2/\k x0 x1 x2=true:=by
 cases e<;>first | exact⟨_,_,_,rfl,h⟩ | exact nof h
noncomputable def zHN (e:Expr)(k:Expr->Operator->Expr->Pos->Bool):Bool:=match e with
 | .BinOp x0 x1 x2 x3=>k x0 x1 x2 x3
 | _=>false
def zE7 (h:zHN e k=true):∃ x0 x1 x2 x3,e=.BinOp x0 x1 x2 x3/\k x0 x1 x2 x3=true:=by
 cases e<;>first | exact⟨_,_,_,_,rfl,h⟩ | exact nof h
noncomputable def zEO (e:Expr)(k:UnaryOp->Expr->Pos->Bool):Bool:=match e with
 | .UnaryOp x0 x1 x2=>k x0 x1 x2
 | _=>false
def zDx (h:zEO e k=true):∃ x0 x1 x2,e=.UnaryOp x0 x1 x2/\k x0 x1 x2=true:=by
 cases e<;>first | exact⟨_,_,_,rfl,h⟩ | exact nof h
noncomputable def zEE (e:Expr)(k:BoolOp->List Expr->Pos->Bool):Bool:=match e with
 | .BoolOp x0 x1 x2=>k x0 x1 x2
 | _=>false
def zDG (h:zEE e k=true):∃ x0 x1 x2,e=.BoolOp x0 x1 x2/\k x0 x1 x2=true:=by
 cases e<;>first | exact⟨_,_,_,rfl,h⟩ | exact nof h
noncomputable def zDV (e:Expr)(k:Expr->List CmpOp->List Expr->Pos->Bool):Bool:=match e with
 | .Compare x0 x1 x2 x3=>k x0 x1 x2 x3
 | _=>false
def zCh (h:zDV e k=true):∃ x0 x1 x2 x3,e=.Compare x0 x1 x2 x3/\k x0 x1 x2 x3=true:=by
 cases e<;>first | exact⟨_,_,_,_,rfl,h⟩ | exact nof h
noncomputable def zKI (e:Expr)(k:Expr->Expr->Expr->Pos->Bool):Bool:=match e with
 | .IfExp x0 x1 x2 x3=>k x0 x1 x2 x3
 | _=>false
def zIw (h:zKI e k=true):∃ x0 x1 x2 x3,e=.IfExp x0 x1 x2 x3/\k x0 x1 x2 x3=true:=by
 cases e<;>first | exact⟨_,_,_,_,rfl,h⟩ | exact nof h
noncomputable def zKF (e:Expr)(k:List Expr->Nat->Pos->Bool):Bool:=match e with
 | .Tuple x0 x1 x2=>k x0 x1 x2
 | _=>false
def zIv (h:zKF e k=true):∃ x0 x1 x2,e=.Tuple x0 x1 x2/\k x0 x1 x2=true:=by
 cases e<;>first | exact⟨_,_,_,rfl,h⟩ | exact nof h
noncomputable def zKG (e:Expr)(k:List Expr->Pos->Bool):Bool:=match e with
 | .List x0 x1=>k x0 x1
 | _=>false
def zGV (h:zKG e k=true):∃ x0 x1,e=.List x0 x1/\k x0 x1=true:=by
 cases e<;>first | exact⟨_,_,rfl,h⟩ | exact nof h
noncomputable def zBS (e:Expr)(k:Expr->Expr->Pos->Bool):Bool:=match e with
 | .Subscript x0 x1 x2=>k x0 x1 x2
 | _=>false
def zA9 (h:zBS e k=true):∃ x0 x1 x2,e=.Subscript x0 x1 x2/\k x0 x1 x2=true:=by
 cases e<;>first | exact⟨_,_,_,rfl,h⟩ | exact nof h
noncomputable def zHM (e:Expr)(k:Option Expr->Option Expr->Option Expr->Pos->Bool):Bool:=match e with
 | .Slice x0 x1 x2 x3=>k x0 x1 x2 x3
 | _=>false
def zE5 (h:zHM e k=true):∃ x0 x1 x2 x3,e=.Slice x0 x1 x2 x3/\k x0 x1 x2 x3=true:=by
 cases e<;>first | exact⟨_,_,_,_,rfl,h⟩ | exact nof h
noncomputable def zBr (e:Expr)(k:Expr->List Expr->List Keyword->Pos->Bool):Bool:=match e with
 | .Call x0 x1 x2 x3=>k x0 x1 x2 x3
 | _=>false
def zAu (h:zBr e k=true):∃ x0 x1 x2 x3,e=.Call x0 x1 x2 x3/\k x0 x1 x2 x3=true:=by
 cases e<;>first | exact⟨_,_,_,_,rfl,h⟩ | exact nof h
noncomputable def zDi (e:Expr)(k:Expr->List Comprehension->Scope->Pos->Bool):Bool:=match e with
 | .ListComp x0 x1 x2 x3=>k x0 x1 x2 x3
 | _=>false
def zCN (h:zDi e k=true):∃ x0 x1 x2 x3,e=.ListComp x0 x1 x2 x3/\k x0 x1 x2 x3=true:=by
 cases e<;>first | exact⟨_,_,_,_,rfl,h⟩ | exact nof h
noncomputable def zAs (e:Expr)(k:Expr->Str->Pos->Bool):Bool:=match e with
 | .Attribute x0 x1 x2=>k x0 x1 x2
 | _=>false
def zAh (h:zAs e k=true):∃ x0 x1 x2,e=.Attribute x0 x1 x2/\k x0 x1 x2=true:=by
 cases e<;>first | exact⟨_,_,_,rfl,h⟩ | exact nof h
noncomputable def zCO (e:Stmt)(k:List Expr->Expr->Pos->Bool):Bool:=match e with
 | .Assign x0 x1 x2=>k x0 x1 x2
 | _=>false
def zBT (h:zCO e k=true):∃ x0 x1 x2,e=.Assign x0 x1 x2/\k x0 x1 x2=true:=by
 cases e<;>first | exact⟨_,_,_,rfl,h⟩ | exact nof h
noncomputable def zEQ (e:Stmt)(k:Expr->Operator->Expr->Pos->Bool):Bool:=match e with
 | .AugAssign x0 x1 x2 x3=>k x0 x1 x2 x3
 | _=>false
def zEs (h:zEQ e k=true):∃ x0 x1 x2 x3,e=.AugAssign x0 x1 x2 x3/\k x0 x1 x2 x3=true:=by
 cases e<;>first | exact⟨_,_,_,_,rfl,h⟩ | exact nof h
noncomputable def zDh (e:Stmt)(k:Expr->Pos->Bool):Bool:=match e with
 | .Expr x0 x1=>k x0 x1
 | _=>false
def zCB (h:zDh e k=true):∃ x0 x1,e=.Expr x0 x1/\k x0 x1=true:=by
 cases e<;>first | exact⟨_,_,rfl,h⟩ | exact nof h
noncomputable def onIf (e:Stmt)(k:Expr->List Stmt->List Stmt->Pos->Bool):Bool:=match e with
 | .If x0 x1 x2 x3=>k x0 x1 x2 x3
 | _=>false
def zKH (h:onIf e k=true):∃ x0 x1 x2 x3,e=.If x0 x1 x2 x3/\k x0 x1 x2 x3=true:=by
 cases e<;>first | exact⟨_,_,_,_,rfl,h⟩ | exact nof h
noncomputable def zKE (e:Stmt)(k:Expr->List Stmt->List Stmt->Pos->Bool):Bool:=match e with
 | .While x0 x1 x2 x3=>k x0 x1 x2 x3
 | _=>false
def zIu (h:zKE e k=true):∃ x0 x1 x2 x3,e=.While x0 x1 x2 x3/\k x0 x1 x2 x3=true:=by
 cases e<;>first | exact⟨_,_,_,_,rfl,h⟩ | exact nof h
noncomputable def zPV (e:Stmt)(k:Expr->Expr->List Stmt->List Stmt->Pos->Bool):Bool:=match e with
 | .For x0 x1 x2 x3 x4=>k x0 x1 x2 x3 x4
 | _=>false
def zH1 (h:zPV e k=true):∃ x0 x1 x2 x3 x4,e=.For x0 x1 x2 x3 x4/\k x0 x1 x2 x3 x4=true:=by
 cases e<;>first | exact⟨_,_,_,_,_,rfl,h⟩ | exact nof h
noncomputable def zED (e:Stmt)(k:Option Expr->Pos->Bool):Bool:=match e with
 | .Return x0 x1=>k x0 x1
 | _=>false
def zDF (h:zED e k=true):∃ x0 x1,e=.Return x0 x1/\k x0 x1=true:=by
 cases e<;>first | exact⟨_,_,rfl,h⟩ | exact nof h
noncomputable def onRaise (e:Stmt)(k:Option Expr->Option Expr->Pos->Bool):Bool:=match e with
 | .Raise x0 x1 x2=>k x0 x1 x2
 | _=>false
noncomputable def zOQ (e:Const)(k:Int->Bool):Bool:=match e with
 | .int x=>k x
 | _=>false
def zKK (h:zOQ e k=true):∃ x,e=.int x/\k x=true:=by
 cases e<;>first | exact⟨_,rfl,h⟩ | exact nof h
noncomputable def zKL (e:Const)(k:Bool->Bool):Bool:=match e with
 | .bool x=>k x
 | _=>false
def zIx (h:zKL e k=true):∃ x,e=.bool x/\k x=true:=by
 cases e<;>first | exact⟨_,rfl,h⟩ | exact nof h
noncomputable def zOP (e:Const)(k:Str->Bool):Bool:=match e with
 | .str x=>k x
 | _=>false
def zKJ (h:zOP e k=true):∃ x,e=.str x/\k x=true:=by
 cases e<;>first | exact⟨_,rfl,h⟩ | exact nof h
noncomputable def onEq {T:Type}[DecidableEq T](a b:T)(k:Bool):Bool:=decide (a=b)&&k
def zDj {T:Type}[DecidableEq T]{a b:T}{k:Bool}(h:onEq a b k=true):a=b/\k=true:=by
 unfold onEq at h;grind
noncomputable def on0 {T:Type}(l:List T)(k:Bool):Bool:=match l with
 | []=>k
 | _=>false
def zBL {T:Type}{l:List T}{k:Bool}(h:on0 l k=true):l=[]/\k=true:=by
 cases l with
 | nil=>exact⟨rfl,h⟩
 | cons _ _=>exact nof h
noncomputable def on1 {T:Type}(l:List T)(k:T->Bool):Bool:=match l with
 | [x0]=>k x0
 | _=>false
def zAt {T:Type}{l:List T}{k:T->Bool}(h:on1 l k=true):∃ x0,l=[x0]/\k x0=true:=by
 cases l with
 | nil=>exact nof h
 | cons x0 l =>
  cases l with
  | nil=>exact⟨x0,rfl,h⟩
  | cons _ _=>exact nof h
noncomputable def on2 {T:Type}(l:List T)(k:T->T->Bool):Bool:=match l with
 | [x0,x1]=>k x0 x1
 | _=>false
def zE8 {T:Type}{l:List T}{k:T->T->Bool}(h:on2 l k=true):∃ x0 x1,l=[x0,x1]/\k x0 x1=true:=by
 cases l with
 | nil=>exact nof h
 | cons x0 l =>
  cases l with
  | nil=>exact nof h
  | cons x1 l =>
   cases l with
   | nil=>exact⟨x0,x1,rfl,h⟩
   | cons _ _=>exact nof h
noncomputable def on3 {T:Type}(l:List T)(k:T->T->T->Bool):Bool:=match l with
 | [x0,x1,x2]=>k x0 x1 x2
 | _=>false
def zR5 {T:Type}{l:List T}{k:T->T->T->Bool}(h:on3 l k=true):∃ x0 x1 x2,l=[x0,x1,x2]/\k x0 x1 x2=true:=by
 cases l with
 | nil=>exact nof h
 | cons x0 l =>
  cases l with
  | nil=>exact nof h
  | cons x1 l =>
   cases l with
   | nil=>exact nof h
   | cons x2 l =>
    cases l with
    | nil=>exact⟨x0,x1,x2,rfl,h⟩
    | cons _ _=>exact nof h
noncomputable def zGW {T:Type}(l:List T)(k:T->List T->Bool):Bool:=match l with
 | x::xs=>k x xs
 | _=>false
def zDU {T:Type}{l:List T}{k:T->List T->Bool}(h:zGW l k=true):∃ x xs,l=x::xs/\k x xs=true:=by
 cases l with
 | nil=>exact nof h
 | cons x xs=>exact⟨x,xs,rfl,h⟩
noncomputable def zEP {T:Type}(o:Option T)(k:T->Bool):Bool:=match o with
 | some x=>k x
 | none=>false
def zCg {T:Type}{o:Option T}{k:T->Bool}(h:zEP o k=true):∃ x,o=some x/\k x=true:=by
 cases o with
 | none=>exact nof h
 | some x=>exact⟨x,rfl,h⟩
noncomputable def zE6 {T:Type}(o:Option T)(k:Bool):Bool:=match o with
 | some _=>false
 | none=>k
def zDT {T:Type}{o:Option T}{k:Bool}(h:zE6 o k=true):o=none/\k=true:=by
 cases o with
 | none=>exact⟨rfl,h⟩
 | some x=>exact nof h
noncomputable def zPU (g:Comprehension)(k:Expr->Expr->List Expr->Int->Bool):Bool:=k g.target g.iter g.ifs g.is_async
def zFs (h:zPU g k=true):∃ a b c d,g=⟨a,b,c,d⟩/\k a b c d=true:=by
 cases g;exact⟨_,_,_,_,rfl,h⟩
noncomputable def onC (e:Expr)(k:Str->List Expr->Bool):Bool:=zBr e λz1 z2 z3 _=>zA1 z1 λy _=>on0 z3<|k y z2
def zBs (h:onC e k=true):∃ y p l pos,e=.Call (.Name y p) l [] pos/\k y l=true:=by
 obtain⟨a,l,b,pos,rfl,h1⟩:=zAu h;obtain⟨y,p,rfl,h2⟩:=zAQ h1;obtain⟨rfl,h3⟩:=zBL h2;exact⟨y,p,l,pos,rfl,h3⟩
mutual
noncomputable def cE:E->Scope->List Str->List Str->Expr->Bool
 | .var i,sc,N,bs=>λe=>zA1 e λy _=>decide (N[i]?=some y)&&visB sc y&&okN y
 | .glob _ x,sc,N,bs=>λe=>zA1 e λy _=>decide (x=y)&&glB sc x&&okN x
 | .int i,sc,N,bs=>λe=>zCC e λz1 _ _=>zOQ z1 λj=>decide (i=j)
 | .bl b,sc,N,bs=>λe=>zCC e λz1 _ _=>zKL z1 λc=>decide (b=c)
 | .non,sc,N,bs=>λe=>zCC e λz1 _ _=>onEq z1 .none<|(true)
 | .str x,sc,N,bs=>λe=>zCC e λz1 _ _=>zOP z1 λy=>decide (x=y)
 | .bin op a b,sc,N,bs=>λe=>zHN e λl op' r _=>opB op op'&&cE a sc N bs l&&cE b sc N bs r
 | .neg a,sc,N,bs=>λe=>zEO e λz1 l _=>onEq z1 .USub<|(cE a sc N bs l)
 | .not a,sc,N,bs=>λe=>zEO e λz1 l _=>onEq z1 .Not<|(cE a sc N bs l)
 | .cmp op a b,sc,N,bs=>λe=>zDV e λl z1 z2 _=>on1 z1 λop'=>on1 z2 λr=>cmB op op'&&cE a sc N bs l&&cE b sc N bs r
 | .andl es,sc,N,bs=>λe=>zEE e λz1 l _=>onEq z1 .And<|(cEs es sc N bs l)
 | .orl es,sc,N,bs=>λe=>zEE e λz1 l _=>onEq z1 .Or<|(cEs es sc N bs l)
 | .ite c a b,sc,N,bs=>λe=>zKI e λt l r _=>cE c sc N bs t&&cE a sc N bs l&&cE b sc N bs r
 | .tup es,sc,N,bs=>λe=>zKF e λl _ _=>cEs es sc N bs l
 | .lst es,sc,N,bs=>λe=>zKG e λl _=>cEs es sc N bs l
 | .ix a i,sc,N,bs=>λe=>zBS e λl r _=>zER r&&cE a sc N bs l&&cE i sc N bs r
 | .sl a lo hi,sc,N,bs=>λe=>zBS e λl z1 _=>zHM z1 λx y z2 _=>zE6 z2<|(cE a sc N bs l&&cO lo sc N bs x&&cO hi sc N bs y)
 | .call _ f es,sc,N,bs=>λe=>onC e λy l=>(decide (f=y)&&glB sc f&&okN f&&cEs es sc N bs l)
 | .len a,sc,N,bs=>λe=>onC e λy z2=>on1 z2 λl=>(decide (y = "len")&&bltB sc bs "len"&&zAk l&&cE a sc N bs l)
 | .callw i es,sc,N,bs=>λe=>onC e λy z2=>zGW z2 λx xs=>(decide (N[i]?=some y)&&visB sc y&&okN y&&cEs es sc N bs (x::xs))
 | .callv i a,sc,N,bs=>λe=>onC e λy z2=>on1 z2 λx=>(decide (N[i]?=some y)&&visB sc y&&okN y&&zAk x&&cE a sc N bs x)
 | .fld a f,sc,N,bs=>λe=>zAs e λl m _=>decide (m=f)&&zR8 l&&cE a sc N bs l
 | .abs a,sc,N,bs=>λe=>onC e λy z2=>on1 z2 λl=>(decide (y = "abs")&&bltB sc bs "abs"&&zAk l&&cE a sc N bs l)
 | .list a,sc,N,bs=>λe=>onC e λy z2=>on1 z2 λl=>(decide (y = "list")&&bltB sc bs "list"&&zAk l&&cE a sc N bs l)
 | .max a b,sc,N,bs=>λe=>onC e λy z2=>on2 z2 λl r=>(decide (y = "max")&&bltB sc bs "max"&&zAk l&&zAk r&&cE a sc N bs l&&cE b sc N bs r)
 | .isi t a,sc,N,bs=>λe=>zBr e λz1 z2 z3 _=>zA1 z1 λy _=>on2 z2 λl z4=>zA1 z4 λz _=>on0 z3<|(decide (y = "isinstance")&&decide (z=Str.ofString t.nm)&&bltB sc bs "isinstance"&&bltB sc bs (Str.ofString t.nm)&&zAk l&&cE a sc N bs l)
 | .chn op op' a b c,sc,N,bs=>λe=>zDV e λl z1 z2 _=>on2 z1 λo1 o2=>on2 z2 λm r=>cmB op o1&&cmB op' o2&&chB op&&chB op'&&cE a sc N bs l&&cE b sc N bs m&&cE c sc N bs r
 | .lrev a,sc,N,bs=>λe=>zBr e λz1 z2 z3 _=>zA1 z1 λy _=>on1 z2 λz4=>zBr z4 λz5 z6 z7 _=>zA1 z5 λz _=>on1 z6 λl=>on0 z7<|on0 z3<|(decide (y = "list")&&decide (z = "reversed")&&bltB sc bs "list"&&bltB sc bs "reversed"&&zAk l&&cE a sc N bs l)
 | .tupl a,sc,N,bs=>λe=>onC e λy z2=>on1 z2 λl=>(decide (y = "tuple")&&bltB sc bs "tuple"&&zAk l&&cE a sc N bs l)
 | .comp1 n ms x src c el,sc,N,bs=>λe=>zDi e λv z1 scope _=>on1 z1 λz2=>zPU z2 λz3 t ifs a=>zA1 z3 λy _=>decide (x=y)&&decide (a=0)&&decide (n=N.length)&&cscB sc scope&&zMo scope N ms&&decide ((mask (noN N) ms N++[x]).Nodup)&&locB (relS sc scope) x&&ownB scope x&&cI src sc N bs t&&cC c (relS sc scope) (mask (noN N) ms N++[x]) bs ifs&&cE el (relS sc scope) (mask (noN N) ms N++[x]) bs v
 | .lzip a b,sc,N,bs=>λe=>zBr e λz1 z2 z3 _=>zA1 z1 λy _=>on1 z2 λz4=>zBr z4 λz5 z6 z7 _=>zA1 z5 λz _=>on2 z6 λl r=>on0 z7<|on0 z3<|(decide (y = "list")&&decide (z = "zip")&&bltB sc bs "list"&&bltB sc bs "zip"&&zAk l&&zAk r&&cE a sc N bs l&&cE b sc N bs r)
 | .it _,sc,N,bs=>λ_=>false
 | .r1 _,sc,N,bs=>λ_=>false
 | .r2 _ _,sc,N,bs=>λ_=>false
 | .r3 _ _ _,sc,N,bs=>λ_=>false
 | .nil,sc,N,bs=>λ_=>false
 | .cons _ _,sc,N,bs=>λ_=>false
noncomputable def cI:E->Scope->List Str->List Str->Expr->Bool
 | .it e,sc,N,bs=>λx=>zKO x&&cE e sc N bs x
 | .r1 a,sc,N,bs=>λx=>onC x λy z2=>on1 z2 λl=>(decide (y = "range")&&bltB sc bs "range"&&zAk l&&cE a sc N bs l)
 | .r2 a b,sc,N,bs=>λx=>onC x λy z2=>on2 z2 λl r=>(decide (y = "range")&&bltB sc bs "range"&&zAk l&&zAk r&&cE a sc N bs l&&cE b sc N bs r)
 | .r3 a b c,sc,N,bs=>λx=>onC x λy z2=>on3 z2 λl r q=>(decide (y = "range")&&bltB sc bs "range"&&zAk l&&zAk r&&zAk q&&cE a sc N bs l&&cE b sc N bs r&&cE c sc N bs q)
 | _,_,_,_=>λ_=>false
noncomputable def cC:E->Scope->List Str->List Str->List Expr->Bool
 | .nil,sc,N,bs=>λl=>l.isEmpty
 | .cons c _,sc,N,bs=>λl=>match l with
  | [x]=>cE c sc N bs x
  | _=>false
 | _,_,_,_=>λ_=>false
noncomputable def cEs:E->Scope->List Str->List Str->List Expr->Bool
 | .nil,sc,N,bs=>λl=>l.isEmpty
 | .cons e es,sc,N,bs=>λl=>match l with
  | x::xs=>zAk x&&cE e sc N bs x&&cEs es sc N bs xs
  | []=>false
 | _,_,_,_=>λ_=>false
noncomputable def cO:E->Scope->List Str->List Str->Option Expr->Bool
 | .cons e _,sc,N,bs=>λo=>match o with
  | some x=>cE e sc N bs x
  | none=>false
 | .nil,sc,N,bs=>λo=>o.isNone
 | _,_,_,_=>λ_=>false
end
noncomputable def zPt:E->Bool
 | .comp1 _ _ _ _ _ _=>true
 | _=>false
noncomputable def varB (sc:Scope)(N:List Str)(i:Nat)(x:Str):Bool:=decide (N[i]?=some x)&&locB sc x&&okN x
mutual
noncomputable def cS (sc:Scope)(N bs:List Str):S->Stmt->Bool
 | .set i e=>λs=>zCO s λz1 v _=>on1 z1 λz2=>zA1 z2 λy _=>varB sc N i y&&zFB v&&cE e sc N bs v
 | .setC i e=>λs=>zCO s λz1 v _=>on1 z1 λz2=>zA1 z2 λy _=>zPt e&&varB sc N i y&&cE e sc N bs v
 | .app i e=>λs=>zDh s λz1 _=>zBr z1 λz2 z3 z4 cpos=>zAs z2 λz5 m apos=>zA1 z5 λy _=>on1 z3 λv=>on0 z4<|(decide (m = "append")&&varB sc N i y&&(apos.endLine==cpos.line)&&zAk v&&cE e sc N bs v)
 | .aug op i e=>λs=>zEQ s λz1 op' v _=>zA1 z1 λy _=>opB op op'&&varB sc N i y&&zFB v&&cE e sc N bs v
 | .ext i e=>λs=>zDh s λz1 _=>zBr z1 λz2 z3 z4 cpos=>zAs z2 λz5 m apos=>zA1 z5 λy _=>on1 z3 λv=>on0 z4<|(decide (m = "extend")&&varB sc N i y&&(apos.endLine==cpos.line)&&zAk v&&cE e sc N bs v)
 | .ife c a b=>λs=>onIf s λt l r _=>cE c sc N bs t&&cSs sc N bs a l&&cSs sc N bs b r
 | .whl c b=>λs=>zKE s λt l z1 _=>on0 z1<|(cE c sc N bs t&&cSs sc N bs b l)
 | .for1 i it b=>λs=>zPV s λz1 t l z2 _=>zA1 z1 λy _=>on0 z2<|(varB sc N i y&&cI it sc N bs t&&cSs sc N bs b l)
 | .ret e=>λs=>zED s λz1 _=>zEP z1 λv=>cE e sc N bs v
 | .retOwn i=>λs=>zED s λz1 _=>zEP z1 λz2=>zA1 z2 λy _=>varB sc N i y
 | .never=>λ_=>true
 | .rse c m=>λs=>onRaise s λz1 z2 _=>zEP z1 λz3=>zBr z3 λz4 z5 z6 _=>zA1 z4 λy _=>on1 z5 λl=>on0 z6<|zE6 z2<|(decide (c=y)&&glB sc c&&okN c&&zAk l&&cE m sc N bs l)
 | .nil=>λ_=>false
 | .cons _ _=>λ_=>false
 | .frz _ _=>λ_=>false
noncomputable def cSs (sc:Scope)(N bs:List Str):S->List Stmt->Bool
 | .nil=>λl=>l.isEmpty
 | .cons a b=>λl=>match l with
  | s::r=>cS sc N bs a s&&cSs sc N bs b r
  | []=>false
 | .frz _ r=>λl=>cSs sc N bs r l
 | _=>λ_=>false
end
end DL
end
section
namespace DL
open PySem Spec PyProof.Rows L2
structure GOk (P:Program)(w:World)(K:W.Frag)(mg:Str->Option Value)(base:Heap)(k:Nat)(J:Gm)(bs:List Str):Prop where
 fn:∀ x F,(x,F)∈J.fns->∃ f fd ps,FnOk P w K mg base CX0 k f fd ps (spD K F)/\mg x=some (.ref f)/\W.keepIn K (.ref f)=true/\zBP K fd ps []
 cs:∀ x d,(x,d)∈J.cs->∃ u v,mg x=some u/\RelV v u/\Den K (λ_=>none) d v
 bt:∀ x∈bs,mg x=none
 xf:True
 sb:True
 rs:True
 lm:∀ (j:Nat) L F,J.lm[j]?=some (L,F)->zFW P w K mg base k L F
 ob:∀ p∈J.ob,ObOk K mg p
structure XOk (X:Cx)(k:Nat)(J:Gm)(bs:List Str):Prop where
 g:GOk X.prog X.w X.K X.mg X.base k J bs
 room:Room k X.A
 calm:X.calm=true
 nd:X.N.Nodup
 own:PassesOwn (model X.prog X.w) X.A X.env X.xe
def XOk.comp (o:XOk X k J bs)(a:N.Nodup):XOk (zAe X N scope s H fp) k J bs:=⟨o.g,o.room,o.calm,a,PassesOwn.never⟩
def zAG (h:zAk e=true):starEach (e::es) env=(false,eval e env)::starEach es env:=by
 cases e<;>first | rfl | cases h
def zE9 (h:zER e=true):zGE e:=by
 cases e<;>first | intro o i;rfl | cases h
def zDH (h:zFB e=true):swapsWith e t n env=pure false:=by
 cases e<;>first | rfl | cases h
def zFA (h:zKO e=true):∀ x,foldedSetIterable e env x=pure x:=by
 intro x;cases e<;>first | rfl | cases h
def zEK (h:visB sc x=true):Vis sc x:=by
 unfold visB at h;split at h
 .rename_i e;exact .inl e
 .rename_i e;exact .inr (.inl e)
 .rename_i e;exact .inr (.inr e)
 .cases h
def zET (h:locB sc x=true):Loc sc x:=by
 unfold locB at h;split at h
 .rename_i e;exact .inl e
 .rename_i e;exact .inr e
 .cases h
def zEY (h:glB X.env.scope x=true):Gl X x:=by
 unfold glB at h;split at h
 .assumption
 .grind
def zCD (h:okN x=true):(x==("__debug__":Str))=false/\(x==("__classdict__":Str))=false:=by
 unfold okN at h
 simp_all
def zA8 (o:XOk X k J bs)(h:bltB X.env.scope bs x=true):Gl X x/\X.mg x=none:=by
 unfold bltB at h
 simp_all
 exact⟨zEY h.1,o.g.bt x (by simp_all)⟩
def zEC (o:XOk X k J bs):X.A.units+64 < cLine:=o.room.units
theorem zBD {X:Cx}:∀ {es:List Expr},(∀ e∈es,zAk e=true)->∀ pos,(backTo pos (starEach es X.env)).any (·.1)=false
 | [],_,_=>rfl
 | e::es,h,pos=>by
  rw[zAG (h e q8)];show (false||(backTo pos (starEach es X.env)).any (·.1))=false;rw[zBD (λe z=>h e (qJ _ z)) pos]
  rfl
def zGv :∀ {es:List Expr},cEs a sc N bs es=true->∀ e∈es,zAk e=true:=by
 induction a with
 | nil =>
  intro es h;cases es with
  | nil=>intro e z;exact absurd z (by simp)
  | cons x c=>exact nomatch show false=true from h
 | cons a b _ d =>
  intro es h;cases es with
  | nil=>intro e z;exact absurd z (by simp)
  | cons x c =>
   simp only[cEs,x8] at h;intro e z;rcases mem_cons.mp z with rfl | z
   .simp_all
   .exact d h.2 e z
 | _=>intro es h;exact zzf h
end DL
namespace DL
open PySem Spec PyProof.Rows L2
section
variable {X:Cx}
def zCi (h:∀ O,f O=none):GE X e f:=λpins s B H Q I a=>by
 obtain⟨S,O,z,b,e,c⟩:=a
 simp_all
def zFb (h:∀ x y,o x y=none)(O:Dst):two f g o O=none:=by
 unfold two
 simp_all
def zO8 (K:W.Frag):R2:=λx y H Q=>∃ l b xs zs,x=.ref l/\y=.ref b/\SqL K H l xs/\SqL K H b zs/\xs.length+zs.length<=sizeLine/\∀ p,H p=none->Q (.ref p) (upd H p (.lst (xs++zs)))
def zKD:OpR X (binaryOp .Add) (zO8 X.K):=by
 intro m s B H x y v u Q I w z h;obtain⟨l,b,D,E,rfl,rfl,t,o,r,q⟩:=h;cases w;cases z;obtain⟨d,k,⟨⟨C,A,i,sl⟩,n,e1,e2,e3,e4⟩,z1⟩:=I.list t;obtain⟨a,c,⟨⟨j,f,g,e⟩,n2,e1',e2',e3',e4'⟩,z2⟩:=I.list o;subst e2 e4 e2' e4';refine concat_meets ⟨_,e1,rfl⟩ ⟨_,e1',rfl⟩ noFill_list_add seq_list_add F.slot_list_add F.entry_list_add (F.args_list_add_2 _ _) (zGd l _ n A sl b _ n2 f e (by rw[xy,xy,<- k.length,<- c.length];exact r)) ⟨e1,e1',?_⟩;have p:d.toArray++a.toArray=(d++a).toArray:=by simp
 rw[p];exact⟨.ref _,_,I.lnew (k.append c) (by simp_all),rfl,q _ I.fresh⟩
def zPM:OpD X.K (λx y H Q=>(rI0 (λi j=>.int (i+j)) x y H Q\/zO8 X.K x y H Q)\/zRX X.K x y H Q) (binD .Add):=by
 intro S H x y z q o Q d e l h c;unfold binD at e;dsimp only at e;split at e
 .cases e;exact .inl (.inl ⟨_,_,l.int,h.int,c _ H (Same.refl _) (.int _)⟩)
 .rename_i g k;by_cases hl:g.length+k.length<=10000
  .rw [if_pos hl] at e;cases e;obtain⟨a,f,rfl,h1,h2⟩:=l.lst;obtain⟨b,m,rfl,h3,h4⟩:=h.lst;exact .inl (.inr ⟨a,b,f,m,rfl,rfl,h1,h3,by rw[<- h2.length,<- h4.length];exact zDP hl,λp n=>c _ _ (zAd n _) (.lstNew (Same.refl _) d n (h2.append h4))⟩)
  .simp_all
 .rename_i x g y k;by_cases hl:(x::g).length+(y::k).length<=10000
  .rw [if_pos hl] at e;cases e;obtain⟨a,f,rfl,h1,h2⟩:=l.tup;obtain⟨b,m,rfl,h3,h4⟩:=h.tup;exact .inr ⟨a,b,f,m,rfl,rfl,h1,h3,(λz=>by rw[z] at h2;have:=h2.length;simp at this),by rw[<- h2.length,<- h4.length];exact zDP hl,λz=>absurd z (λz=>by rw[z] at h4;have:=h4.length;simp at this),λ_ p n=>c _ _ (zAd n _) (.tupNew d n (h2.append h4))⟩
  .rw [if_neg hl] at e;cases e
 .cases e
def zPJ:OpD X.K (λx y H Q=>rI IntMulOk (λi j=>.int (i*j)) x y H Q\/rRep X.K x y H Q) (binD .Mult):=by
 intro S H x y z l m Q b e f d c;unfold binD at e
 simp_all
 split at e
 .unfold mulD at e;split at e
  .rename_i h;cases e;exact .inl ⟨_,_,f.int,d.int,h,c _ H (Same.refl _) (.int _)⟩
  .cases e
 .rename_i k j;by_cases hl:0<=j/\j<=10000/\k.length*j.toNat<=10000
  .rw [if_pos hl] at e;cases e;obtain⟨a,g,rfl,h1,h2⟩:=f.lst;exact .inr ⟨a,g,j,rfl,d.int,h1,hl.1,hl.2.1,by rw[<- h2.length];exact hl.2.2,λp n=>c _ _ (zAd n _) (.lstNew (Same.refl _) b n (zLj h2 _))⟩
  .simp_all
 .cases e
def zS6 (c:GE X a f)(d:GE X b g):GE X (.BinOp a op b pos) (two f g (binD op)):=by
  cases op with
  | Add=>exact zJB ((zR4.or zKD).or (by intro k s B H x y v u Q I n p h;obtain⟨a,b,D,E,rfl,rfl,c,d,t,i,C,r⟩:=h;cases n;cases p;obtain⟨o,r1,l,_⟩:=I.tuple c;obtain⟨j,r2,A,_⟩:=I.tuple d;refine HT.zQ1 l A (λz=>t (r1.nil_iff.mp z)) (λz=>⟨.ref a,H,I,rfl,C (r2.nil_iff.mp z)⟩) (λz=>?_) (by rw[<- r1.length,<- r2.length];exact i);refine⟨.ref s.heap.objs.size,_,I.laid (λb ob q=>get?_push_of_some _ q) (le_refl _) ?_,rfl,r (λw=>z (r2.nil_iff.mpr w)) _ (I.hok.fresh (le_refl _))⟩;exact⟨by rw[qQ];exact i,_,r1.append r2,IsTup.new _ _⟩)) zPM c d
  | Sub=>exact zJB (opI0 λ_ _ _ _ _ _ _ q=>sub_int q) (zMg λx y z e=>by
      unfold binD at e;dsimp only at e;split at e
      . cases e;exact⟨_,_,rfl,rfl,rfl⟩
      . cases e) c d
  | Mult=>exact zJB (zPP.or zRu) zPJ c d
  | FloorDiv=>exact zJB zMh (zHL λx y z e=>by
      unfold binD at e;dsimp only at e;split at e
      . unfold zQX at e;split at e
        . rename_i h;cases e;exact⟨_,_,rfl,rfl,h,rfl⟩
        . cases e
      . cases e) c d
  | Mod=>exact zJB (opI λ_ _ _ _ _ _ _ m q=>mod_int' m q) (zHL λx y z e=>by
      unfold binD at e;dsimp only at e;split at e
      . split at e
        . cases e
        . rename_i h;cases e;exact⟨_,_,rfl,rfl,h,rfl⟩
      . cases e) c d
  | Pow=>exact zJB zRv (zHL λx y z e=>by
      unfold binD at e;dsimp only at e;split at e
      . split at e
        . rename_i h;cases e;exact⟨_,_,rfl,rfl,h,rfl⟩
        . cases e
      . cases e) c d
  | _=>exact zCi (zFb λ_ _=>rfl)
theorem zB2 {k:Int->Int->Bool}(h:cmpD op=λx y=>match x,y with
    | .int i,.int j=>some (.bl (k i j),.cl)
    | _,_=>none):∀ x y z,cmpD op x y=some z->∃ i j,x=.int i/\y=.int j/\z=(.bl (k i j),.cl):=by
  intro x y z e;rw[h] at e;dsimp only at e;split at e
  . cases e;exact⟨_,_,rfl,rfl,rfl⟩
  . cases e
def zIW (n:X.A.units+64 < cLine):(∃ r,OpR X (compareOp op) r/\OpD X.K r (cmpD op)/\∀ b,behindInMarks op b=false)\/∀ x y,cmpD op x y=none:=by
 cases op with
 | Lt=>exact .inl ⟨_,zRx,zBW (zB2 rfl),λb=>zDW b⟩
 | LtE=>exact .inl ⟨_,zRy,zBW (zB2 rfl),λb=>zDW b⟩
 | Gt=>exact .inl ⟨_,zR0,zBW (zB2 rfl),λb=>zDW b⟩
 | GtE=>exact .inl ⟨_,zR2,zBW (zB2 rfl),λb=>zDW b⟩
 | Eq=>exact .inl ⟨_,(by intro a s B H x y v u Q I i g h;obtain⟨d,e,k,j,⟨c,f,m⟩,q⟩:=h;obtain⟨l,r1⟩:=zDR I k i c;obtain⟨bs,r2⟩:=zDR I j g f;exact SeqAt.rcAt_reads r1 r2 c f (by omega) X.prog X.w _ _ ⟨.bl _,H,I,rfl,q⟩),zON,λb=>zDW b⟩
 | NotEq=>exact .inl ⟨_,(by intro a s B H x y v u Q I i g h;obtain⟨d,e,k,j,⟨c,f,m⟩,q⟩:=h;obtain⟨l,r1⟩:=zDR I k i c;obtain⟨bs,r2⟩:=zDR I j g f;exact SeqAt.rcNeAt_reads r1 r2 c f (by omega) X.prog X.w _ _ ⟨.bl _,H,I,rfl,q⟩),zON,λb=>zDW b⟩
 | Is=>exact .inl ⟨_,zRz,zPL,λb=>zDW b⟩
 | IsNot=>exact .inl ⟨_,zPO,zMf,λb=>zDW b⟩
 | _=>exact .inr λ_ _=>rfl
def zHV (h:∀ O,f O=none):GT X e (asB f):=λpins s B H Q I a=>by
 obtain⟨S,O,z,b,e,c⟩:=a;obtain _:=zCX e
 simp_all
def zQN (e:X.A.units+64 < cLine)(c:GE X a f)(d:GE X b g):GE X (.Compare a [op] [b] pos) (two f g (cmpD op))/\GT X (.Compare a [op] [b] pos) (asB (two f g (cmpD op))):=by
 rcases zIW e with ⟨r,h1,h2,h3⟩ | h
 .exact ⟨((zJ7 h1 c d (h3 b)).imp λ_ _ _ q=>zHz h2 q),((zJ1 h1 c d (h3 b)).imp λ_ _ _ q=>zHz h2 (zHX q))⟩
 .exact ⟨zCi (zFb h),zHV (zFb h)⟩
def zA2 (h:GE X e f)(a:∀ whole,isTrue e X.env whole=(do let v<-whole;standAt e.pos;holding [v] (truthy v))):GE X e f/\GT X e (asB f):=⟨h,((zOF h a).imp λ_ _ _ q=>zHX q)⟩
def nh {T:Type}{c:T->Bool}{p:T->Prop}(n:∀ x,c x=false:=by exact λ_=>rfl):∀ x,c x=true->p x:=by grind
structure Good (X:Cx)(J:Gm)(bs:List Str)(a:E):Prop where
 e:∀ e,cE a X.env.scope X.N bs e=true->GE X e (evE J a)/\GT X e (asB (evE J a)):=by exact nh
 es:∀ es,cEs a X.env.scope X.N bs es=true->(GA X es (evEs J a)/\GAL X es (evLs J a))/\(es≠[]->∀ pos,(GE X (.BoolOp .And es pos) (evAnd J a)/\GW X (.BoolOp .And es pos) (asB (evAnd J a)))/\GE X (.BoolOp .Or es pos) (evOr J a)/\GW X (.BoolOp .Or es pos) (asB (evOr J a))):=by exact nh
 o:∀ oe,cO a X.env.scope X.N bs oe=true->GO X oe (evO J a):=by exact nh
 i:∀ it,cI a X.env.scope X.N bs it=true->(∀ tg,GI X tg it (evI J a))/\∀ x,foldedSetIterable it X.env x=pure x:=by exact nh
 c:∀ ifs,cC a X.env.scope X.N bs ifs=true->GCs X ifs (evC J a):=by exact nh
structure zTr (X:Cx)(tg iter elt:Expr)(ifs:List Expr)(scope:Scope)(ms:List Nat)(xs:List Str)(f:Dst->Option (List D))(t:D->Dst->Option Dst)(c:Dst->Option Bool)(e:Dst->Option R):Prop where
 hi:GI X tg iter f
 hs:∀ x,foldedSetIterable iter X.env x=pure x
 cs:zCd X.env.scope scope
 hm:∀ (i:Nat) x,X.N[i]?=some x->ownB scope x=true->i∈ms
 hg:∀ s H fp,GG (zAe X (mask (noN X.N) ms X.N++xs) scope s H fp) tg t
 hc:∀ s H fp,GCs (zAe X (mask (noN X.N) ms X.N++xs) scope s H fp) ifs c
 he:∀ s H fp,GE (zAe X (mask (noN X.N) ms X.N++xs) scope s H fp) elt e
def zHj (h:cscB sc scope=true):zCd sc scope:=by
 unfold cscB at h;simp only[x8,qj,beq_iff_eq,all_eq_true] at h;obtain⟨⟨h1,h2⟩,h3⟩:=h;refine⟨h1,h2,λx a e=>?_⟩;have q:=h3 x a
 simp_all
def zFw (h:zMo scope N ms=true):∀ (i:Nat) x,N[i]?=some x->ownB scope x=true->i∈ms:=λi x e o=>by
 unfold zMo at h;rw[all_eq_true] at h;have q:=h i (mem_range.mpr (zzg e).1)
 simp_all
def zLG (h:xs[k]?=some x):(mask (noN N) ms N++xs)[N.length+k]?=some x:=by
 rw[getElem?_append_right (by rw[zBC];omega),zBC]
 simp_all
end
end DL
end
section
namespace DL
open PySem Spec PyProof.Rows L2
section
variable {X:Cx}{k:Nat}{J:Gm}{bs:List Str}
def zUj (o:XOk X k J bs)(h:Gl X f)(d:(f==("__debug__":Str))=false)(r:GA X es g)(b:∀ e∈es,zAk e=true)(m:es=[]->∀ O,g O=some []):GE X (.Call (.Name f p) es [] pos) (fnD J n f g):=by
 cases q:J.fns[n]? with
 | none=>exact zCi λO=>by unfold fnD;rw[q]
 | some j =>
  obtain⟨y,F⟩:=j;by_cases e:y=f
  .subst e;have i:fnD J n y g=zJJ F g:=by
    funext O;unfold fnD
    simp_all
   rw[i];obtain⟨a,s,u,h1,h2,h3,h4⟩:=o.g.fn y F (mem_of_getElem? q);cases es with
   | nil =>
    rw[(funext (m rfl))];have l:=o.room;refine(zMd h1 l h h2 h3 h4 .nil zHJ d).imp λB H Q q=>?_
    obtain⟨S,O,z,v,e,c⟩:=zIZ q;cases e;exact c [] H (Same.refl _) .nil
   | cons x t=>exact ((zJ8 h1 o.room h h2 h3 h4 .nil zHJ r d (zAG (b x q8)) ((zBD λe z=>b e (qJ _ z)) pos)).imp λ_ _ _ q=>zIZ q)
  .exact zCi λO=>by
    unfold fnD
    simp_all
def zUi (o:XOk X k J bs)(c:Gl X x)(a:(x==("__debug__":Str))=false):GE X (.Name x pos) (zGh J n x):=by
 cases q:J.cs[n]? with
 | none=>exact zCi λO=>by unfold zGh;rw[q]
 | some b =>
  obtain⟨y,d⟩:=b;by_cases e:y=x
  .subst e;have f:zGh J n y=λ_=>some (d,.cl):=by
    unfold zGh
    simp_all
   rw[f];obtain⟨u,v,h1,h2,h3⟩:=o.g.cs y d (mem_of_getElem? q);exact zQM c h1 h2 h3 a
  .exact zCi λO=>by
    unfold zGh
    simp_all
def zQ3 (h:cEs a sc N bs []=true)(O:Dst):evEs J a O=some []:=by
 cases a<;>first | rfl | exact nof h
def zIV (o:XOk X k J bs)(l:Good X J bs src)(p:∀ {X':Cx},XOk X' k J bs->Good X' J bs c)(m:∀ {X':Cx},XOk X' k J bs->Good X' J bs el)(h:cE (.comp1 n ms x src c el) X.env.scope X.N bs e=true) :
  ∃ tg iter elt ifs scope pos,e=.ListComp elt [⟨tg,iter,ifs,0⟩] scope pos/\zTr X tg iter elt ifs scope ms [x] (evI J src) (tg1 n) (evC J c) (evE J el):=by
 obtain⟨v,w,scope,pos,rfl,f⟩:=zCN h;obtain⟨q,rfl,g⟩:=zAt f;obtain⟨r,t,ifs,a,rfl,i⟩:=zFs g;obtain⟨y,u,rfl,d⟩:=zAQ i;replace h:=d;simp at h;obtain⟨⟨⟨⟨⟨⟨⟨⟨⟨⟨rfl,rfl⟩,rfl⟩,h4⟩,h5⟩,h6⟩,h7⟩,h8⟩,h9⟩,h10⟩,h11⟩:=h;have j:∀ s H b,XOk (zAe X (mask (noN X.N) ms X.N++[x]) scope s H b) k J bs:=λs H b=>o.comp h6
 refine⟨_,_,_,_,_,_,rfl,⟨(l.i _ h9).1 _,(l.i _ h9).2,zHj h4,zFw h5,λs H b=>?_,λs H b=>(p (j s H b)).c _ h10,λs H b=>((m (j s H b)).e _ h11).1⟩⟩;exact zK3 h6 (zLG (k:=0) rfl) (zET h7) (.inl h8)
def zIy (h:zR8 e=true):attributeBase e f X.env (eval e X.env)=eval e X.env:=by
 cases e with
 | Name _ _=>rfl
 | _=>exact nof h
def zDO (o:XOk X k J bs)(a:E):Good X J bs a:=by
 have p:=zEC o
 induction a generalizing X with
 | var i =>
  refine { e:=λe h=>?_ };obtain⟨_,_,rfl,d⟩:=zAQ h;replace h:=d;simp only[x8,qj] at h;obtain⟨⟨h2,h3⟩,h4⟩:=h;obtain⟨n1,n2⟩:=zCD h4;exact zA2 (zSu h2 (zEK h3) n1 n2) λ_=>rfl
 | glob n x =>
  refine { e:=λe h=>?_ };obtain⟨_,_,rfl,d⟩:=zAQ h;replace h:=d;simp only[x8,qj] at h;obtain⟨⟨rfl,h2⟩,h4⟩:=h;exact zA2 (zUi o (zEY h2) (zCD h4).1) λ_=>rfl
 | int i =>
  refine { e:=λe h=>?_ };obtain⟨G,_,_,rfl,d⟩:=zBh h;obtain⟨_,rfl,g⟩:=zKK d;replace h:=g;simp only[qj] at h;subst h;exact zA2 ge_int λ_=>rfl
 | bl b =>
  refine { e:=λe h=>?_ };obtain⟨G,_,_,rfl,d⟩:=zBh h;obtain⟨_,rfl,g⟩:=zIx d;replace h:=g;simp only[qj] at h;subst h;exact zA2 zUk λ_=>rfl
 | non =>
  refine { e:=λe h=>?_ };obtain⟨G,_,_,rfl,d⟩:=zBh h;obtain⟨rfl,g⟩:=zDj d;replace h:=g;exact zA2 zSz λ_=>rfl
 | str x =>
  refine { e:=λe h=>?_ };obtain⟨G,_,_,rfl,d⟩:=zBh h;obtain⟨_,rfl,g⟩:=zKJ d;replace h:=g;simp only[qj] at h;subst h;exact zA2 zSx λ_=>rfl
 | bin U a b j v =>
  refine { e:=λe h=>?_ };obtain⟨_,_,_,_,rfl,d⟩:=zE7 h;replace h:=d;simp only[x8,opB,qj] at h;obtain⟨⟨rfl,h1⟩,h2⟩:=h;exact zA2 (zS6 ((j o p).e _ h1).1 ((v o p).e _ h2).1) λ_=>rfl
 | neg a j =>
  refine { e:=λe h=>?_ };obtain⟨G,_,_,rfl,d⟩:=zDx h;obtain⟨rfl,g⟩:=zDj d;replace h:=g;exact zA2 (zS0 ((j o p).e _ h).1) λ_=>rfl
 | not a j =>
  refine { e:=λe h=>?_ };obtain⟨G,_,_,rfl,d⟩:=zDx h;obtain⟨rfl,g⟩:=zDj d;replace h:=g;exact⟨zSy ((j o p).e _ h).1,zSc ((j o p).e _ h).2⟩
 | cmp U a b j v =>
  refine { e:=λe h=>?_ };obtain⟨_,G,z2,_,rfl,d⟩:=zCh h;obtain⟨_,rfl,g⟩:=zAt d;obtain⟨_,rfl,w⟩:=zAt g;replace h:=w;simp only[x8,cmB,qj] at h;obtain⟨⟨rfl,h1⟩,h2⟩:=h;exact zQN p ((j o p).e _ h1).1 ((v o p).e _ h2).1
 | andl es P =>
  refine { e:=λe h=>?_ };obtain⟨G,l,K,rfl,d⟩:=zDG h;obtain⟨rfl,g⟩:=zDj d;replace h:=g;cases l with
  | nil =>
   have z:∀ O,evAnd J es O=none:=λO=>by cases es<;>first | rfl | exact nof h
   exact⟨zCi z,zHV z⟩
  | cons x T =>
   have q:=(((P o p).es _ h).2 (by simp) K).1;exact⟨q.1,q.2.pt⟩
 | orl es P =>
  refine { e:=λe h=>?_ };obtain⟨G,l,K,rfl,d⟩:=zDG h;obtain⟨rfl,g⟩:=zDj d;replace h:=g;cases l with
  | nil =>
   have z:∀ O,evOr J es O=none:=λO=>by cases es<;>first | rfl | exact nof h
   exact⟨zCi z,zHV z⟩
  | cons x T =>
   have q:=(((P o p).es _ h).2 (by simp) K).2;exact⟨q.1,q.2.pt⟩
 | ite c a b F j v =>
  refine { e:=λe h=>?_ };obtain⟨_,_,_,_,rfl,d⟩:=zIw h;replace h:=d;simp only[x8] at h;obtain⟨⟨h0,h1⟩,h2⟩:=h;exact⟨zS2 ((F o p).e _ h0).2 ((j o p).e _ h1).1 ((v o p).e _ h2).1,zSd ((F o p).e _ h0).2 ((j o p).e _ h1).2 ((v o p).e _ h2).2⟩
 | tup es P =>
  refine { e:=λe h=>?_ };obtain⟨_,_,_,rfl,d⟩:=zIv h;replace h:=d;exact zA2 (zSv ((P o p).es _ h).1.1) λ_=>rfl
 | lst es P =>
  refine { e:=λe h=>?_ };obtain⟨_,_,rfl,d⟩:=zGV h;replace h:=d;exact zA2 (zS1 ((P o p).es _ h).1.1) λ_=>rfl
 | ix a b j v =>
  refine { e:=λe h=>?_ };obtain⟨_,_,_,rfl,d⟩:=zA9 h;replace h:=d;simp only[x8] at h;obtain⟨⟨h0,h1⟩,h2⟩:=h;exact zA2 (zUh ((j o p).e _ h1).1 ((v o p).e _ h2).1 (zE9 h0)) λ_=>rfl
 | sl a lo hi j b3 b4 =>
  refine { e:=λe h=>?_ };obtain⟨_,G,_,rfl,d⟩:=zA9 h;obtain⟨_,_,z2,_,rfl,g⟩:=zE5 d;obtain⟨rfl,w⟩:=zDT g;replace h:=w;simp only[x8] at h;obtain⟨⟨h0,h1⟩,h2⟩:=h;exact zA2 (zUf ((j o p).e _ h0).1 ((b3 o p).o _ h1) ((b4 o p).o _ h2)) λ_=>rfl
 | call n f es P =>
  refine { e:=λe h=>?_ };obtain⟨_,_,_,_,rfl,d⟩:=zBs h;replace h:=d;simp only[x8,qj] at h;obtain⟨⟨⟨rfl,h2⟩,h3⟩,h4⟩:=h;exact zA2 (zUj o (zEY h2) (zCD h3).1 ((P o p).es _ h4).1.1 (zGv h4) λe O=>by subst e;exact zQ3 h4 O) λ_=>rfl
 | len a j =>
  refine { e:=λe h=>?_ };obtain⟨_,_,_,_,rfl,d⟩:=zBs h;obtain⟨_,rfl,g⟩:=zAt d;replace h:=g;simp only[x8,qj] at h;obtain⟨⟨⟨rfl,h2⟩,h3⟩,h4⟩:=h;obtain⟨D,A⟩:=zA8 o h2;exact zA2 (zS7 zGt zPK D A PySem.boot_len ((j o p).e _ h4).1 (zAG h3) (by decide) (by decide)) λ_=>rfl
 | abs a j =>
  refine { e:=λe h=>?_ };obtain⟨_,_,_,_,rfl,d⟩:=zBs h;obtain⟨_,rfl,g⟩:=zAt d;replace h:=g;simp only[x8,qj] at h;obtain⟨⟨⟨rfl,h2⟩,h3⟩,h4⟩:=h;obtain⟨D,A⟩:=zA8 o h2;exact zA2 (zS7 (by intro pins s B H T us Q I r h;obtain⟨i,rfl,q⟩:=h;obtain⟨u,rfl,t,rfl⟩:=zG4 r;exact call_abs_int λu tk=>⟨.int _,H,I.tok _,⟨_,rfl⟩,q⟩) zPN D A boot_abs ((j o p).e _ h4).1 (zAG h3) (by decide) (by decide)) λ_=>rfl
 | list a j =>
  refine { e:=λe h=>?_ };obtain⟨_,_,_,_,rfl,d⟩:=zBs h;obtain⟨_,rfl,g⟩:=zAt d;replace h:=g;simp only[x8,qj] at h;obtain⟨⟨⟨rfl,h2⟩,h3⟩,h4⟩:=h;obtain⟨D,A⟩:=zA8 o h2;exact zA2 (zSw zD5 zMe D A boot_list ((j o p).e _ h4).1 (zAG h3) (by decide) (by decide)) λ_=>rfl
 | max a b j v =>
  refine { e:=λe h=>?_ };obtain⟨_,_,_,_,rfl,d⟩:=zBs h;obtain⟨_,_,rfl,g⟩:=zE8 d;replace h:=g;simp only[x8,qj] at h;obtain⟨⟨⟨⟨⟨rfl,h2⟩,h3⟩,h4⟩,h5⟩,h6⟩:=h;obtain⟨D,A⟩:=zA8 o h2;exact zA2 (zUl (zLs o.calm) (λx y z e=>by
   unfold maxD at e;split at e
   .cases e;exact⟨_,_,rfl,rfl,rfl⟩
   .cases e) D A boot_max ((j o p).e _ h5).1 ((v o p).e _ h6).1 (zAG h3) (zAG h4) (by decide) (by decide)) λ_=>rfl
 | isi t a j =>
  refine { e:=λe h=>?_ };obtain⟨G,z2,z3,_,rfl,d⟩:=zAu h;obtain⟨_,_,rfl,g⟩:=zAQ d;obtain⟨_,z4,rfl,w⟩:=zE8 g;obtain⟨_,_,rfl,R⟩:=zAQ w;obtain⟨rfl,N⟩:=zBL R;replace h:=N;simp only[x8,qj] at h;obtain⟨⟨⟨⟨⟨rfl,rfl⟩,h2⟩,h3⟩,h4⟩,h5⟩:=h;obtain⟨D,A⟩:=zA8 o h2;obtain⟨g3,g4⟩:=zA8 o h3;exact zA2 (zS3 D A g3 g4 ((j o p).e _ h5).1 (zAG h4)) λ_=>rfl
 | chn U c8 a b c j v F =>
  refine { e:=λe h=>?_ };obtain⟨_,G,z2,_,rfl,d⟩:=zCh h;obtain⟨_,_,rfl,g⟩:=zE8 d;obtain⟨_,_,rfl,w⟩:=zE8 g;replace h:=w;simp only[x8,cmB,qj] at h;obtain⟨⟨⟨⟨⟨⟨rfl,rfl⟩,h1⟩,h2⟩,h3⟩,h4⟩,h5⟩:=h;have k:∀ {U:CmpOp},chB U=true->∃ r,OpR X (compareOp U) r/\OpD X.K r (cmpD U):=λ{U} q=>by
   cases U with
   | Lt=>exact⟨_,zRx,zBW (zB2 rfl)⟩
   | LtE=>exact⟨_,zRy,zBW (zB2 rfl)⟩
   | Gt=>exact⟨_,zR0,zBW (zB2 rfl)⟩
   | GtE=>exact⟨_,zR2,zBW (zB2 rfl)⟩
   | _=>exact absurd q (by decide)
  obtain⟨r,a1,a2⟩:=k h1;obtain⟨r',b1,b2⟩:=k h2;exact ⟨(zMc a1 b1 ((j o p).e _ h3).1 ((v o p).e _ h4).1 ((F o p).e _ h5).1 (zH6 h2)).imp λ_ _ _ q=>zH0 a2 b2 q,(zMX a1 b1 ((j o p).e _ h3).1 ((v o p).e _ h4).1 ((F o p).e _ h5).1 (zH6 h2)).imp λ_ _ _ q=>zH0 a2 b2 (zHX q)⟩
 | callw i es P =>
  refine { e:=λe h=>?_ };obtain⟨_,_,_,_,rfl,d⟩:=zBs h;obtain⟨_,_,rfl,g⟩:=zDU d;replace h:=g;simp only[x8,qj] at h;obtain⟨⟨⟨h1,h2⟩,h3⟩,h4⟩:=h;obtain⟨d1,d2⟩:=zCD h3;have st:=zGv h4;exact zA2 (zNI o.g.fn o.room h1 (zEK h2) d1 d2 ((P o p).es _ h4).1.1 (zAG (st _ q8)) (zBD λe z=>st e (qJ _ z)) o.own) λ_=>rfl
 | callv i a j =>
  refine { e:=λe h=>?_ };obtain⟨_,_,_,_,rfl,d⟩:=zBs h;obtain⟨_,rfl,g⟩:=zAt d;replace h:=g;simp only[x8,qj] at h;obtain⟨⟨⟨⟨h1,h2⟩,h3⟩,h4⟩,h5⟩:=h;obtain⟨d1,d2⟩:=zCD h3;exact zA2 (zNJ o.g.lm o.g.fn o.room h1 (zEK h2) d1 d2 ((j o p).e _ h5).1 (zAG h4) o.own) λ_=>rfl
 | fld a f j =>
  refine { e:=λe h=>?_ };obtain⟨_,_,_,rfl,d⟩:=zAh h;replace h:=d;simp only[x8,qj] at h;obtain⟨⟨rfl,h2⟩,h3⟩:=h;exact zA2 (zS4 ((j o p).e _ h3).1 (zIy h2) λc m C q=>o.g.ob _ m C q) λ_=>rfl
 | lrev a j =>
  refine { e:=λe h=>?_ };obtain⟨G,z2,z3,_,rfl,d⟩:=zAu h;obtain⟨_,_,rfl,g⟩:=zAQ d;obtain⟨z4,rfl,w⟩:=zAt g;obtain⟨z5,z6,z7,_,rfl,R⟩:=zAu w;obtain⟨_,_,rfl,N⟩:=zAQ R;obtain⟨_,rfl,V⟩:=zAt N;obtain⟨rfl,a0⟩:=zBL V;obtain⟨rfl,Y⟩:=zBL a0;replace h:=Y;simp only[x8,qj] at h;obtain⟨⟨⟨⟨⟨rfl,rfl⟩,h2⟩,h3⟩,h4⟩,h5⟩:=h;obtain⟨D,A⟩:=zA8 o h2;obtain⟨g3,g4⟩:=zA8 o h3;exact zA2 (zJD o.calm D A g3 g4 ((j o p).e _ h5).1 (zAG h4)) λ_=>rfl
 | tupl a j =>
  refine { e:=λe h=>?_ };obtain⟨_,_,_,_,rfl,d⟩:=zBs h;obtain⟨_,rfl,g⟩:=zAt d;replace h:=g;simp only[x8,qj] at h;obtain⟨⟨⟨rfl,h2⟩,h3⟩,h4⟩:=h;obtain⟨D,A⟩:=zA8 o h2;exact zA2 (zSw zF9 zKC D A (by decide) ((j o p).e _ h4).1 (zAG h3) (by decide) (by decide)) λ_=>rfl
 | comp1 n ms x d0 c el M F L =>
  refine { e:=λe h=>?_ };obtain⟨tg,b9,d6,ifs,b5,K,rfl,q⟩:=zIV o (M o p) (λo'=>F o' (zEC o')) (λo'=>L o' (zEC o')) h;exact zA2 (zK5 o.calm q.hi q.hs q.cs q.hm q.hg q.hc q.he) λ_=>rfl
 | lzip a b j v =>
  refine { e:=λe h=>?_ };obtain⟨G,z2,z3,_,rfl,d⟩:=zAu h;obtain⟨_,_,rfl,g⟩:=zAQ d;obtain⟨z4,rfl,w⟩:=zAt g;obtain⟨z5,z6,z7,_,rfl,R⟩:=zAu w;obtain⟨_,_,rfl,N⟩:=zAQ R;obtain⟨_,_,rfl,V⟩:=zE8 N;obtain⟨rfl,a0⟩:=zBL V;obtain⟨rfl,Y⟩:=zBL a0;replace h:=Y;simp only[x8,qj] at h;obtain⟨⟨⟨⟨⟨⟨⟨rfl,rfl⟩,h2⟩,h3⟩,h4⟩,h5⟩,h6⟩,h7⟩:=h;obtain⟨D,A⟩:=zA8 o h2;obtain⟨g3,g4⟩:=zA8 o h3;exact zA2 (zJC o.calm D A g3 g4 ((j o p).e _ h6).1 ((v o p).e _ h7).1 (zAG h4) (zAG h5)) λ_=>rfl
 | it a j =>
  refine { i:=λit h=>?_ };replace h:(zKO it&&cE a X.env.scope X.N bs it)=true:=h;simp only[x8] at h;exact⟨λtg=>zSt ((j o p).e _ h.2).1,zFA h.1⟩
 | r1 a j =>
  refine { i:=λit h=>?_ };obtain⟨_,_,_,_,rfl,d⟩:=zBs h;obtain⟨_,rfl,g⟩:=zAt d;replace h:=g;simp only[x8,qj] at h;obtain⟨⟨⟨rfl,h2⟩,h3⟩,h4⟩:=h;obtain⟨D,A⟩:=zA8 o h2;exact⟨λtg=>zK2 D A ((j o p).e _ h4).1 (zAG h3),λ_=>rfl⟩
 | r2 a b j v =>
  refine { i:=λit h=>?_ };obtain⟨_,_,_,_,rfl,d⟩:=zBs h;obtain⟨_,_,rfl,g⟩:=zE8 d;replace h:=g;simp only[x8,qj] at h;obtain⟨⟨⟨⟨⟨rfl,h2⟩,h3⟩,h4⟩,h5⟩,h6⟩:=h;obtain⟨D,A⟩:=zA8 o h2;exact⟨λtg=>zK1 D A ((j o p).e _ h5).1 ((v o p).e _ h6).1 (zAG h3) (zAG h4),λ_=>rfl⟩
 | r3 a b c j v F =>
  refine { i:=λit h=>?_ };obtain⟨_,_,_,_,rfl,d⟩:=zBs h;obtain⟨_,_,_,rfl,g⟩:=zR5 d;replace h:=g;simp only[x8,qj] at h;obtain⟨⟨⟨⟨⟨⟨⟨rfl,h2⟩,h3⟩,h4⟩,h4'⟩,h5⟩,h6⟩,h7⟩:=h;obtain⟨D,A⟩:=zA8 o h2;exact⟨λtg=>zK0 D A ((j o p).e _ h5).1 ((v o p).e _ h6).1 ((F o p).e _ h7).1 (zAG h3) (zAG h4) (zAG h4'),λ_=>rfl⟩
 | nil =>
  refine⟨λe h=>(zzf h),λes h=>?_,λoe h=>?_,λit h=>(zzf h),λifs h=>?_⟩
  .cases es with
   | nil=>exact⟨⟨zS9,zQT⟩,λz=>absurd rfl z⟩
   | cons x T=>exact nof h
  .cases oe with
   | none=>exact (PO.imp zHH λB H Q W=>by obtain⟨S,O,o,ds,e,c⟩:=W;cases e;exact c H (Same.refl _))
   | some x=>exact nof h
  .cases ifs with
   | nil=>exact (λpins s B H Q I Z=>by obtain⟨S,O,b,ds,e,c⟩:=Z;exact wpAny_tests_nil ⟨H,I,by cases e;exact c H (Same.refl _)⟩)
   | cons x T=>exact nof h
 | cons e es L M =>
  refine⟨λe h=>(zzf h),λl h=>?_,λoe h=>?_,λit h=>(zzf h),λifs h=>?_⟩
  .cases l with
   | nil=>exact nof h
   | cons x T =>
    replace h:(zAk x&&cE e X.env.scope X.N bs x&&cEs es X.env.scope X.N bs T)=true:=h;simp only[x8] at h;obtain⟨⟨h1,h2⟩,h3⟩:=h;obtain⟨q1,q2⟩:=(L o p).e _ h2;refine⟨⟨zQU q1 ((M o p).es _ h3).1.1 (zAG h1),zNM q1 ((M o p).es _ h3).1.2 (zAG h1)⟩,λ_ K=>?_⟩;cases T with
    | nil =>
     have hn:es=.nil:=by cases es<;>first | rfl | exact(zzf h3)
     subst hn;exact⟨⟨zOY q1,(zJ0 q2)⟩,zOY q1,(zOD q2)⟩
    | cons y ys =>
     have hc:∃ a b,es=.cons a b:=by cases es<;>first | exact⟨_,_,rfl⟩ | exact(zzf h3)
     obtain⟨a,b,rfl⟩:=hc;obtain⟨⟨r1,r2⟩,r3,r4⟩:=((M o p).es _ h3).2 (by simp) K;exact⟨⟨zS8 q1 r1,zSZ q2 r2⟩,zUg q1 r3,zUa q2 r4⟩
  .cases oe with
   | none=>exact nof h
   | some x =>
    replace h:cE e X.env.scope X.N bs x=true:=h;exact zQC ((L o p).e _ h).1
  .cases ifs with
   | nil=>exact nof h
   | cons x T =>
    cases T with
    | nil=>exact (λpins s B H Q I q=>wpAny_tests_one (((L o p).e _ h).2 pins s B H Q I q))
    | cons _ _=>exact nof h
def zLx (h:zER kk=true)(v:Value):assign (.Subscript o kk spos) env v=(do
   let ov<-holding [v] (eval o env)
   let iv<-holding [v,ov] (eval kk env)
   standAt spos
   holding [v,ov,iv] (setItem ov iv v)
   release [v,ov,iv] []):=by
 cases kk<;>first | rfl | cases h
def zJa (h:zFB e=true):swapsWithSole [t] e n env=pure false:=zDH h
def zB5 (h:varB sc N i x=true):N[i]?=some x/\Loc sc x/\Vis sc x/\(x==("__debug__":Str))=false/\(x==("__classdict__":Str))=false:=by
 unfold varB at h;simp at h;obtain⟨⟨h1,h2⟩,h3⟩:=h;exact⟨h1,zET h2,((zET h2).elim .inl λe=>.inr (.inl e)),zCD h3⟩
def zRN (o:XOk X k J bs)(s:∀ x,X.fn x=true)(N:X.xe=λ_ _=>False)(M:X.stack=X.env::X.outer)(Q:X.env.frame=some X.env.locals)(a:S) :
  ((∀ st,cS X.env.scope X.N bs a st=true->GS X st (evS J a))/\∀ sts,cSs X.env.scope X.N bs a sts=true->GSs X sts (evSs J a)) /\
  (∀ st,cS X.env.scope X.N bs a st=true->GXs X st (xvS J a))/\∀ sts,cSs X.env.scope X.N bs a sts=true->GXss X sts (xvSs J a):=by
 induction a with
 | nil =>
  refine⟨⟨λst h=>(zzf h),λsts h=>?_⟩,λst h=>zAS,λsts h=>zAS⟩;cases sts with
  | nil=>exact zP3
  | cons x F=>exact nof h
 | cons a b v j =>
  refine⟨⟨λst h=>(zzf h),λsts h=>?_⟩,λst h=>zAS,λsts h=>zAS⟩
  .cases sts with
   | nil=>exact nof h
   | cons x F =>
    replace h:(cS X.env.scope X.N bs a x&&cSs X.env.scope X.N bs b F)=true:=h;simp only[x8] at h;exact zNC (v.1.1 _ h.1) (j.1.2 _ h.2)
 | frz i r H =>
  refine⟨⟨λst h=>(zzf h),λsts h=>?_⟩,λst h=>zAS,λsts h=>zAS⟩
  .replace h:cSs X.env.scope X.N bs r sts=true:=h;exact zP2 zTE (H.1.2 _ h)
 | set i e =>
  refine⟨⟨λst h=>?_,λsts h=>(zzf h)⟩,λst h=>zAS,λsts h=>zAS⟩
  .obtain ⟨t,_,_,rfl,d⟩:=zBT h;obtain⟨B,rfl,f⟩:=zAt d;obtain⟨_,_,rfl,g⟩:=zAQ f;replace h:=g;simp only[x8,qj] at h;obtain⟨⟨h2,h3⟩,h4⟩:=h;obtain⟨l,p,_⟩:=zB5 h2;exact zOX o.nd l p ((zDO o e).e _ h4).1 (zDH h3) (.inl (s _))
 | setC i e =>
  refine⟨⟨λst h=>?_,λsts h=>(zzf h)⟩,λst h=>zAS,λsts h=>zAS⟩;obtain⟨t,_,_,rfl,d⟩:=zBT h;obtain⟨B,rfl,f⟩:=zAt d;obtain⟨_,_,rfl,g⟩:=zAQ f;replace h:=g;simp only[x8,qj] at h;obtain⟨⟨h0,h2⟩,h4⟩:=h;obtain⟨l,p,_⟩:=zB5 h2;cases e with
  | comp1 n ms x E c K =>
   obtain⟨Z,G,W,L,D,R,rfl,q⟩:=zIV o (zDO o E) (λo'=>zDO o' c) (λo'=>zDO o' K) h4;exact zQA o.calm q.hi q.hs q.cs q.hm q.hg q.hc q.he o.nd l p (.inl (s _))
  | _=>cases h0
 | app i e =>
  refine⟨⟨λst h=>?_,λsts h=>(zzf h)⟩,λst h=>zAS,λsts h=>zAS⟩;obtain⟨t,_,rfl,d⟩:=zCB h;obtain⟨B,P,T,_,rfl,f⟩:=zAu d;obtain⟨O,_,_,rfl,g⟩:=zAh f;obtain⟨_,_,rfl,w⟩:=zAQ g;obtain⟨_,rfl,u⟩:=zAt w;obtain⟨rfl,y⟩:=zBL u;replace h:=y;simp only[x8,qj] at h;obtain⟨⟨⟨⟨rfl,h2⟩,h3⟩,h4⟩,h5⟩:=h;obtain⟨l,p,A,C,z⟩:=zB5 h2;exact zSk l A C z ((zDO o e).e _ h5).1 (zAG h4) rfl h3
 | aug Y i e =>
  refine⟨⟨λst h=>?_,λsts h=>(zzf h)⟩,λst h=>zAS,λsts h=>zAS⟩;obtain⟨t,_,_,_,rfl,d⟩:=zEs h;obtain⟨_,_,rfl,f⟩:=zAQ d;replace h:=f;simp only[x8,qj,opB] at h;obtain⟨⟨⟨rfl,h2⟩,h3⟩,h4⟩:=h;obtain⟨l,p,_⟩:=zB5 h2;exact zSj o.nd l p ((zDO o e).e _ h4).1 (.inl (s _))
 | ext i e =>
  refine⟨⟨λst h=>?_,λsts h=>(zzf h)⟩,λst h=>zAS,λsts h=>zAS⟩;obtain⟨t,_,rfl,d⟩:=zCB h;obtain⟨B,P,T,_,rfl,f⟩:=zAu d;obtain⟨O,_,_,rfl,g⟩:=zAh f;obtain⟨_,_,rfl,w⟩:=zAQ g;obtain⟨_,rfl,u⟩:=zAt w;obtain⟨rfl,y⟩:=zBL u;replace h:=y;simp only[x8,qj] at h;obtain⟨⟨⟨⟨rfl,h2⟩,h3⟩,h4⟩,h5⟩:=h;obtain⟨l,p,A,C,z⟩:=zB5 h2;exact zSi l A C z ((zDO o e).e _ h5).1 (zAG h4) rfl h3
 | ife c a b v j =>
  refine⟨⟨λst h=>?_,λsts h=>(zzf h)⟩,λst h=>zAS,λsts h=>zAS⟩
  .obtain ⟨_,_,_,_,rfl,d⟩:=zKH h;replace h:=d;simp only[x8] at h;obtain⟨⟨h1,h2⟩,h3⟩:=h;exact zUb ((zDO o c).e _ h1).2 (v.1.2 _ h2) (j.1.2 _ h3)
 | whl c b j =>
  refine⟨⟨λst h=>?_,λsts h=>(zzf h)⟩,λst h=>zAS,λsts h=>zAS⟩;obtain⟨_,_,t,_,rfl,d⟩:=zIu h;obtain⟨rfl,f⟩:=zBL d;replace h:=f;simp only[x8] at h;exact zNE o.own ((zDO o c).e _ h.1).2 (j.1.2 _ h.2)
 | for1 i it b j =>
  refine⟨⟨λst h=>?_,λsts h=>(zzf h)⟩,λst h=>zAS,λsts h=>zAS⟩;obtain⟨t,_,_,B,_,rfl,d⟩:=zH1 h;obtain⟨_,_,rfl,f⟩:=zAQ d;obtain⟨rfl,g⟩:=zBL f;replace h:=g;simp only[x8,qj] at h;obtain⟨⟨h2,h3⟩,h4⟩:=h;obtain⟨l,p,_⟩:=zB5 h2;obtain⟨V,U⟩:=(zDO o it).i _ h3;exact zSh o.own o.calm (V _) (zK3 o.nd l p (.inl (s _))) (j.1.2 _ h4) U
 | ret e =>
  refine⟨⟨λst h=>?_,λsts h=>(zzf h)⟩,λst h=>zAS,λsts h=>zAS⟩
  .obtain ⟨t,_,rfl,d⟩:=zDF h;obtain⟨_,rfl,f⟩:=zCg d;replace h:=f;exact zSg ((zDO o e).e _ h).1
 | retOwn i =>
  refine⟨⟨λst h=>?_,λsts h=>(zzf h)⟩,λst h=>zAS,λsts h=>zAS⟩;obtain⟨t,_,rfl,d⟩:=zDF h;obtain⟨B,rfl,f⟩:=zCg d;obtain⟨_,_,rfl,g⟩:=zAQ f;replace h:=g;obtain⟨l,p,A,C,z⟩:=zB5 h;exact zKy l A C z
 | never=>exact⟨⟨λst _=>zID,λsts h=>(zzf h)⟩,λst h=>zAS,λsts h=>zAS⟩
 | rse c m =>
  exact⟨⟨λst _=>zID,λsts h=>(zzf h)⟩,λst h=>zAS,λsts h=>zAS⟩
end
def zOk {K:W.Frag}{st:Stmt}(F:Fun K x qual st f fd)(sc:zAg N ps (zAA st))
  (c:cSs (zAA st) N bs b (zAN st)=true) (g:GOk P w K mg base k J bs):FnOk P w K mg base CX0 (k+1) f fd ps (spD K (dFun ps.length N.length (evSs J b))) :=
 zTD F sc λcdv A a s H E d =>
  (zRN ⟨g,d,rfl,sc.nd,PassesOwn.never⟩ (λ_=>rfl) rfl rfl rfl b).1.2 _ c
noncomputable def Gm.add (J:Gm)(x:Str)(F:List D->Option R):Gm:=⟨J.fns++[(x,F)],J.cs,J.xf,J.sub,J.rs,J.lm,J.ob⟩
def GOk.add {K:W.Frag}{st:Stmt}(g:GOk P w K mg base k J bs)(F:Fun K x x st f fd)(sc:zAg N ps (zAA st))
  (d:cSs (zAA st) N bs b (zAN st)=true) (m:mg x=some (.ref f)) (l:zBP K fd ps []):GOk P w K mg base (k+1) (J.add x (dFun ps.length N.length (evSs J b))) bs:=by
 refine⟨λy G h=>?_,g.cs,g.bt,trivial,trivial,trivial,λj L F e=>(g.lm j L F e).mono (Nat.le_succ k),g.ob⟩
 .rcases mem_append.mp h with h | h
  .obtain ⟨i,a,c,h1,h2⟩:=g.fn y G h;exact⟨i,a,c,h1.mono (Nat.le_succ k),h2⟩
  .have e:(y,G)=(x,dFun ps.length N.length (evSs J b)):=by simpa using h
   cases e;exact⟨f,fd,ps,zOk F sc d g,m,F.kp,l⟩
def GOk.addN {K:W.Frag}{st:Stmt}(g:GOk P w K mg base k J bs)(F:Fun K x x st f fd)(m:mg x=some (.ref f))(c:zBP K fd ps []) :
  GOk P w K mg base k (J.add x (λ_=>none)) bs:=by
 refine⟨λy G h=>?_,g.cs,g.bt,trivial,trivial,trivial,g.lm,g.ob⟩
 .rcases mem_append.mp h with h | h
  .exact g.fn y G h
  .have e:(y,G)=(x,λ_=>none):=by simpa using h
   cases e;exact⟨f,fd,ps,⟨λvs H Q E q=>(by obtain⟨_,_,_,_,_,q,_⟩:=q;cases q),λA a s H b us d Q E i j l n q=>by obtain⟨_,_,_,_,_,q,_⟩:=q;cases q⟩,m,F.kp,c⟩
def GOk.addR {K:W.Frag}{st:Stmt}(g:GOk P w K mg base k J bs)(l:GOk P w K mg base j J' bs)(p:k<=j)(F:Fun K x x st f fd)(sc:zAg N ps (zAA st))
  (d:cSs (zAA st) N bs b (zAN st)=true) (m:mg x=some (.ref f)) (o:zBP K fd ps []):GOk P w K mg base (j+1) (J.add x (dFun ps.length N.length (evSs J' b))) bs:=by
 refine⟨λy G h=>?_,g.cs,g.bt,trivial,trivial,trivial,λi L F e=>(g.lm i L F e).mono (by omega),g.ob⟩
 .rcases mem_append.mp h with h | h
  .obtain ⟨n,a,c,h1,h2⟩:=g.fn y G h;exact⟨n,a,c,h1.mono (by omega),h2⟩
  .have e:(y,G)=(x,dFun ps.length N.length (evSs J' b)):=by simpa using h
   cases e;exact⟨f,fd,ps,zOk F sc d l,m,F.kp,o⟩
noncomputable def Gm.addL (J:Gm)(L:LamI)(F:List D->Option R):Gm:=⟨J.fns,J.cs,J.xf,J.sub,J.rs,J.lm++[(L,F)],J.ob⟩
noncomputable def lamD (n:Nat)(G:Dst->Option R):List D->Option R:=λds=>if ds.length=n+1/\noFs ds=true then G (ds.map λd=>some (d,false)) else none
def GOk.addL {K:W.Frag}(g:GOk P w K mg base k J bs)(S:zGG x ys L)(o:frN L=ys)(b:cE be L.scope (x::ys) bs L.body=true) :
  GOk P w K mg base (k+1) (J.addL L (lamD ys.length (evE J be))) bs:=by
 refine⟨λy G h=>let ⟨f,fd,ps,h1,h2⟩:=g.fn y G h;⟨f,fd,ps,h1.mono (Nat.le_succ k),h2⟩,g.cs,g.bt,trivial,trivial,trivial,λj c F e=>?_,g.ob⟩;have a:(J.lm++[_])[j]?=some (c,F):=e;by_cases q:j < J.lm.length
 .rw [getElem?_append_left q] at a;exact(g.lm j c F a).mono (Nat.le_succ k)
 .rw [getElem?_append_right (by omega)] at a;have n:j - J.lm.length=0:=by
   by_cases z:j - J.lm.length=0
   .exact z
   .simp_all
  rw[n] at a;cases a;refine zPm S o λY t m u p v r l d i s=>?_
  subst t m u p v;rw[<- d,<- i] at b;exact((zDO ⟨g,r,l,by rw[d];exact S.nd,by rw[s];exact PassesOwn.never⟩ be).e _ b).1
def zNv (h:absV u=some v):RelV v u:=by
 unfold absV at h;split at h<;>first | cases h;rfl | cases h;exact⟨_,rfl⟩ | cases h
theorem zHs:∀ {us:List Value} {vs:List V},us.map absV=vs.map some->Vals vs us
 | [],[],_=>.nil
 | [],_::_,h=>by simp at h
 | _::_,[],h=>by simp at h
 | u::us,v::vs,h=>by
  simp only[map_cons,List.cons.injEq] at h;exact .cons (zNv h.1) (zHs h.2)
def zF3 {K:W.Frag}{b:Str->Option Value}{ns:List Int}(m:b x=some (.ref a))(l:K.lookup a=some ⟨.type "tuple",od,.seq its n,sl⟩)
  (h:its.toList.map absV=(ns.map V.int).map some) (d:ns.length<=1000:=by decide):∃ u v,b x=some u/\RelV v u/\Den K (λ_=>none) (.tup (ns.map D.int)) v:=by
 refine⟨_,.ref a,m,rfl,?_⟩;refine⟨a,ns.map V.int,rfl,.inr ⟨_,its,n,l,rfl,rfl,?_,zHs h⟩,DenL.ints ns⟩;have e:=congrArg List.length h;rw[qy,qy,qy] at e;have c:its.size=ns.length:=e;rw[c];exact Nat.le_of_lt ((Nat.lt_of_le_of_lt d (by decide)))
end DL
end
section
namespace DL
open PySem L2
def zHc :evE J (.var i)=varD i:=rfl
def zNc :evE J (.glob n x)=zGh J n x:=rfl
def zQt :evE J (.neg a)=negD (evE J a):=rfl
def zQs :evE J (.not a)=notD (evE J a):=rfl
def zHd :evAnd J (.cons e (.cons a b))=andD (evE J e) (evAnd J (.cons a b)):=rfl
def zJG :evOr J (.cons e (.cons a b))=orD (evE J e) (evOr J (.cons a b)):=rfl
def zQv :evE J (.ite c a b)=iteD (evE J c) (evE J a) (evE J b):=rfl
def zLV :evEs J (.cons e es)=zNl (evE J e) (evEs J es):=rfl
def zQr :evE J (.tup es)=tupD (evEs J es):=rfl
def zQu :evE J (.lst es)=lstD (evEs J es):=rfl
def zNd :evE J (.call n f es)=fnD J n f (evEs J es):=rfl
def zOe :evE J (.sl a lo hi)=slD (evE J a) (evO J lo) (evO J hi):=rfl
def zNY :evO J (.cons e u1)=zKB (evE J e):=rfl
def zTP :evSs J (.cons a b)=seqD (evS J a) (evSs J b):=rfl
def zTt :evSs J (.frz i r)=seqD (frzD i) (evSs J r):=rfl
def zQh :evS J (.set i e)=setD i (evE J e):=rfl
def zNX :evS J (.setC i e)=setD i (evE J e):=rfl
def zQl :evS J (.app i e)=appD i (evE J e):=rfl
def zQj :evS J (.ife c a b)=ifD (asB (evE J c)) (evSs J a) (evSs J b):=rfl
def zQi :evS J (.ret e)=retD (evE J e):=rfl
def zJF :evS J (.retOwn i)=zEM i:=rfl
def zTU :evI J (.it e)=zGe (evE J e):=rfl
def zTT :evI J (.r1 a)=zJt (evE J a):=rfl
def zTS :evI J (.r2 a b)=zIq (evE J a) (evE J b):=rfl
def zTR :evI J (.r3 a b c)=zJs (evE J a) (evE J b) (evE J c):=rfl
def zLW :evE J (.comp1 n ms u2 src c e)=zJI ms 1 (evI J src) (tg1 n) (evC J c) (evE J e):=rfl
def zQw :evE J (.chn op op' a b c)=chD (cmpD op) (cmpD op') (evE J a) (evE J b) (evE J c):=rfl
def zQk :evS J (.ext i e)=extD i (evE J e):=rfl
def zTu :evE J (.lrev a)=one (evE J a) revD:=rfl
def zDu :evC J .nil=λ_=>some true:=rfl
def EvP {T:Type}(o:Option T)(Q:T->Prop):Prop:=∃ r,o=some r/\Q r
section
variable {T M:Type}{J:Gm}{O:Dst}
def EvP.bind {o:Option T}{f:T->Option M}{Q:M->Prop}(h:EvP o λa=>EvP (f a) Q):EvP (o.bind f) Q:=by
 obtain⟨a,e,b,c,q⟩:=h;exact⟨b,by rw[e];exact c,q⟩
def EvP.eq {o:Option T}{r:T}(h:EvP o λx=>x=r):o=some r:=by
 obtain⟨x,e,rfl⟩:=h;omega
def EvP.imp {o:Option T}{Q a:T->Prop}(h:EvP o Q)(i:∀ x,Q x->a x):EvP o a:=by
 obtain⟨x,e,q⟩:=h;exact⟨x,e,i x q⟩
def CB (b:Bool)(A B:Prop):Prop:=if b=true then A else B
def zBI [Decidable p](h1:p->A)(h2:¬ p->B):CB (decide p) A B:=by
 unfold CB;grind
def zF8 (h1:b=true->A)(h2:b=false->B):CB b A B:=by
 unfold CB;grind
def cb_t (h:A):CB true A B:=h
def cb_f (h:B):CB false A B:=by assumption
def zD3 [Decidable p](a:p)(h:A):CB (decide p) A B:=zBI (λ_=>h) λn=>absurd a n
def zD4 [Decidable p](a:¬ p)(h:B):CB (decide p) A B:=zBI (λn=>absurd n a) λ_=>h
def zLr (h:CB b B A):CB (!b) A B:=by
 cases b with
 | true=>exact cb_f h
 | false=>exact cb_t (by assumption)
variable {Q:R->Prop}
def zAI (e:O[i]?=some (some (d,false)))(h:Q (d,.cl)):EvP (evE J (.var i) O) Q:=by
 rw[zHc];unfold varD;rw[e];exact⟨_,rfl,h⟩
def zIJ (e:O[i]?=some (some (.lst d,o)))(h:Q (.lst d,if o then .dt else .cl)):EvP (evE J (.var i) O) Q:=by
 rw[zHc];unfold varD;rw[e];cases o<;>exact⟨_,rfl,h⟩
def zUq (e:O[i]?=some (some (.lst d,true)))(h:Q (.lst d,.dt)):EvP (evE J (.var i) O) Q:=by
 rw[zHc];unfold varD;rw[e];exact⟨_,rfl,h⟩
def zNQ (e:O[i]?=some (some (.fn n x,false)))(a:J.fns[n]?=some (x,F))(h:EvP (evEs J es O) λds=>EvP (F ds) λr=>r.2≠.dt/\Q r):EvP (evE J (.callw i es) O) Q:=by
 obtain⟨y,d,r,b,f,q⟩:=h;refine⟨r,?_,q⟩;show zGs J.fns i _ O=_;unfold zGs;have c:fnvF J.fns n x y=some r:=by unfold fnvF;rw[a];exact(if_pos rfl).trans b
 simp_all
def zNR (e:O[i]?=some (some (.lam j L dl,false)))(b:J.lm[j]?=some (L,F))(h:EvP (evE J a O) λx=>x.2≠.dt/\EvP (F (x.1::dl)) λr=>r.2≠.dt/\Q r):EvP (evE J (.callv i a) O) Q:=by
 obtain⟨x,f,nx,r,c,d,q⟩:=h;refine⟨r,?_,q⟩;show zEn J.lm J.fns i _ O=_;unfold zEn;have g:lamF J.lm j L (x.1::dl)=some r:=by unfold lamF;rw[b];exact(if_pos rfl).trans c
 simp_all
def zCk (e:J.cs[n]?=some (x,d))(h:Q (d,.cl)):EvP (evE J (.glob n x) O) Q:=by
 rw[zNc];unfold zGh;rw[e];exact⟨_,if_pos rfl,h⟩
def zAO (h:Q (.int i,.cl)):EvP (evE J (.int i) O) Q:=⟨_,rfl,h⟩
def zTN (h:Q (.bl b,.cl)):EvP (evE J (.bl b) O) Q:=⟨_,rfl,h⟩
def zDZ (h:Q (.non,.cl)):EvP (evE J .non O) Q:=⟨_,rfl,h⟩
def zGk (h:EvP (f O) λx=>EvP (g O) λy=>EvP (o x.1 y.1) Q):EvP (two f g o O) Q:=EvP.bind (h.imp λ_ q=>EvP.bind q)
def zAZ (h:EvP (evE J a O) λx=>EvP (evE J b O) λy=>EvP (binD op x.1 y.1) Q):EvP (evE J (.bin op a b) O) Q:=zGk h
def zBg (h:EvP (evE J a O) λx=>EvP (evE J b O) λy=>EvP (cmpD op x.1 y.1) Q):EvP (evE J (.cmp op a b) O) Q:=zGk h
def zBA (h:EvP (evE J a O) λx=>EvP (evE J b O) λy=>EvP (ixD x.1 y.1) Q):EvP (evE J (.ix a b) O) Q:=zGk h
def zTM (h:EvP (evE J a O) λx=>EvP (evE J b O) λy=>EvP (maxD x.1 y.1) Q):EvP (evE J (.max a b) O) Q:=zGk h
def zLM (h:EvP (evE J a O) λx=>EvP (evE J b O) λy=>EvP (zipD x.1 y.1) Q):EvP (evE J (.lzip a b) O) Q:=zGk h
def zTv (l:xs.length=ys.length/\xs.length<=10000)(h:Q (.lst (zipT xs ys),.fr)):EvP (zipD (.lst xs) (.lst ys)) Q:=⟨_,if_pos l,h⟩
def zFJ (h:EvP (f O) λx=>EvP (o x.1) Q):EvP (one f o O) Q:=EvP.bind h
def zBt (h:EvP (evE J a O) λx=>EvP (lenD x.1) Q):EvP (evE J (.len a) O) Q:=zFJ h
def zTO (h:EvP (evE J a O) λx=>EvP (absD x.1) Q):EvP (evE J (.abs a) O) Q:=zFJ h
def zHa (h:EvP (evE J a O) λx=>EvP (zI5 x.1) Q):EvP (evE J (.list a) O) Q:=zFJ h
def zLN (h:EvP (evE J a O) λx=>EvP (isiF t x.1) Q):EvP (evE J (.isi t a) O) Q:=zFJ h
def zUT (h:Q (.bl true,.cl)):EvP (isiF .int (.int i)) Q:=⟨_,rfl,h⟩
def zUU (h:Q (.bl false,.cl)):EvP (isiF .bool (.int i)) Q:=⟨_,rfl,h⟩
def zUR (h:Q (.bl true,.cl)):EvP (isiF .tuple (.tup ds)) Q:=⟨_,rfl,h⟩
def zPr (h:Q (.bl true,.cl)):EvP (isiF .list (.lst ds)) Q:=⟨_,rfl,h⟩
def zTL (h:EvP (evE J a O) λx=>∃ i,x.1=.int i/\Q (.int (-i),.cl)):EvP (evE J (.neg a) O) Q:=by
 obtain⟨⟨d,k⟩,e,i,ei,q⟩:=h;cases ei;rw[zQt];unfold negD;rw[e];exact⟨_,rfl,q⟩
def zFR {f:Dst->Option R}{b:Bool}{k:Kd}(e:f O=some (.bl b,k)):asB f O=some b:=by unfold asB;rw[e]
def zGl (h:EvP (evE J a O) λx=>∃ b,x.1=.bl b/\Q (.bl (!b),.cl)):EvP (evE J (.not a) O) Q:=by
 obtain⟨⟨d,k⟩,e,b,eb,q⟩:=h;cases eb;rw[zQs];unfold notD;rw[zFR e];exact⟨_,rfl,q⟩
def zQd (h:EvP (evAnd J es O) Q):EvP (evE J (.andl es) O) Q:=h
def zLJ (h:EvP (evOr J es O) Q):EvP (evE J (.orl es) O) Q:=h
def zHb (h:EvP (evE J e O) Q):EvP (evAnd J (.cons e .nil) O) Q:=h
def zLL (h:EvP (evE J e O) Q):EvP (evOr J (.cons e .nil) O) Q:=h
def zQe (h:EvP (evE J e O) λx=>∃ k,x.1=.bl k/\CB k (EvP (evAnd J (.cons a b) O) Q) (Q (.bl false,.cl))):EvP (evAnd J (.cons e (.cons a b)) O) Q:=by
 obtain⟨⟨d,c⟩,e,k,ek,q⟩:=h;cases ek;rw[zHd];unfold andD;rw[zFR e];cases k with
 | true=>exact q
 | false=>exact⟨_,rfl,by unfold CB at q;exact q⟩
def zLK (h:EvP (evE J e O) λx=>∃ k,x.1=.bl k/\CB k (Q (.bl true,.cl)) (EvP (evOr J (.cons a b) O) Q)):EvP (evOr J (.cons e (.cons a b)) O) Q:=by
 obtain⟨⟨d,c⟩,e,k,ek,q⟩:=h;cases ek;rw[zJG];unfold orD;rw[zFR e];cases k with
 | true=>exact⟨_,rfl,q⟩
 | false =>
  assumption
def zOc (h:EvP (evE J c O) λx=>∃ k,x.1=.bl k/\CB k (EvP (evE J a O) Q) (EvP (evE J b O) Q)):EvP (evE J (.ite c a b) O) Q:=by
 obtain⟨⟨d,f⟩,e,k,ek,q⟩:=h;cases ek;rw[zQv];unfold iteD;rw[zFR e];cases k with
 | true=>exact q
 | false =>
  assumption
def zAT {Q:List D->Prop}(h:Q []):EvP (evEs J .nil O) Q:=⟨_,rfl,h⟩
def zAC {Q:List D->Prop}(h:EvP (evE J e O) λx=>x.2≠.dt/\EvP (evEs J es O) λxs=>Q (x.1::xs)):EvP (evEs J (.cons e es) O) Q:=by
 rw[zLV];obtain⟨x,e,b,xs,a,q⟩:=h;exact⟨_,by unfold zNl;rw[e];show (if x.2=.dt then none else _)=_;rw[if_neg b,a];rfl,q⟩
def zD2 (h:EvP (evEs J es O) λxs=>xs.length<=10000/\Q (.tup xs,.cl)):EvP (evE J (.tup es) O) Q:=by
 rw[zQr];obtain⟨xs,e,l,q⟩:=h;exact⟨_,by unfold tupD;rw[e];exact if_pos l,q⟩
def zOb (h:EvP (evEs J es O) λxs=>xs.length<=10000/\Q (.lst xs,.fr)):EvP (evE J (.lst es) O) Q:=by
 rw[zQu];obtain⟨xs,e,l,q⟩:=h;exact⟨_,by unfold lstD;rw[e];exact if_pos l,q⟩
def zAK (e:J.fns[n]?=some (f,F))(h:EvP (evEs J es O) λds=>EvP (F ds) λr=>r.2≠.dt/\Q r):EvP (evE J (.call n f es) O) Q:=by
 rw[zNd];unfold fnD;obtain⟨ds,b,r,c,a,q⟩:=h;refine⟨r,?_,q⟩;unfold zJJ
 simp_all
def zQb (h:EvP (evE J a O) λx=>EvP (evO J lo O) λl=>EvP (evO J hi O) λu=>∃ ds,x.1=.lst ds/\Q (.lst (cutD ds l u),.fr)):EvP (evE J (.sl a lo hi) O) Q:=by
 rw[zOe];obtain⟨⟨d,k⟩,e,l,e1,u,e2,ds,ed,q⟩:=h;cases ed;exact⟨_,by unfold slD;rw[e];rw[e1];rw[e2];rfl,q⟩
def zTK (h:EvP (evE J a O) λx=>EvP (evO J lo O) λl=>EvP (evO J hi O) λu=>∃ ds,x.1=.tup ds/\¬ (HT.sIx ds.length 0 l=0/\HT.sIx ds.length ds.length u=ds.length)/\Q (.tup (cutD ds l u),.cl)):EvP (evE J (.sl a lo hi) O) Q:=by
 rw[zOe];obtain⟨⟨d,k⟩,e,l,e1,u,e2,ds,ed,nw,q⟩:=h;cases ed;exact⟨_,by unfold slD;rw[e];rw[e1];rw[e2];exact if_neg nw,q⟩
def zOg {Q:Option Int->Prop}(h:Q none):EvP (evO J .nil O) Q:=⟨_,rfl,h⟩
def zLZ {Q:Option Int->Prop}(h:EvP (evE J e O) λx=>∃ i,x.1=.int i/\Q (some i)):EvP (evO J (.cons e b) O) Q:=by
 rw[zNY];obtain⟨⟨d,k⟩,e,i,ei,q⟩:=h;cases ei;exact⟨_,by unfold zKB;rw[e],q⟩
def zEo (h:Q (.int (i+j),.cl)):EvP (binD .Add (.int i) (.int j)) Q:=⟨_,rfl,h⟩
def zLv (l:xs.length+ys.length<=10000)(h:Q (.lst (xs++ys),.fr)):EvP (binD .Add (.lst xs) (.lst ys)) Q:=⟨_,if_pos l,h⟩
def zTk (h:Q (.int (i - j),.cl)):EvP (binD .Sub (.int i) (.int j)) Q:=⟨_,rfl,h⟩
def zA4 (l:IntMulOk i j)(h:Q (.int (i*j),.cl)):EvP (binD .Mult (.int i) (.int j)) Q:=⟨_,by show mulD i j=_;exact if_pos l,h⟩
def zCH (l:zJO i j)(h:Q (.int (i.fdiv j),.cl)):EvP (binD .FloorDiv (.int i) (.int j)) Q:=⟨_,by show zQX i j=_;exact if_pos l,h⟩
def zA7 (l:j≠0)(h:Q (.int (i.fmod j),.cl)):EvP (binD .Mod (.int i) (.int j)) Q:=⟨_,if_neg l,h⟩
def c_lt (h:Q (.bl (decide (i < j)),.cl)):EvP (cmpD .Lt (.int i) (.int j)) Q:=⟨_,rfl,h⟩
def c_le (h:Q (.bl (decide (i<=j)),.cl)):EvP (cmpD .LtE (.int i) (.int j)) Q:=⟨_,rfl,h⟩
def c_gt (h:Q (.bl (decide (j < i)),.cl)):EvP (cmpD .Gt (.int i) (.int j)) Q:=⟨_,rfl,h⟩
def zQx (i j:Int):eqb (.int i) (.int j)=decide (i=j):=rfl
def zNq (h:Q (.bl (decide (i=j)),.cl)):EvP (cmpD .Eq (.int i) (.int j)) Q:=⟨_,by show eqD id _ _=_;rfl,h⟩
def zQ2 (h:Q (.bl (!decide (i=j)),.cl)):EvP (cmpD .NotEq (.int i) (.int j)) Q:=⟨_,by show eqD _ _ _=_;unfold eqD;rw[if_pos (⟨by rfl,by rw[toPy];rfl,by rw[toPy];exact zero_le _⟩),zQx],h⟩
def c_eq (l:EqOk x y)(h:Q (.bl (eqb x y),.cl)):EvP (cmpD .Eq x y) Q:=⟨_,by show eqD id _ _=_;exact if_pos l,h⟩
def zDJ (e:atI ds i=some d)(h:Q (d,.cl)):EvP (ixD (.tup ds) (.int i)) Q:=⟨_,by show (atI ds i).map _=_;rw[e];rfl,h⟩
def zAw (e:atI ds i=some d)(h:Q (d,.cl)):EvP (ixD (.lst ds) (.int i)) Q:=⟨_,by show (atI ds i).map _=_;rw[e];rfl,h⟩
def zEu (h:Q (.int ds.length,.cl)):EvP (lenD (.lst ds)) Q:=⟨_,rfl,h⟩
def zSO (h:Q (.int ds.length,.cl)):EvP (lenD (.tup ds)) Q:=⟨_,rfl,h⟩
def zUr (h:Q (.int (i.natAbs:Int),.cl)):EvP (absD (.int i)) Q:=⟨_,rfl,by
 have e:(if i < 0 then -i else i)=(i.natAbs:Int):=by split<;>omega
 rw[e];exact h⟩
def zN6 (h:Q (.lst ds,.fr)):EvP (zI5 (.lst ds)) Q:=⟨_,rfl,h⟩
def zUI (h:Q (.int (max i j),.cl)):EvP (maxD (.int i) (.int j)) Q:=⟨_,rfl,by
 have e:(if j>i then j else i)=max i j:=by split<;>omega
 rw[e];exact h⟩
end
section
variable {J:Gm}{O:Dst}{Q:Out->Prop}
def Kt (J:Gm)(rest:S)(Q:Out->Prop):Out->Prop
 | .nx O1=>EvP (evSs J rest O1) Q
 | o=>Q o
def k_nx {rest:S}(h:EvP (evSs J rest O) Q):Kt J rest Q (.nx O):=h
def k_rt {rest:S}(h:Q (.rt r)):Kt J rest Q (.rt r):=h
def zBQ (h:Q (.nx O)):EvP (evSs J .nil O) Q:=⟨_,rfl,h⟩
theorem zLH (h:EvP (f O) λo=>match o with | .nx O1=>EvP (g O1) Q | o=>Q o):EvP (seqD f g O) Q:=by
 obtain⟨o,e,q⟩:=h;unfold seqD;rw[e];cases o with
 | nx O1=>exact q
 | rt r=>exact⟨_,rfl,q⟩
 | bk O1=>exact⟨_,rfl,q⟩
 | ct O1=>exact⟨_,rfl,q⟩
def zAH (h:EvP (evS J a O) (Kt J b Q)):EvP (evSs J (.cons a b) O) Q:=by
 refine zLH (h.imp λo q=>?_)
 assumption
def zII (e:O[i]?=some (some (d,true)))(h:EvP (evSs J r (O.set i (some (d,false)))) Q):EvP (evSs J (.frz i r) O) Q:=zLH ⟨_,by unfold frzD;rw[e],h⟩
def zHZ (e:O[i]?=some (some (d,false)))(h:EvP (evSs J r O) Q):EvP (evSs J (.frz i r) O) Q:=zLH ⟨_,by unfold frzD;rw[e],h⟩
noncomputable def ownK:Kd->Option Bool
 | .cl=>some false
 | .fr=>some true
 | .dt=>none
def zCl (h:EvP (evE J e O) λr=>∃ o,ownK r.2=some o/\Q (.nx (O.set i (some (r.1,o))))):EvP (evS J (.set i e) O) Q:=by
 rw[zQh];obtain⟨⟨d,k⟩,e,o,eo,q⟩:=h;unfold setD;rw[e];cases k with
 | cl=>cases eo;exact⟨_,rfl,q⟩
 | fr=>cases eo;exact⟨_,rfl,q⟩
 | dt=>cases eo
def zF5 (h:EvP (evE J e O) λr=>∃ o,ownK r.2=some o/\Q (.nx (O.set i (some (r.1,o))))):EvP (evS J (.setC i e) O) Q:=by
 rw[zNX];obtain⟨⟨d,k⟩,e,o,eo,q⟩:=h;unfold setD;rw[e];cases k with
 | cl=>cases eo;exact⟨_,rfl,q⟩
 | fr=>cases eo;exact⟨_,rfl,q⟩
 | dt=>cases eo
def zDa (a:O[i]?=some (some (.lst xs,true)))(c:xs.length<=10000)(h:EvP (evE J e O) λr=>r.2≠.dt/\Q (.nx (O.set i (some (.lst (xs++[r.1]),true))))):EvP (evS J (.app i e) O) Q:=by
 rw[zQl];obtain⟨r,e,b,q⟩:=h;unfold appD;rw[a];exact⟨_,by dsimp only;rw[e];show (if r.2=.dt then none else _)=_;rw[if_neg b,if_pos c],q⟩
def zEf (h:EvP (evE J c O) λx=>∃ k,x.1=.bl k/\CB k (EvP (evSs J a O) Q) (EvP (evSs J b O) Q)):EvP (evS J (.ife c a b) O) Q:=by
 rw[zQj];obtain⟨⟨d,f⟩,e,k,ek,q⟩:=h;cases ek;unfold ifD;rw[zFR e];cases k with
 | true=>exact q
 | false =>
  assumption
def zBH (h:EvP (evE J e O) λr=>r.2≠.dt/\Q (.rt r)):EvP (evS J (.ret e) O) Q:=by
 rw[zQi];obtain⟨r,e,a,q⟩:=h;exact⟨_,by unfold retD;rw[e];exact if_neg a,q⟩
def zLX (e:O[i]?=some (some (.lst d,true)))(h:Q (.rt (.lst d,.fr))):EvP (evS J (.retOwn i) O) Q:=by
 rw[zJF];exact⟨_,by unfold zEM;rw[e],h⟩
theorem zCL (h:EvP (c O) λk=>CB k (EvP (b O) λo=>match o with
      | .nx O1=>EvP (zBd c b O1) Q
      | .ct O1=>EvP (zBd c b O1) Q
      | .bk O1=>Q (.nx O1)
      | .rt r=>Q (.rt r)) (Q (.nx O))):EvP (zBd c b O) Q:=by
  obtain⟨k,ek,q⟩:=h;cases k with
  | false =>
    unfold CB at q;rw[if_neg qY] at q;refine⟨_,zCe (n:=1) (o:=.nx O) ?_,q⟩;show (c O).bind _=_;rw[ek];rfl
  | true =>
    obtain⟨o,eo,q⟩:EvP (b O) _:=q;cases o with
    | nx O1 =>
      obtain⟨z,ez,q⟩:=q;obtain⟨n,en⟩:=zDf ez;refine⟨z,zCe (n:=n+1) ?_,q⟩;show (c O).bind _=_;rw[ek,qx,if_pos rfl,eo];exact en
    | ct O1 =>
      obtain⟨z,ez,q⟩:=q;obtain⟨n,en⟩:=zDf ez;refine⟨z,zCe (n:=n+1) ?_,q⟩;show (c O).bind _=_;rw[ek,qx,if_pos rfl,eo];exact en
    | bk O1 =>
      refine⟨_,zCe (n:=1) (o:=.nx O1) ?_,q⟩;show (c O).bind _=_;rw[ek,qx,if_pos rfl,eo];rfl
    | rt r =>
      refine⟨_,zCe (n:=1) (o:=.rt r) ?_,q⟩;show (c O).bind _=_;rw[ek,qx,if_pos rfl,eo];rfl
def zOf (h:EvP (zBd (asB (evE J c)) (evSs J b) O) Q):EvP (evS J (.whl c b) O) Q:=h
def as_b {Q:Bool->Prop}(h:EvP (evE J c O) λx=>∃ k,x.1=.bl k/\Q k):EvP (asB (evE J c) O) Q:=by
 obtain⟨⟨d,a⟩,e,k,ek,q⟩:=h;cases ek;exact⟨k,zFR e,q⟩
def zDL (h:EvP (evI J it O) λxs=>EvP (forD (tg1 i) (evSs J b) xs O) Q):EvP (evS J (.for1 i it b) O) Q:=EvP.bind h
def zG6 {Q:List D->Prop}(h:EvP (evE J e O) λx=>∃ ds,x.2≠.dt/\(x.1=.lst ds\/x=(.tup ds,.cl))/\Q ds):EvP (evI J (.it e) O) Q:=by
 obtain⟨⟨d,k⟩,e,ds,nd,ed,q⟩:=h;refine⟨ds,?_,q⟩;rw[zTU];unfold zGe;rw[e];rcases ed with ed | ed
 .cases ed;cases k with
  | cl=>rfl
  | fr=>rfl
  | dt=>exact absurd rfl nd
 .simp_all
def w_cl {P:List D->Prop}(h:P ds):∃ d,((D.lst ds,Kd.cl):R).2≠.dt/\(((D.lst ds,Kd.cl):R).1=.lst d\/((D.lst ds,Kd.cl):R)=(.tup d,.cl))/\P d:=by simp_all
def w_fr {P:List D->Prop}(h:P ds):∃ d,((D.lst ds,Kd.fr):R).2≠.dt/\(((D.lst ds,Kd.fr):R).1=.lst d\/((D.lst ds,Kd.fr):R)=(.tup d,.cl))/\P d:=by simp_all
def w_tu {P:List D->Prop}(h:P ds):∃ d,((D.tup ds,Kd.cl):R).2≠.dt/\(((D.tup ds,Kd.cl):R).1=.lst d\/((D.tup ds,Kd.cl):R)=(.tup d,.cl))/\P d:=by simp_all
def zIl {Q:List D->Prop}(h:EvP (evE J a O) λx=>∃ j,x.1=.int j/\(-(2^62)<=j/\j < 2^62)/\Q (rngL 0 j.toNat)):EvP (evI J (.r1 a) O) Q:=by
 obtain⟨⟨d,k⟩,e,j,ej,hj,q⟩:=h;cases ej;refine⟨_,?_,q⟩;rw[zTT];unfold zJt;rw[e];exact if_pos hj
def zT5 {Q:List D->Prop}(h:EvP (evE J a O) λx=>EvP (evE J b O) λy=>∃ i j,x.1=.int i/\y.1=.int j/\((-(2^62)<=i/\i < 2^62)/\-(2^62)<=j/\j < 2^62)/\Q (rngL i (j - i).toNat)):EvP (evI J (.r2 a b) O) Q:=by
 obtain⟨⟨d,k⟩,e,⟨d2,k2⟩,e2,i,j,ei,ej,hj,q⟩:=h;cases ei;cases ej;refine⟨_,?_,q⟩;rw[zTS];unfold zIq;rw[e,e2];exact if_pos hj
def zRL {Q:List D->Prop}(h:EvP (evE J a O) λx=>EvP (evE J b O) λy=>EvP (evE J c O) λz=>∃ i j k,x.1=.int i/\y.1=.int j/\z.1=.int k/\ROk i j k/\Q (rngS i k (Builtin.Range.rangeSize i j k).toNat)):EvP (evI J (.r3 a b c) O) Q:=by
 obtain⟨⟨d,k⟩,e,⟨d2,k2⟩,e2,⟨d3,k3⟩,e3,i,j,l,ei,ej,el,hj,q⟩:=h;refine⟨_,?_,q⟩;rw[zTR];unfold zJs
 simp_all
def zCS {Q:R->Prop}(h:EvP (evI J src O) λzs=>zs.length<=10000/\EvP (zC3 (tg1 n) (evC J c) (evE J el) zs (mask none ms O++[none])) λys=>Q (.lst ys,.fr)):EvP (evE J (.comp1 n ms x src c el) O) Q:=by
 obtain⟨zs,e,a,ys,b,q⟩:=h;refine⟨_,?_,q⟩;rw[zLW];unfold zJI
 simp_all
theorem zOl {Q:List D->Prop}(hn:base.length=n)(g:D->D):∀ (zs:List D) (o:Option (D×Bool)),(∀ z∈zs,EvP (evE J el (base++[some (z,false)])) λr=>r.2≠.dt/\r.1=g z)->Q (zs.map g)->EvP (zC3 (tg1 n) (evC J .nil) (evE J el) zs (base++[o])) Q
 | [],o,_,h=>⟨_,rfl,h⟩
 | z::zs,o,hz,h=>by
  obtain⟨r,e,nd,er⟩:=hz z q8;obtain⟨ys,e2,q⟩:=zOl hn g zs (some (z,false)) (Q:=λys=>Q (g z::ys)) (λy hy=>hz y (qJ _ hy)) h;refine⟨_,?_,q⟩;have es:(base++[o]).set n (some (z,false))=base++[some (z,false)]:=by
   rw[set_append_right _ _ (by omega),hn,sub_self];rfl
  show (tg1 n z (base++[o])).bind _=_;unfold tg1;rw[es,qx,zDu,qx,if_pos rfl,e,qx,if_neg nd,er];show (zC3 _ _ _ zs (base++[some (z,false)])).bind _=_;unfold tg1 at e2;rw[zDu] at e2;rw[e2]
  rfl
def zGj (h:Q (.nx O)):EvP (forD t b [] O) Q:=⟨_,rfl,h⟩
def Kf (t:D->Dst->Option Dst)(b:Dst->Option Out)(xs:List D)(Q:Out->Prop):Out->Prop
 | .nx O1=>EvP (forD t b xs O1) Q
 | .ct O1=>EvP (forD t b xs O1) Q
 | .bk O1=>Q (.nx O1)
 | .rt r=>Q (.rt r)
def zBb (e:t x O=some O6)(h:EvP (b O6) (Kf t b xs Q)):EvP (forD t b (x::xs) O) Q:=by
 obtain⟨o,a,q⟩:=h;cases o with
 | nx d =>
  obtain⟨z,c,q⟩:=q;exact⟨z,by show (t x O).bind _=_;rw[e];show (b O6).bind _=_;rw[a];exact c,q⟩
 | ct d =>
  obtain⟨z,c,q⟩:=q;exact⟨z,by show (t x O).bind _=_;rw[e];show (b O6).bind _=_;rw[a];exact c,q⟩
 | bk d=>exact⟨_,by show (t x O).bind _=_;rw[e];show (b O6).bind _=_;rw[a];rfl,q⟩
 | rt r=>exact⟨_,by show (t x O).bind _=_;rw[e];show (b O6).bind _=_;rw[a];rfl,q⟩
def zFx (h:EvP (forD t b xs O) Q):Kf t b xs Q (.nx O):=h
theorem zD1 (I:List D->Dst->Prop)(hs:∀ (x:D) (xs:List D) (O:Dst),I (x::xs) O->∃ O6,t x O=some O6/\EvP (b O6) λo=>match o with
   | .nx O1=>I xs O1
   | .ct O1=>I xs O1
   | .bk O1=>Q (.nx O1)
   | .rt r=>Q (.rt r)) (hd:∀ O,I [] O->Q (.nx O)):∀ (xs:List D) (O:Dst),I xs O->EvP (forD t b xs O) Q
 | [],O,h=>zGj (hd O h)
 | x::xs,O,h=>by
  obtain⟨O6,e,q⟩:=hs x xs O h;refine zBb e (q.imp λo z=>?_);cases o with
  | nx O1=>exact zD1 I hs hd xs O1 z
  | ct O1=>exact zD1 I hs hd xs O1 z
  | bk O1=>exact z
  | rt r=>exact z
def Kd' (Q:R->Prop):Out->Prop
 | .rt r=>Q r
 | .nx _=>Q (.non,.cl)
 | _=>False
def zQa {Q:R->Prop}(h1:ds.length=np)(h2:np<=nN)(h:EvP (evSs J b (ds.map (λd=>some (d,false))++List.replicate (nN - np) none)) (Kd' Q)):EvP (dFun np nN (evSs J b) ds) Q:=by
 unfold dFun;rw[if_pos ⟨h1,h2⟩];obtain⟨o,e,q⟩:=h;rw[e];cases o with
 | rt r=>exact⟨_,rfl,q⟩
 | nx _=>exact⟨_,rfl,q⟩
 | bk _=>exact q.elim
 | ct _=>exact q.elim
def zUP {Q:R->Prop}(h:Q r):Kd' Q (.rt r):=h
end
section
variable {J:Gm}{O:Dst}{Q:R->Prop}
def zOd (h:EvP (evE J a O) λx=>EvP (evE J b O) λy=>EvP (cmpD op x.1 y.1) λr=>∃ k,r.1=.bl k/\CB k (EvP (evE J c O) λz=>EvP (cmpD op' y.1 z.1) Q) (Q (.bl false,.cl))):EvP (evE J (.chn op op' a b c) O) Q:=by
 rw[zQw];obtain⟨x,e,y,f,⟨d,g⟩,er,k,ek,q⟩:=h;cases ek;unfold chD;rw[e,f];show EvP (match cmpD op x.1 y.1 with | some (.bl true,_)=>(evE J c O).bind λz=>cmpD op' y.1 z.1 | some (.bl false,_)=>some _ | _=>none) Q;rw[er];cases k with
 | true=>exact EvP.bind q
 | false=>unfold CB at q;exact⟨_,rfl,q⟩
def zEe (h:EvP (evE J a O) λx=>EvP (zGK x.1) Q):EvP (evE J (.tupl a) O) Q:=zFJ h
def zJU (h:Q (.tup ds,.cl)):EvP (zGK (.lst ds)) Q:=⟨_,rfl,h⟩
end
def zTV (a:O[i]?=some (some (.lst xs,true)))(h:EvP (evE J e O) λr=>∃ ys,r=(.lst ys,.fr)/\xs.length+ys.length<=10000/\Q (.nx (O.set i (some (.lst (xs++ys),true))))):EvP (evS J (.ext i e) O) Q:=by
 rw[zQk];obtain⟨r,c,ys,rfl,b,q⟩:=h;refine⟨_,?_,q⟩;unfold extD;rw[a,c];exact if_pos b
def zQc (h:EvP (evE J a O) λx=>∃ xs,x.1=.lst xs/\xs.length<=10000/\Q (.lst xs.reverse,.fr)):EvP (evE J (.lrev a) O) Q:=by
 obtain⟨x,e,xs,b,c,q⟩:=h;refine zFJ ⟨x,e,_,?_,q⟩;rw[b];exact if_pos c
end DL
end
section
namespace DM
noncomputable def msr (t b:Int):Int:=if b < 0 then -(Int.gcd t b:Int) else (Int.gcd t b:Int)
def zKW (a:b≠0):msr t b≠0:=by
 unfold msr;have h:Int.gcd t b≠0:=λh=>a (Int.gcd_eq_zero_iff.mp h).2
 omega
def zGZ (t b:Int):msr t b∣t:=by
 unfold msr;split
 .exact Int.neg_dvd.mpr (Int.gcd_dvd_left ..)
 .exact Int.gcd_dvd_left ..
def zKX (t b:Int):msr t b∣b:=by
 unfold msr;split
 .exact Int.neg_dvd.mpr (Int.gcd_dvd_right ..)
 .exact Int.gcd_dvd_right ..
def zDK {b:Int}(h:b∣a):a.fdiv b=a / b:=Int.fdiv_eq_ediv_of_dvd h
def zHP (a:b≠0):t.fdiv (msr t b)=(Rat.divInt t b).num:=by
 rw[zDK (zGZ t b),Rat.num_divInt,Int.gcd_comm b t];unfold msr;by_cases h:b < 0
 .rw [if_pos h,Int.sign_eq_neg_one_of_neg h,Int.ediv_neg,Int.neg_one_mul];rw[Int.neg_ediv_of_dvd (Int.gcd_dvd_left ..)]
 .rw [if_neg h,Int.sign_eq_one_of_pos (by omega),Int.one_mul]
def zKY (a:b≠0):b.fdiv (msr t b)=((Rat.divInt t b).den:Int):=by
 rw[zDK (zKX t b),Rat.den_divInt,Int.gcd_comm b t];unfold msr;by_cases h:b < 0
 .rw [if_pos h,Int.ediv_neg,<- Int.neg_ediv_of_dvd (Int.gcd_dvd_right ..)];grind
 .grind
def zTb (t b:Int)(a:b≠0):(Rat.divInt t b).den<=b.natAbs:=by
 rw[Rat.den_divInt,if_neg a];exact Nat.div_le_self _ _
def zR6 (t b:Int)(a:b≠0):(Rat.divInt t b).num.natAbs<=t.natAbs:=by
 rw[<- zHP a,zDK (zGZ t b)];exact Int.natAbs_ediv_le_natAbs _ _
def zIE (d:0<=a)(c:0 < b):Int.gcd b (a.fmod b)=Int.gcd a b:=by
 rw[Int.fmod_eq_emod_of_nonneg a (by omega)];have h1:(a%b).natAbs=a.natAbs%b.natAbs:=by
  grind
 show Nat.gcd b.natAbs (a%b).natAbs=Nat.gcd a.natAbs b.natAbs;rw[h1,Nat.gcd_comm b.natAbs,<- Nat.gcd_rec,Nat.gcd_comm]
noncomputable def nadd:List Rat->List Rat
 | a::b::r=>(a+b)::nadd r
 | l=>l
noncomputable def sumR:List Rat->Rat
 | []=>0
 | a::r=>a+sumR r
theorem zH3:∀ l:List Rat,sumR (nadd l)=sumR l
 | []=>rfl
 | [_]=>rfl
 | a::b::r=>by simp only[nadd,sumR,zH3 r,Rat.add_assoc]
theorem zH4:∀ l:List Rat,(nadd l).length=(l.length+1) / 2
 | []=>by simp[nadd]
 | [_]=>by simp[nadd]
 | a::b::r=>by simp only[nadd,xY,zH4 r];omega
theorem zKT:∀ l:List Rat,(List.range (l.length / 2)).map (λi=>l.getD (2*i) 0+l.getD (2*i+1) 0)++(if l.length%2=1 then [l.getD (l.length - 1) 0] else [])=nadd l
 | []=>by simp[nadd]
 | [a]=>by simp[nadd]
 | a::b::r=>by
  have e1:(a::b::r).length / 2=r.length / 2+1:=by simp only[xY];omega
  have e2:(a::b::r).length%2=r.length%2:=by simp only[xY];omega
  rw[e1,e2,List.range_succ_eq_map,map_cons,map_map,nadd,<- zKT r];have e3:((λi=>(a::b::r).getD (2*i) 0+(a::b::r).getD (2*i+1) 0)∘Nat.succ)=λi=>r.getD (2*i) 0+r.getD (2*i+1) 0:=by
   funext i;simp only[Function.comp];rw[show 2*(i.succ)=2*i+1+1 by omega];simp only[List.getD_cons_succ]
  rw[e3];have e4:r.length%2=1->(a::b::r).getD ((a::b::r).length - 1) 0=r.getD (r.length - 1) 0:=λh=>by
   rw[show (a::b::r).length - 1=(r.length - 1)+1+1 by simp only[xY];omega];simp only[List.getD_cons_succ]
  by_cases h:r.length%2=1
  .rw [if_pos h,if_pos h,e4 h];rfl
  .rw [if_neg h,if_neg h];rfl
abbrev Pt:=Rat×Rat
noncomputable def rot {T:Type}(ps:List T):List T:=ps.drop 1++ps.take 1
noncomputable def zGP (ps:List Pt):List (Pt×Pt):=ps.zip (rot ps)
def zJr {T:Type}(ps:List T):(rot ps).length=ps.length:=by
 unfold rot;grind
def zJj (ps:List Pt):(zGP ps).length=ps.length:=by
 unfold zGP;rw[List.length_zip,zJr,Nat.min_self]
def zJi (h:s∈zGP ps):s.1∈ps/\s.2∈ps:=by
 obtain⟨h1,h2⟩:=of_mem_zip h;unfold rot at h2;grind
abbrev Ln:=Rat×Rat×Rat
noncomputable def hq (L:Ln)(p:Pt):Rat:=L.1*p.1+L.2.1*p.2 - L.2.2
def zTf (u v:Rat):Prop:=(0 < u/\v < 0)\/(u < 0/\0 < v)
noncomputable instance (u v:Rat):Decidable (zTf u v):=inferInstanceAs (Decidable (_\/_))
end DM
end
section
namespace DL
open PySem L2
def Bd (n:Nat)(i:Int):Prop:=i.natAbs < 2^n
def zGC (h:Bd n i):Builtin.Int.intBits i<=n:=by
 unfold Builtin.Int.intBits;split
 .simp
 .rename_i b;have a:i.natAbs≠0:=by
   grind
  exact(Nat.log2_lt a).mpr h
def zFC (h:j.natAbs < 2^64):IntMulOk i j:=IntMulOk.of_right (zGC h)
def zC6 (h:i.natAbs < 2^64):IntMulOk i j:=IntMulOk.of_left (zGC h)
def Bd.mono (h:Bd m i)(l:m<=n):Bd n i:=xQ h (Nat.pow_le_pow_right (by decide) l)
def zB3 (h1:Bd m i)(h2:Bd n j):Bd (m+n) (i*j):=by
 unfold Bd at *;rw[Int.natAbs_mul,Nat.pow_add];exact Nat.mul_lt_mul'' h1 h2
def zHy (m n:Nat):2^m+2^n<=2^(Nat.max m n+1):=by
 have h1:2^m<=2^Nat.max m n:=Nat.pow_le_pow_right (by simp) (Nat.le_max_left m n);have h2:2^n<=2^Nat.max m n:=Nat.pow_le_pow_right (by simp) (Nat.le_max_right m n);omega
def zTj (h1:Bd m i)(h2:Bd n j):Bd (Nat.max m n+1) (i+j):=by
 unfold Bd at *;have:=zHy m n;have:=Int.natAbs_add_le i j;omega
def zTi (h1:Bd m i)(h2:Bd n j):Bd (Nat.max m n+1) (i - j):=by
 unfold Bd at *;have:=zHy m n;have:=Int.natAbs_sub_le i j;omega
noncomputable def ratD (q:Rat):D:=.tup [.int q.num,.int (q.den:Int)]
structure RB (n:Nat)(q:Rat):Prop where
 num:Bd n q.num
 den:Bd n (q.den:Int)
def RB.mono (h:RB m q)(l:m<=n):RB n q:=⟨h.num.mono l,h.den.mono l⟩
def zE2 (a:b≠0)(h1:Bd n t)(h2:Bd n b):RB n (Rat.divInt t b) :=
 ⟨Nat.lt_of_le_of_lt (DM.zR6 t b a) h1,Nat.lt_of_le_of_lt (by simpa using DM.zTb t b a) h2⟩
def zBN (q:Rat):(q.den:Int)≠0:=by have:=q.den_nz;omega
def zDv (q:Rat):(0:Int) < (q.den:Int):=by have:=q.den_nz;omega
def zL1 (p q:Rat):p+q=Rat.divInt (p.num*q.den+q.num*p.den) (p.den*q.den):=by
 have:=Rat.divInt_add_divInt p.num q.num (zBN p) (zBN q)
 simp_all
def zJc (p q:Rat):p - q=Rat.divInt (p.num*q.den - q.num*p.den) (p.den*q.den):=by
 have:=Rat.divInt_sub_divInt p.num q.num (zBN p) (zBN q)
 simp_all
def zKU (p q:Rat):p*q=Rat.divInt (p.num*q.num) (p.den*q.den):=by
 have:=Rat.divInt_mul_divInt p.num q.num (d₁:=p.den) (d₂:=q.den)
 simp_all
def zOj (p q:Rat):p / q=Rat.divInt (p.num*q.den) (p.den*q.num):=by
 have e:q⁻¹=Rat.divInt q.den q.num:=by
  conv=>lhs;rw[<- Rat.num_divInt_den q,Rat.inv_divInt]
 rw[Rat.div_def];have:=Rat.divInt_mul_divInt p.num (q.den:Int) (d₁:=p.den) (d₂:=q.num)
 simp_all
def zDy {a b:Int}(h1:a≠0)(h2:b≠0):a*b≠0:=Int.mul_ne_zero h1 h2
def zCa (h1:RB m p)(h2:RB n q):RB (m+n+1) (p+q):=by
 rw[zL1];refine zE2 (zDy (zBN p) (zBN q)) ?_ ((zB3 h1.den h2.den).mono (by omega));refine(zTj (zB3 h1.num h2.den) (zB3 h2.num h1.den)).mono ?_;grind
def zCZ (h1:RB m p)(h2:RB n q):RB (m+n+1) (p - q):=by
 rw[zJc];refine zE2 (zDy (zBN p) (zBN q)) ?_ ((zB3 h1.den h2.den).mono (by omega));refine(zTi (zB3 h1.num h2.den) (zB3 h2.num h1.den)).mono ?_;grind
def zAi (h1:RB m p)(h2:RB n q):RB (m+n) (p*q):=by
 rw[zKU];exact zE2 (zDy (zBN p) (zBN q)) (zB3 h1.num h2.num) (zB3 h1.den h2.den)
def zOR {q:Rat}(h:q≠0):q.num≠0:=by simp_all
def zJx (hq:q≠0)(h1:RB m p)(h2:RB n q):RB (m+n) (p / q):=by
 rw[zOj];exact zE2 (zDy (zBN p) (zOR hq)) (zB3 h1.num h2.den) (zB3 h1.den h2.num)
def zHw (h:Bd n i)(h1:1<=n):RB n (i:Rat):=by
 refine⟨?_,?_⟩
 .simp_all
 .show ((i:Rat).den:Int).natAbs < 2^n;exact Nat.one_lt_two_pow (by omega)
noncomputable def zPf:S:=.cons (.whl (.cmp .Gt (.var 1) (.int 0)) (.cons (.set 2 (.bin .Mod (.var 0) (.var 1))) (.cons (.set 0 (.var 1)) (.cons (.set 1 (.var 2)) .nil)))) (.cons (.ret (.var 0)) .nil)
def x_bl {P:Bool->Prop}(h:P b):∃ c,((D.bl b,k):R).1=.bl c/\P c:=⟨b,rfl,h⟩
def zTw {P:Int->Prop}(h:P i):∃ j,((D.int i,k):R).1=.int j/\P j:=⟨i,rfl,h⟩
def x_cl {P:Bool->Prop}(h:P false):∃ o,ownK ((d,Kd.cl):R).2=some o/\P o:=⟨false,rfl,h⟩
def x_fr {P:Bool->Prop}(h:P true):∃ o,ownK ((d,Kd.fr):R).2=some o/\P o:=⟨true,rfl,h⟩
def n_cl (h:P):((d,Kd.cl):R).2≠.dt/\P:=by grind
def n_fr (h:P):((d,Kd.fr):R).2≠.dt/\P:=by grind
def y_l {P:List D->Prop}(h:P ds):∃ d,((D.lst ds,k):R).1=.lst d/\P d:=⟨ds,rfl,h⟩
def zUV (h:Q (.int q.num,.cl)):EvP (ixD (ratD q) (.int 0)) Q:=zDJ rfl h
def zUW (h:Q (.int (q.den:Int),.cl)):EvP (ixD (ratD q) (.int 1)) Q:=zDJ rfl h
def zUS (h:Q (.bl true,.cl)):EvP (isiF .tuple (ratD q)) Q:=⟨_,rfl,h⟩
def zUO (h:Q (.int 2,.cl)):EvP (lenD (ratD q)) Q:=zSO h
end DL
end
open PySem L2 DL
open PySem L2 DL
local macro_rules | `(tactic| walk_at "s")=>`(tactic| simp only [List.set_cons_zero,List.set_cons_succ])
local macro_rules | `(tactic| walk_at "ev")=>`(tactic| first
 | ((with_reducible show EvP (evE _ (E.var _) _) _);first | refine zAI rfl ?_ | refine zUq rfl ?_)
 | (with_reducible first | refine zAO ?_ | refine zTN ?_ | refine zAZ ?_ | refine zBg ?_ | refine zBA ?_ | refine zD2 ?_ | refine zOb ?_ | refine zBt ?_ | refine zTO ?_ | refine zTL ?_ | refine zGl ?_ | refine zLN ?_ | refine zUT ?_ | refine zUU ?_ | refine is_bb ?_ | refine zUR ?_ | refine zPr ?_ | refine zUS ?_ | refine zQd ?_ | refine zLJ ?_ | refine zHb ?_ | refine zQe ?_ | refine zLL ?_ | refine zLK ?_ | refine zOc ?_ | refine zAT ?_ | refine zAC ?_ | refine ls_nil ?_ | refine ls_cons ?_ | refine zHa ?_ | refine zTM ?_ | refine ev_min ?_ | refine zQb ?_ | refine zOg ?_ | refine zLZ ?_ | refine zDZ ?_ | refine ev_str ?_ | refine zEo ?_ | refine zTk ?_ | refine c_lt ?_ | refine c_le ?_ | refine c_gt ?_ | refine c_ge ?_ | refine zNq ?_ | refine zQ2 ?_ | refine c_eqB ?_ | refine c_neB ?_ | refine zUV ?_ | refine zUW ?_ | refine zEu ?_ | refine zSO ?_ | refine zUO ?_ | refine zUr ?_ | refine zN6 ?_ | refine t_listT ?_ | refine zUI ?_ | refine m_min ?_ | refine zBQ ?_ | refine zAH ?_ | refine zCl ?_ | refine zF5 ?_ | refine zEf ?_ | refine zBH ?_ | refine es_retN ?_ | refine es_drop ?_ | refine zOf ?_ | refine zDL ?_ | refine es_for2 ?_ | refine zG6 ?_ | refine zIl ?_ | refine zT5 ?_ | refine zRL ?_ | refine zCS ?_ | refine zLM ?_ | refine w_cl ?_ | refine w_fr ?_ | refine w_tu ?_) | ((with_reducible refine k_nx ?_);try (walk_at "s")) | (with_reducible first | refine k_rt ?_ | refine k_bk ?_ | refine k_ct ?_ | refine zUP ?_ | refine kd_nx ?_ | refine y_cl ?_ | refine y_fr ?_ | refine y_l ?_ | refine y_t ?_ | refine zGj ?_) | ((with_reducible refine zFx ?_);try (walk_at "s")) | (with_reducible first | refine kf_ct ?_ | refine kf_bk ?_ | refine kf_rt ?_ | refine fl_b ?_ | refine fl_i ?_ | refine cb_t ?_ | refine cb_f ?_ | refine zLr ?_ | refine x_bl ?_ | refine zTw ?_ | refine x_cl ?_ | refine x_fr ?_ | refine n_cl ?_ | refine n_fr ?_)
 | ((with_reducible show EvP (forD (tg1 _) _ (_::_) _) _);refine zBb rfl ?_;try (walk_at "s")) | ((with_reducible show EvP (ixD (D.lst (_::_)) (D.int _)) _);refine zAw rfl ?_)
 | ((with_reducible show List.length _<=10000/\_);refine⟨zzb rfl,?_⟩) | ((with_reducible show EvP (evE _ (E.call _ _ _) _) _);refine zAK rfl ?_) | ((with_reducible show EvP (evE _ (E.lend _ _ _) _) _);refine ev_lend rfl ?_) | ((with_reducible show EvP (evE _ (E.glob _ _) _) _);refine zCk rfl ?_)
 | ((with_reducible show EvP (ixD (D.tup _) (D.int _)) _);refine zDJ rfl ?_) | ((with_reducible show EvP (evS _ (S.retOwn _) _) _);refine zLX rfl ?_) | ((with_reducible show EvP (evSs _ (S.frz _ _) _) _);first | refine zHZ rfl ?_ | (refine zII rfl ?_;try (walk_at "s"))))
local macro_rules | `(tactic| walk_at "st")=>`(tactic| simp only [map_cons,map_nil,cons_append,nil_append,replicate_succ,List.replicate_zero,Nat.reduceSub,append_nil,List.replicate])
open PySem L2 DL
local macro_rules | `(tactic| walk_at "w")=>`(tactic| (repeat walk_at "ev"))
open PySem L2 DL
local macro_rules | `(tactic| walk_at "d")=>`(tactic| refine zQa rfl (by decide) ?_)
section
namespace DL
open PySem L2
def zKZ :∀ (n:Nat) (a b:Int) (r:Option (D×Bool)),b.toNat<=n->0<=a->0<=b->(∀ r',Q (.nx [some (.int (Int.gcd a b:Int),false),some (.int 0,false),r'])) ->
  EvP (zBd (asB (evE J (.cmp .Gt (.var 1) (.int 0)))) (evSs J (.cons (.set 2 (.bin .Mod (.var 0) (.var 1))) (.cons (.set 0 (.var 1)) (.cons (.set 1 (.var 2)) .nil)))) [some (.int a,false),some (.int b,false),r]) Q:=by
 intro n
 induction n with
 | zero =>
  intro a b r f d c q;have e:b=0:=by omega
  subst e;refine zCL (as_b ?_);(walk_at "w");refine zD4 (Int.lt_irrefl 0) ?_;have:(Int.gcd a 0:Int)=a:=by rw[Int.gcd_zero_right];omega
  rw[this] at q;exact q r
 | succ n g =>
  intro a b r f d c q;by_cases e:b=0
  .subst e;refine zCL (as_b ?_);(walk_at "w");refine zD4 (Int.lt_irrefl 0) ?_;have:(Int.gcd a 0:Int)=a:=by rw[Int.gcd_zero_right];omega
   rw[this] at q;exact q r
  .refine zCL (as_b ?_);(walk_at "w");refine zD3 (show 0 < b by omega) ?_;(walk_at "w");refine zA7 e ?_;(walk_at "w");have h1:=xX a (show 0 < b by omega);have h2:=fmod_lt_of_pos a (show 0 < b by omega);refine g b (a.fmod b) (some (.int (a.fmod b),false)) (by omega) c h1 λr'=>?_
   rw[DM.zIE d (by omega)];exact q r'
def zPe (e:0<=a)(c:0<=b)(h:Q (.int (Int.gcd a b:Int),.cl)):EvP (dFun 2 3 (evSs J zPf) [.int a,.int b]) Q:=by
 (walk_at "d");unfold zPf
 walk_at "ev"
 refine zKZ b.toNat a b none (le_refl _) e c λr'=>?_
 (walk_at "w");omega
noncomputable def zJP:S:=.cons (.ret (.andl (.cons (.isi .int (.var 0)) (.cons (.not (.isi .bool (.var 0))) .nil)))) .nil
def zMI (h:Q (.bl true,.cl)):EvP (dFun 1 1 (evSs J zJP) [.int i]) Q:=by
 refine zQa rfl (by simp) ?_;unfold zJP
 repeat walk_at "ev"
 exact h
def zL3 (F:List D->Option R):Prop:=∀ (i:Int) (Q:R->Prop),Q (.bl true,.cl)->EvP (F [.int i]) Q
def zQ9 (F:List D->Option R):Prop:=∀ (a b:Int) (Q:R->Prop),0<=a->0<=b->Q (.int (Int.gcd a b:Int),.cl)->EvP (F [.int a,.int b]) Q
noncomputable def zOx (nm:Nat)(f:Str):S:=.cons (.set 2 (.call nm f (.cons (.abs (.var 0)) (.cons (.abs (.var 1)) .nil)))) (.cons (.ife (.cmp .Lt (.var 1) (.int 0)) (.cons (.set 2 (.neg (.var 2))) .nil) .nil) (.cons (.ret (.tup (.cons (.bin .FloorDiv (.var 0) (.var 2)) (.cons (.bin .FloorDiv (.var 1) (.var 2)) .nil)))) .nil))
def zQR (t b:Int):((Int.gcd (t.natAbs:Int) (b.natAbs:Int):Nat):Int)=(Int.gcd t b:Int):=rfl
def zPd (a:b≠0)(c:Bd 60000000 b)(i:Int):zJO i (DM.msr t b):=DM.zKW a
theorem zOw (em:J.fns[nm]?=some (f,Fm))(hm:zQ9 Fm)(hb:b≠0)(sb:Bd 60000000 b)
  (h:Q (.rt (ratD (Rat.divInt t b),.cl))):EvP (evSs J (zOx nm f) [some (.int t,false),some (.int b,false),x]) Q:=by
 unfold zOx;refine zAH (zCl (zAK em ?_));(walk_at "w");refine hm _ _ _ (Int.natCast_nonneg _) (Int.natCast_nonneg _) ?_;rw[zQR];(walk_at "w");have fin:∀ g:Int,g=DM.msr t b->Q (.rt (.tup [.int (t.fdiv g),.int (b.fdiv g)],.cl)):=λg e=>by
  subst e;rw[DM.zHP hb,DM.zKY hb];exact h
 have dv:∀ g i:Int,g=DM.msr t b->zJO i g:=λg i e=>by subst e;exact zPd hb sb i
 refine zBI (λc=>?_) λc=>?_
 .have e:(-(Int.gcd t b:Int))=DM.msr t b:=by unfold DM.msr;rw[if_pos c]
  (walk_at "w");refine zCH (dv _ _ e) ?_;(walk_at "w");refine zCH (dv _ _ e) ?_;(walk_at "w");exact fin _ e
 .have e:(Int.gcd t b:Int)=DM.msr t b:=by unfold DM.msr;rw[if_neg c]
  (walk_at "w");refine zCH (dv _ _ e) ?_;(walk_at "w");refine zCH (dv _ _ e) ?_;(walk_at "w");exact fin _ e
def zFT (F:List D->Option R):Prop:=∀ (t b:Int) (Q:R->Prop),b≠0->Bd 60000000 b->Q (ratD (Rat.divInt t b),.cl)->EvP (F [.int t,.int b]) Q
noncomputable def zOB (nm:Nat)(x:S):S:=.cons (.ife (.cmp .Eq (.var 1) (.int 0)) (.cons x .nil) .nil) (zOx nm "common_measure")
theorem zMU (em:J.fns[nm]?=some (("common_measure":Str),Fm))(hm:zQ9 Fm):zFT (dFun 2 3 (evSs J (zOB nm x))):=λt b Q hb sb h=>by
 (walk_at "d");unfold zOB;(walk_at "w");refine zD4 hb ?_;(walk_at "w");exact zOw em hm hb sb h
noncomputable def cel (ns:List Int)(k:Int):Int :=
 if k < (ns.length:Int) then ns.getD k.toNat 0 else
  let seed:=if (0:Int) < (ns.length:Int) then k*7919+(ns.getD (k.fmod (ns.length:Int)).toNat 0).fmod 65537 else k*7919
  let some:=(seed*48271).fmod 65537
  ((some*(some+2*k+1)).fdiv 7).fmod 65521
noncomputable def zQ0:S:=.cons (.ife (.cmp .Lt (.var 1) (.len (.var 0))) (.cons (.ret (.ix (.var 0) (.var 1))) .nil) .nil) (.cons (.set 2 (.bin .Mult (.var 1) (.int 7919))) (.cons (.ife (.cmp .Gt (.len (.var 0)) (.int 0)) (.cons (.set 2 (.bin .Add (.var 2) (.bin .Mod (.ix (.var 0) (.bin .Mod (.var 1) (.len (.var 0)))) (.int 65537)))) .nil) .nil) (.cons (.set 3 (.bin .Mod (.bin .Mult (.var 2) (.int 48271)) (.int 65537))) (.cons (.ret (.bin .Mod (.bin .FloorDiv (.bin .Mult (.var 3) (.bin .Add (.bin .Add (.var 3) (.bin .Mult (.int 2) (.var 1))) (.int 1))) (.int 7)) (.int 65521))) .nil))))
noncomputable def scr (ns:List Int):D:=.lst (ns.map D.int)
def zN8 {ns:List Int}(h0:0<=k)(h1:k < (ns.length:Int)):atI (ns.map D.int) k=some (.int (ns.getD k.toNat 0)):=by
 have a:k=((k.toNat:Nat):Int):=by omega
 have q:atI (ns.map D.int) _=some (.int (ns.getD k.toNat 0)):=zAx (by
  rw[getElem?_map,getD_eq_getElem?_getD,getElem?_eq_getElem (by omega)]
  rfl)
 grind
def zTs (F:List D->Option R):Prop:=∀ (ns:List Int) (k:Int) (Q:R->Prop),0<=k->Q (.int (cel ns k),.cl)->EvP (F [scr ns,.int k]) Q
def zGN (x:Int)(h0:0 < m)(h1:m < 2^64):(x.fmod m).natAbs < 2^64:=by
 have a:=xX x h0;have b:=fmod_lt_of_pos x h0;omega
def zBU (h:j≠0)(h2:j.natAbs < 2^64):zJO i j:=h
def zQz :zTs (dFun 2 4 (evSs J zQ0)):=λns k Q h0 h=>by
 (walk_at "d");unfold zQ0;have b:((ns.map D.int).length:Int)=(ns.length:Int):=by rw[qy]
 refine zAH (zEf (zBg (zAI rfl (zBt (zAI rfl ?_)))));show EvP (lenD (.lst (ns.map D.int))) _;(walk_at "w");rw[b];refine zBI (λc=>?_) λc=>?_
 .refine zAH (zBH (zBA (zAI rfl (zAI rfl ?_))));show EvP (ixD (.lst (ns.map D.int)) (.int k)) _;refine zAw (zN8 h0 c) ?_;have e:cel ns k=ns.getD k.toNat 0:=by unfold cel;rw[if_pos c]
  rw[e] at h;(walk_at "w");exact h
 .unfold cel at h;rw[if_neg c] at h;(walk_at "w");refine zA4 (zFC (by decide)) ?_;(walk_at "w");refine(show EvP (lenD (.lst (ns.map D.int))) _ from ?_);(walk_at "w");rw[b];refine zBI (λc2=>?_) λc2=>?_
  .rw [if_pos c2] at h;(walk_at "w");refine(show EvP (lenD (.lst (ns.map D.int))) _ from ?_);(walk_at "w");rw[b];refine zA7 (by omega) ?_;refine(show EvP (ixD (.lst (ns.map D.int)) (.int (k.fmod (ns.length:Int)))) _ from ?_);refine zAw (zN8 (xX k c2) (fmod_lt_of_pos k c2)) ?_;(walk_at "w");refine zA7 (by decide) ?_;(walk_at "w");refine zA4 (zFC (by decide)) ?_;(walk_at "w");refine zA7 (by decide) ?_;(walk_at "w");refine zA4 (zC6 (by decide)) ?_;(walk_at "w");refine zA4 (zC6 (zGN _ (by decide) (by decide))) ?_;(walk_at "w");refine zCH (zBU (by decide) (by decide)) ?_;(walk_at "w");refine zA7 (by decide) ?_;(walk_at "w");exact h
  .rw [if_neg c2] at h;(walk_at "w");refine zA4 (zFC (by decide)) ?_;(walk_at "w");refine zA7 (by decide) ?_;(walk_at "w");refine zA4 (zC6 (by decide)) ?_;(walk_at "w");refine zA4 (zC6 (zGN _ (by decide) (by decide))) ?_;(walk_at "w");refine zCH (zBU (by decide) (by decide)) ?_;(walk_at "w");refine zA7 (by decide) ?_;(walk_at "w");exact h
def zD0 (h:i.natAbs<=k)(h2:k < 2^n):Bd n i:=Nat.lt_of_le_of_lt h h2
mutual
theorem zIL:∀ d:D,PyData.eqv (toPy d) (toPy d)=true
 | .non=>by simp[toPy,PyData.eqv]
 | .bl b=>by simp[toPy,PyData.eqv]
 | .int i=>by simp[toPy,PyData.eqv]
 | .str x=>by simp[toPy,PyData.eqv]
 | .tup ds=>by
  rw[toPy,PyData.eqv];exact eqbL_self ds
 | .lst ds=>by
  rw[toPy,PyData.eqv];exact eqbL_self ds
 | .exc _=>by simp[toPy,PyData.eqv]
 | .dct _=>by simp[toPy,PyData.eqv]
 | .lam _ _ _=>by simp[toPy,PyData.eqv]
 | .obj _ _ _=>by simp[toPy,PyData.eqv]
 | .fn _ _=>by simp[toPy,PyData.eqv]
theorem eqbL_self:∀ ds:List D,PyData.eqvAll (toPyL ds) (toPyL ds)=true
 | []=>by simp[toPyL,PyData.eqvAll]
 | d::ds=>by
  rw[toPyL,PyData.eqvAll,zIL d,eqbL_self ds]
  rfl
end
def zNe (d:D):eqb d d=true:=zIL d
def DOk (k:Nat)(d:D):Prop:=(toPy d).canLay0=true/\(toPy d).depth<=k
def zLh (i:Int):DOk k (.int i):=⟨by simp[toPy,PyData.canLay0],by simp[toPy,PyData.depth]⟩
theorem zLi :∀ {ds:List D},(∀ d∈ds,DOk k d)->PyData.canLayAll0 (toPyL ds)=true/\PyData.depthAll (toPyL ds)<=k
 | [],_=>⟨by simp[toPyL,PyData.canLayAll0],by simp[toPyL,PyData.depthAll]⟩
 | d::ds,h=>by
  have h1:=h d q8;have h2:=zLi (ds:=ds) λx z=>h x (qJ _ z)
  refine⟨by simp[toPyL,PyData.canLayAll0,h1.1,h2.1],?_⟩;simp only[toPyL,PyData.depthAll];exact Nat.max_le.mpr ⟨h1.2,h2.2⟩
def zHg (h:∀ d∈ds,DOk k d):DOk (k+1) (.tup ds):=by
 obtain⟨h1,h2⟩:=zLi h;exact⟨by simp[toPy,PyData.canLay0,h1],by simp only[toPy,PyData.depth];omega⟩
def zHh (q:Rat):DOk 1 (ratD q):=zHg λd h=>by
 rcases mem_cons.mp h with rfl | h
 .exact zLh _
 .rcases mem_cons.mp h with rfl | h
  .exact zLh _
  .simp_all
def zHe (a:DOk m x)(b:DOk n y)(c:m<=64):EqOk x y:=⟨a.1,b.1,le_trans a.2 c⟩
noncomputable def zIs (nm:Str)(nr:Nat):S:=.cons (.ret (.call nr nm (.cons (.bin .Add (.bin .Mult (.ix (.var 0) (.int 0)) (.ix (.var 1) (.int 1))) (.bin .Mult (.ix (.var 1) (.int 0)) (.ix (.var 0) (.int 1)))) (.cons (.bin .Mult (.ix (.var 0) (.int 1)) (.ix (.var 1) (.int 1))) .nil)))) .nil
noncomputable def zFD (nm:Str)(nr:Nat):S:=.cons (.ret (.call nr nm (.cons (.bin .Sub (.bin .Mult (.ix (.var 0) (.int 0)) (.ix (.var 1) (.int 1))) (.bin .Mult (.ix (.var 1) (.int 0)) (.ix (.var 0) (.int 1)))) (.cons (.bin .Mult (.ix (.var 0) (.int 1)) (.ix (.var 1) (.int 1))) .nil)))) .nil
noncomputable def zEy (nm:Str)(nr:Nat):S:=.cons (.ret (.call nr nm (.cons (.bin .Mult (.ix (.var 0) (.int 0)) (.ix (.var 1) (.int 0))) (.cons (.bin .Mult (.ix (.var 0) (.int 1)) (.ix (.var 1) (.int 1))) .nil)))) .nil
noncomputable def zHK (nm:Str)(nr:Nat):S:=.cons (.ret (.call nr nm (.cons (.bin .Mult (.ix (.var 0) (.int 0)) (.ix (.var 1) (.int 1))) (.cons (.bin .Mult (.ix (.var 0) (.int 1)) (.ix (.var 1) (.int 0))) .nil)))) .nil
def OpF (f:Rat->Rat->Rat)(F:List D->Option R):Prop:=∀ (p q:Rat) (m n:Nat) (Q:R->Prop),RB m p->RB n q->m+n<=60000000->Q (ratD (f p q),.cl)->EvP (F [ratD p,ratD q]) Q
abbrev zEw:=OpF (·+·)
abbrev zD6:=OpF (· - ·)
abbrev zDA:=OpF (·*·)
def zGF (F:List D->Option R):Prop:=∀ (p q:Rat) (m n:Nat) (Q:R->Prop),q≠0->RB m p->RB n q->m+n<=60000000->Q (ratD (p / q),.cl)->EvP (F [ratD p,ratD q]) Q
def zBF (h1:Bd m i)(h2:Bd n j)(h3:m+n<=60000000):IntMulOk i j:=(IntMulOk.of_le (zGC h1) (zGC h2) (le_trans h3 (by simp)))
section
variable {J:Gm}{nm:Str}{nr:Nat}{Fr:List D->Option R}
def zPB (c:J.fns[nr]?=some (nm,Fr))(b:zFT Fr):zEw (dFun 2 2 (evSs J (zIs nm nr))):=λp q m n Q a hq l h=>by
 (walk_at "d");unfold zIs;refine zAH (zBH (zAK c ?_));(walk_at "w");refine zA4 (zBF a.num hq.den l) ?_;(walk_at "w");refine zA4 (zBF hq.num a.den (by omega)) ?_;(walk_at "w");refine zA4 (zBF a.den hq.den l) ?_;(walk_at "w");refine b _ _ _ (zDy (zBN p) (zBN q)) ((zB3 a.den hq.den).mono l) ?_;rw[<- zL1];(walk_at "w");exact h
def zMm (b:J.fns[nr]?=some (nm,Fr))(c:zFT Fr):zD6 (dFun 2 2 (evSs J (zFD nm nr))):=λp q m n Q a hq l h=>by
 (walk_at "d");unfold zFD;refine zAH (zBH (zAK b ?_));(walk_at "w");refine zA4 (zBF a.num hq.den l) ?_;(walk_at "w");refine zA4 (zBF hq.num a.den (by omega)) ?_;(walk_at "w");refine zA4 (zBF a.den hq.den l) ?_;(walk_at "w");refine c _ _ _ (zDy (zBN p) (zBN q)) ((zB3 a.den hq.den).mono l) ?_;rw[<- zJc];(walk_at "w");exact h
def zMM (b:J.fns[nr]?=some (nm,Fr))(c:zFT Fr):zDA (dFun 2 2 (evSs J (zEy nm nr))):=λp q m n Q a hq l h=>by
 (walk_at "d");unfold zEy;refine zAH (zBH (zAK b ?_));(walk_at "w");refine zA4 (zBF a.num hq.num l) ?_;(walk_at "w");refine zA4 (zBF a.den hq.den l) ?_;(walk_at "w");refine c _ _ _ (zDy (zBN p) (zBN q)) ((zB3 a.den hq.den).mono l) ?_;rw[<- zKU];(walk_at "w");exact h
def zJ9 (b:J.fns[nr]?=some (nm,Fr))(e:zFT Fr):zGF (dFun 2 2 (evSs J (zHK nm nr))):=λp q m n Q c a hq l h=>by
 (walk_at "d");unfold zHK;refine zAH (zBH (zAK b ?_));(walk_at "w");refine zA4 (zBF a.num hq.den l) ?_;(walk_at "w");refine zA4 (zBF a.den hq.num l) ?_;(walk_at "w");refine e _ _ _ (zDy (zBN p) (zOR c)) ((zB3 a.den hq.num).mono l) ?_;rw[<- zOj];(walk_at "w");exact h
end
def zMG:D.tup [.int 0,.int 1]=ratD 0:=rfl
def zPS:D.tup [.int 1,.int 1]=ratD 1:=rfl
def zM7:D.tup [.int 1,.int 2]=ratD (1 / 2):=by
 unfold ratD;rw[show (1 / 2:Rat).num=1 from by decide +kernel,show (1 / 2:Rat).den=2 from by decide +kernel]
 rfl
inductive WB:List Rat->Nat->Prop
 | nil:WB [] 0
 | cons {q:Rat} {m W:Nat} {qs:List Rat}:RB m q->WB qs W->WB (q::qs) (m+1+W)
theorem zNz:∀ {qs:List Rat} {W:Nat},WB qs W->RB (W+1) (DM.sumR qs)
 | [],_,.nil=>⟨by unfold Bd;decide,by unfold Bd;decide⟩
 | _::_,_,.cons h t=>(zCa h (zNz t)).mono (by omega)
theorem zJQ:∀ {qs:List Rat} {W:Nat},WB qs W->WB (DM.nadd qs) W
 | [],_,.nil=>.nil
 | [_],_,.cons h .nil=>.cons h .nil
 | a::b::r,_,.cons (m:=m) h (.cons (m:=n) (W:=W) k t)=>by
  have e:m+1+(n+1+W)=(m+n+1)+1+W:=by omega
  rw[e];exact .cons (zCa h k) (zJQ t)
theorem zNy:∀ {qs:List Rat} {W i:Nat} {a b:Rat},WB qs W->qs[i]?=some a->qs[i+1]?=some b->∃ m n,RB m a/\RB n b/\m+n+2<=W
 | [],_,_,_,_,_,h,_=>by simp at h
 | [_],_,_,_,_,_,_,h=>by simp at h
 | x::y::r,_,0,a,b,.cons (m:=m) h (.cons (m:=n) k t),h1,h2=>by
  simp at h1 h2;subst h1 h2;exact⟨m,n,h,k,by omega⟩
 | x::y::r,_,i+1,a,b,.cons h t,h1,h2=>by
  obtain⟨m,n,q1,q2,q3⟩:=zNy (i:=i) t (by simpa using h1) (by simpa using h2);exact⟨m,n,q1,q2,by omega⟩
theorem zN0 :∀ {qs:List Rat},(∀ q∈qs,RB n q)->WB qs (qs.length*(n+1))
 | [],_=>by rw[List.length_nil,Nat.zero_mul];exact .nil
 | q::qs,h=>by
  rw[xY,Nat.succ_mul,Nat.add_comm];exact .cons (h q q8) (zN0 λx z=>h x (qJ _ z))
noncomputable def zPa (np:Nat):S:=.cons (.setC 1 (.comp1 2 [] "k" (.r3 (.int 0) (.bin .Sub (.len (.var 0)) (.int 1)) (.int 2)) .nil (.call np "plus" (.cons (.ix (.var 0) (.var 2)) (.cons (.ix (.var 0) (.bin .Add (.var 2) (.int 1))) .nil))))) (.cons (.ife (.cmp .Eq (.bin .Mod (.len (.var 0)) (.int 2)) (.int 1)) (.cons (.app 1 (.ix (.var 0) (.neg (.int 1)))) .nil) .nil) (.cons (.retOwn 1) .nil))
noncomputable def zJW (nn ng:Nat):S:=.cons (.set 1 (.list (.var 0))) (.cons (.whl (.cmp .Gt (.len (.var 1)) (.int 1)) (.frz 1 (.cons (.set 1 (.call nn "neighbours_added" (.cons (.var 1) .nil))) .nil))) (.cons (.ret (.ite (.cmp .Eq (.len (.var 1)) (.int 1)) (.ix (.var 1) (.int 0)) (.glob ng "NOUGHT"))) .nil))
noncomputable def zDD (qs:List Rat):D:=.lst (qs.map ratD)
def zJy {a:List Rat}{i:Nat}(h:a[i]?=some q):atI (a.map ratD) (i:Int)=some (ratD q):=zAx (by simp_all)
def zKt (n:Nat):(Builtin.Range.rangeSize 0 ((n:Int) - 1) 2).toNat=n / 2:=by
 unfold Builtin.Range.rangeSize;omega
def zNw (F:List D->Option R):Prop:=∀ (qs:List Rat) (W:Nat) (Q:R->Prop),WB qs W->W<=60000000->qs.length<=10000->Q (zDD (DM.nadd qs),.fr)->EvP (F [zDD qs]) Q
noncomputable def zRq (qs:List Rat):D->D
 | .int k=>ratD (qs.getD k.toNat 0+qs.getD (k.toNat+1) 0)
 | d=>d
def zK4 {a:List Rat}(h:a[i]?=some q):a.getD i 0=q:=by simp_all
def zPZ (r:J.fns[np]?=some (("plus":Str),Fp))(s:zEw Fp):zNw (dFun 1 2 (evSs J (zPa np))):=λqs W Q t C B h=>by
 (walk_at "d");unfold zPa;(walk_at "st");refine zAH (zF5 (zCS (zRL ?_)));have p:((qs.map ratD).length:Int)=(qs.length:Int):=by rw[qy]
 walk_at "ev"
 refine zAZ (zBt (zAI rfl ?_));refine(show EvP (lenD (.lst (qs.map ratD))) _ from ?_);(walk_at "w");rw[p];refine⟨_,_,_,rfl,rfl,rfl,(by refine⟨by decide,by decide,?_⟩;unfold Builtin.Range.small Builtin.Range.rangeSize;simp only[Builtin.Range.rangeFitsLong,x8,Bool.or_eq_true,qj,show (2:Int)>0 by decide,if_true];omega),?_⟩;rw[zKt];have x:(rngS 0 2 (qs.length / 2)).length<=10000:=by unfold rngS;rw[qy,length_range];omega
 refine⟨x,?_⟩;show EvP (zC3 (tg1 2) (evC J .nil) _ _ ([some (zDD qs,false),none]++[none])) _;refine zOl (n:=2) (base:=[some (zDD qs,false),none]) rfl (zRq qs) _ _ (λz o=>?_) ?_
 .unfold rngS at o;obtain⟨i,u,rfl⟩:=mem_map.mp o;have v:=mem_range.mp u;have h1:2*i < qs.length:=by omega
  have h2:2*i+1 < qs.length:=by omega
  have l:qs[2*i]?=some qs[2*i]:=by simp[h1]
  have j:qs[2*i+1]?=some qs[2*i+1]:=by simp[h2]
  obtain⟨m,n,r1,r2,r3⟩:=zNy t l j;have z:(0:Int)+(i:Int)*2=((2*i:Nat):Int):=by omega
  have k:((2*i:Nat):Int)+1=((2*i+1:Nat):Int):=by omega
  rw[z];refine zAK r (zAC (zBA (zAI rfl (zAI rfl ?_))));refine zAw (zJy l) ?_;(walk_at "w");rw[k];refine(show EvP (ixD (.lst (qs.map ratD)) (.int ((2*i+1:Nat):Int))) _ from ?_);refine zAw (zJy j) ?_;(walk_at "w");refine s _ _ m n _ r1 r2 (by omega) ?_;(walk_at "w");show _=ratD _;rw[toNat_natCast,zK4 l,zK4 j]
 .have y:(rngS 0 2 (qs.length / 2)).map (zRq qs)=((List.range (qs.length / 2)).map λi=>qs.getD (2*i) 0+qs.getD (2*i+1) 0).map ratD:=by
   unfold rngS;rw[map_map,map_map];refine map_congr_left λi _=>?_
   show ratD _=ratD _;rw[show ((0:Int)+(i:Int)*2).toNat=2*i by omega]
  rw[y];have b:=DM.zKT qs;(walk_at "w");refine(show EvP (lenD (.lst (qs.map ratD))) _ from ?_);(walk_at "w");rw[p];refine zA7 (by decide) ?_;(walk_at "w");refine zBI (λc=>?_) λc=>?_
  .have f:qs.length%2=1:=by
    rw[Int.fmod_eq_emod_of_nonneg _ (by decide)] at c;omega
   rw[if_pos f] at b;refine zAH (zDa rfl (by rw[qy,qy,length_range];omega) ?_);(walk_at "w");have e:qs[qs.length - 1]?=some (qs.getD (qs.length - 1) 0):=by
    have:qs.length - 1 < qs.length:=by omega
    rw[getD_eq_getElem?_getD];simp[this]
   have g:atI (qs.map ratD) (-1)=some (ratD (qs.getD (qs.length - 1) 0)):=by
    unfold L2.atI;have q:ixN (qs.map ratD).length (-1)=some (qs.length - 1):=by
     unfold L2.ixN;rw[qy];split<;>first | omega | (split<;>first | omega | (congr 1;omega)) | (congr 1;omega)
    rw[q];show (qs.map ratD)[qs.length - 1]?=_;rw[getElem?_map,e]
    rfl
   refine(show EvP (ixD (.lst (qs.map ratD)) (.int (-1))) _ from ?_);refine zAw g ?_;(walk_at "w");have A:List.map ratD ((List.range (qs.length / 2)).map λi=>qs.getD (2*i) 0+qs.getD (2*i+1) 0)++[ratD (qs.getD (qs.length - 1) 0)]=(DM.nadd qs).map ratD:=by
    rw[<- b,xJ];rfl
   rw[A];exact h
  .have f:¬ qs.length%2=1:=λz=>c (by
    rw[Int.fmod_eq_emod_of_nonneg _ (by decide)];omega)
   rw[if_neg f,append_nil] at b;(walk_at "w");rw[b];exact h
def zL4 (F:List D->Option R):Prop:=∀ (qs:List Rat) (W:Nat) (Q:R->Prop),WB qs W->W<=60000000->qs.length<=10000->Q (ratD (DM.sumR qs),.cl)->EvP (F [zDD qs]) Q
def zIk (k:J.fns[nn]?=some (("neighbours_added":Str),Fn))(h:zNw Fn):∀ (n:Nat) (a:List Rat) (W:Nat) (o:Bool),a.length<=n->WB a W->W<=60000000->a.length<=10000 ->
    (∀ qs' o,DM.sumR qs'=DM.sumR a->qs'.length<=1->(a.length=0<->qs'.length=0)->Q (.nx [x0,some (zDD qs',o)])) ->
    EvP (zBd (asB (evE J (.cmp .Gt (.len (.var 1)) (.int 1)))) (evSs J (.frz 1 (.cons (.set 1 (.call nn "neighbours_added" (.cons (.var 1) .nil))) .nil))) [x0,some (zDD a,o)]) Q:=by
  intro n
  induction n with
  | zero =>
    intro a W o m d f b q;have e:a=[]:=List.eq_nil_of_length_eq_zero (by omega);subst e;refine zCL (as_b ?_);refine zBg (zBt (zIJ rfl ?_));refine(show EvP (lenD (.lst [])) _ from ?_);(walk_at "w");refine zD4 (by simp) ?_;exact q [] o rfl (by simp) (by simp)
  | succ n i =>
    intro a W o m d f b q;refine zCL (as_b ?_);refine zBg (zBt (zIJ rfl ?_));refine(show EvP (lenD (.lst (a.map ratD))) _ from ?_);(walk_at "w");rw[qy];by_cases c:1 < a.length
    . refine zD3 (by omega) ?_;have g:EvP (evSs J (.cons (.set 1 (.call nn "neighbours_added" (.cons (.var 1) .nil))) .nil) [x0,some (zDD a,false)]) λo=>match o with
          | .nx O1=>EvP (zBd (asB (evE J (.cmp .Gt (.len (.var 1)) (.int 1)))) (evSs J (.frz 1 (.cons (.set 1 (.call nn "neighbours_added" (.cons (.var 1) .nil))) .nil))) O1) Q
          | .ct O1=>EvP (zBd (asB (evE J (.cmp .Gt (.len (.var 1)) (.int 1)))) (evSs J (.frz 1 (.cons (.set 1 (.call nn "neighbours_added" (.cons (.var 1) .nil))) .nil))) O1) Q
          | .bk O1=>Q (.nx O1)
          | .rt r=>Q (.rt r):=by
        refine zAH (zCl (zAK k ?_));(walk_at "w");refine h a W _ d f b ?_;(walk_at "w");have s:=DM.zH4 a;refine i (DM.nadd a) W true (by omega) (zJQ d) f (by omega) λqs' o l j p=>?_
        exact q qs' o (l.trans (DM.zH3 a)) j ⟨λz=>absurd z (by omega),λz=>absurd (p.mpr z) (by omega)⟩
      cases o with
      | true=>exact zII rfl g
      | false=>exact zHZ rfl g
    . refine zD4 (by omega) ?_;exact q a o rfl (by omega) Iff.rfl
def zML (j:J.fns[nn]?=some (("neighbours_added":Str),Fn))(g:zNw Fn)(k:J.cs[ng]?=some (("NOUGHT":Str),.tup [.int 0,.int 1])):zL4 (dFun 1 2 (evSs J (zJW nn ng))):=λqs W Q n m e h=>by
 (walk_at "d");unfold zJW;(walk_at "st");refine zAH (zCl (zHa (zAI rfl ?_)));refine(show EvP (zI5 (.lst (qs.map ratD))) _ from ?_);(walk_at "w");refine zIk j g qs.length qs W true (le_refl _) n m e λqs' o i f p=>?_
 refine k_nx ?_;refine zAH (zBH (zOc (zBg (zBt (zIJ rfl ?_)))));refine(show EvP (lenD (.lst (qs'.map ratD))) _ from ?_);(walk_at "w");rw[qy];rw[<- i] at h
 match qs',f with
 | [],_ =>
  refine zD4 (by simp) ?_;refine zCk k ?_;rw[zMG];(walk_at "w");exact h
 | [a],_ =>
  refine zD3 (by simp) ?_;refine zBA (zIJ rfl ?_);(walk_at "w");refine(show EvP (ixD (.lst [ratD a]) (.int 0)) _ from ?_);(walk_at "w");have l:DM.sumR [a]=a:=by simp only[DM.sumR,Rat.add_zero]
  rw[l] at h;exact h
 | _::_::_,z=>exact absurd z (by simp)
abbrev Pt:=DM.Pt
noncomputable def ptD (p:Pt):D:=.tup [ratD p.1,ratD p.2]
noncomputable def zGQ (s:Pt×Pt):D:=.tup [ptD s.1,ptD s.2]
noncomputable def zIr (ps:List Pt):D:=.lst (ps.map ptD)
def PB (n:Nat)(p:Pt):Prop:=RB n p.1/\RB n p.2
def i_p0 (h:Q (ratD p.1,.cl)):EvP (ixD (ptD p) (.int 0)) Q:=zDJ rfl h
def i_p1 (h:Q (ratD p.2,.cl)):EvP (ixD (ptD p) (.int 1)) Q:=zDJ rfl h
def i_s0 (h:Q (ptD s.1,.cl)):EvP (ixD (zGQ s) (.int 0)) Q:=zDJ rfl h
def i_s1 (h:Q (ptD s.2,.cl)):EvP (ixD (zGQ s) (.int 1)) Q:=zDJ rfl h
def zIO (p:Pt):DOk 2 (ptD p):=zHg λd h=>by
 rcases mem_cons.mp h with rfl | h
 .exact zHh _
 .rcases mem_cons.mp h with rfl | h
  .exact zHh _
  .simp_all
def zIS (xs:List D)(k:Nat):cutD xs (some (k:Int)) none=xs.drop k:=by
 unfold cutD;rw[HT.zHD,HT.zFh];by_cases h:k<=xs.length
 .rw [Nat.min_eq_left h,List.take_of_length_le (by simp)]
 .rw [Nat.min_eq_right (by omega),List.drop_length,List.take_nil,drop_eq_nil_of_le (by omega)]
def zTe (xs:List D)(k:Nat):cutD xs none (some (k:Int))=xs.take k:=by
 unfold cutD;rw[HT.zHD,HT.zFh];simp
def zMF (as bs:List Pt):zipT (as.map ptD) (bs.map ptD)=(as.zip bs).map zGQ:=by
 unfold zipT;rw[List.zipWith_map,List.zip_eq_zipWith,List.map_zipWith]
 rfl
noncomputable def zJk:S:=.cons (.ret (.lzip (.var 0) (.bin .Add (.sl (.var 0) (.cons (.int 1) .nil) .nil) (.sl (.var 0) .nil (.cons (.int 1) .nil))))) .nil
def zL7 (F:List D->Option R):Prop:=∀ (ps:List Pt) (Q:R->Prop),ps.length<=9000->Q (.lst ((DM.zGP ps).map zGQ),.fr)->EvP (F [zIr ps]) Q
def zMP :zL7 (dFun 1 1 (evSs J zJk)):=λps Q e h=>by
 (walk_at "d");unfold zJk;refine zAH (zBH (zLM (zAI rfl (zAZ (zQb (zAI rfl ?_))))));(walk_at "w");refine⟨ps.map ptD,rfl,?_⟩;refine zQb (zAI rfl ?_);(walk_at "w");refine⟨ps.map ptD,rfl,?_⟩;have c:cutD (ps.map ptD) (some 1) none=(ps.drop 1).map ptD:=by rw[show (1:Int)=((1:Nat):Int) from rfl,zIS,List.map_drop]
 have b:cutD (ps.map ptD) none (some 1)=(ps.take 1).map ptD:=by rw[show (1:Int)=((1:Nat):Int) from rfl,zTe,List.map_take]
 rw[c,b];refine zLv (by rw[qy,qy,List.length_drop,length_take];omega) ?_;rw[<- xJ];refine zTv ⟨?_,?_⟩ ?_
 .rw [qy,qy];exact(DM.zJr ps).symm
 .rw [qy];omega
 .rw [(zMF ps _)];(walk_at "w");exact h
noncomputable def zOv (nm nt:Nat):S:=.cons (.set 1 (.ix (.var 0) (.int 0))) (.cons (.set 2 (.ix (.var 0) (.int 1))) (.cons (.ret (.call nm "minus" (.cons (.call nt "times" (.cons (.ix (.var 1) (.int 0)) (.cons (.ix (.var 2) (.int 1)) .nil))) (.cons (.call nt "times" (.cons (.ix (.var 2) (.int 0)) (.cons (.ix (.var 1) (.int 1)) .nil))) .nil)))) .nil))
def zHE:RB 2 (1 / 2:Rat):=⟨by unfold Bd;decide +kernel,by unfold Bd;decide +kernel⟩
def zFy (i:Int):D.tup [.int i,.int 1]=ratD (i:Rat):=rfl
def zAm (a:Int)(n:Nat):(rngL a n).length=n:=by unfold rngL;simp
theorem zLn {T:Type}{J:Gm}{n:Nat}{el:E}{base:Dst}{Q:List D->Prop}(hn:base.length=n)(enc g:T->D):∀ (xs:List T) (o:Option (D×Bool)),(∀ x∈xs,EvP (evE J el (base++[some (enc x,false)])) λr=>r.2≠.dt/\r.1=g x)->Q (xs.map g)->EvP (zC3 (tg1 n) (evC J .nil) (evE J el) (xs.map enc) (base++[o])) Q
 | [],o,_,h=>⟨_,rfl,h⟩
 | z::zs,o,hz,h=>by
  obtain⟨r,e,nd,er⟩:=hz z q8;obtain⟨ys,e2,q⟩:=zLn (Q:=λys=>Q (g z::ys)) hn enc g zs (some (enc z,false)) (λy hy=>hz y (qJ _ hy)) h;refine⟨_,?_,q⟩;have es:(base++[o]).set n (some (enc z,false))=base++[some (enc z,false)]:=by
   rw[set_append_right _ _ (by omega),hn,sub_self];rfl
  show (tg1 n (enc z) (base++[o])).bind _=_;unfold tg1;rw[es,qx,zDu,qx,if_pos rfl,e,qx,if_neg nd,er];show (zC3 _ _ _ (zs.map enc) (base++[some (enc z,false)])).bind _=_;unfold tg1 at e2;rw[zDu] at e2;rw[e2]
  rfl
noncomputable def zBp (rs:List (List Pt)):D:=.lst (rs.map zIr)
def zBK:RB 1 0:=⟨by unfold Bd;decide,by unfold Bd;decide⟩
def zB0:RB 1 1:=⟨by unfold Bd;decide,by unfold Bd;decide⟩
def PB.x (h:PB n p):RB n p.1:=h.1
def PB.y (h:PB n p):RB n p.2:=h.2
def PB.mono (h:PB m p)(l:m<=n):PB n p:=⟨h.1.mono l,h.2.mono l⟩
abbrev Ln:=DM.Ln
end DL
end
open PySem L2 DL
local macro_rules | `(tactic| walk_at "rb")=>`(tactic| first
 | assumption | exact zBK | exact zB0 | exact zHE | exact PB.x (by assumption) | exact PB.y (by assumption) | exact LB.a (by assumption) | exact LB.b (by assumption) | exact LB.c (by assumption)
 | with_reducible apply zCa | with_reducible apply zCZ | with_reducible apply zAi | with_reducible apply rb_neg | (with_reducible apply zJx;assumption))
section
namespace DL
open PySem L2
def zR1 (h:OpF f F)(h1:RB m p)(h2:RB n q)(h3:m+n<=60000000)(h4:Q (ratD (f p q),.cl)):EvP (F [ratD p,ratD q]) Q:=h p q m n Q h1 h2 h3 h4
def zKA (h:zGF F)(h0:q≠0)(h1:RB m p)(h2:RB n q)(h3:m+n<=60000000)(h4:Q (ratD (p / q),.cl)):EvP (F [ratD p,ratD q]) Q:=h p q m n Q h0 h1 h2 h3 h4
end DL
end
open PySem L2 DL
local macro_rules | `(tactic| walk_at "ev")=>`(tactic| first
 | (with_reducible first | refine c_eq0 ?_ | refine wr_cl ?_ | refine wr_fr ?_ | refine i_p0 ?_ | refine i_p1 ?_ | refine i_s0 ?_ | refine i_s1 ?_ | refine i_l0 ?_ | refine i_l1 ?_ | refine i_l2 ?_ | refine l_ring ?_ | refine t_ring ?_ | refine is_tp ?_ | refine is_tl ?_ | refine is_lr ?_ | refine l_pt ?_ | refine l_ln ?_ | refine c_eqRat ?_ | refine c_neRat ?_)
 | ((with_reducible show EvP (evE _ (E.call _ _ _) _) _);refine zAK (by assumption) ?_) | ((with_reducible show EvP (evE _ (E.glob _ _) _) _);refine zCk (by assumption) ?_)
 | ((try dsimp only);with_reducible refine zR1 (by assumption) (by (repeat walk_at "rb")) (by (repeat walk_at "rb")) (by omega) ?_))
section
namespace DL
open PySem L2
noncomputable def zG7:S:=.cons (.ife (.chn .Lt .Lt (.neg (.int 1000)) (.var 0) (.int 1000)) (.cons (.ret (.bin .Mod (.bin .Mult (.bin .Add (.bin .Mult (.bin .Add (.var 0) (.int 1000)) (.bin .Add (.bin .Add (.var 0) (.int 1000)) (.bin .Mult (.int 37) (.var 1)))) (.bin .Mult (.int 911) (.var 1))) (.int 48271)) (.int 1000003))) .nil) .nil) (.cons (.ret (.var 0)) .nil)
def zL6 (F:List D->Option R):Prop:=∀ (c k:Int) (Q:R->Prop),0<=k->k<=1000->(∀ x:Int,Q (.int x,.cl))->EvP (F [.int c,.int k]) Q
def zJf :zL6 (dFun 2 2 (evSs J zG7)):=λc k Q h0 h1 h=>by
 (walk_at "d");unfold zG7;(walk_at "st");refine zAH (zEf (zOd ?_));(walk_at "w");refine zBI (λc1=>?_) λc1=>?_
 ·(walk_at "w");refine zBI (λc2=>?_) λc2=>?_
  ·(walk_at "w");refine zA4 (zC6 (by decide)) ?_;(walk_at "w");refine zA4 (zC6 (by omega)) ?_;(walk_at "w");refine zA4 (zC6 (by decide)) ?_;(walk_at "w");refine zA4 (zFC (by decide)) ?_;(walk_at "w");refine zA7 (by decide) ?_;(walk_at "w");exact h _
  ·(walk_at "w");exact h _
 ·(walk_at "w");exact h _
def zFj (h:x∈rngL 0 n):∃ k:Int,x=.int k/\0<=k/\k < n:=by
 unfold rngL at h;grind
noncomputable def zJT:S:=.cons (.ret (.cmp .Lt (.bin .Mult (.ix (.var 0) (.int 0)) (.ix (.var 1) (.int 1))) (.bin .Mult (.ix (.var 1) (.int 0)) (.ix (.var 0) (.int 1))))) .nil
def zFS (F:List D->Option R):Prop:=∀ (p q:Rat) (m n:Nat) (Q:R->Prop),RB m p->RB n q->m+n<=60000000->Q (.bl (decide (p < q)),.cl)->EvP (F [ratD p,ratD q]) Q
def zMK :zFS (dFun 2 2 (evSs J zJT)):=λp q m n Q a hq l h=>by
 (walk_at "d");unfold zJT;(walk_at "st");(walk_at "w");refine zA4 (zBF a.num hq.den l) ?_;(walk_at "w");refine zA4 (zBF hq.num a.den (by omega)) ?_;(walk_at "w");have e:decide (p.num*↑q.den < q.num*↑p.den)=decide (p < q):=by
  rw[decide_eq_decide];exact((Rat.lt_iff ..)).symm
 rw[e];exact h
def zCu (h:zFS F)(h1:RB m p)(h2:RB n q)(h3:m+n<=60000000)(h4:Q (.bl (decide (p < q)),.cl)):EvP (F [ratD p,ratD q]) Q:=h p q m n Q h1 h2 h3 h4
noncomputable def hD (L:Ln):D->D
 | .tup [.tup [.int a,.int b],.tup [.int c,.int e]]=>ratD (DM.hq L (Rat.divInt a b,Rat.divInt c e))
 | d=>d
def zRU (h:(rngL 0 n).drop i=x::xs):i < n/\x=.int (i:Int)/\xs=(rngL 0 n).drop (i+1):=by
 have a:i < (rngL 0 n).length:=by
  by_cases q:i < (rngL 0 n).length
  .omega
  .rw [drop_eq_nil_of_le (by omega)] at h;cases h
 rw[List.drop_eq_getElem_cons a] at h;cases h;rw[zAm] at a
 simp_all
 unfold rngL;simp
def zO4 (h:[]=(rngL 0 n).drop i)(a:i<=n):i=n:=by
 have:=congrArg List.length h;rw[List.length_nil,List.length_drop,zAm] at this;omega
end DL
end
open PySem L2 DL
local macro_rules | `(tactic| walk_at "e")=>`(tactic| (repeat ((fail_if_success (with_reducible show EvP (evSs _ _ _) _));walk_at "ev")))
open PySem L2 DL
local macro_rules | `(tactic| walk_at "c")=>`(tactic| simp only [cons_append,nil_append])
section
namespace DL
open PySem L2
theorem zFK (hn:base.length=n)(P:D->Prop):∀ (zs:List D) (o:Option (D×Bool)),(∀ z∈zs,EvP (evC J c (base++[some (z,false)])) λb=>b=true->EvP (evE J el (base++[some (z,false)])) λr=>r.2≠.dt/\P r.1)->(∀ ys,ys.length<=zs.length->(c=.nil->ys.length=zs.length)->(∀ y∈ys,P y)->Q ys)->EvP (zC3 (tg1 n) (evC J c) (evE J el) zs (base++[o])) Q
 | [],o,_,h=>⟨_,rfl,h [] (le_refl _) (λ_=>rfl) (by simp)⟩
 | z::zs,o,hc,h=>by
  obtain⟨b,eb,hb⟩:=hc z q8;have et:tg1 n z (base++[o])=some (base++[some (z,false)]):=by unfold tg1;rw[set_append_right _ _ (by omega),hn,sub_self];rfl
  have ih:=λQ'=>zFK (Q:=Q') hn P zs (some (z,false)) λy hy=>hc y (qJ _ hy)
  cases b with
  | true =>
   obtain⟨r,e,nd,p⟩:=hb rfl;obtain⟨ys,e2,q⟩:=ih (λys=>Q (r.1::ys)) λys l1 l2 l3=>h _ (Nat.succ_le_succ l1) (λz=>congrArg Nat.succ (l2 z)) (by simpa using ⟨p,l3⟩)
   refine⟨_,?_,q⟩;show (tg1 n z (base++[o])).bind _=_;rw[et,qx,eb,qx,if_pos rfl,e,qx,if_neg nd,e2]
   rfl
  | false =>
   obtain⟨ys,e2,q⟩:=ih Q λys l1 l2 l3=>h _ (Nat.le_succ_of_le l1) (λz=>by subst z;cases eb) l3
   refine⟨_,?_,q⟩;show (tg1 n z (base++[o])).bind _=_;rw[et,qx,eb,qx,if_neg qY,e2]
theorem zLI {T:Type}{f:T->D}{P:T->Prop}:∀ {ds:List D},(∀ d∈ds,∃ a,d=f a/\P a)->∃ as:List T,ds=as.map f/\∀ a∈as,P a
 | [],_=>⟨[],rfl,by simp⟩
 | d::ds,h=>by
  obtain⟨a,rfl,p⟩:=h _ q8;obtain⟨as,rfl,q⟩:=zLI λd m=>h d (qJ _ m)
  exact⟨a::as,rfl,by simpa using ⟨p,q⟩⟩
def zGD {ds:List D}{k:Int}(h0:0<=k)(h1:k < ds.length):∃ d,d∈ds/\atI ds k=some d:=by
 obtain⟨i,rfl⟩:=Int.eq_ofNat_of_zero_le h0;have e:ds[i]?=some ds[i]:=getElem?_eq_getElem _;exact⟨_,mem_of_getElem? e,zAx e⟩
def isP (n:Nat)(d:D):Prop:=∃ p:Pt,d=ptD p/\PB n p
def isK (a b:Rat)(d:D):Prop:=∃ k:Int,d=.int k/\RB 8 (k:Rat)/\a≠b
noncomputable def wpB:S:=.cons (.ret (.bin .FloorDiv (.ix (.var 0) (.int 0)) (.ix (.var 0) (.int 1)))) .nil
def WpF (F:List D->Option R):Prop:=∀ (q:Rat) (Q:R->Prop),(∀ k:Int,Q (.int k,.cl))->EvP (F [ratD q]) Q
def zTx :WpF (dFun 1 1 (evSs J wpB)):=λq Q h=>by
 (walk_at "d");unfold wpB;(walk_at "w");refine zCH (zBN q) ?_;(walk_at "w");exact h _
noncomputable def midB (nt np ng:Nat):S:=.cons (.ret (.call nt "times" (.cons (.glob ng "HALF") (.cons (.call np "plus" (.cons (.var 0) (.cons (.var 1) .nil))) .nil)))) .nil
def MidF (F:List D->Option R):Prop:=∀ (p q:Rat) (n:Nat) (Q:R->Prop),RB n p->RB n q->n<=10000000->(∀ m,RB (2*n+3) m->Q (ratD m,.cl))->EvP (F [ratD p,ratD q]) Q
def zSB (b:J.fns[nt]?=some (("times":Str),Ft))(c:J.fns[np]?=some (("plus":Str),Fp))(f:J.cs[ng]?=some (("HALF":Str),.tup [.int 1,.int 2]))(a:zDA Ft)(e:zEw Fp):MidF (dFun 2 2 (evSs J (midB nt np ng))):=λp q n Q h1 h2 g h=>by
 (walk_at "d");unfold midB;(walk_at "st");(walk_at "w");rw[zM7];refine zR1 a zHE (by (repeat walk_at "rb")) (by omega) ?_;(walk_at "w");exact h _ ((zAi zHE (zCa h1 h2)).mono (by omega))
noncomputable def zPX (nu ns:Nat):S:=.cons (.ife (.call nu "under" (.cons (.var 1) (.cons (.var 0) .nil))) (.cons (.ret (.lrev (.call ns "numbers_between" (.cons (.var 1) (.cons (.var 0) (.cons (.var 2) .nil)))))) .nil) .nil) (.cons (.ret (.comp1 3 [] "number" (.r1 (.bin .Add (.var 2) (.int 1))) (.cons (.andl (.cons (.call nu "under" (.cons (.var 0) (.cons (.tup (.cons (.var 3) (.cons (.int 1) .nil))) .nil))) (.cons (.call nu "under" (.cons (.tup (.cons (.var 3) (.cons (.int 1) .nil))) (.cons (.var 1) .nil))) .nil))) .nil) (.var 3))) .nil)
def zMB (C:Rat->Rat->Prop)(F:List D->Option R):Prop:=∀ (a b:Rat) (l n:Nat) (Q:R->Prop),C a b->RB n a->RB n b->n<=10000000->l<=100->(∀ ds,ds.length<=l+1->(∀ d∈ds,isK a b d)->Q (.lst ds,.fr))->EvP (F [ratD a,ratD b,.int l]) Q
def zKN (A:J.fns[nu]?=some (("under":Str),Fu))(i:zFS Fu)(g:∀ {a b},C a b->b < a->∃ Fs,J.fns[ns]?=some (("numbers_between":Str),Fs)/\zMB (λa b=>¬ b < a) Fs):zMB C (dFun 3 3 (evSs J (zPX nu ns))):=λa b l n Q v p f s t h=>by
 (walk_at "d");unfold zPX;(walk_at "st");(walk_at "w");refine zCu i f p (by omega) ?_;(walk_at "w");refine zBI (λc=>?_) λc=>?_
 .obtain ⟨Fs,es,g⟩:=g v c;refine zAH (zBH (zQc (zAK es ?_)));(walk_at "w");refine g b a l n _ (by grind) f p s t λds j m=>n_fr ⟨_,rfl,by omega,?_⟩
  (walk_at "w");refine h _ (by simpa using j) λd u=>?_
  obtain⟨k,e,r,z⟩:=m d (by simpa using u);exact⟨k,e,r,z.symm⟩
 ·(walk_at "w");refine⟨by omega,?_⟩;rw[show ((l:Int)+1).toNat=l+1 by omega];refine⟨by rw[zAm];omega,?_⟩;refine zFK (n:=3) (base:=[_,_,_]) rfl (isK a b) _ _ (λz x=>as_b ?_) λys j _ m=>?_
  .obtain ⟨k,rfl,y,k1⟩:=zFj x;(walk_at "c");have o:RB 8 (k:Rat):=zHw (zD0 (k:=200) (by omega) (by decide)) (by decide);(walk_at "w");rw[zFy];refine zCu i p o (by omega) ?_;(walk_at "w");refine zBI (λc=>?_) λc=>?_
   ·(walk_at "w");refine zCu i o f (by omega) ?_;(walk_at "w");intro q;have:=of_decide_eq_true q;(walk_at "w");exact⟨k,rfl,o,by grind⟩
   ·(walk_at "w");exact λz=>nomatch z
  ·(walk_at "w");exact h _ (by rwa [zAm] at j) m
noncomputable def zJw (nd nm np nt:Nat):S:=.cons (.ife (.cmp .Eq (.len (.var 0)) (.int 0)) (.cons (.ret (.lst .nil)) .nil) .nil) (.cons (.set 5 (.call nd "parted" (.cons (.call nm "minus" (.cons (.var 4) (.cons (.var 3) .nil))) (.cons (.call nm "minus" (.cons (.var 2) (.cons (.var 1) .nil))) .nil)))) (.cons (.ret (.comp1 6 [] "number" (.it (.var 0)) .nil (.call np "plus" (.cons (.var 3) (.cons (.call nt "times" (.cons (.var 5) (.cons (.call nm "minus" (.cons (.tup (.cons (.var 6) (.cons (.int 1) .nil))) (.cons (.var 1) .nil))) .nil))) .nil))))) .nil))
def isR (n:Nat)(d:D):Prop:=∃ q:Rat,d=ratD q/\RB n q
def zL9 (F:List D->Option R):Prop:=∀ (ks:List D) (a b c e:Rat) (n:Nat) (Q:R->Prop),RB n a->RB n b->RB n c->RB n e->8*n+20<=10000000->(∀ k∈ks,isK a b k)->ks.length<=200->(∀ ds,ds.length=ks.length->(∀ d∈ds,isR (8*n+20) d)->Q (.lst ds,.fr))->EvP (F [.lst ks,ratD a,ratD b,ratD c,ratD e]) Q
theorem zMT (ed:J.fns[nd]?=some (("parted":Str),Fd))(em:J.fns[nm]?=some (("minus":Str),Fm))(ep:J.fns[np]?=some (("plus":Str),Fp))(et:J.fns[nt]?=some (("times":Str),Ft))
  (hd:zGF Fd) (hm:zD6 Fm) (hp:zEw Fp) (ht:zDA Ft):zL9 (dFun 5 6 (evSs J (zJw nd nm np nt))):=λks a b c e n Q ha hb hc he hn hk hl h=>by
 (walk_at "d");unfold zJw;(walk_at "st");(walk_at "w");refine zBI (λz=>?_) λz=>?_
 ·(walk_at "w");exact h [] (by show (0:Nat)=_;omega) (by simp)
 .obtain ⟨k,mk,_⟩:=zGD (ds:=ks) (k:=0) (by decide) (by omega);obtain⟨_,_,_,ne⟩:=hk k mk;have nz:b - a≠0:=by grind
  have rs:=zJx nz (zCZ he hc) (zCZ hb ha);(walk_at "w");refine zKA hd nz (by (repeat walk_at "rb")) (by (repeat walk_at "rb")) (by omega) ?_;(walk_at "w");refine⟨by omega,?_⟩;refine zFK (n:=6) (base:=[_,_,_,_,_,_]) rfl (isR (8*n+20)) _ _ (λy hy=>⟨true,rfl,λ_=>?_⟩) λys _ l1 l2=>?_
  .obtain ⟨k,rfl,rk,_⟩:=hk y hy;(walk_at "c");(walk_at "w");rw[zFy];(walk_at "w");exact⟨_,rfl,(zCa hc (zAi rs (zCZ rk ha))).mono (by omega)⟩
  ·(walk_at "w");exact h _ (l1 rfl) l2
noncomputable def crB (u:Bool)(nn nr:Nat):S:=.cons (.set 2 (.ix (.var 0) (.int 0))) (.cons (.set 3 (.ix (.var 0) (.int 1))) (.cons (.set 4 (.call nn "numbers_between" (.cons (.ix (.var 2) (.int (cond u 0 1))) (.cons (.ix (.var 3) (.int (cond u 0 1))) (.cons (.var 1) .nil))))) (.frz 4 (.cons (.set 5 (.call nr "rests_at" (.cons (.var 4) (.cons (.ix (.var 2) (.int (cond u 0 1))) (.cons (.ix (.var 3) (.int (cond u 0 1))) (.cons (.ix (.var 2) (.int (cond u 1 0))) (.cons (.ix (.var 3) (.int (cond u 1 0))) .nil))))))) (.frz 4 (.frz 5 (.cons (.ret (.comp1 6 [] "k" (.r1 (.len (.var 4))) .nil (.tup (cond u (.cons (.tup (.cons (.ix (.var 4) (.var 6)) (.cons (.int 1) .nil))) (.cons (.ix (.var 5) (.var 6)) .nil)) (.cons (.ix (.var 5) (.var 6)) (.cons (.tup (.cons (.ix (.var 4) (.var 6)) (.cons (.int 1) .nil))) .nil)))))) .nil)))))))
def CrF (F:List D->Option R):Prop:=∀ (s:Pt×Pt) (w n:Nat) (Q:R->Prop),PB n s.1->PB n s.2->8*n+20<=10000000->w<=100->(∀ ds,ds.length<=w+1->(∀ d∈ds,isP (8*n+20) d)->Q (.lst ds,.fr))->EvP (F [zGQ s,.int w]) Q
def zTg (u:Bool)(G:J.fns[nn]?=some (("numbers_between":Str),Fn))(I:J.fns[nr]?=some (("rests_at":Str),Fr))(v:zMB (λ_ _=>True) Fn)(B:zL9 Fr):CrF (dFun 2 6 (evSs J (crB u nn nr))):=λs w n Q h1 h2 t l h=>by
 (walk_at "d");unfold crB;cases u
 all_goals
  dsimp only[cond];(walk_at "st");(walk_at "w");refine v _ _ w n _ trivial (by first | exact h1.x | exact h1.y) (by first | exact h2.x | exact h2.y) (by omega) l λks E e=>?_
  (walk_at "w");refine B ks _ _ _ _ n _ (by first | exact h1.x | exact h1.y) (by first | exact h2.x | exact h2.y) (by first | exact h1.x | exact h1.y) (by first | exact h2.x | exact h2.y) t e (by omega) λrs H C=>?_
  (walk_at "w");refine⟨by omega,?_⟩;rw[toNat_natCast];refine⟨by rw[zAm];omega,?_⟩;refine zFK (n:=6) (base:=[_,_,_,_,_,_]) rfl (isP (8*n+20)) _ _ (λz z=>⟨true,rfl,λ_=>?_⟩) λys x _ A=>?_
  .obtain ⟨k,rfl,g,k1⟩:=zFj z;(walk_at "c");obtain⟨a,s,y⟩:=zGD (ds:=ks) g k1;obtain⟨b,D,r⟩:=zGD (ds:=rs) g (by omega);obtain⟨i,rfl,j,_⟩:=e a s;obtain⟨q,rfl,f⟩:=C b D;(walk_at "w")
   iterate 2
    first | refine zAw y ?_ | refine zAw r ?_
    (walk_at "w")
   first | exact⟨((i:Rat),q),rfl,j.mono (by omega),f⟩ | exact⟨(q,(i:Rat)),rfl,f,j.mono (by omega)⟩
  ·(walk_at "w");exact h _ (by rw[zAm] at x;omega) A
noncomputable def zL0 (nu:Nat):S:=.cons (.ife (.var 2) (.cons (.ret (.call nu "under" (.cons (.ix (.var 0) (.int 0)) (.cons (.ix (.var 1) (.int 0)) .nil)))) .nil) .nil) (.cons (.ret (.call nu "under" (.cons (.ix (.var 1) (.int 0)) (.cons (.ix (.var 0) (.int 0)) .nil)))) .nil)
def zIg (F:List D->Option R):Prop:=∀ (p q:Pt) (r:Bool) (n:Nat) (Q:R->Prop),PB n p->PB n q->n<=10000000->(∀ b,Q (.bl b,.cl))->EvP (F [ptD p,ptD q,.bl r]) Q
def zNu (e:J.fns[nu]?=some (("under":Str),Fu))(a:zFS Fu):zIg (dFun 3 3 (evSs J (zL0 nu))):=λp q r n Q b hq c h=>by
 (walk_at "d");unfold zL0;(walk_at "st");refine zAH (zEf (zAI rfl ⟨r,rfl,zF8 (λ_=>?_) λ_=>?_⟩))
 ·(walk_at "w");refine zCu a b.x hq.x (by omega) ?_;(walk_at "w");exact h _
 ·(walk_at "w");refine zCu a hq.x b.x (by omega) ?_;(walk_at "w");exact h _
noncomputable def zPh:S:=.cons (.app 3 (.ix (.var 1) (.var 4))) (.cons (.aug .Add 4 (.int 1)) .nil)
noncomputable def zPi (na:Nat):E:=.andl (.cons (.cmp .Lt (.var 4) (.len (.var 1))) (.cons (.call na "comes_ahead" (.cons (.ix (.var 1) (.var 4)) (.cons (.var 5) (.cons (.var 2) .nil)))) .nil))
noncomputable def zSF (na:Nat):S:=.cons (.whl (zPi na) zPh) (.cons (.ife (.andl (.cons (.cmp .Lt (.var 4) (.len (.var 1))) (.cons (.cmp .Eq (.ix (.var 1) (.var 4)) (.var 5)) .nil))) (.cons (.aug .Add 4 (.int 1)) .nil) .nil) (.cons (.app 3 (.var 5)) .nil))
noncomputable def zSG (na:Nat):S:=.cons (.set 3 (.lst .nil)) (.cons (.set 4 (.int 0)) (.cons (.for1 5 (.it (.var 0)) (zSF na)) (.cons (.ret (.bin .Add (.var 3) (.sl (.var 1) (.cons (.var 4) .nil) .nil))) .nil)))
def zLY (c:O[i]?=some (some (.int a,false)))(h:EvP (evE J e O) λr=>∃ b,r.1=.int b/\Q (.nx (O.set i (some (.int (a+b),false))))):EvP (evS J (.aug .Add i e) O) Q:=by
 rw[evS];obtain⟨⟨d,k⟩,e1,b,e2,q⟩:=h;subst e2;refine⟨_,?_,q⟩;unfold augD;rw[c,e1]
 rfl
def zRA (F:List D->Option R):Prop:=∀ (xs ys:List D) (r:Bool) (n:Nat) (Q:R->Prop),(∀ x∈xs,isP n x)->(∀ y∈ys,isP n y)->n<=10000000->xs.length+ys.length<=1000->(∀ ds,ds.length<=xs.length+ys.length->(∀ d∈ds,isP n d)->Q (.lst ds,.fr))->EvP (F [.lst xs,.lst ys,.bl r]) Q
section
variable {J:Gm}{na:Nat}{Fa:List D->Option R}
def zI3 (x:J.fns[na]?=some (("comes_ahead":Str),Fa))(u:zIg Fa)(e:∀ y∈ys,isP n y)(t:PB n p)(v:n<=10000000)(A:B<=1000) :
  ∀ (m:Nat) (acc:List D) (k:Nat),ys.length - k=m->acc.length+(ys.length - k)<=B->k<=ys.length->(∀ a∈acc,isP n a) ->
   (∀ (acc:List D) (k:Nat),acc.length+(ys.length - k)<=B->k<=ys.length->(∀ a∈acc,isP n a)->Q (.nx [x0,some (.lst ys,false),some (.bl r,false),some (.lst acc,true),some (.int (k:Int),false),some (ptD p,false)])) ->
   EvP (zBd (asB (evE J (zPi na))) (evSs J zPh) [x0,some (.lst ys,false),some (.bl r,false),some (.lst acc,true),some (.int (k:Int),false),some (ptD p,false)]) Q:=by
 intro m
 induction m using Nat.strongRecOn with
 | _ m o =>
  intro acc k C j f d h;refine zCL (as_b ?_);unfold zPi;(walk_at "w");refine zBI (λc=>?_) λc=>?_
  .obtain ⟨y,l,g⟩:=zGD (ds:=ys) (k:=k) (by omega) c;have s:=e y l;obtain⟨q,rfl,b2⟩:=e y l;refine zHb (zAK x ?_);(walk_at "w");refine zAw g ?_;(walk_at "w");refine u _ _ _ n _ b2 t v λb=>?_
   (walk_at "w");refine zF8 (λ_=>?_) λ_=>h _ _ j f d
   unfold zPh;refine zAH (zDa (xs:=acc) (i:=3) rfl (by omega) ?_);(walk_at "w");refine zAw g ?_;(walk_at "w");refine zLY (i:=4) rfl ?_;(walk_at "w");rw[show (k:Int)+1=((k+1:Nat):Int) by omega];exact o (ys.length - (k+1)) (by omega) (acc++[ptD q]) (k+1) rfl (by rw[qQ,length_singleton];omega) (by omega) (λa m=>(mem_append.mp m).elim (d a) λz=>mem_singleton.mp z▸s) h
  ·(walk_at "w");exact h _ _ j f d
def zPg (K:J.fns[na]?=some (("comes_ahead":Str),Fa))(R:zIg Fa):zRA (dFun 3 6 (evSs J (zSG na))):=λxs g r n Q S H I U h=>by
 (walk_at "d");unfold zSG;(walk_at "st");(walk_at "w");refine zD1 (λzs O=>∃ (acc:List D) (k:Nat) (o:Option (D×Bool)),(∀ z∈zs,isP n z)/\(∀ a∈acc,isP n a)/\k<=g.length/\acc.length+zs.length+(g.length - k)<=xs.length+g.length/\O=[some (.lst xs,false),some (.lst g,false),some (.bl r,false),some (.lst acc,true),some (.int (k:Int),false),o]) ?_ ?_ _ _ ⟨[],0,none,S,by simp,by omega,by simp,rfl⟩
 .rintro x zs O ⟨acc,k,o,E,A,v,C,rfl⟩;rw[xY] at C;have G:=E x q8;obtain⟨p,rfl,M⟩:=E x q8;refine⟨_,rfl,?_⟩;(walk_at "s");unfold zSF;refine zAH (zOf (zI3 K R H M I (B:=xs.length+g.length - zs.length - 1) (by omega) _ acc k rfl (by omega) v A λacc k C v A=>k_nx ?_));have f:∀ {Q:Out->Prop} (j:Nat),Q (.nx [some (.lst xs,false),some (.lst g,false),some (.bl r,false),some (.lst (acc++[ptD p]),true),some (.int (j:Int),false),some (ptD p,false)])->EvP (evSs J (.cons (.app 3 (.var 5)) .nil) [some (.lst xs,false),some (.lst g,false),some (.bl r,false),some (.lst acc,true),some (.int (j:Int),false),some (ptD p,false)]) Q:=λj q=>by
   refine zAH (zDa (xs:=acc) (i:=3) rfl (by omega) ?_);(walk_at "w");exact q
  have l:∀ a∈acc++[ptD p],isP n a:=λa m=>(mem_append.mp m).elim (A a) λz=>mem_singleton.mp z▸G
  have t:∀ z∈zs,isP n z:=λz m=>E z (qJ _ m)
  have T:(acc++[ptD p]).length=acc.length+1:=by simp
  (walk_at "w");refine zBI (λc=>?_) λc=>?_
  .obtain ⟨y,N,P⟩:=zGD (ds:=g) (k:=k) (by omega) c;obtain⟨L,rfl,b2⟩:=H y N;(walk_at "w");refine zAw P ?_;(walk_at "w");refine c_eq (zHe (zIO L) (zIO p) (by decide)) ?_;(walk_at "w");refine zF8 (λ_=>?_) λ_=>?_
   .refine zAH (zLY (i:=4) rfl ?_);(walk_at "e");refine zBQ (k_nx ?_);rw[show (k:Int)+1=((k+1:Nat):Int) by omega];exact f _ ⟨_,k+1,_,t,l,by omega,by omega,rfl⟩
   .exact zBQ (k_nx (f _ ⟨_,k,_,t,l,v,by omega,rfl⟩))
  ·(walk_at "e");exact zBQ (k_nx (f _ ⟨_,k,_,t,l,v,by omega,rfl⟩))
 .rintro O ⟨acc,k,o,E,A,v,C,rfl⟩;refine k_nx ?_;(walk_at "w");rw[zIS];have e:(acc++g.drop k).length<=xs.length+g.length:=by simp at C ⊢;omega
  refine zLv (by rw[<- qQ];omega) ?_;(walk_at "w");exact h _ e λd m=>(mem_append.mp m).elim (A d) λz=>H d (List.mem_of_mem_drop z)
end
noncomputable def zJe (nm nu nl nx:Nat):S:=.cons (.set 3 (.ix (.var 2) (.int 0))) (.cons (.set 4 (.ix (.var 2) (.int 1))) (.cons (.set 5 (.call nm "made_one" (.cons (.call nu "upright_crossings" (.cons (.var 2) (.cons (.var 0) .nil))) (.cons (.call nl "level_crossings" (.cons (.var 2) (.cons (.var 1) .nil))) (.cons (.call nx "under" (.cons (.ix (.var 3) (.int 0)) (.cons (.ix (.var 4) (.int 0)) .nil))) .nil))))) (.frz 4 (.frz 3 (.cons (.ret (.bin .Add (.bin .Add (.lst (.cons (.var 3) .nil)) (.var 5)) (.lst (.cons (.var 4) .nil)))) .nil)))))
def zL5 (F:List D->Option R):Prop:=∀ (w h:Nat) (s:Pt×Pt) (n:Nat) (Q:R->Prop),PB n s.1->PB n s.2->8*n+20<=10000000->w<=100->h<=100->(∀ ds,1<=ds.length->ds.length<=w+h+4->(∀ d∈ds,isP (8*n+20) d)->Q (.lst ds,.fr))->EvP (F [.int w,.int h,zGQ s]) Q
theorem zMO (em:J.fns[nm]?=some (("made_one":Str),Fm))(eu:J.fns[nu]?=some (("upright_crossings":Str),Fu))(el:J.fns[nl]?=some (("level_crossings":Str),Fl))(ex:J.fns[nx]?=some (("under":Str),Fx))
  (hm:zRA Fm) (hu:CrF Fu) (hl:CrF Fl) (hx:zFS Fx):zL5 (dFun 3 6 (evSs J (zJe nm nu nl nx))):=λw h s n Q h1 h2 hn hw hh hQ=>by
 (walk_at "d");unfold zJe;(walk_at "st");(walk_at "w");refine hu s w n _ h1 h2 hn hw λxs l1 p1=>?_
 (walk_at "w");refine hl s h n _ h1 h2 hn hh λys l2 p2=>?_
 (walk_at "w");refine zCu hx h1.x h2.x (by omega) ?_;(walk_at "w");refine hm xs ys _ _ _ p1 p2 hn (by omega) λzs l3 p3=>?_
 (walk_at "w");refine zLv (by rw[length_singleton];omega) ?_;(walk_at "w");refine zLv (by simp;omega) ?_;(walk_at "w");refine hQ _ (by simp) (by simp;omega) λd m=>?_
 simp only[mem_append,mem_singleton] at m;rcases m with (rfl | m) | rfl
 .exact ⟨_,rfl,h1.mono (by omega)⟩
 .exact p3 d m
 .exact ⟨_,rfl,h2.mono (by omega)⟩
noncomputable def pcB (nw nm:Nat):S:=.cons (.set 2 (.call nw "whole_part" (.cons (.call nm "middle" (.cons (.ix (.var 0) (.int 0)) (.cons (.ix (.var 1) (.int 0)) .nil))) .nil))) (.cons (.set 3 (.call nw "whole_part" (.cons (.call nm "middle" (.cons (.ix (.var 0) (.int 1)) (.cons (.ix (.var 1) (.int 1)) .nil))) .nil))) (.cons (.ret (.tup (.cons (.max (.var 2) (.neg (.int 1))) (.cons (.var 3) (.cons (.var 0) (.cons (.var 1) .nil)))))) .nil))
abbrev zE3 (c r:Int) (p q:Pt):D:=.tup [.int c,.int r,ptD p,ptD q]
def PcF (F:List D->Option R):Prop:=∀ (p q:Pt) (n:Nat) (Q:R->Prop),PB n p->PB n q->n<=10000000->(∀ c r:Int,-1<=c->Q (zE3 c r p q,.cl))->EvP (F [ptD p,ptD q]) Q
theorem zUD (ew:J.fns[nw]?=some (("whole_part":Str),Fw))(em:J.fns[nm]?=some (("middle":Str),Fm))(hw:WpF Fw)(hm:MidF Fm):PcF (dFun 2 4 (evSs J (pcB nw nm))):=λp q n Q h1 h2 hn h=>by
 (walk_at "d");unfold pcB;(walk_at "st");(walk_at "w");refine hm _ _ n _ h1.x h2.x hn λ_ _=>?_
 (walk_at "w");refine hw _ _ λc=>?_
 (walk_at "w");refine hm _ _ n _ h1.y h2.y hn λ_ _=>?_
 (walk_at "w");refine hw _ _ λr=>?_
 (walk_at "w");exact h _ _ (by omega)
noncomputable def onB:S:=.cons (.ret (.andl (.cons (.cmp .Lt (.ix (.var 2) (.int 0)) (.var 0)) (.cons (.chn .LtE .Lt (.int 0) (.ix (.var 2) (.int 1)) (.var 1)) .nil)))) .nil
def OnF (F:List D->Option R):Prop:=∀ (w h c r:Int) (p q:Pt) (Q:R->Prop),(∀ b,(b=true->c < w/\0<=r/\r < h)->Q (.bl b,.cl))->EvP (F [.int w,.int h,zE3 c r p q]) Q
def zUE :OnF (dFun 3 3 (evSs J onB)):=λw h c r p q Q a=>by
 (walk_at "d");unfold onB;(walk_at "st");(walk_at "w");refine zBI (λz1=>?_) λz1=>?_
 .refine zHb (zOd ?_);(walk_at "w");refine zBI (λz2=>?_) λz2=>?_
  ·(walk_at "w");exact a _ λz=>⟨z1,z2,of_decide_eq_true z⟩
  ·(walk_at "w");exact a _ λz=>nomatch z
 ·(walk_at "w");exact a _ λz=>nomatch z
noncomputable def zHI (ns np no:Nat):S:=.cons (.ife (.cmp .Eq (.ix (.var 2) (.int 0)) (.ix (.var 2) (.int 1))) (.cons (.ret (.lst .nil)) .nil) .nil) (.cons (.set 3 (.call ns "stops" (.cons (.var 0) (.cons (.var 1) (.cons (.var 2) .nil))))) (.frz 3 (.cons (.setC 4 (.comp1 5 [] "k" (.r1 (.bin .Sub (.len (.var 3)) (.int 1))) .nil (.call np "piece_between" (.cons (.ix (.var 3) (.var 5)) (.cons (.ix (.var 3) (.bin .Add (.var 5) (.int 1))) .nil))))) (.frz 4 (.cons (.ret (.comp1 5 [] "part" (.it (.var 4)) (.cons (.call no "counts_on" (.cons (.var 0) (.cons (.var 1) (.cons (.var 5) .nil)))) .nil) (.var 5))) .nil)))))
def isC (n:Nat)(d:D):Prop:=∃ (c r:Int) (p q:Pt),d=zE3 c r p q/\-1<=c/\PB n p/\PB n q
def isZ (n w h:Nat)(d:D):Prop:=∃ (c r:Int) (p q:Pt),d=zE3 c r p q/\-1<=c/\c < w/\0<=r/\r < h/\PB n p/\PB n q
def zHp (F:List D->Option R):Prop:=∀ (w h:Nat) (s:Pt×Pt) (n:Nat) (Q:R->Prop),PB n s.1->PB n s.2->8*n+20<=10000000->w<=100->h<=100->(∀ ds,ds.length<=w+h+4->(∀ d∈ds,isZ (8*n+20) w h d)->Q (.lst ds,.fr))->EvP (F [.int w,.int h,zGQ s]) Q
def zJ4 (es:J.fns[ns]?=some (("stops":Str),Fs))(P:J.fns[np]?=some (("piece_between":Str),Fp))(R:J.fns[no]?=some (("counts_on":Str),Fo))(A:zL5 Fs)(v:PcF Fp)(E:OnF Fo) :
  zHp (dFun 3 5 (evSs J (zHI ns np no))):=λw h s n Q h1 h2 t K N m=>by
 (walk_at "d");unfold zHI;(walk_at "st");refine zAH ?_;(walk_at "e");refine c_eq (zHe (zIO _) (zIO _) (by decide)) ?_;(walk_at "e");refine zF8 (λ_=>?_) λ_=>?_
 ·(walk_at "w");exact m [] (zero_le _) (by simp)
 refine zBQ (k_nx (zAH ?_));(walk_at "e");refine A w h s n _ h1 h2 t K N λl O S o=>?_
 (walk_at "e");refine zII rfl ?_;(walk_at "s");refine zAH (zF5 (zCS (zIl ?_)));(walk_at "e");refine⟨by omega,by rw[zAm];omega,?_⟩;refine zFK (n:=5) (base:=[_,_,_,_,_]) rfl (isC (8*n+20)) _ _ (λy j=>⟨true,rfl,λ_=>?_⟩) λps x _ u=>?_
 .obtain ⟨k,rfl,I,k1⟩:=zFj j;(walk_at "c");obtain⟨a,H,B⟩:=zGD (ds:=l) I (by omega);obtain⟨b,L,D⟩:=zGD (ds:=l) (k:=k+1) (by omega) (by omega);obtain⟨p,rfl,g⟩:=o a H;obtain⟨q,rfl,f⟩:=o b L;(walk_at "w");refine zAw B ?_;(walk_at "w");refine zAw D ?_;(walk_at "w");refine v _ _ _ _ g f (by omega) λc r i=>?_
  (walk_at "w");exact⟨c,r,p,q,rfl,i,g,f⟩
 rw[zAm] at x;(walk_at "e");refine zII rfl ?_;(walk_at "s");refine zAH (zBH (zCS (zG6 ?_)));(walk_at "e");refine⟨by omega,?_⟩;refine zFK (n:=5) (base:=[_,_,_,_,_]) rfl (isZ (8*n+20) w h) _ _ (λy j=>as_b ?_) λzs T _ F=>?_
 .obtain ⟨c,r,p,q,rfl,i,g,f⟩:=u y j;(walk_at "c");(walk_at "w");refine E _ _ _ _ _ _ _ λb C=>?_
  (walk_at "w");intro z;obtain⟨M,G,r1⟩:=C z;(walk_at "w");exact⟨c,r,p,q,rfl,i,M,G,r1,g,f⟩
 ·(walk_at "w");exact m _ (by omega) F
noncomputable def rsD (qs:List Rat):D:=.tup (qs.map ratD)
noncomputable def lowL:S:=.cons (.set 4 (.bin .Mod (.var 2) (.var 3))) (.frz 3 (.cons (.set 2 (.var 3)) (.cons (.set 3 (.var 4)) .nil)))
noncomputable def lowB:S:=.cons (.set 2 (.abs (.var 0))) (.cons (.set 3 (.var 1)) (.cons (.whl (.cmp .Gt (.var 3) (.int 0)) lowL) (.cons (.ret (.tup (.cons (.bin .FloorDiv (.var 0) (.var 2)) (.cons (.bin .FloorDiv (.var 1) (.var 2)) .nil)))) .nil)))
def LowF (F:List D->Option R):Prop:=∀ (t b:Int) (Q:R->Prop),0 < b->Q (ratD (Rat.divInt t b),.cl)->EvP (F [.int t,.int b]) Q
def zMu :∀ (n:Nat) (a b:Int) (r:Option (D×Bool)),b.toNat<=n->0<=a->0<=b->(∀ r',Q (.nx [x0,x1,some (.int (Int.gcd a b:Int),false),some (.int 0,false),r'])) ->
  EvP (zBd (asB (evE J (.cmp .Gt (.var 3) (.int 0)))) (evSs J lowL) [x0,x1,some (.int a,false),some (.int b,false),r]) Q:=by
 intro n
 induction n with
 | zero =>
  intro a b r f d c q;have e:b=0:=by omega
  subst e;refine zCL (as_b ?_);(walk_at "w");refine zD4 (Int.lt_irrefl 0) ?_;have:(Int.gcd a 0:Int)=a:=by rw[Int.gcd_zero_right];omega
  rw[this] at q;exact q r
 | succ n g =>
  intro a b r f d c q;by_cases e:b=0
  .subst e;refine zCL (as_b ?_);(walk_at "w");refine zD4 (Int.lt_irrefl 0) ?_;have:(Int.gcd a 0:Int)=a:=by rw[Int.gcd_zero_right];omega
   rw[this] at q;exact q r
  .refine zCL (as_b ?_);(walk_at "w");refine zD3 (show 0 < b by omega) ?_;unfold lowL;(walk_at "w");refine zA7 e ?_;(walk_at "w");have h1:=xX a (show 0 < b by omega);have h2:=fmod_lt_of_pos a (show 0 < b by omega);refine g b (a.fmod b) (some (.int (a.fmod b),false)) (by omega) c h1 λr'=>?_
   rw[DM.zIE d (by omega)];exact q r'
def zSK :LowF (dFun 2 5 (evSs J lowB)):=λt b Q c h=>by
 (walk_at "d");unfold lowB;(walk_at "st");(walk_at "w");refine zMu _ _ _ none (le_refl _) (Int.natCast_nonneg _) (Int.le_of_lt c) λr'=>?_
 have e:((Int.gcd (t.natAbs:Int) b:Nat):Int)=DM.msr t b:=by
  unfold DM.msr;rw[if_neg (by omega)];unfold Int.gcd;simp only[Int.natAbs_natCast]
 rw[e];refine k_nx ?_;have a:b≠0:=by omega
 (walk_at "w");refine zCH (DM.zKW a) ?_;(walk_at "w");refine zCH (DM.zKW a) ?_;(walk_at "w");rw[DM.zHP a,DM.zKY a];exact h
section
variable {J:Gm}{nr:Nat}{Fr:List D->Option R}
def zMt (b:J.fns[nr]?=some (("_law_low":Str),Fr))(c:LowF Fr):zEw (dFun 2 2 (evSs J (zIs "_law_low" nr))):=λp q m n Q a hq l h=>by
 (walk_at "d");unfold zIs;refine zAH (zBH (zAK b ?_));(walk_at "w");refine zA4 (zBF a.num hq.den l) ?_;(walk_at "w");refine zA4 (zBF hq.num a.den (by omega)) ?_;(walk_at "w");refine zA4 (zBF a.den hq.den l) ?_;(walk_at "w");refine c _ _ _ (Int.mul_pos (zDv p) (zDv q)) ?_;rw[<- zL1];(walk_at "w");exact h
def zKj (b:J.fns[nr]?=some (("_law_low":Str),Fr))(c:LowF Fr):zD6 (dFun 2 2 (evSs J (zFD "_law_low" nr))):=λp q m n Q a hq l h=>by
 (walk_at "d");unfold zFD;refine zAH (zBH (zAK b ?_));(walk_at "w");refine zA4 (zBF a.num hq.den l) ?_;(walk_at "w");refine zA4 (zBF hq.num a.den (by omega)) ?_;(walk_at "w");refine zA4 (zBF a.den hq.den l) ?_;(walk_at "w");refine c _ _ _ (Int.mul_pos (zDv p) (zDv q)) ?_;rw[<- zJc];(walk_at "w");exact h
def zKe (b:J.fns[nr]?=some (("_law_low":Str),Fr))(c:LowF Fr):zDA (dFun 2 2 (evSs J (zEy "_law_low" nr))):=λp q m n Q a hq l h=>by
 (walk_at "d");unfold zEy;refine zAH (zBH (zAK b ?_));(walk_at "w");refine zA4 (zBF a.num hq.num l) ?_;(walk_at "w");refine zA4 (zBF a.den hq.den l) ?_;(walk_at "w");refine c _ _ _ (Int.mul_pos (zDv p) (zDv q)) ?_;rw[<- zKU];(walk_at "w");exact h
end
def zOi (a:List Rat):DOk 2 (rsD a):=zHg λd h=>by
 obtain⟨q,_,rfl⟩:=mem_map.mp h;exact zHh q
noncomputable def zLB (nw:Nat):S:=.cons (.ife (.orl (.cons (.not (.isi .tuple (.var 2))) (.cons (.cmp .NotEq (.len (.var 2)) (.int 2)) .nil))) (.cons (.ret (.bl false)) .nil) .nil) (.cons (.for1 3 (.it (.var 2)) (.cons (.ife (.not (.call nw "_law_whole" (.cons (.var 3) .nil))) (.cons (.ret (.bl false)) .nil) .nil) .nil)) .nil)
noncomputable def zLC (nw:Nat):S:=.cons (.ife (.orl (.cons (.not (.isi .tuple (.var 0))) (.cons (.cmp .NotEq (.len (.var 0)) (.len (.var 1))) .nil))) (.cons (.ret (.bl false)) .nil) .nil) (.cons (.for1 2 (.it (.var 0)) (zLB nw)) (.cons (.ret (.cmp .Eq (.var 0) (.var 1))) .nil))
def zOp (F:List D->Option R):Prop:=∀ (qs:List Rat) (Q:R->Prop),Q (.bl true,.cl)->EvP (F [rsD qs,rsD qs]) Q
theorem zFI (ew:J.fns[nw]?=some (("_law_whole":Str),Fw))(hw:zL3 Fw):∀ (qs:List Rat) (a b:Option (D×Bool)),(∀ a b,Q (.nx [x0,x1,a,b])) ->
  EvP (forD (tg1 2) (evSs J (zLB nw)) (qs.map ratD) [x0,x1,a,b]) Q
 | [],a,b,h=>zGj (h a b)
 | q::qs,a,b,h=>by
  rw[map_cons];refine zBb rfl ?_;(walk_at "s");unfold zLB;(walk_at "w");refine zD3 rfl ?_;(walk_at "w");refine w_tu (ds:=[.int q.num,.int (q.den:Int)]) ?_;refine zBb rfl ?_;(walk_at "s");(walk_at "w");refine hw _ _ ?_;(walk_at "w");refine hw _ _ ?_;(walk_at "w");exact zFI ew hw qs _ _ h
def zNO (e:J.fns[nw]?=some (("_law_whole":Str),Fw))(f:zL3 Fw):zOp (dFun 2 4 (evSs J (zLC nw))):=λqs Q h=>by
 (walk_at "d");have eo:=zHe (zOi qs) (zOi qs) (by decide);unfold zLC;unfold rsD at eo ⊢;(walk_at "st");(walk_at "w");refine zD3 rfl ?_;(walk_at "w");refine zFI e f qs none none λa b=>?_
 refine k_nx ?_;(walk_at "w");refine c_eq eo ?_;rw[zNe];(walk_at "w");exact h
def zBu (h:EvP (evE J el (O.set n (some (z,false)))) λr=>r.2≠.dt/\EvP (zC3 (tg1 n) (evC J .nil) (evE J el) zs (O.set n (some (z,false)))) λys=>Q (r.1::ys)):EvP (zC3 (tg1 n) (evC J .nil) (evE J el) (z::zs) O) Q:=by
 obtain⟨r,e,b,ys,a,q⟩:=h;refine⟨_,?_,q⟩;show (tg1 n z O).bind _=_;unfold tg1 at a ⊢;rw[ zDu];rw[zDu] at a
 simp_all
def zLm (h:Q []):EvP (zC3 (tg1 n) (evC J .nil) (evE J el) [] O) Q:=⟨_,rfl,h⟩
noncomputable def zLq (n1 n0:Nat):S:=.cons (.ret (.tup (.cons (.glob n1 "ONE") (.cons (.glob n0 "NOUGHT") (.cons (.glob n0 "NOUGHT") (.cons (.glob n0 "NOUGHT") (.cons (.glob n0 "NOUGHT") .nil))))))) .nil
def zOq (F:List D->Option R):Prop:=∀ (Q:R->Prop),Q (rsD [1,0,0,0,0],.cl)->EvP (F []) Q
def zNn (a:J.cs[n1]?=some (("ONE":Str),.tup [.int 1,.int 1]))(b:J.cs[n0]?=some (("NOUGHT":Str),.tup [.int 0,.int 1])):zOq (dFun 0 0 (evSs J (zLq n1 n0))):=λQ h=>by
 (walk_at "d");unfold zLq;(walk_at "w");exact h
noncomputable def zRV (nm n1:Nat):S:=.cons (.ret (.call nm "minus" (.cons (.glob n1 "ONE") (.cons (.var 0) .nil)))) .nil
def zJN (F:List D->Option R):Prop:=∀ (q:Rat) (n:Nat) (Q:R->Prop),RB n q->n<=50000000->Q (ratD (1 - q),.cl)->EvP (F [ratD q]) Q
theorem zO6 (em:J.fns[nm]?=some (("minus":Str),Fm))(e1:J.cs[n1]?=some (("ONE":Str),.tup [.int 1,.int 1]))(hm:zD6 Fm):zJN (dFun 1 1 (evSs J (zRV nm n1))):=λq n Q hq l h=>by
 refine zQa rfl (by decide) (zAH (zBH (zAK em (zAC (zCk e1 ?_)))));rw[zPS];(walk_at "w");exact h
noncomputable def zPc (nt:Nat):S:=.cons (.ret (.tupl (.comp1 2 [] "part" (.it (.var 0)) .nil (.call nt "times" (.cons (.var 2) (.cons (.var 1) .nil)))))) .nil
def zHq (F:List D->Option R):Prop:=∀ (d:D) (qs:List Rat) (r:Rat) (m n:Nat) (Q:R->Prop),(d=rsD qs\/d=.lst (qs.map ratD))->qs.length<=100->(∀ q∈qs,RB m q)->RB n r->m+n<=60000000->Q (rsD (qs.map (·*r)),.cl)->EvP (F [d,ratD r]) Q
def zPb (c:J.fns[nt]?=some (("times":Str),Ft))(g:zDA Ft):zHq (dFun 2 2 (evSs J (zPc nt))):=λd a r m n Q f j hq i l h=>by
 (walk_at "d");unfold zPc;(walk_at "st");refine zAH (zBH (zEe (zCS (zG6 (zAI rfl ?_)))));refine⟨a.map ratD,(λz=>nomatch z),?_,?_⟩
 .rcases f with rfl | rfl
  .exact .inr rfl
  .exact .inl rfl
 refine⟨by rw[qy];omega,?_⟩;refine zLn (J:=J) (base:=[some (d,false),some (ratD r,false)]) rfl ratD (λq=>ratD (q*r)) a none ?_ ?_
 .intro q e;have b:=hq q e;refine zAK c ?_;show EvP (evEs J _ [some (d,false),some (ratD r,false),some (ratD q,false)]) _;(walk_at "w")
  rfl
 .refine zJU ?_;(walk_at "w");unfold rsD at h;rw[map_map] at h;exact h
noncomputable def zO2 (nm np:Nat):S:=.cons (.set 2 (.call nm "multiplied" (.cons (.var 1) (.cons (.ix (.var 0) (.int 0)) .nil)))) (.cons (.ret (.tupl (.comp1 3 [] "k" (.r1 (.int 4)) .nil (.call np "plus" (.cons (.ix (.var 0) (.bin .Add (.int 1) (.var 3))) (.cons (.ix (.var 2) (.var 3)) .nil)))))) .nil)
structure Fm where
 k:Rat
 a:Rat
 r:Rat
 g:Rat
 b:Rat
structure Gr where
 a:Rat
 r:Rat
 g:Rat
 b:Rat
noncomputable def fmD (f:Fm):D:=rsD [f.k,f.a,f.r,f.g,f.b]
noncomputable def grD (x:Gr):D:=rsD [x.a,x.r,x.g,x.b]
structure FB (n:Nat)(f:Fm):Prop where
 k:RB n f.k
 a:RB n f.a
 r:RB n f.r
 g:RB n f.g
 b:RB n f.b
structure GB (n:Nat)(x:Gr):Prop where
 a:RB n x.a
 r:RB n x.r
 g:RB n x.g
 b:RB n x.b
def FB.mono (h:FB m f)(l:m<=n):FB n f:=⟨h.k.mono l,h.a.mono l,h.r.mono l,h.g.mono l,h.b.mono l⟩
noncomputable def sn (f:Fm)(x:Gr):Gr:=⟨f.a+x.a*f.k,f.r+x.r*f.k,f.g+x.g*f.k,f.b+x.b*f.k⟩
def zQ8 (F:List D->Option R):Prop:=∀ (f:Fm) (x:Gr) (m n:Nat) (Q:R->Prop),FB m f->GB n x->m+n<=10000000->Q (grD (sn f x),.cl)->EvP (F [fmD f,grD x]) Q
def zO1 {Fm:List D->Option R}(g:J.fns[nm]?=some (("multiplied":Str),Fm))(c:J.fns[np]?=some (("plus":Str),Fp))(r:zHq Fm)(u:zEw Fp):zQ8 (dFun 2 3 (evSs J (zO2 nm np))):=λf x m n Q a b l h=>by
 (walk_at "d");unfold zO2;(walk_at "st");refine zAH (zCl (zAK g ?_));(walk_at "w");refine zDJ (d:=ratD f.k) rfl ?_;(walk_at "w");refine r (grD x) [x.a,x.r,x.g,x.b] f.k n m _ (.inl rfl) (zzb rfl) ?_ a.k (by omega) ?_
 .intro q hq;simp only[mem_cons,not_mem_nil,or_false] at hq;rcases hq with rfl | rfl | rfl | rfl
  .exact b.a
  .exact b.r
  .exact b.g
  .exact b.b
 (walk_at "w");refine zEe (zCS (zIl ?_));(walk_at "w");refine⟨by decide,?_⟩;refine⟨by decide,?_⟩;show EvP (zC3 (tg1 3) (evC J .nil) _ [.int 0,.int 1,.int 2,.int 3] [some (fmD f,false),some (grD x,false),some (rsD [x.a*f.k,x.r*f.k,x.g*f.k,x.b*f.k],false),none]) _;have step:∀ (i j:Int) (p q:Rat) (o:Option (D×Bool)) (Q:R->Prop),atI ([f.k,f.a,f.r,f.g,f.b].map ratD) (1+i)=some (ratD p)->atI ([x.a*f.k,x.r*f.k,x.g*f.k,x.b*f.k].map ratD) i=some (ratD q)->RB m p->RB (n+m) q->Q (ratD (p+q),.cl) ->
   EvP (evE J (.call np "plus" (.cons (.ix (.var 0) (.bin .Add (.int 1) (.var 3))) (.cons (.ix (.var 2) (.var 3)) .nil))) [some (fmD f,false),some (grD x,false),some (rsD [x.a*f.k,x.r*f.k,x.g*f.k,x.b*f.k],false),some (.int i,false)]) Q:=by
  intro i j p q o Q e k b1 b2 t;refine zAK c ?_;(walk_at "w");refine zDJ e ?_;(walk_at "w");refine zDJ k ?_;(walk_at "w");exact t
 refine zBu ?_;(walk_at "s");refine step 0 0 f.a (x.a*f.k) none _ rfl rfl a.a (zAi b.a a.k) ?_;refine n_cl (zBu ?_);(walk_at "s");refine step 1 0 f.r (x.r*f.k) none _ rfl rfl a.r (zAi b.r a.k) ?_;refine n_cl (zBu ?_);(walk_at "s");refine step 2 0 f.g (x.g*f.k) none _ rfl rfl a.g (zAi b.g a.k) ?_;refine n_cl (zBu ?_);(walk_at "s");refine step 3 0 f.b (x.b*f.k) none _ rfl rfl a.b (zAi b.b a.k) ?_;refine n_cl (zLm ?_);refine zJU ?_;(walk_at "w");exact h
noncomputable def inkD (r g b:Int):D:=.tup [.int r,.int g,.int b]
noncomputable def inkB (nr nm:Nat):S:=.cons (.ret (.bin .Add (.tup (.cons (.call nr "rest_of" (.cons (.var 0) .nil)) (.cons (.var 0) .nil))) (.call nm "multiplied" (.cons (.comp1 2 [] "part" (.it (.var 1)) .nil (.tup (.cons (.var 2) (.cons (.int 1) .nil)))) (.cons (.var 0) .nil))))) .nil
noncomputable def zI6 (s:Rat)(r g b:Int):Fm:=⟨1 - s,s,(r:Rat)*s,(g:Rat)*s,(b:Rat)*s⟩
def zFF {i:Int}(h0:0<=i)(h1:i<=255):RB 8 (i:Rat):=zHw (zD0 (k:=255) (by omega) (by simp)) (by simp)
def InkF (F:List D->Option R):Prop:=∀ (s:Rat) (r g b:Int) (n:Nat) (Q:R->Prop),RB n s->n<=10000000->(0<=r/\r<=255)->(0<=g/\g<=255)->(0<=b/\b<=255)->Q (fmD (zI6 s r g b),.cl)->EvP (F [ratD s,inkD r g b]) Q
def b_tt (l:(x::xs).length+(y::ys).length<=10000)(h:Q (.tup ((x::xs)++(y::ys)),.cl)):EvP (binD .Add (.tup (x::xs)) (.tup (y::ys))) Q:=⟨_,if_pos l,h⟩
def zSX {Fm:List D->Option R}(i:J.fns[nr]?=some (("rest_of":Str),Fr))(f:J.fns[nm]?=some (("multiplied":Str),Fm))(e:zJN Fr)(c:zHq Fm):InkF (dFun 2 2 (evSs J (inkB nr nm))):=λs r g b n Q a l h1 h2 h3 h=>by
 (walk_at "d");unfold inkB inkD;(walk_at "st");(walk_at "w");refine e s n _ a (by omega) ?_;(walk_at "w");refine zBu ?_;simp only[mask,cons_append,nil_append,List.set_cons_zero,List.set_cons_succ];(walk_at "w");refine zBu ?_;(walk_at "s");(walk_at "w");refine zBu ?_;(walk_at "s");(walk_at "w");refine zLm ?_;(walk_at "w");refine⟨(λz=>nomatch z),?_⟩;(walk_at "w");refine c _ [(r:Rat),(g:Rat),(b:Rat)] s 8 n _ (.inr rfl) (zzb rfl) ?_ a (by omega) ?_
 .intro q hq;simp only[mem_cons,not_mem_nil,or_false] at hq;rcases hq with rfl | rfl | rfl
  .exact zFF h1.1 h1.2
  .exact zFF h2.1 h2.2
  .exact zFF h3.1 h3.2
 (walk_at "w");refine b_tt (zzb rfl) ?_;(walk_at "w");exact h
def zTI (a:RB n s)(h1:0<=r/\r<=255)(h2:0<=g/\g<=255)(h3:0<=b/\b<=255):FB (n+8) (zI6 s r g b):=by
 refine⟨(zCZ zB0 a).mono (by omega),a.mono (by omega),?_,?_,?_⟩
 .exact (zAi (zFF h1.1 h1.2) a).mono (by omega)
 .exact (zAi (zFF h2.1 h2.2) a).mono (by omega)
 .exact (zAi (zFF h3.1 h3.2) a).mono (by omega)
noncomputable def rubB (nr n0:Nat):S:=.cons (.ret (.tup (.cons (.call nr "rest_of" (.cons (.var 0) .nil)) (.cons (.glob n0 "NOUGHT") (.cons (.glob n0 "NOUGHT") (.cons (.glob n0 "NOUGHT") (.cons (.glob n0 "NOUGHT") .nil))))))) .nil
def RubF (F:List D->Option R):Prop:=∀ (s:Rat) (n:Nat) (Q:R->Prop),RB n s->n<=10000000->Q (fmD ⟨1 - s,0,0,0,0⟩,.cl)->EvP (F [ratD s]) Q
def zRS (e:J.fns[nr]?=some (("rest_of":Str),Fr))(c:J.cs[n0]?=some (("NOUGHT":Str),.tup [.int 0,.int 1]))(b:zJN Fr):RubF (dFun 1 1 (evSs J (rubB nr n0))):=λs n Q a l h=>by
 (walk_at "d");unfold rubB;(walk_at "st");(walk_at "w");refine b s n _ a (by omega) ?_;(walk_at "w");exact h
noncomputable def zPq (nt ns:Nat):S:=.cons (.ret (.bin .Add (.tup (.cons (.call nt "times" (.cons (.ix (.var 0) (.int 0)) (.cons (.ix (.var 1) (.int 0)) .nil))) .nil)) (.call ns "seen" (.cons (.var 0) (.cons (.sl (.var 1) (.cons (.int 1) .nil) .nil) .nil))))) .nil
noncomputable def jn (f g:Fm):Fm:=⟨f.k*g.k,f.a+g.a*f.k,f.r+g.r*f.k,f.g+g.g*f.k,f.b+g.b*f.k⟩
def zUn (a:FB m f)(b:FB n g):FB (m+(n+m)+1) (jn f g) :=
 ⟨(zAi a.k b.k).mono (by omega),zCa a.a (zAi b.a a.k),zCa a.r (zAi b.r a.k),zCa a.g (zAi b.g a.k),zCa a.b (zAi b.b a.k)⟩
def zTn (F:List D->Option R):Prop:=∀ (f g:Fm) (m n:Nat) (Q:R->Prop),FB m f->FB n g->m+n<=10000000->Q (fmD (jn f g),.cl)->EvP (F [fmD f,fmD g]) Q
def fm_k (h:Q (ratD f.k,.cl)):EvP (ixD (fmD f) (.int 0)) Q:=zDJ rfl h
def zEd (e:O[i]?=some (some (fmD f,false)))(h:Q (rsD [f.a,f.r,f.g,f.b],.cl)):EvP (evE J (.sl (.var i) (.cons (.int 1) .nil) .nil) O) Q:=by
 refine zTK (zAI e (zLZ (zAO ⟨1,rfl,zOg ?_⟩)));refine⟨[ratD f.k,ratD f.a,ratD f.r,ratD f.g,ratD f.b],rfl,?_,h⟩;show ¬ (HT.sIx 5 0 _=0/\HT.sIx 5 5 none=5)
 decide
def zPo (c:J.fns[nt]?=some (("times":Str),Ft))(es:J.fns[ns]?=some (("seen":Str),Fs))(i:zDA Ft)(e:zQ8 Fs):zTn (dFun 2 2 (evSs J (zPq nt ns))):=λf g m n Q b a l h=>by
 (walk_at "d");unfold zPq;refine zAH (zBH (zAZ (zD2 (zAC (zAK c (zAC (zBA (zAI rfl (zAO (fm_k (n_cl (zAC (zBA (zAI rfl (zAO (fm_k (n_cl (zAT ?_))))))))))))))))));refine i f.k g.k m n _ b.k a.k (by omega) ?_;refine n_cl (n_cl (zAT ⟨zzb rfl,?_⟩));refine zAK es (zAC (zAI rfl (n_cl (zAC (zEd rfl (n_cl (zAT ?_)))))));refine e f ⟨g.a,g.r,g.g,g.b⟩ m n _ b ⟨a.a,a.r,a.g,a.b⟩ l ?_;refine n_cl ?_;refine b_tt (zzb rfl) ?_;simp;exact h
noncomputable def mixB (np nr nt nm:Nat):S:=.cons (.ret (.bin .Add (.tup (.cons (.call np "plus" (.cons (.call nr "rest_of" (.cons (.var 1) .nil)) (.cons (.call nt "times" (.cons (.var 1) (.cons (.ix (.var 0) (.int 0)) .nil))) .nil))) .nil)) (.call nm "multiplied" (.cons (.sl (.var 0) (.cons (.int 1) .nil) .nil) (.cons (.var 1) .nil))))) .nil
noncomputable def mx (f:Fm)(t:Rat):Fm:=⟨1 - t+t*f.k,f.a*t,f.r*t,f.g*t,f.b*t⟩
def zUm (b:FB m f)(a:RB n t):FB (m+n+n+3) (mx f t) :=
 ⟨(zCa (zCZ zB0 a) (zAi a b.k)).mono (by omega),(zAi b.a a).mono (by omega),(zAi b.r a).mono (by omega),(zAi b.g a).mono (by omega),(zAi b.b a).mono (by omega)⟩
def MixF (F:List D->Option R):Prop:=∀ (f:Fm) (t:Rat) (m n:Nat) (Q:R->Prop),FB m f->RB n t->m+n<=10000000->Q (fmD (mx f t),.cl)->EvP (F [fmD f,ratD t]) Q
def zR9 (b:zHq F)(a:FB m f)(c:RB n t)(l:m+n<=10000000)(h:Q (rsD [f.a*t,f.r*t,f.g*t,f.b*t],.cl)):EvP (F [rsD [f.a,f.r,f.g,f.b],ratD t]) Q:=by
 refine b _ [f.a,f.r,f.g,f.b] t m n _ (.inl rfl) (zzb rfl) ?_ c (by omega) h;intro q hq
 simp_all
 rcases hq with rfl | rfl | rfl | rfl
 .exact a.a
 .exact a.r
 .exact a.g
 .exact a.b
def zSA {Fm:List D->Option R}(c:J.fns[np]?=some (("plus":Str),Fp))(g:J.fns[nr]?=some (("rest_of":Str),Fr))(j:J.fns[nt]?=some (("times":Str),Ft))(i:J.fns[nm]?=some (("multiplied":Str),Fm))(k:zEw Fp)(e:zJN Fr)(o:zDA Ft)(p:zHq Fm) :
  MixF (dFun 2 2 (evSs J (mixB np nr nt nm))):=λf t m n Q b a l h=>by
 (walk_at "d");unfold mixB;refine zAH (zBH (zAZ (zD2 (zAC (zAK c (zAC (zAK g (zAC (zAI rfl (n_cl (zAT ?_))))))))))) ;refine e t n _ a (by omega) ?_;refine n_cl (n_cl (zAC (zAK j (zAC (zAI rfl (n_cl (zAC (zBA (zAI rfl (zAO (fm_k (n_cl (zAT ?_)))))))))))));refine o t f.k n m _ a b.k (by omega) ?_;refine n_cl (n_cl (zAT ?_));refine k _ _ (1+n+1) (n+m) _ (zCZ zB0 a) (zAi a b.k) (by omega) ?_;refine n_cl (n_cl (zAT ⟨zzb rfl,?_⟩));refine zAK i (zAC (zEd rfl (n_cl (zAC (zAI rfl (n_cl (zAT ?_)))))));refine zR9 p b a l ?_;refine n_cl ?_;refine b_tt (zzb rfl) ?_;(walk_at "w");exact h
noncomputable def zLz (nm nr:Nat):S:=.cons (.set 2 (.call nm "multiplied" (.cons (.sl (.var 0) (.cons (.int 1) .nil) .nil) (.cons (.var 1) .nil)))) (.cons (.ret (.bin .Add (.tup (.cons (.call nr "rest_of" (.cons (.ix (.var 2) (.int 0)) .nil)) .nil)) (.var 2))) .nil)
noncomputable def al (f:Fm)(t:Rat):Fm:=⟨1 - f.a*t,f.a*t,f.r*t,f.g*t,f.b*t⟩
def zUo (a:FB m f)(b:RB n t):FB (m+n+2) (al f t) :=
 ⟨(zCZ zB0 (zAi a.a b)).mono (by omega),(zAi a.a b).mono (by omega),(zAi a.r b).mono (by omega),(zAi a.g b).mono (by omega),(zAi a.b b).mono (by omega)⟩
def zOr (F:List D->Option R):Prop:=∀ (f:Fm) (t:Rat) (m n:Nat) (Q:R->Prop),FB m f->RB n t->m+n<=10000000->Q (fmD (al f t),.cl)->EvP (F [fmD f,ratD t]) Q
def zNt {Fm:List D->Option R}(e:J.fns[nm]?=some (("multiplied":Str),Fm))(i:J.fns[nr]?=some (("rest_of":Str),Fr))(g:zHq Fm)(c:zJN Fr):zOr (dFun 2 3 (evSs J (zLz nm nr))):=λf t m n Q a b l h=>by
 (walk_at "d");unfold zLz;(walk_at "st");refine zAH (zCl (zAK e (zAC (zEd rfl (n_cl (zAC (zAI rfl (n_cl (zAT ?_)))))))));refine zR9 g a b l ?_;(walk_at "w");refine zDJ (d:=ratD (f.a*t)) rfl ?_;(walk_at "w");refine c _ (m+n) _ (zAi a.a b) (by omega) ?_;(walk_at "w");refine b_tt (zzb rfl) ?_;(walk_at "w");exact h
noncomputable def clr:Fm:=⟨1,0,0,0,0⟩
def zTJ:FB 1 clr:=⟨zB0,zBK,zBK,zBK,zBK⟩
end DL
end
section
namespace DL
open PySem Spec PyProof.Rows L2
inductive W where
 | dat (d:D) | loc (n:Nat) | tup (l:List W) | obj (c:Str) (ns:List Str) (l:List W) | ob (c:Str) (ns:List Str) (n:Nat) | di (t:Bool) (n:Nat)
noncomputable instance:Inhabited W:=⟨.dat .non⟩
abbrev Mem:=List (List W)
inductive CK where
 | lst | ins (c:Str) (ns:List Str) | dic (t:Bool)
abbrev CA:=Addr×CK
noncomputable def mutK (ns:List Str):Bool:=ns.any λn=>n==("grounds":Str)||n==("shapes":Str)
noncomputable def mutF (fs:List (Str×V)):Bool:=mutK (fs.map (·.1))
noncomputable def fz1:HO->Option HO
 | .tup xs=>some (.tup xs)
 | .frz o u=>some (.frz o u)
 | .ins C dx fs=>if mutF fs=true then none else some (.ins C dx fs)
 | _=>none
noncomputable def fzH (H:Hp):Hp:=λb=>(H b).bind fz1
def zTC (h:fz1 o=some u):u=o:=by
 cases o<;>first | cases h;rfl | cases h | skip
 rename_i C a fs;replace h:(if mutF fs=true then none else some _)=some u:=h;grind
def zCj :fzH H b=some o<->H b=some o/\fz1 o=some o:=by
 unfold fzH;constructor
 .intro h;obtain⟨u,e,h⟩:=bind_some h;have:=zTC h
  simp_all
 .simp_all
def zBf :Same (fzH H) H:=λb o h=>(zCj.mp h).1
def zFH (h:H a=some (.frz o u)):fzH H a=some (.frz o u):=zCj.mpr ⟨h,rfl⟩
def zIF (h:H a=some (.ins C dx fs))(n:mutF fs=false):fzH H a=some (.ins C dx fs):=zCj.mpr ⟨h,by show (if mutF fs=true then none else some _)=_;rw[n];rfl⟩
def zA0 (h:Same H H'):Same (fzH H) (fzH H'):=λb o q=>let ⟨q1,q2⟩:=zCj.mp q;zCj.mpr ⟨h _ _ q1,q2⟩
def zK7 (h:H a=some u)(h1:fz1 u=none)(h2:fz1 o=none):fzH (upd H a o)=fzH H:=by
 funext b;unfold fzH;by_cases e:b=a
 .subst e;rw[zAc,h];exact h2.trans h1.symm
 .rw [zAX e]
def zK8 (h:H a=some (.lst xs)):fzH (upd H a (.lst ys))=fzH H:=zK7 h rfl rfl
def zIN (h:zEh gs=true):mutF gs=false:=by
 unfold zEh zLg at h;rw[x8,all_eq_true] at h;unfold mutF mutK;rw[List.any_eq_false];intro n a z;have q:=h.2 n a;rw[Bool.or_eq_true,beq_iff_eq,beq_iff_eq] at z;rcases z with rfl | rfl
 .exact absurd q (by decide)
 .exact absurd q (by decide)
abbrev Kp (H H':Hp):Prop:=Same (fzH H) (fzH H')
def Kp.refl (H:Hp):Kp H H:=Same.refl _
def zRM {K:W.Frag}(h:SqT K H a xs):SqT K (fzH H) a xs:=by
 rcases h with (h | ⟨o,h⟩) | h
 .exact .inl (.inl ((zCj.mpr ⟨h,rfl⟩)))
 .exact .inl (.inr ⟨o,zFH h⟩)
 .exact .inr h
mutual
noncomputable def noL:D->Bool
 | .lst _=>false
 | .tup ds=>noLs ds
 | .lam _ _ ds=>noLs ds
 | .obj _ _ ds=>noLs ds
 | .dct _=>false
 | _=>true
noncomputable def noLs:List D->Bool
 | []=>true
 | d::ds=>noL d&&noLs ds
end
section
variable {K:W.Frag}{H:Hp}
mutual
theorem Den.fz:∀ {d:D} {v:V},noL d=true->Den K H d v->Den K (fzH H) d v
 | .non,_,_,h=>by rw[Den] at h ⊢;exact h
 | .bl _,_,_,h=>by rw[Den] at h ⊢;exact h
 | .int _,_,_,h=>by rw[Den] at h ⊢;exact h
 | .str _,_,_,h=>by rw[Den] at h ⊢;exact h
 | .lst _,_,n,_=>by rw[noL] at n;cases n
 | .tup ds,_,n,h=>by
  rw[noL] at n;rw[Den] at h ⊢;obtain⟨a,vs,h1,h2,h3⟩:=h;exact⟨a,vs,h1,zRM h2,DenL.fz n h3⟩
 | .exc c,_,_,h=>by
  rw[Den] at h ⊢;obtain⟨a,o,u,C,h1,h2,h3⟩:=h;exact⟨a,o,u,C,h1,zFH h2,h3⟩
 | .dct _,_,n,_=>by rw[noL] at n;cases n
 | .lam _ L ds,_,n,h=>by
  rw[noL] at n;rw[Den] at h ⊢;obtain⟨a,vs,h1,⟨cl,pm,c,ctv,oc,u1,g1,g2,g3,g4,g5,g6⟩,h3⟩:=h;exact⟨a,vs,h1,⟨cl,pm,c,ctv,oc,u1,zFH g1,zFH g2,g3,g4,g5,Paired.mapP g6 λ_ _ zy143=>by obtain⟨o,u,k1,k2⟩:=zy143;exact⟨o,u,zFH k1,k2⟩⟩,DenL.fz n h3⟩
 | .obj _ ns ds,_,n,h=>by
  rw[noL] at n;rw[Den] at h ⊢;obtain⟨a,vs,h1,⟨C,dx,gs,g1,g2⟩,h3⟩:=h;exact⟨a,vs,h1,⟨C,dx,gs,zIF g1 (zIN g2.1),g2⟩,DenL.fz n h3⟩
 | .fn _ _,_,_,h=>by rw[Den] at h ⊢;exact h
theorem DenL.fz:∀ {ds:List D} {vs:List V},noLs ds=true->DenL K H ds vs->DenL K (fzH H) ds vs
 | [],_,_,h=>by rw[DenL] at h ⊢;exact h
 | d::ds,_,n,h=>by
  rw[noLs,x8] at n;rw[DenL] at h ⊢;obtain⟨v,ws,h1,h2,h3⟩:=h;exact⟨v,ws,h1,Den.fz n.1 h2,DenL.fz n.2 h3⟩
end
end
mutual
noncomputable def DenW (K:W.Frag)(H:Hp)(T:List CA):W->V->Prop
 | .dat d,v=>Den K (fzH H) d v
 | .loc n,v=>∃ a,T[n]?=some (a,.lst)/\v=.ref a
 | .ob c ns n,v=>∃ a,T[n]?=some (a,.ins c ns)/\v=.ref a
 | .di t n,v=>∃ a,T[n]?=some (a,.dic t)/\v=.ref a
 | .tup ws,v=>∃ a vs,v=.ref a/\fzH H a=some (.tup vs)/\DenWL K H T ws vs
 | .obj c ns ws,v=>∃ a vs,v=.ref a/\zMA K (fzH H) c ns a vs/\DenWL K H T ws vs
noncomputable def DenWL (K:W.Frag)(H:Hp)(T:List CA):List W->List V->Prop
 | [],vs=>vs=[]
 | w::ws,vs=>∃ v us,vs=v::us/\DenW K H T w v/\DenWL K H T ws us
end
def zDE {M:List CA}{n:Nat}{a:CA}(h:T[n]?=some a):(T++M)[n]?=some a:=by rw[getElem?_append_left (zzg h).1];exact h
section
variable {K:W.Frag}{H H':Hp}{T:List CA}
mutual
theorem DenW.monoF (e:zCn (fzH H) (fzH H'))(M:List CA):∀ {w:W} {v:V},DenW K H T w v->DenW K H' (T++M) w v
 | .dat _,_,h=>by rw[DenW] at h ⊢;exact h.monoF e
 | .loc n,_,h=>by
  rw[DenW] at h ⊢;obtain⟨a,h1,h2⟩:=h;exact⟨a,zDE h1,h2⟩
 | .ob c ns n,_,h=>by
  rw[DenW] at h ⊢;obtain⟨a,h1,h2⟩:=h;exact⟨a,zDE h1,h2⟩
 | .di t n,_,h=>by
  rw[DenW] at h ⊢;obtain⟨a,h1,h2⟩:=h;exact⟨a,zDE h1,h2⟩
 | .tup ws,_,h=>by
  rw[DenW] at h ⊢;obtain⟨a,vs,h1,h2,h3⟩:=h;exact⟨a,vs,h1,e _ _ h2 (λ_ _ _ z=>nomatch z),DenWL.monoF e M h3⟩
 | .obj c ns ws,_,h=>by
  rw[DenW] at h ⊢;obtain⟨a,vs,h1,h2,h3⟩:=h;exact⟨a,vs,h1,h2.monoF e,DenWL.monoF e M h3⟩
theorem DenWL.monoF (e:zCn (fzH H) (fzH H'))(M:List CA):∀ {ws:List W} {vs:List V},DenWL K H T ws vs->DenWL K H' (T++M) ws vs
 | [],_,h=>by rw[DenWL] at h ⊢;exact h
 | w::ws,_,h=>by
  rw[DenWL] at h ⊢;obtain⟨v,us,h1,h2,h3⟩:=h;exact⟨v,us,h1,DenW.monoF e M h2,DenWL.monoF e M h3⟩
end
def DenW.mono (e:Kp H H')(M:List CA)(h:DenW K H T w v):DenW K H' (T++M) w v:=h.monoF (λb o q _=>e b o q) M
def DenWL.mono (e:Kp H H')(M:List CA)(h:DenWL K H T ws vs):DenWL K H' (T++M) ws vs:=h.monoF (λb o q _=>e b o q) M
def DenW.keep (e:Kp H H')(h:DenW K H T w v):DenW K H' T w v:=by
 have:=h.mono e []
 simp_all
def DenWL.keep (e:Kp H H')(h:DenWL K H T ws vs):DenWL K H' T ws vs:=by
 have:=h.mono e []
 simp_all
def DenWL.nil:DenWL K H T [] []:=rfl
def DenWL.cons (h:DenW K H T w v)(t:DenWL K H T ws vs):DenWL K H T (w::ws) (v::vs):=⟨v,vs,rfl,h,t⟩
def DenWL.length:∀ {ws:List W} {vs:List V},DenWL K H T ws vs->ws.length=vs.length
 | [],_,h=>by rw[DenWL] at h;rw[h];rfl
 | _::ws,_,h=>by
  rw[DenWL] at h;obtain⟨v,us,h1,h2,h3⟩:=h;rw[h1,xY,xY,DenWL.length h3]
def DenWL.get:∀ {ws:List W} {vs:List V} {i:Nat} {w:W},DenWL K H T ws vs->ws[i]?=some w->∃ v,vs[i]?=some v/\DenW K H T w v
 | [],_,_,_,_,e=>by simp at e
 | x::ws,_,i,w,h,e=>by
  rw[DenWL] at h;obtain⟨v,us,h1,h2,h3⟩:=h;subst h1;cases i with
  | zero=>simp at e;subst e;exact⟨v,by simp,h2⟩
  | succ i =>
   obtain⟨u,b,a⟩:=DenWL.get (i:=i) (w:=w) h3 (by simpa using e);exact⟨u,by simpa using b,a⟩
def DenWL.append:∀ {ws xs:List W} {vs us:List V},DenWL K H T ws vs->DenWL K H T xs us->DenWL K H T (ws++xs) (vs++us)
 | [],_,_,_,h,t=>by rw[DenWL] at h;subst h;exact t
 | _::ws,_,_,_,h,t=>by
  rw[DenWL] at h;obtain⟨v,us',h1,h2,h3⟩:=h;subst h1;exact .cons h2 (DenWL.append h3 t)
def DenWL.set (a:DenW K H T w v):∀ {ws:List W} {vs:List V} (n:Nat),DenWL K H T ws vs->DenWL K H T (ws.set n w) (vs.set n v)
 | [],_,n,h=>by rw[DenWL] at h;subst h;exact .nil
 | _::ws,_,n,h=>by
  rw[DenWL] at h;obtain⟨u,us,h1,h2,h3⟩:=h;subst h1;cases n with
  | zero=>exact .cons a h3
  | succ n=>exact .cons h2 (DenWL.set a n h3)
def DenWL.dats:∀ {ds:List D} {vs:List V},DenL K (fzH H) ds vs->DenWL K H T (ds.map .dat) vs
 | [],_,h=>by rw[DenL] at h;subst h;exact .nil
 | d::ds,_,h=>by
  rw[DenL] at h;obtain⟨v,us,h1,h2,h3⟩:=h;subst h1;exact .cons (by rw[DenW];exact h2) (DenWL.dats h3)
end
noncomputable def kI:W->Option (List Int)
 | .dat (.int i)=>some [i]
 | .tup [.dat (.int i),.dat (.int j)]=>some [i,j]
 | _=>none
noncomputable def encK:List Int->Option Key
 | [i]=>some (Sum.inl i)
 | _=>none
noncomputable def encT:List Int->Option (List Key)
 | [i,j]=>some [Sum.inl i,Sum.inl j]
 | _=>none
def zEx {a:Type}(K:W.Frag)(H:Hp)(T:List CA)(enc:List Int->Option a):List W->List (a×V)->Prop
 | [],kvs=>kvs=[]
 | w::ws,kvs=>∃ d ks k u v r,w=.tup [d,u]/\kI d=some ks/\enc ks=some k/\kvs=(k,v)::r/\DenW K H T u v/\zEx K H T enc ws r
theorem zEx.monoF {a:Type}{K:W.Frag}{H H':Hp}{T:List CA}{enc:List Int->Option a}(e:zCn (fzH H) (fzH H'))(M:List CA):∀ {ws:List W} {kvs:List (a×V)},zEx K H T enc ws kvs->zEx K H' (T++M) enc ws kvs
 | [],_,h=>h
 | _::ws,_,⟨d,ks,k,u,v,r,h1,h2,h3,h4,h5,h6⟩=>⟨d,ks,k,u,v,r,h1,h2,h3,h4,h5.monoF e M,zEx.monoF e M h6⟩
def zEx.mono {a:Type}{K:W.Frag}{H f:Hp}{T:List CA}{d:List Int->Option a}(e:Kp H f)(M:List CA){ws:List W}{c:List (a×V)}(h:zEx K H T d ws c):zEx K f (T++M) d ws c:=h.monoF (λb o q _=>e b o q) M
def zBv (K:W.Frag)(H:Hp)(T:List CA)(a:Addr)(ws:List W):CK->Prop
 | .lst=>∃ vs,H a=some (.lst vs)/\DenWL K H T ws vs
 | .ins c ns=>∃ C dx gs,H a=some (.ins C dx gs)/\mutF gs=true/\zBy K c C/\gs.map (·.1)=ns/\DenWL K H T ws (gs.map (·.2))
 | .dic false=>∃ kvs,H a=some (.dK kvs)/\zEx K H T encK ws kvs
 | .dic true=>∃ kvs,H a=some (.dT kvs)/\zEx K H T encT ws kvs
def zBv.monoF {K:W.Frag}(h:zBv K H T a ws k)(e:zCn (fzH H) (fzH H'))(q:H' a=H a)(M:List CA):zBv K H' (T++M) a ws k:=by
 match k,h with
 | .lst,⟨vs,h1,h2⟩=>exact⟨vs,q.trans h1,h2.monoF e M⟩
 | .ins c ns,⟨C,dx,gs,h1,h2,h3,h4,h5⟩=>exact⟨C,dx,gs,q.trans h1,h2,h3,h4,h5.monoF e M⟩
 | .dic false,⟨kvs,h1,h2⟩=>exact⟨kvs,q.trans h1,h2.monoF e M⟩
 | .dic true,⟨kvs,h1,h2⟩=>exact⟨kvs,q.trans h1,h2.monoF e M⟩
def zBv.mono {K:W.Frag}(h:zBv K H T a ws k)(e:Kp H H')(q:H' a=H a)(M:List CA):zBv K H' (T++M) a ws k:=h.monoF (λb o q _=>e b o q) q M
theorem zBv.some {K:W.Frag}(h:zBv K H T a ws k):∃ o,H a=some o/\fz1 o=none:=by
 match k,h with
 | .lst,⟨vs,h1,h2⟩=>exact⟨_,h1,rfl⟩
 | .ins c ns,⟨C,dx,gs,h1,h2,h3,h4,h5⟩=>exact⟨_,h1,if_pos h2⟩
 | .dic false,⟨kvs,h1,h2⟩=>exact⟨_,h1,rfl⟩
 | .dic true,⟨kvs,h1,h2⟩=>exact⟨_,h1,rfl⟩
structure zAJ (K:W.Frag)(H:Hp)(T:List CA)(G:Mem):Prop where
 len:T.length=G.length
 nd:(T.map (·.1)).Nodup
 at_:∀ (n:Nat) ws,G[n]?=some ws->∃ p:CA,T[n]?=some p/\zBv K H T p.1 ws p.2
structure MS (K:W.Frag)(H:Hp)(T:List CA)(G:Mem)(B:St)(O:List (Option W)):Prop where
 cells:zAJ K H T G
 len:B.length=O.length
 get:∀ (i:Nat) w,O[i]?=some (some w)->∃ v,B[i]?=some (some v)/\DenW K H T w v
section
variable {K:W.Frag}{H H':Hp}{T:List CA}{G:Mem}
def zAJ.cell (c:zAJ K H T G){n:Nat}(d:T[n]?=some (a,k)):∃ ws,G[n]?=some ws/\zBv K H T a ws k:=by
 have b:n < G.length:=by rw[<- c.len];exact(zzg d).1
 obtain _:=c.at_ n _ (getElem?_eq_getElem b)
 simp_all
def zAJ.cell' (c:zAJ K H T G){n:Nat}(b:T[n]?=some (a,k))(g:G[n]?=some ws):zBv K H T a ws k:=by
 obtain⟨d,e,f⟩:=c.cell b;grind
def zAJ.loc (c:zAJ K H T G){n:Nat}(b:T[n]?=some (a,.lst)):∃ ws vs,G[n]?=some ws/\H a=some (.lst vs)/\DenWL K H T ws vs :=
 let ⟨ws,h1,vs,h2⟩:=c.cell b;⟨ws,vs,h1,h2⟩
def zAJ.loc' (c:zAJ K H T G){n:Nat}(b:T[n]?=some (a,.lst))(d:G[n]?=some ws):∃ vs,H a=some (.lst vs)/\DenWL K H T ws vs:=c.cell' b d
def zAJ.same (h:zAJ K H T G)(e:Same H H'):zAJ K H' T G :=
 ⟨h.len,h.nd,λn a q=>let ⟨p,h1,h2⟩:=h.at_ n a q;let ⟨_,g,_⟩:=h2.some;⟨p,h1,by have:=h2.mono (zA0 e) ((e _ _ g).trans g.symm) [];rwa [append_nil] at this⟩⟩
def zAJ.out (h:zAJ K H T G)(f:H x=some o)(e:fz1 o=some u):x∉T.map (·.1):=λz=>by
 obtain⟨p,c,rfl⟩:=mem_map.mp z;obtain⟨i,a,d⟩:=List.mem_iff_getElem.mp c;obtain⟨j,g,b⟩:=h.at_ i _ (getElem?_eq_getElem (by rw[<- h.len];exact a))
 simp_all
 obtain _:=b.some;grind
def zAJ.outN (h:zAJ K H T G)(f:H x=none):x∉T.map (·.1):=λz=>by
 obtain⟨p,c,rfl⟩:=mem_map.mp z;obtain⟨i,a,e⟩:=List.mem_iff_getElem.mp c;obtain⟨d,g,b⟩:=h.at_ i _ (getElem?_eq_getElem (by rw[<- h.len];exact a));obtain _:=b.some
 simp_all
def zAJ.more (h:zAJ K H T G){a:Addr}{k:CK}{ws:List W}(n:a∉T.map (·.1))(t:zBv K H (T++[(a,k)]) a ws k):zAJ K H (T++[(a,k)]) (G++[ws]):=by
 refine⟨by rw[qQ,qQ,h.len];rfl,?_,λm e q=>?_⟩
 .rw [xJ,List.nodup_append];refine⟨h.nd,by simp,λb g c f=>?_⟩;rw[mem_singleton.mp f];rintro rfl;exact n g
 .by_cases lt:m < G.length
  .rw [getElem?_append_left lt] at q;obtain⟨p,d,i⟩:=h.at_ m e q;exact⟨p,zDE d,i.mono (Kp.refl H) rfl _⟩
  .rw [getElem?_append_right (by omega)] at q;have b:m - G.length=0:=by
    have:=(zzg q).1
    simp_all
   rw[b] at q;cases q;exact⟨_,by rw[getElem?_append_right (by rw[h.len];omega),h.len,b];rfl,t⟩
def zAJ.newG (h:zAJ K H T G)(e:Same H H')(n:H a=none)(t:zBv K H' (T++[(a,k)]) a ws k):zAJ K H' (T++[(a,k)]) (G++[ws]):=(h.same e).more (h.outN n) t
def zAJ.new (h:zAJ K H T G)(e:Same H H')(n:H a=none)(b:H' a=some (.lst vs))(t:DenWL K H' (T++[(a,.lst)]) ws vs):zAJ K H' (T++[(a,.lst)]) (G++[ws]):=h.newG e n ⟨vs,b,t⟩
def zAJ.chgG (h:zAJ K H T G)(z:n < G.length)(g:T[n]?=some (a,k))(h2:fz1 o=none)(t:Kp H (upd H a o)->zBv K (upd H a o) T a ws k):zAJ K (upd H a o) T (G.set n ws)/\Kp H (upd H a o):=by
 have j:Kp H (upd H a o):=by
  obtain⟨_,_,h4⟩:=h.cell g;obtain⟨_,s,x⟩:=h4.some;show Same _ _;rw[zK7 s x h2];exact Same.refl _
 refine⟨⟨by rw[length_set];exact h.len,h.nd,λm v q=>?_⟩,j⟩;by_cases e:n=m
 .simp_all
 .rw [getElem?_set_ne e] at q;obtain⟨p,l,y⟩:=h.at_ m v q;have u:p.1≠a:=by
   rintro rfl;have w:(T.map (·.1))[n]?=some p.1:=by rw[getElem?_map,g];rfl
   have r:(T.map (·.1))[m]?=some p.1:=by rw[getElem?_map,l];rfl
   obtain⟨d,c⟩:=zzg w;obtain⟨b,i⟩:=zzg r;have f:=List.pairwise_iff_getElem.mp h.nd;rcases Nat.lt_or_gt_of_ne e with lt | lt
   .exact f n m d b lt (c.trans i.symm)
   .exact f m n b d lt (i.trans c.symm)
  have:=y.mono j (zAX u) []
  simp_all
def zAJ.change (h:zAJ K H T G)(c:n < G.length)(b:T[n]?=some (a,.lst))(t:DenWL K H T ws vs):zAJ K (upd H a (.lst vs)) T (G.set n ws):=(h.chgG c b rfl λkp=>⟨vs,zAc,t.keep kp⟩).1
def MS.next (h:MS K H T G B O)(e:Kp H H')(c:zAJ K H' (T++M) G'):MS K H' (T++M) G' B O :=
 ⟨c,h.len,λi w q=>let ⟨v,q1,q2⟩:=h.get i w q;⟨v,q1,q2.mono e M⟩⟩
def MS.set (h:MS K H T G B O)(b:DenW K H T w v):MS K H T G (B.set i (some v)) (O.set i (some w)):=by
 refine⟨h.cells,by rw[length_set,length_set];exact h.len,λj x q=>?_⟩;rcases zAb q with ⟨rfl,z,a⟩ | ⟨ne,z⟩
 .cases z;exact⟨v,zBX (by rw[h.len];exact a),b⟩
 .obtain _:=h.get j x z
  simp_all
end
noncomputable def datA:List Str->List W->List (Str×D)
 | n::ns,.dat d::ws=>(n,d)::datA ns ws
 | _::ns,_::ws=>datA ns ws
 | _,_=>[]
noncomputable def dobj (c:Str)(ns:List Str)(ws:List W):D:=.obj c ((datA ns ws).map (·.1)) ((datA ns ws).map (·.2))
theorem zIQ {K:W.Frag}{gs:List (Str×V)}:∀ {ns:List Str} {ws:List W} {vs:List V},(ns.map λn=>gs.lookup n)=vs.map some->DenWL K H T ws vs->∃ us,(((datA ns ws).map (·.1)).map λn=>gs.lookup n)=us.map some/\DenL K (fzH H) ((datA ns ws).map (·.2)) us
 | [],ws,_,_,_=>⟨[],by unfold datA;rfl,by unfold datA;exact .nil⟩
 | _::_,[],_,_,_=>⟨[],rfl,.nil⟩
 | n::ns,w::ws,vs,h,t=>by
  rw[DenWL] at t;obtain⟨v,us,rfl,t1,t2⟩:=t;simp only[map_cons,List.cons.injEq] at h;obtain⟨zs,z1,z2⟩:=zIQ h.2 t2;cases w with
  | dat d =>
   rw[DenW] at t1;refine⟨v::zs,?_,.cons t1 z2⟩;show gs.lookup n::_=some v::_;rw[h.1,<- z1]
  | loc _=>exact⟨zs,z1,z2⟩
  | tup _=>exact⟨zs,z1,z2⟩
  | ob _ _ _=>exact⟨zs,z1,z2⟩
  | di _ _=>exact⟨zs,z1,z2⟩
  | obj _ _ _=>exact⟨zs,z1,z2⟩
def zIP {K:W.Frag}(h:DenW K H T (.obj c ns ws) v):Den K (fzH H) (dobj c ns ws) v:=by
 obtain⟨a,g,rfl,⟨C,b,d,h1,h2,h3,h4⟩,h5⟩:=h;obtain⟨us,e,f⟩:=zIQ h4 h5;exact⟨a,us,rfl,⟨C,b,d,h1,h2,h3,e⟩,f⟩
mutual
noncomputable def sbW (f:Nat->Option D):W->Option D
 | .dat d=>some d
 | .loc n=>f n
 | .tup ws=>(sbL f ws).map .tup
 | .obj c ns ws=>some (dobj c ns ws)
 | .ob _ _ _=>none
 | .di _ _=>none
noncomputable def sbL (f:Nat->Option D):List W->Option (List D)
 | []=>some []
 | w::ws=>(sbW f w).bind λd=>(sbL f ws).map λds=>d::ds
end
noncomputable def drN (G:Mem):Nat->Nat->Option D
 | 0,_=>none
 | k+1,n=>(G[n]?).bind λws=>(sbL (drN G k) ws).map .lst
noncomputable def drW (G:Mem)(w:W):Option D:=sbW (drN G 6) w
noncomputable def drS (G:Mem)(O:List (Option W)):Dst:=O.map λo=>o.bind λw=>(drW G w).map λd=>(d,false)
section
variable {K:W.Frag}{H:Hp}{T:List CA}{G:Mem}
mutual
theorem zN9 {f:Nat->Option D}(hf:∀ n d a,f n=some d->T[n]?=some (a,.lst)->Den K H d (.ref a)):∀ {w:W} {v:V} {d:D},DenW K H T w v->sbW f w=some d->Den K H d v
 | .dat x,v,d,h,e=>by
  rw[sbW] at e;cases e;rw[DenW] at h;exact h.mono zBf
 | .loc n,v,d,h,e=>by
  rw[sbW] at e;rw[DenW] at h;obtain⟨a,h1,rfl⟩:=h;exact hf n d a e h1
 | .tup ws,v,d,h,e=>by
  rw[sbW] at e;obtain⟨ds,e1,rfl⟩:=x9.mp e;rw[DenW] at h;obtain⟨a,vs,rfl,h2,h3⟩:=h;rw[Den];exact⟨a,vs,rfl,SqT.of (zBf _ _ h2),sb_denL hf h3 e1⟩
 | .obj c ns ws,v,d,h,e=>by
  rw[sbW] at e;cases e;exact(zIP h).mono zBf
 | .ob _ _ _,_,_,_,e=>by rw[sbW] at e;cases e
 | .di _ _,_,_,_,e=>by rw[sbW] at e;cases e
theorem sb_denL {f:Nat->Option D}(hf:∀ n d a,f n=some d->T[n]?=some (a,.lst)->Den K H d (.ref a)):∀ {ws:List W} {vs:List V} {ds:List D},DenWL K H T ws vs->sbL f ws=some ds->DenL K H ds vs
 | [],_,_,h,e=>by
  rw[sbL] at e;cases e;rw[DenWL] at h;subst h;exact .nil
 | w::ws,_,_,h,e=>by
  rw[sbL] at e;obtain⟨d,e1,e⟩:=bind_some e;obtain⟨ds,e2,rfl⟩:=x9.mp e;rw[DenWL] at h;obtain⟨v,us,rfl,h2,h3⟩:=h;exact .cons (zN9 hf h2 e1) (sb_denL hf h3 e2)
end
theorem zLe (c:zAJ K H T G):∀ (k n:Nat) (d:D) (a:Addr),drN G k n=some d->T[n]?=some (a,.lst)->Den K H d (.ref a)
 | 0,_,_,_,e,_=>by cases e
 | k+1,n,d,a,e,ha=>by
  obtain⟨ws,e1,e⟩:=bind_some e;obtain⟨ds,e2,rfl⟩:=x9.mp e;obtain⟨vs,q2,q3⟩:=c.loc' ha e1;rw[Den];exact⟨a,vs,rfl,SqL.of q2,sb_denL (zLe c k) q3 e2⟩
def zLb (c:zAJ K H T G)(h:DenW K H T w v)(e:drW G w=some d):Den K H d v:=zN9 (zLe c 6) h e
def zOh (h:MS K H T G B O):DS K H [] B (drS G O):=by
 refine⟨by unfold drS;rw[qy];exact h.len,λa z=>absurd z (by simp),λi d o q=>?_,λi j d e a c f _ _=>?_⟩
 .unfold drS at q;rw[getElem?_map] at q;obtain⟨x,g,b⟩:=x9.mp q;obtain⟨w,rfl,b⟩:=bind_some b;obtain⟨m,l,k⟩:=x9.mp b;cases k;obtain⟨v,c,f⟩:=h.get i w g;exact⟨v,c,.of_den (zLb h.cells f l)⟩
 .unfold drS at c;rw[getElem?_map] at c;obtain⟨x,g,b⟩:=x9.mp c;obtain _:=bind_some b
  simp_all
end
structure Mst where
 O:List (Option W)
 G:Mem
abbrev MR:=W×Mem
def gM (K:W.Frag)(g:Mst->Option MR):TE:=λB H Q=>∃ T O G r,MS K H T G B O/\g ⟨O,G⟩=some r/\∀ v H' M,Kp H H'->zAJ K H' (T++M) r.2->DenW K H' (T++M) r.1 v->Q v H'
def GM (X:Cx)(e:Expr)(g:Mst->Option MR):Prop:=PE X e (gM X.K g)
noncomputable def zG0 (r:R)(G:Mem):Option MR:=match r with
 | (d,.cl)=>if noL d=true then some (.dat d,G) else none
 | (.lst es,.fr)=>if noLs es=true then some (.loc G.length,G++[es.map .dat]) else none
 | _=>none
noncomputable def zMw (f:Dst->Option R):Mst->Option MR:=λs=>(f (drS s.G s.O)).bind λr=>zG0 r s.G
def zIc {K:W.Frag}(c:zAJ K H T G)(e:Same H H')(h:RV K H H' [] r v)(q:zG0 r G=some z):∃ M,zAJ K H' (T++M) z.2/\DenW K H' (T++M) z.1 v:=by
 unfold zG0 at q;split at q
 .rename_i d;by_cases n:noL d=true
  .rw [if_pos n] at q;cases q;refine⟨[],by rw[append_nil];exact c.same e,?_⟩;rw[DenW];exact h.fz n
  .rw [if_neg n] at q;cases q
 .rename_i es;by_cases n:noLs es=true
  .rw [if_pos n] at q;cases q;obtain⟨a,i,j,rfl,g,_,f,b,t⟩:=h;cases g;refine⟨[(a,.lst)],c.new e f b (DenWL.dats ((t.mono zAo).fz n)),?_⟩;rw[DenW];exact⟨a,by show _[G.length]?=_;rw[getElem?_append_right (by rw[c.len];omega),c.len,sub_self];rfl,rfl⟩
  .rw [if_neg n] at q;cases q
 .cases q
def zQH (h:GE X e f):GM X e (zMw f):=h.imp λB H Q a=>by
 obtain⟨T,O,G,z,d,q,c⟩:=a;obtain⟨r,j,q⟩:=bind_some q;refine⟨[],drS G O,r,zOh d,j,λv g b r1=>?_⟩;obtain⟨M,i,d1⟩:=zIc d.cells b r1 q;exact c v g M (zA0 b) i d1
section
variable {X:Cx}
noncomputable def varM (i:Nat):Mst->Option MR:=λs=>match s.O[i]? with
 | some (some w)=>some (w,s.G)
 | _=>none
def zSl (f:X.N[i]?=some x)(g:Vis X.env.scope x)(j:(x==("__debug__":Str))=false)(b:(x==("__classdict__":Str))=false):GM X (.Name x pos) (varM i):=by
 refine(zDS f g j b).imp λB H Q a=>?_
 obtain⟨T,O,G,r,d,q,c⟩:=a;unfold varM at q;split at q
 .rename_i w e;cases q;obtain⟨v,h,k⟩:=d.get i w e;exact⟨v,h,c v H [] (Kp.refl H) (by rw[append_nil];exact d.cells) (by simp_all)⟩
 .cases q
abbrev MA:=List W×Mem
def gAM (K:W.Frag)(g:Mst->Option MA):TA:=λB H Q=>∃ T O G r,MS K H T G B O/\g ⟨O,G⟩=some r/\∀ vs H' M,Kp H H'->zAJ K H' (T++M) r.2->DenWL K H' (T++M) r.1 vs->Q vs H'
def GAM (X:Cx)(es:List Expr)(g:Mst->Option MA):Prop:=PA X es (gAM X.K g)
noncomputable def nilM:Mst->Option MA:=λs=>some ([],s.G)
def zQS:GAM X [] nilM:=zBE.imp λB H Q a=>by
 obtain⟨T,O,G,r,b,q,c⟩:=a;cases q;exact c [] H [] (Kp.refl H) (by rw[append_nil];exact b.cells) .nil
noncomputable def zNk (f:Mst->Option MR)(g:Mst->Option MA):Mst->Option MA:=λs=>(f s).bind λw=>(g ⟨s.O,w.2⟩).bind λws=>some (w.1::ws.1,ws.2)
def zNL (k:GM X e f)(n:GAM X es g)(l:starEach (e::es) X.env=(false,eval e X.env)::starEach es X.env):GAM X (e::es) (zNk f g):=by
 refine(zAj k n l).imp λB H Q a=>?_
 obtain⟨T,O,G,r,b,q,c⟩:=a;obtain⟨w,s,q⟩:=bind_some q;obtain⟨j,o,q⟩:=bind_some q;cases q;refine⟨T,O,G,w,b,s,λv t i k1 m d1=>⟨T++i,O,w.2,j,b.next k1 m,o,λvs p h d u v=>?_⟩⟩;refine c _ p (i++h) (k1.trans d) (by simp_all) (.cons ?_ ?_)
 .rw [<- q0];exact d1.mono d h
 .simp_all
noncomputable def lstM (g:Mst->Option MA):Mst->Option MR:=λs=>(g s).bind λr=>if r.1.length<=10000 then some (.loc r.2.length,r.2++[r.1]) else none
def zDn {K:W.Frag}(c:zAJ K H T G):DenW K H' (T++[(a,.lst)]) (.loc G.length) (.ref a):=by
 exact⟨a,by rw[getElem?_append_right (by rw[c.len];omega),c.len,sub_self];rfl,rfl⟩
abbrev MF:=List W->Mem->Option MR
def spM (K:W.Frag)(F:MF):Sp:=λvs H Q _=>∃ T G ws r,zAJ K H T G/\DenWL K H T ws vs/\F ws G=some r/\∀ v H' M,Kp H H'->zAJ K H' (T++M) r.2->DenW K H' (T++M) r.1 v->Q v H'
noncomputable def zLu (F:MF)(g:Mst->Option MA):Mst->Option MR:=λs=>(g s).bind λws=>F ws.1 ws.2
def zQJ {k:Nat}{f:Addr}{fd:FuncData}{ps:List Str}{F:MF}{x:Str}{p pos:Pos}{e:Expr}{es:List Expr}{g:Mst->Option MA}(z:FnOk X.prog X.w X.K X.mg X.base CX0 k f fd ps (spM X.K F))(n:Room k X.A)(u:Gl X x)(w:X.mg x=some (.ref f))
  (h:W.keepIn X.K (.ref f)=true) (s:zBP X.K fd ps []) (l:GAM X (e::es) g) (a:(x==("__debug__":Str))=false) (j:starEach (e::es) X.env=(false,eval e X.env)::starEach es X.env) (b:∀ pos,(backTo pos (starEach es X.env)).any (·.1)=false) :
  GM X (.Call (.Name x p) (e::es) [] pos) (zLu F g) :=
 (zJ8 z n u w h s .nil zHJ l a j (b pos)).imp λ_ _ _ q=>(by obtain⟨T,O,G,r,o,q,c⟩:=q;obtain⟨d,t,q⟩:=bind_some q;refine⟨T,O,G,d,o,t,λvs B M k1 y d1=>?_⟩;simp;exact⟨T++M,d.2,d.1,r,y,d1,q,λv m i A D C=>c v m (M++i) (k1.trans A) (by simp_all) (by simp_all)⟩)
noncomputable def opM (o:D->D->Option R)(x y:W)(G:Mem):Option MR:=(drW G x).bind λa=>(drW G y).bind λb=>(o a b).bind λr=>zG0 r G
noncomputable def twoM (f g:Mst->Option MR)(o:W->W->Mem->Option MR):Mst->Option MR:=λs=>(f s).bind λx=>(g ⟨s.O,x.2⟩).bind λy=>o x.1 y.1 y.2
def OpW (K:W.Frag)(r:R2)(o:W->W->Mem->Option MR):Prop :=
 ∀ (H:Hp) (T:List CA) (G:Mem) (x y:W) (z:MR) (vx vy:V) (Q:VK),zAJ K H T G->o x y G=some z->DenW K H T x vx->DenW K H T y vy->(∀ v H' M,Kp H H'->zAJ K H' (T++M) z.2->DenW K H' (T++M) z.1 v->Q v H')->r vx vy H Q
def zOM {K:W.Frag}(h:OpD K r o):OpW K r (opM o):=λH T G x y z m l Q c e f k n=>by
 obtain⟨a,t,e⟩:=bind_some e;obtain⟨b,j,e⟩:=bind_some e;obtain⟨q,s,p⟩:=bind_some e;refine h [] H a b q m l Q (λa z=>absurd z (by simp)) s (.inl (zLb c f t)) (.inl (zLb c k j)) λv g d r1=>?_
 obtain⟨M,i,d1⟩:=zIc c d r1 p;exact n v g M (zA0 d) i d1
def zFr {r:R2}{o:W->W->Mem->Option MR}{f g:Mst->Option MR}(h:OpW X.K r o){B:St}{H:Hp}{Q:VK}(q:gM X.K (twoM f g o) B H Q):tOp r (gM X.K f) (gM X.K g) B H Q:=by
 obtain⟨T,O,G,z,e,q,c⟩:=q;obtain⟨x,t,q⟩:=bind_some q;obtain⟨y,p,q⟩:=bind_some q;refine⟨T,O,G,x,e,t,λvx u d k1 s d1=>⟨T++d,O,x.2,y,e.next k1 s,p,λvy j b a i l=>?_⟩⟩;refine h j _ y.2 x.1 y.1 z vx vy Q i q (d1.mono a b) l λv m n k A w=>c v m (d++b++n) (k1.trans (a.trans k)) ?_ ?_
 .grind
 .simp_all
noncomputable def ixW (x y:W)(G:Mem):Option MR:=match x,y with
 | .loc n,.dat (.int i)=>(G[n]?).bind λws=>(atI ws i).map λw=>(w,G)
 | .tup ws,.dat (.int i)=>(atI ws i).map λw=>(w,G)
 | .dat (.tup ds),.dat (.int i)=>(atI ds i).map λd=>(.dat d,G)
 | .dat (.lst ds),.dat (.int i)=>(atI ds i).map λd=>(.dat d,G)
 | _,_=>none
theorem DenWL.atI {K:W.Frag}(h:DenWL K H T ws vs)(e:atI ws i=some w):∃ v,L2.atI vs i=some v/\DenW K H T w v:=by
 unfold L2.atI at e ⊢;obtain⟨j,e1,e2⟩:=bind_some e;obtain⟨v,q1,q2⟩:=h.get e2;refine⟨v,?_,q2⟩;rw[<- h.length,e1];exact q1
def zRr:OpW X.K (λx y H Q=>rIxL X.K x y H Q\/rIxT X.K x y H Q) ixW:=λH T G x y z A B Q c e g f n=>by
 have h:∀ {w:W} {v:V},DenW X.K H T w v->z=(w,G)->Q v H:=λ{w v} d t=>by
  subst t;exact n v H [] (Kp.refl H) (by rw[append_nil];exact c) (by rw[append_nil];exact d)
 unfold ixW at e;split at e
 .rename_i m i;obtain⟨p,u,e⟩:=bind_some e;obtain⟨w,l,e⟩:=x9.mp e;rw[DenW] at g;rw[DenW] at f;rw[Den] at f;obtain⟨b,h1,rfl⟩:=g;obtain⟨j,s,r⟩:=c.loc' h1 u;obtain⟨v,o,k⟩:=r.atI l;exact .inl ⟨_,j,i,v,rfl,f,SqL.of s,o,h k e.symm⟩
 .rename_i p i;obtain⟨w,l,e⟩:=x9.mp e;rw[DenW] at g;rw[DenW] at f;rw[Den] at f;obtain⟨a,j,rfl,h2,h3⟩:=g;obtain⟨v,o,k⟩:=h3.atI l;exact .inr ⟨a,j,i,v,rfl,f,SqT.of (zBf _ _ h2),o,h k e.symm⟩
 .rename_i q i;obtain⟨d,l,e⟩:=x9.mp e;rw[DenW] at g;rw[DenW] at f;rw[Den] at g;rw[Den] at f;obtain⟨a,j,rfl,h2,h3⟩:=g;obtain⟨v,o,k⟩:=h3.atI l;exact .inr ⟨a,j,i,v,rfl,f,Same.tupS zBf h2,o,h (w:=.dat d) (by rw[DenW];exact k) e.symm⟩
 .rename_i q i;obtain⟨d,l,e⟩:=x9.mp e;rw[DenW] at g;rw[DenW] at f;rw[Den] at g;rw[Den] at f;obtain⟨a,j,rfl,h2,h3⟩:=g;obtain⟨v,o,k⟩:=h3.atI l;exact .inl ⟨a,j,i,v,rfl,f,zBf.seq h2,o,h (w:=.dat d) (by rw[DenW];exact k) e.symm⟩
 .cases e
end
section
variable {X:Cx}
abbrev MB:=Bool×Mem
def gBM (K:W.Frag)(g:Mst->Option MB):TT:=λB H Q=>∃ T O G r,MS K H T G B O/\g ⟨O,G⟩=some r/\∀ H' M,Kp H H'->zAJ K H' (T++M) r.2->Q r.1 H'
def GTM (X:Cx)(e:Expr)(g:Mst->Option MB):Prop:=PT X e (gBM X.K g)
def GWM (X:Cx)(e:Expr)(g:Mst->Option MB):Prop:=PW X e (gBM X.K g)
noncomputable def asBM (f:Mst->Option MR):Mst->Option MB:=λs=>match f s with
 | some (.dat (.bl b),G)=>some (b,G)
 | _=>none
def zLy (h:asBM f s=some r):f s=some (.dat (.bl r.1),r.2):=by
 unfold asBM at h;split at h
 .rename_i e;cases h;omega
 .cases h
def zK6 {f:Mst->Option MR}{B:St}{H:Hp}{Q:Bool->Hp->Prop}(q:gBM X.K (asBM f) B H Q):gM X.K f B H λx H'=>∃ k,x=.bl k/\Q k H':=by
 obtain⟨T,O,G,r,b,e,c⟩:=q;refine⟨T,O,G,_,b,zLy e,λv H' M k1 a d1=>⟨r.1,?_,c H' M k1 a⟩⟩;exact d1
noncomputable def zMx (k:Dst->Option Bool):Mst->Option MB:=λs=>(k (drS s.G s.O)).map λb=>(b,s.G)
def zNA (h:GT X e k):GTM X e (zMx k):=h.imp λB H Q a=>by
 obtain⟨T,O,G,r,f,q,c⟩:=a;obtain⟨b,i,g⟩:=x9.mp q;cases g;exact⟨[],drS G O,b,zOh f,i,λH' d=>c H' [] (zA0 d) (by rw[append_nil];exact f.cells.same d)⟩
def zP0 (h:GM X e f)(a:∀ whole,isTrue e X.env whole=(do let v<-whole;standAt e.pos;holding [v] (truthy v))):GTM X e (asBM f) :=
 (zOF h a).imp λ_ _ _ q=>zK6 q
noncomputable def andB (f g:Mst->Option MB):Mst->Option MB:=λs=>(f s).bind λr=>if r.1=true then g ⟨s.O,r.2⟩ else some (false,r.2)
noncomputable def orB (f g:Mst->Option MB):Mst->Option MB:=λs=>(f s).bind λr=>if r.1=true then some (true,r.2) else g ⟨s.O,r.2⟩
noncomputable def notB (f:Mst->Option MB):Mst->Option MB:=λs=>(f s).map λr=>(!r.1,r.2)
def zPz {rest:List Expr}(m:GTM X a f)(l:GWM X (.BoolOp .And (b::rest) pos) g):GWM X (.BoolOp .And (a::b::rest) pos) (andB f g):=by
 refine PW.imp (zOE m l) λB H Q d=>?_
 obtain⟨T,O,G,r,h,q,c⟩:=d;obtain⟨⟨b1,j⟩,e1,q⟩:=bind_some q;cases b1 with
 | true =>
  refine⟨T,O,G,_,h,e1,λH1 M k1 e=>iteT ?_⟩;exact⟨T++M,O,j,r,h.next k1 e,q,λH2 i k n=>c H2 (M++i) (k1.trans k) (by simp_all)⟩
 | false =>
  cases q;exact⟨T,O,G,_,h,e1,λH1 M k1 e=>iteF (c H1 M k1 e)⟩
def zSY {rest:List Expr}(i:GTM X a f)(l:GWM X (.BoolOp .Or (b::rest) pos) g):GWM X (.BoolOp .Or (a::b::rest) pos) (orB f g):=by
 refine PW.imp (zRZ i l) λB H Q d=>?_
 obtain⟨T,O,G,r,e,q,c⟩:=d;obtain⟨⟨b1,k⟩,e1,q⟩:=bind_some q;cases b1 with
 | true =>
  cases q;exact⟨T,O,G,_,e,e1,λH1 M k1 h=>iteT (c H1 M k1 h)⟩
 | false =>
  refine⟨T,O,G,_,e,e1,λH1 M k1 h=>iteF ?_⟩;exact⟨T++M,O,k,r,e.next k1 h,q,λH2 m j p=>c H2 (M++m) (k1.trans j) (by grind)⟩
inductive OutM where
 | nx (s:Mst) | rt (r:MR) | bk (s:Mst) | ct (s:Mst)
def zUs (K:W.Frag)(H0:Hp)(α0:List CA)(o:OutM)(E:Ends):Prop:=match o with
 | .nx s=>∀ M B' H',MS K H' (α0++M) s.G B' s.O->Kp H0 H'->E.nx B' H'
 | .bk s=>∀ M B' H',MS K H' (α0++M) s.G B' s.O->Kp H0 H'->E.bk B' H'
 | .ct s=>∀ M B' H',MS K H' (α0++M) s.G B' s.O->Kp H0 H'->E.ct B' H'
 | .rt r=>∀ M v H',zAJ K H' (α0++M) r.2->DenW K H' (α0++M) r.1 v->Kp H0 H'->E.rt v H'
def gSM (K:W.Frag)(H0:Hp)(α0:List CA)(g:Mst->Option OutM):TS:=λE B H=>∃ M s o,MS K H (α0++M) s.G B s.O/\Kp H0 H/\g s=some o/\zUs K H0 α0 o E
def GSM (X:Cx)(st:Stmt)(g:Mst->Option OutM):Prop:=∀ H0 α0,PS X st (gSM X.K H0 α0 g)
def GSsM (X:Cx)(st:List Stmt)(g:Mst->Option OutM):Prop:=∀ H0 α0,PSs X st (gSM X.K H0 α0 g)
noncomputable def seqM (f g:Mst->Option OutM):Mst->Option OutM:=λs=>(f s).bind λo=>match o with
 | .nx s'=>g s'
 | o=>some o
def zNB:GSsM X [] (λs=>some (.nx s)):=λH0 c=>zHF.imp λE B H a=>by
 obtain⟨M,s,o,b,k,e,p⟩:=a;cases e;exact p M B H b k
def zKv {st:Stmt}{rest:List Stmt}(h1:GSM X st f)(h2:GSsM X rest g):GSsM X (st::rest) (seqM f g):=λH0 h=>(zFl (h1 H0 h) (h2 H0 h)).imp λE B H a=>by
 obtain⟨M,s,o,i,k,e,p⟩:=a;obtain⟨d,l,e⟩:=bind_some e;refine⟨M,s,d,i,k,l,?_⟩;cases d with
 | nx b=>exact λM' t q c m=>⟨M',b,o,c,m,e,p⟩
 | rt r=>cases e;exact p
 | bk b=>cases e;exact p
 | ct b=>cases e;exact p
noncomputable def setM (i:Nat)(f:Mst->Option MR):Mst->Option OutM:=λs=>(f s).bind λr=>some (.nx ⟨s.O.set i (some r.1),r.2⟩)
def zKw (u:X.N.Nodup)(m:X.N[i]?=some x)(t:Loc X.env.scope x)(h:GM X e f)(q:swapsWith e (some (.Name x pos')) pos.line X.env=pure false)(j:X.fn x=true\/X.env.scope.names.lookup x=some .local) :
  GSM X (.Assign [.Name x pos'] e pos) (setM i f):=λH0 d=>(zOG u m t h q j).imp λE B H a=>by
 obtain⟨M,s,o,c,k,e,p⟩:=a;obtain⟨r,g,e⟩:=bind_some e;cases e;refine⟨d++M,s.O,s.G,r,c,g,λv n v k1 l d1=>?_⟩;have b:=(c.next k1 l).set (i:=i) d1
 simp_all
 exact p _ _ n b (k.trans k1)
noncomputable def retM (f:Mst->Option MR):Mst->Option OutM:=λs=>(f s).bind λr=>some (.rt r)
def zP5 (h:GM X e f):GSM X (.Return (some e) pos) (retM f):=λH0 g=>(zJ2 h).imp λE B H a=>by
 obtain⟨M,s,o,i,k,e,p⟩:=a;obtain⟨r,c,e⟩:=bind_some e;cases e;refine⟨g++M,s.O,s.G,r,i,c,λv b j k1 d d1=>?_⟩
 simp_all
 exact p _ v b d d1 (k.trans k1)
noncomputable def ifM (c:Mst->Option MB)(f g:Mst->Option OutM):Mst->Option OutM:=λs=>(c s).bind λb=>if b.1=true then f ⟨s.O,b.2⟩ else g ⟨s.O,b.2⟩
def zSf (t:GTM X c k)(r:GSsM X a f)(q:GSsM X b g):GSM X (.If c a b pos) (ifM k f g):=λH0 i=>(zRb t (r H0 i) (q H0 i)).imp λE B H d=>by
 obtain⟨M,s,o,m,l,e,p⟩:=d;obtain⟨⟨b1,v⟩,e1,e⟩:=bind_some e;refine⟨i++M,s.O,s.G,_,m,e1,λH1 j k1 n=>?_⟩;have h:=m.next k1 n
 simp_all
 cases b1 with
 | true =>
  exact iteT ⟨M++j,_,o,h,l.trans k1,e,p⟩
 | false =>
  exact iteF ⟨M++j,_,o,h,l.trans k1,e,p⟩
noncomputable def appM (t f:Mst->Option MR):Mst->Option OutM:=λs=>(t s).bind λx=>match x.1 with
 | .loc n=>(f ⟨s.O,x.2⟩).bind λr=>(r.2[n]?).bind λws=>if ws.length<=10000 then some (.nx ⟨s.O,r.2.set n (ws++[r.1])⟩) else none
 | _=>none
def zP9 (W:GM X b t)(h:GM X e f)
  (E:starEach [e] X.env=[(false,eval e X.env)]) (d:attributeBase b "append" X.env (eval b X.env)=eval b X.env) (c:(apos.endLine==cpos.line)=true) :
  GSM X (.Expr (.Call (.Attribute b "append" apos) [e] [] cpos) pos) (appM t f):=λH0 l=>(zEN (zPF PySem.F.plainAttrs_list PySem.F.slot_list_append PySem.F.type_list_append zGY W (zAj h zBE E) d (by rw[E];rfl) c E rfl) rfl).imp λE B H g=>by
 obtain⟨M,s,o,L,k,e,p⟩:=g;obtain⟨x,U,e⟩:=bind_some e;split at e
 .rename_i n V;obtain⟨r,Y,e⟩:=bind_some e;obtain⟨F,K,e⟩:=bind_some e;by_cases hl:F.length<=10000
  .rw [if_pos hl] at e;cases e;refine⟨l++M,s.O,s.G,x,L,U,λv Z q k1 J d1=>?_⟩;rw[V,DenW] at d1;obtain⟨a,I,rfl⟩:=d1;have u:=L.next k1 J;obtain⟨_,R,_,Q,_⟩:=J.loc I;refine⟨.inl ⟨rfl,_,SqL.of Q⟩,l++M++q,s.O,x.2,r,u,Y,λy A i P C S=>?_⟩;have w:=u.next P C;have j:=zDE (M:=i) I;obtain⟨z,G,O⟩:=C.loc' j K;refine⟨a,z,y,rfl,rfl,G,by rw[<- O.length];exact Nat.lt_of_le_of_lt hl (by decide),?_⟩;have D:n < r.2.length:=(zzg K).1;have N:Kp A (upd A a (.lst (z++[y]))):=by show Same _ _;rw[zK8 G];exact Same.refl _
   have T:=C.change D j (O.append (.cons S .nil));have v:MS X.K (upd A a (.lst (z++[y]))) (l++(M++q++i)) (r.2.set n (F++[r.1])) B s.O:=by
    have m:=w.next (M:=[]) N (by rw[append_nil];exact T);rw[append_nil] at m;rw[show l++(M++q++i)=l++M++q++i by simp];exact m
   exact p (M++q++i) B _ v (k.trans (k1.trans (P.trans N)))
  .rw [if_neg hl] at e;cases e
 .cases e
end
section
variable {X:Cx}{K:W.Frag}{H:Hp}{T:List CA}{G:Mem}{B:St}{O:List (Option W)}
def MS.chg (b:MS K H T G B O){n:Nat}{a:Addr}{us vs:List V}{ws:List W}(c:T[n]?=some (a,.lst))(d:H a=some (.lst us))(t:DenWL K H T ws vs):MS K (upd H a (.lst vs)) T (G.set n ws) B O/\Kp H (upd H a (.lst vs)):=by
 have e:Kp H (upd H a (.lst vs)):=by show Same _ _;rw[zK8 d];exact Same.refl _
 have m:=b.next e (by rw[append_nil];exact b.cells.change (by rw[<- b.cells.len];exact(zzg c).1) c t)
 simp_all
noncomputable def putM (t k f:Mst->Option MR):Mst->Option OutM:=λs=>(f s).bind λr=>(t ⟨s.O,r.2⟩).bind λx=>(k ⟨s.O,x.2⟩).bind λj=>match x.1,j.1 with
 | .loc n,.dat (.int i)=>(j.2[n]?).bind λws=>(ixN ws.length i).bind λm=>some (.nx ⟨s.O,j.2.set n (ws.set m r.1)⟩)
 | _,_=>none
def zP6 {b d e:Expr}{t k f:Mst->Option MR}{pos c:Pos}(Y:GM X b t)(R:GM X d k)(h:GM X e f)
  (T:∀ v,assign (.Subscript b d c) X.env v=(do
   let ov<-holding [v] (eval b X.env)
   let iv<-holding [v,ov] (eval d X.env)
   standAt c
   holding [v,ov,iv] (setItem ov iv v)
   release [v,ov,iv] [])) (S:swapsWithSole [.Subscript b d c] e pos.line X.env=pure false) (hw:swappedStores [.Subscript b d c] e X.env=pure none)
  (h1:(assignEach [.Subscript b d c] X.env).map (·.2)=[assign (.Subscript b d c) X.env]):GSM X (.Assign [.Subscript b d c] e pos) (putM t k f):=λH0 u =>
 (zRe h (zRg Y R zMQ T) S hw h1).imp λE B H g=>by
 obtain⟨M,s,o,z,kp,e,p⟩:=g;obtain⟨r,er,e⟩:=bind_some e;obtain⟨x,U,e⟩:=bind_some e;obtain⟨j,Z,e⟩:=bind_some e;split at e
 .rename_i n i V ei;obtain⟨ws,P,e⟩:=bind_some e;obtain⟨m,W,e⟩:=bind_some e;cases e;refine⟨u++M,s.O,s.G,r,z,er,λy H1 q k1 F d1=>?_⟩;refine⟨u++M++q,s.O,r.2,x,z.next k1 F,U,λv H2 l A O N=>?_⟩;refine⟨u++M++q++l,s.O,x.2,j,(z.next k1 F).next A O,Z,λw H3 w C G L=>?_⟩;rw[V,DenW] at N;obtain⟨a,ga,rfl⟩:=N;rw[ei,DenW,Den] at L;have D:=((z.next k1 F).next A O).next C G;have y:=zDE (M:=w) ga;obtain⟨vs,I,J⟩:=G.loc' y P;refine⟨a,vs,i,m,rfl,L,I,by rw[<- J.length];exact W,?_⟩;have Q:=(d1.mono A l).mono C w;obtain⟨K,E⟩:=D.chg y I (J.set Q m);rw[show u++M++q++l++w=u++(M++q++l++w) by simp] at K;exact p (M++q++l++w) B _ K (kp.trans (k1.trans (A.trans (C.trans E))))
 .cases e
def DenWL.dropLast:∀ {ws:List W} {vs:List V},DenWL K H T ws vs->DenWL K H T ws.dropLast vs.dropLast
 | [],_,h=>by rw[DenWL] at h;subst h;exact .nil
 | [w],_,h=>by
  rw[DenWL] at h;obtain⟨v,us,rfl,h2,h3⟩:=h;rw[DenWL] at h3;subst h3;exact .nil
 | w::w2::ws,_,h=>by
  rw[DenWL] at h;obtain⟨v,us,rfl,h2,h3⟩:=h;have a:=h3;rw[DenWL] at h3;obtain⟨c,b,rfl,_,_⟩:=h3;exact .cons h2 (DenWL.dropLast a)
inductive Src where
 | items (ws:List W) | live (n:Nat)
noncomputable def itm (G:Mem):Src->Option (List W)
 | .items ws=>some ws
 | .live n=>G[n]?
def JOk (K:W.Frag)(J:It)(src:Src)(H1:Hp)(Y6:List CA):Prop :=
 ∀ (i:Nat) (H2:Hp) (P:List CA) (μ2:Mem) (ws:List W),Kp H1 H2->zAJ K H2 (Y6++P) μ2->itm μ2 src=some ws->(ws[i]?=none->J.stop i H2)/\∀ w,ws[i]?=some w->J.go i H2/\∀ v H3,J.yld i H2 v H3->H3=H2/\DenW K H2 (Y6++P) w v
def GIM (X:Cx)(tg iter:Expr)(g:Mst->Option (Src×Mem)):Prop:=∃ wi,PI X tg iter wi/\∀ (B:St) (H:Hp) (T:List CA) (O:List (Option W)) (G:Mem) (r:Src×Mem) (Rr:It->Hp->Prop),MS X.K H T G B O->g ⟨O,G⟩=some r ->
 (∀ J H1 M,Kp H H1->zAJ X.K H1 (T++M) r.2->JOk X.K J r.1 H1 (T++M)->Rr J H1)->wi B H Rr
def GGM (X:Cx)(tg:Expr)(t:W->Mst->Option Mst):Prop:=∃ g,PG X tg g/\∀ (w:W) (v:V) (B:St) (H:Hp) (T:List CA) (s s':Mst) (Q:St->Hp->Prop),MS X.K H T s.G B s.O->DenW X.K H T w v->t w s=some s'->(∀ B',MS X.K H T s'.G B' s'.O->Q B' H)->g v B H Q
noncomputable def tgM (i:Nat):W->Mst->Option Mst:=λw s=>some ⟨s.O.set i (some w),s.G⟩
def zF4 (a:X.N.Nodup)(g:X.N[i]?=some x)(c:Loc X.env.scope x)(d:X.fn x=true\/X.env.scope.names.lookup x=some .local):GGM X (.Name x pos) (tgM i) :=
 ⟨_,zFo a g c d,λw v B H T s h Q f b e q=>by
  cases e;exact q _ (f.set b)⟩
noncomputable def forN (t:W->Mst->Option Mst)(b:Mst->Option OutM)(src:Src):Nat->Nat->Mst->Option OutM
 | 0,_,_=>none
 | f+1,i,s=>(itm s.G src).bind λws=>match ws[i]? with
  | none=>some (.nx s)
  | some w=>(t w s).bind λs1=>(b s1).bind λo=>match o with
   | .nx s'=>forN t b src f (i+1) s'
   | .ct s'=>forN t b src f (i+1) s'
   | .bk s'=>some (.nx s')
   | .rt r=>some (.rt r)
theorem zEb :∀ {f i:Nat} {s:Mst} {o:OutM},forN t b src f i s=some o->forN t b src (f+1) i s=some o
 | 0,_,_,_,h=>by cases h
 | f+1,i,s,o,h=>by
  rw[forN] at h ⊢;obtain⟨ws,e1,h⟩:=bind_some h;rw[e1,qx];cases q:ws[i]? with
  | none=>rw[q] at h;exact h
  | some w =>
   rw[q] at h;dsimp only at h ⊢;obtain⟨s1,e2,h⟩:=bind_some h;obtain⟨o1,e3,h⟩:=bind_some h;rw[e2,qx,e3,qx];cases o1 with
   | nx s'=>exact zEb (f:=f) h
   | ct s'=>exact zEb (f:=f) h
   | bk s'=>exact h
   | rt r=>exact h
def zGi (h:forN t b src f i s=some o)(l:f<=g):forN t b src g i s=some o:=by
 induction g with
 | zero =>
      have:f=0:=by omega
      grind
 | succ g a =>
  by_cases q:f<=g
  .exact zEb (a q)
  .grind
open Classical in
def zEv (t:W->Mst->Option Mst)(b:Mst->Option OutM)(src:Src)(i:Nat)(s:Mst):Option OutM :=
 if h:∃ n o,forN t b src n i s=some o then some (Classical.choose (choose_spec h)) else none
def zNN (h:forN t b src n i s=some o):zEv t b src i s=some o:=by
 have a:∃ n o,forN t b src n i s=some o:=⟨n,o,h⟩;unfold zEv;rw[dif_pos a];have c:=zGi h (Nat.le_max_right (Classical.choose a) n);rw[zGi (choose_spec (choose_spec a)) (Nat.le_max_left _ n)] at c;omega
def zLA (h:zEv t b src i s=some o):∃ n,forN t b src n i s=some o:=by
 unfold zEv at h;by_cases ex:∃ n o,forN t b src n i s=some o
 .grind
 .simp_all
def zP7 (hp:PassesOwn (model X.prog X.w) X.A X.env X.xe)(hc:X.calm=true)(hi:GIM X tg iter f)(K:GGM X tg t)(hb:GSsM X body b)
  (hs:∀ x,foldedSetIterable iter X.env x=pure x):GSM X (.For tg iter body [] pos) (λs=>(f s).bind λr=>zEv t b r.1 0 ⟨s.O,r.2⟩):=by
 intro H0 A;obtain⟨wi,O,hI⟩:=hi;obtain⟨g,K,hG⟩:=K;intro d s B H E I ⟨M,U,o,ms,Q,e,p⟩;obtain⟨r,er,e⟩:=bind_some e;obtain⟨N,eN⟩:=zLA e;refine(zOH (tb:=λE B k=>∃ l S,gSM X.K l S b E B k) hp hc O K ?_ hs) d s B H E I ?_
 .intro d s B H E I ⟨l,S,q⟩;exact hb l S d s B H E I q
 refine hI B H (A++M) U.O U.G r _ ms er λJ l D k1 c1 hJ=>?_
 refine⟨λi m G k=>∃ P h,MS X.K k (A++M++D++P) h.G G h.O/\Kp l k/\forN t b r.1 m i h=some o,⟨N,[],⟨U.O,r.2⟩,by rw[append_nil];exact ms.next k1 c1,Kp.refl _,eN⟩,?_⟩;rintro i m G k ⟨P,h,j,R,a⟩;cases m with
 | zero=>cases a
 | succ m =>
  rw[forN] at a;obtain⟨Z,ew,a⟩:=bind_some a;obtain⟨j1,j2⟩:=hJ i k P h.G Z R j.cells ew;have c:∀ P:List CA,A++M++D++P=A++(M++D++P):=λP=>by simp
  cases q:Z[i]? with
  | none =>
   rw[q] at a;cases a;rw[c] at j;exact .inl ⟨j1 q,p _ G k j (Q.trans (k1.trans R))⟩
  | some w =>
   rw[q] at a;dsimp only at a;obtain⟨s1,e1,a⟩:=bind_some a;obtain⟨W,e2,a⟩:=bind_some a;obtain⟨go,yl⟩:=j2 w q;refine .inr ⟨go,λB3 C=>∃ P h,MS X.K C (A++M++D++P) h.G B3 h.O/\Kp l C/\forN t b r.1 m (i+1) h=some o,λB3 C z=>⟨m,Nat.lt_succ_self m,z⟩,λv C y=>?_⟩;obtain⟨rfl,hv⟩:=yl v C y;refine hG w v G C _ h s1 _ j hv e1 λB4 L=>⟨l,A++M++D,P,s1,W,L,R,e2,?_⟩
   cases W with
   | nx J=>exact λP2 V F u n=>⟨P2,J,u,n,a⟩
   | ct J=>exact λP2 V F u n=>⟨P2,J,u,n,a⟩
   | bk J =>
    cases a;intro P2 V F u n;rw[c] at u;exact p _ V F u (Q.trans (k1.trans n))
   | rt z =>
    cases a;intro P2 v2 F Y d2 n;rw[c] at Y d2;exact p _ v2 F Y d2 (Q.trans (k1.trans n))
end
section
variable {X:Cx}
noncomputable def srcM (f:Mst->Option MR):Mst->Option (Src×Mem):=λs=>(f s).bind λr=>match r.1 with
 | .loc n=>some (.live n,r.2)
 | .tup ws=>some (.items ws,r.2)
 | .dat (.tup ds)=>some (.items (ds.map .dat),r.2)
 | .dat (.lst ds)=>some (.items (ds.map .dat),r.2)
 | _=>none
def zQK (h:GM X iter f):GIM X tg iter (srcM f):=by
 refine⟨_,zOI h,λB H T O G z Y R e q=>?_⟩;obtain⟨r,L,e⟩:=bind_some e;refine⟨T,O,G,r,R,L,λv d M k1 w d1=>?_⟩;have j:∀ {a:Addr} {g:List W} {b:List V},SqT X.K (fzH d) a b->DenWL X.K d (T++M) g b->JOk X.K (Itt X.K a) (.items g) d (T++M):=λ{a g b} B v i p P J A l D s=>by
  cases s;have c:SqT X.K p a b:=Same.tupS zBf (Same.tupS l B);refine⟨λn=>⟨b,c,?_⟩,λw m=>?_⟩
  .rw [<- v.length];exact List.getElem?_eq_none_iff.mp n
  .obtain ⟨u,x,o⟩:=v.get m;refine⟨⟨b,u,c,x⟩,λv F y=>⟨y.1,?_⟩⟩;have:=y.2 b c;rw[x] at this;cases this;exact o.mono l P
 have t:∀ {a:Addr} {g:List W} {b:List V},SqL X.K (fzH d) a b->DenWL X.K d (T++M) g b->JOk X.K (Itl X.K a) (.items g) d (T++M):=λ{a g b} B v i p P J A l D s=>by
  cases s;have c:SqL X.K p a b:=zBf.seq (l.seq B);refine⟨λn=>⟨b,c,?_⟩,λw m=>?_⟩
  .rw [<- v.length];exact List.getElem?_eq_none_iff.mp n
  .obtain ⟨u,x,o⟩:=v.get m;refine⟨⟨b,u,c,x⟩,λv F y=>⟨y.1,?_⟩⟩;have:=y.2 b c;rw[x] at this;cases this;exact o.mono l P
 split at e
 .rename_i n k;cases e;rw[k,DenW] at d1;obtain⟨a,E,rfl⟩:=d1;obtain⟨S,C,_,U,_⟩:=w.loc E;refine⟨a,rfl,.inl ⟨⟨C,SqL.of U⟩,q _ d M k1 w λi p P J g l D s=>?_⟩⟩;obtain⟨b,o,I⟩:=D.loc' (zDE (M:=P) E) s;have c:SqL X.K p a b:=SqL.of o;refine⟨λn=>⟨b,c,?_⟩,λw m=>?_⟩
  .rw [<- I.length];exact List.getElem?_eq_none_iff.mp n
  .obtain ⟨u,K,Q⟩:=I.get m;refine⟨⟨b,u,c,K⟩,λv F y=>⟨y.1,?_⟩⟩;have:=y.2 b c;rw[K] at this;cases this;exact Q
 .rename_i g k;cases e;rw[k,DenW] at d1;obtain⟨a,b,rfl,h2,h3⟩:=d1;exact⟨a,rfl,.inr ⟨⟨b,SqT.of (zBf _ _ h2)⟩,q _ d M k1 w (j (SqT.of h2) h3)⟩⟩
 .rename_i N k;cases e;rw[k,DenW,Den] at d1;obtain⟨a,b,rfl,h2,h3⟩:=d1;exact⟨a,rfl,.inr ⟨⟨b,Same.tupS zBf h2⟩,q _ d M k1 w (j h2 (DenWL.dats h3))⟩⟩
 .rename_i N k;cases e;rw[k,DenW,Den] at d1;obtain⟨a,b,rfl,h2,h3⟩:=d1;exact⟨a,rfl,.inl ⟨⟨b,zBf.seq h2⟩,q _ d M k1 w (t h2 (DenWL.dats h3))⟩⟩
 .cases e
noncomputable def zMR (f:Mst->Option MR):Mst->Option (Src×Mem):=λs=>(f s).bind λr=>match r.1 with
 | .dat (.int j)=>if -(2^62)<=j/\j < 2^62 then some (.items ((rngL 0 j.toNat).map .dat),r.2) else none
 | _=>none
def rngJ {K:W.Frag}(a:Int)(n:Nat):JOk K (Itr a n) (.items ((rngL a n).map .dat)) H1 Y6:=λi h P j l k g e=>by
 cases e;have d:((rngL a n).map W.dat).length=n:=by unfold rngL;simp
 refine⟨λz=>?_,λw b=>?_⟩
 .have:=List.getElem?_eq_none_iff.mp z;rw[d] at this;exact this
 .have c:i < n:=by rw[<- d];exact(zzg b).1
  refine⟨c,λv f y=>⟨y.1,?_⟩⟩;have:((rngL a n).map W.dat)[i]?=some (.dat (.int (a+i))):=by unfold rngL;simp[c]
  rw[this] at b;cases b;exact y.2
def zI9 (g:Gl X "range")(d:X.mg "range"=none)(h:GM X a f)(b:starEach [a] X.env=[(false,eval a X.env)]):GIM X tg (.Call (.Name "range" p) [a] [] pos) (zMR f):=by
 refine⟨_,zGS g d (zAj h zBE b) b,λB H T O G z n c e q=>?_⟩;obtain⟨r,l,e⟩:=bind_some e;split at e
 .rename_i j m;by_cases hj:-(2^62)<=j/\j < 2^62
  .rw [if_pos hj] at e;cases e;refine⟨T,O,G,r,c,l,λv k M k1 i d1=>⟨j,?_,hj.1,hj.2,q _ k M k1 i (rngJ 0 _)⟩⟩
   simp_all
   rw[d1]
  .simp_all
 .cases e
noncomputable def zT8 (f g:Dst->Option R):Mst->Option (Src×Mem):=λs=>(zIq f g (drS s.G s.O)).map λds=>(.items (ds.map .dat),s.G)
end
noncomputable def zA6 (np nN:Nat)(g:Mst->Option OutM):MF:=λws G =>
 if ws.length=np/\np<=nN then (g ⟨ws.map some++List.replicate (nN - np) none,G⟩).bind λo=>match o with
  | .rt r=>some r
  | .nx s=>some (.dat .non,s.G)
  | _=>none
 else none
def zH5 {K:W.Frag}(c:zAJ K H T G)(h:DenWL K H T ws vs)(j:ws.length<=N.length):MS K H T G (zCM N vs) (ws.map some++List.replicate (N.length - ws.length) none):=by
 have f:=h.length;refine⟨c,?_,λi w q=>?_⟩
 .unfold L2.zCM;grind
 .have a:i < ws.length:=by
   by_cases z:i < ws.length
   .exact z
   .rw [getElem?_append_right (by simpa using z),getElem?_replicate] at q;split at q<;>cases q
  rw[getElem?_append_left (by simpa using a),getElem?_map] at q;cases e:ws[i]? with
  | none=>rw[e] at q;cases q
  | some g =>
   rw[e] at q;cases q;obtain⟨v,d,b⟩:=h.get e;refine⟨v,?_,b⟩;unfold L2.zCM;rw[getElem?_append_left (by grind),getElem?_map,d]
   rfl
def zQV {K:W.Frag}{st:Stmt}(F:Fun K x qual st f fd)(S:zAg N ps (zAA st))
  (b:∀ (cdv:Value) (A:Around) (outer:List Env) (s:Shared) (H:Hp) (E:XK),Room k (A.deeper (envOfC qual (zAA st) s.heap.objs.size f cdv))->GSsM (cxOf CX0 P w K mg base N qual (zAA st) f cdv A outer s H E).nox (zAN st) g) :
  FnOk P w K mg base CX0 (k+1) f fd ps (spM K (zA6 ps.length N.length g)):=by
 refine F.ok S (λvs H Q E h=>?_) λcdv A outer s H y Q E t h=>?_
 .obtain ⟨T,G,i,r,c,d,a,n⟩:=h;unfold zA6 at a;by_cases q:i.length=ps.length/\ps.length<=N.length
  .rw [<- d.length];exact q.1
  .simp_all
 obtain⟨T,G,i,r,c,d,a,n⟩:=h;refine⟨_,b cdv A outer s H E t H T,?_⟩;unfold zA6 at a;by_cases q:i.length=ps.length/\ps.length<=N.length
 .rw [if_pos q] at a;obtain⟨o,j,a⟩:=bind_some a;rw[<- q.1] at j;refine⟨[],_,o,by rw[append_nil];exact zH5 c d (by rw[q.1];exact q.2),Kp.refl H,j,?_⟩;cases o with
  | nx u =>
   cases a;exact λM z e m k=>n _ e M k m.cells (by rw[DenW,Den])
  | rt B =>
   cases a;exact λM v e p l k=>n v e M k p l
  | bk _=>cases a
  | ct _=>cases a
 .simp_all
def walkM {l:W.OpenLaw}{K:Params->W.Frag}(E:l.most=some 63)(p:d.params.defaults=[])(hq:importsNone q=true)(y:∀ w,(model l.prog w).prog.given.tree=none)(I:Room k callerA)(b:List (Str×Addr×Addr))(e:∀ (w:World) (h:Heap),YP w h->∀ t∈b,W.CodeHd h t.2.1 t.2.2/\h.get? t.2.2=some (W.tabObj #[]))(m:∀ w:World,∀ x∈zB6,tabQ (K w.params) x=b.lookup x)(i:∀ t∈b,t.1∈zB6/\b.lookup t.1=some t.2)(g:(b.map λt=>t.2.2).Nodup)(j:∀ w:World,W.noTabs (K w.params)=true)
  (A:∀ (w:World) (h:Heap),YP w h->(K w.params).In h)
  (L:∀ (w:World) (mg:Str->Option Value) (fa:Addr) (h:Heap),(K w.params).In h->h.Ns mainGlobals mg->mg d.name=some (.ref fa) ->
   ∃ fd:FuncData,(∀ (s:Shared) (u:Value),BindsTo s fd ⟨[u],[]⟩ [("_law_script",u)])/\∀ base:Heap,(K w.params).In base->base.Ns mainGlobals mg->FnOk l.prog w (K w.params) mg base CX0 k fa fd ["_law_script"] (spM (K w.params) F))
  (N:∀ ns:List Int,ns.length<=63->∃ G,F [.dat (.lst (ns.map D.int))] []=some (.dat (.bl true),G)) :
  W.WalkO q loose XP YP l.row.toRowW d [] (λf vs=>PySem.call f vs) :=
 L2.zOs (n:=63) (k:=k) (CX:=λ_=>CX0) E (by decide) p hq y I b e m i g j A L (λw H a ns r B v=>by
   obtain⟨G,C⟩:=N ns r.1;have J:SqL (K w.params) (fzH H) a (ns.map V.int):=by
    rcases v with (h | ⟨o,h⟩) | h
    .exact (B _ h).elim
    .exact .inl (.inr ⟨o,zFH h⟩)
    .exact .inr h
   refine⟨[],[],[.dat (.lst (ns.map D.int))],_,⟨rfl,by simp,λn P z=>by simp at z⟩,.cons ?_ .nil,C,λv O M k c d=>?_⟩
   .rw [DenW,Den];exact⟨a,_,rfl,J,DenL.ints ns⟩
   .rw [DenW,Den] at d;exact d) λ_ _ _ _ _ z=>z
end DL
end
section
namespace DL
open PySem Spec PyProof.Rows L2
noncomputable def zBw (t:W->Mst->Option Mst)(e:Mst->Option MR)(src:Src):Nat->Nat->Mst->List W->Option MA
 | 0,_,_,_=>none
 | f+1,i,s,done=>(itm s.G src).bind λws=>match ws[i]? with
  | none=>some (done,s.G)
  | some w=>(t w s).bind λs1=>(e s1).bind λr=>if done.length<=10000 then zBw t e src f (i+1) ⟨s1.O,r.2⟩ (done++[r.1]) else none
theorem zFM :∀ {f i:Nat} {s:Mst} {d:List W} {o:MA},zBw t e src f i s d=some o->zBw t e src (f+1) i s d=some o
 | 0,_,_,_,_,h=>by cases h
 | f+1,i,s,d,o,h=>by
  rw[zBw] at h ⊢;obtain⟨ws,e1,h⟩:=bind_some h;rw[e1,qx];cases q:ws[i]? with
  | none=>rw[q] at h;exact h
  | some w =>
   rw[q] at h;dsimp only at h ⊢;obtain⟨s1,e2,h⟩:=bind_some h;obtain⟨r,e3,h⟩:=bind_some h;rw[e2,qx,e3,qx];by_cases l:d.length<=10000
   .rw [if_pos l] at h ⊢;exact zFM (f:=f) h
   .rw [if_neg l] at h;cases h
def zFN (h:zBw t e src f i s d=some o)(l:f<=g):zBw t e src g i s d=some o:=by
 induction g with
 | zero =>
      have:f=0:=by omega
      grind
 | succ g a =>
  by_cases q:f<=g
  .exact zFM (a q)
  .grind
open Classical in
def zGo (t:W->Mst->Option Mst)(e:Mst->Option MR)(src:Src)(s:Mst):Option MA :=
 if h:∃ n o,zBw t e src n 0 s []=some o then some (Classical.choose (choose_spec h)) else none
def zLo (h:zBw t e src n 0 s []=some o):zGo t e src s=some o:=by
 have a:∃ n o,zBw t e src n 0 s []=some o:=⟨n,o,h⟩;unfold zGo;rw[dif_pos a];have b:=zFN h (Nat.le_max_right (Classical.choose a) n);rw[zFN (choose_spec (choose_spec a)) (Nat.le_max_left _ n)] at b;omega
def zJH (h:zGo t e src s=some o):∃ n,zBw t e src n 0 s []=some o:=by
 unfold zGo at h;by_cases ex:∃ n o,zBw t e src n 0 s []=some o
 .grind
 .rw [dif_neg ex] at h;cases h
def zHk (ms:List Nat)(k:Nat)(f:Mst->Option (Src×Mem))(t:W->Mst->Option Mst)(e:Mst->Option MR):Mst->Option MR:=λs =>
 (f s).bind λz=>(zGo t e z.1 ⟨mask none ms s.O++List.replicate k none,z.2⟩).bind λy=>if y.1.length<=10000 then some (.loc y.2.length,y.2++[y.1]) else none
def zGp (h:zHk ms k f t e s=some r):∃ z y N,f s=some z/\zBw t e z.1 N 0 ⟨mask none ms s.O++List.replicate k none,z.2⟩ []=some y/\y.1.length<=10000/\r=(.loc y.2.length,y.2++[y.1]):=by
 obtain⟨z,a,h⟩:=bind_some h;obtain⟨y,c,h⟩:=bind_some h;obtain⟨N,b⟩:=zJH c;by_cases l:y.1.length<=10000
 .rw [if_pos l] at h;cases h;exact⟨z,y,N,a,b,l,rfl⟩
 .simp_all
def MS.ext {K:W.Frag}(h:MS K H T G B O)(b:List Nat)(k:Nat):MS K H T G (mask none b B++List.replicate k none) (mask none b O++List.replicate k none):=by
 refine⟨h.cells,by rw[qQ,qQ,zBC,zBC,h.len,length_replicate,length_replicate],λi w q=>?_⟩;obtain⟨q,a⟩:=zCY q;rcases zBj q with ⟨z,_⟩ | ⟨q,ni⟩
 .cases z
 .obtain ⟨v,c,d⟩:=h.get i w q;exact⟨v,by rw[getElem?_append_left (by rw[zBC] at a ⊢;rw[h.len];exact a),zFv ni];exact c,d⟩
def zNm :∀ {n i:Nat} {s:Mst} {d:List W} {y:MA},zBw t e src n i s d=some y->y.1.length<=10000->d.length<=10000
 | 0,_,_,_,_,h,_=>by cases h
 | n+1,i,s,d,y,h,l=>by
  rw[zBw] at h;obtain⟨ws,_,h⟩:=bind_some h;split at h
  .cases h;exact l
  .obtain ⟨_,_,h⟩:=bind_some h;obtain⟨_,_,h⟩:=bind_some h;split at h
   .assumption
   .cases h
section
variable {X:Cx}
def zFL (w:X.calm=true)(hi:GIM X tg iter f)(cs:zCd X.env.scope scope)
  (hm:∀ (i:Nat) x,X.N[i]?=some x->ownB scope x=true->i∈ms)
  (hg:∀ s H fp,GGM (zAe X (mask (noN X.N) ms X.N++xs) scope s H fp) tg t)
  (he:∀ s H fp,GM (zAe X (mask (noN X.N) ms X.N++xs) scope s H fp) elt e)
            (I:Inv X pins B H s) (a1:MS X.K H T G B O) (ez:f ⟨O,G⟩=some z) (b6:y.1.length<=10000) (ey:zBw t e z.1 NN 0 ⟨mask none ms O++List.replicate xs.length none,z.2⟩ []=some y)
  {RR:Value->Addr->Result->Shared->Prop}
  (a8:∀ (D C:Addr) (s1:Shared) (H'':Hp) (m:Str->Option Value),s1.heap.Ns C m->(∀ h',Heap.SameBut C s1.heap h'->Inv X pins B H'' { s1 with heap:=h' })->H'' C=none->C≠X.env.locals->C∉X.fs->X.s0.heap.objs.size<=C ->
   (∀ x c,X.env.cells.lookup x=some c->c≠C)->(∀ p∈X.pn++pins,p.1≠C)->(∃ M,Kp H H''/\zAJ X.K H'' (T++M) (y.2++[y.1])/\DenW X.K H'' (T++M) (.loc y.2.length) (.ref D))->RR (.ref D) C (.ok .next) s1) :
  wpAny (model X.prog X.w) X.A (eval iter X.env) (λx O2=>wpAny (model X.prog X.w) X.A (pyIter x) (λit O9=>wpAny (model X.prog X.w) X.A (newList []) (λacc Y3 =>
   wpAny (model X.prog X.w) X.A (newFunctionEnv scope X.env.globals (zB7 X.env scope.names []) [] X.env.qual none .none (some X.env)) (λcenv Y5 =>
    codeAny (model X.prog X.w) X.A (.compStart (.ListComp elt [⟨tg,iter,[],0⟩] scope pos) 0 it acc { cenv with scope:=relabel scope X.env }) (RR acc cenv.locals) Y5) X.xe Y3) X.xe O9) X.xe O2) X.xe s:=by
 obtain⟨wi,b0,hI⟩:=hi;refine zIU w b0 cs hm I (L:=λJ H2 n i B' j q=>∃ (b P:List CA) (st':Mst) (a:List W),(Kp H H2/\JOk X.K J z.1 H2 (T++b))/\MS X.K j (T++b++P) st'.G B' st'.O/\Kp H2 j/\DenWL X.K j (T++b++P) a q/\a.length<=10000/\zBw t e z.1 n i st' a=some y)
  (Z:=λH2 j q=>∃ (b P:List CA),Kp H H2/\Kp H2 j/\zAJ X.K j (T++b++P) y.2/\DenWL X.K j (T++b++P) y.1 q)
  (hI B H T O G z _ a1 ez λJ H1 M k1 c1 hJ=>⟨NN,M,[],⟨mask none ms O++List.replicate xs.length none,z.2⟩,[],⟨k1,hJ⟩,by rw[append_nil];exact(a1.next k1 c1).ext ms xs.length,Kp.refl _,.nil,zero_le _,ey⟩) (λ{J H2 n i B' j q} ll=>?_) (λ{J H2 n i B' j q} s3 fp ll=>?_) λD C s1 H'' m h1 h2 h3 h4 h5 h6 h7 h8 ll=>?_
 .obtain ⟨_,_,_,_,_,_,_,Q,hl,_⟩:=ll;rw[<- Q.length];exact hl
 .obtain ⟨b,P,a3,a,⟨l,hJ⟩,ds',V,Q,hl,d⟩:=ll;cases n with
  | zero=>cases d
  | succ n =>
  rw[zBw] at d;obtain⟨ws,ew,d⟩:=bind_some d;obtain⟨j1,j2⟩:=hJ i j P a3.G ws V ds'.cells ew;cases hq:ws[i]? with
  | none =>
   rw[hq] at d;cases d;exact .inl ⟨j1 hq,b,P,l,V,ds'.cells,Q⟩
  | some w0 =>
   rw[hq] at d;dsimp only at d;obtain⟨go,yl⟩:=j2 w0 hq;refine .inr ⟨n,Nat.lt_succ_self n,go,λx U y5=>?_⟩;obtain⟨rfl,hv⟩:=yl x U y5;refine⟨rfl,λY eY pn s5 u E I5 r5=>?_⟩;subst eY;obtain⟨h,e1,d⟩:=bind_some d;obtain⟨r,er,d⟩:=bind_some d;by_cases hdl:a.length<=10000
   case neg=>rw[if_neg hdl] at d;cases d
   rw[if_pos hdl] at d;have b5:(a++[r.1]).length<=10000:=zNm d b6;obtain⟨g,b1,b2⟩:=hg s3 H2 fp;refine wpAny_mono (b1 pn s5 B' U x u _ I5 r5 (b2 w0 x B' U (T++b++P) a3 h (λB6 H6=>H6=U/\MS X.K U (T++b++P) h.G B6 h.O) ds' hv e1 λB6 d6=>⟨rfl,d6⟩)) (λ_ s6 A=>?_) λ_ _ z=>z.elim
   obtain⟨B6,H6,I6,q6,R⟩:=A;subst q6;refine wpAny_tests_nil ?_;rw[if_pos rfl];refine wpAny_mono (he s3 H2 fp pn s6 B6 H6 (λv N=>∃ o,Kp H6 N/\zAJ X.K N (T++b++P++o) r.2/\DenW X.K N (T++b++P++o) r.1 v) I6 ⟨T++b++P,h.O,h.G,r,R,er,λv N o S c8 d8=>⟨o,S,c8,d8⟩⟩) (λuv s8 F=>?_) λ_ _ z=>z.elim
   obtain⟨v,N,I8,b3,o,S,c8,d8⟩:=F;have K:T++b++P++o=T++b++(P++o):=by simp
   have a0:=R.next S c8;have Y:=Q.mono S o;rw[K] at a0 d8 Y;exact⟨v,B6,N,I8,b3,b,P++o,⟨h.O,r.2⟩,a++[r.1],⟨l,hJ⟩,a0,V.trans S,DenWL.append Y (.cons d8 .nil),b5,d⟩
 .obtain ⟨H2,j,q,⟨b,P,l,V,dc,Q⟩,H2D,HD,rfl⟩:=ll;have s9:Same j (upd j D (.lst q)):=zAd HD _;refine a8 D C s1 _ m h1 h2 h3 h4 h5 h6 h7 h8 ⟨b++P++[(D,CK.lst)],l.trans (V.trans (zA0 s9)),?_⟩;rw[show T++(b++P++[(D,CK.lst)])=T++b++P++[(D,CK.lst)] by simp];exact⟨dc.new s9 HD zAc (Q.mono (zA0 s9) [(D,CK.lst)]),zDn dc⟩
def zKz (a:X.calm=true)(u:GIM X tg iter f)(E:∀ x,foldedSetIterable iter X.env x=pure x)(cs:zCd X.env.scope scope)
  (p:∀ (i:Nat) x,X.N[i]?=some x->ownB scope x=true->i∈ms)
  (v:∀ s H fp,GGM (zAe X (mask (noN X.N) ms X.N++xs) scope s H fp) tg t)
  (A:∀ s H fp,GM (zAe X (mask (noN X.N) ms X.N++xs) scope s H fp) elt e) :
  GM X (.ListComp elt [⟨tg,iter,[],0⟩] scope pos) (zHk ms xs.length f t e):=by
 intro h s B H Q I ⟨T,O,G,r,d,J,F⟩;obtain⟨z,y,K,l,j,g,rfl⟩:=zGp J;refine wpAny_comprehension_free rfl E (zBk (zEl I cs)) cs.kind (zCz cs) ?_;refine zFL a u cs p v A I d l g j λD C N b m o n _ _ _ _ _ _ c=>?_
 obtain⟨M,k,q,d1⟩:=c;exact⟨m,o,λh' w=>⟨.ref D,b,n h' w,rfl,F _ b M k q d1⟩⟩
end
end DL
end
section
namespace DL
open PySem Spec PyProof.Rows L2
section
variable {X:Cx}
def zND (c:X.calm=true)(Y:GIM X tg iter f)(P:∀ x,foldedSetIterable iter X.env x=pure x)(cs:zCd X.env.scope scope)
  (W:∀ (i:Nat) x,X.N[i]?=some x->ownB scope x=true->i∈ms)
  (hg:∀ s H fp,GGM (zAe X (mask (noN X.N) ms X.N++xs) scope s H fp) tg t)
  (U:∀ s H fp,GM (zAe X (mask (noN X.N) ms X.N++xs) scope s H fp) elt e)
  (S:X.N.Nodup) (hy:X.N[i]?=some y) (hl:Loc X.env.scope y) (hf:X.fn y=true\/X.env.scope.names.lookup y=some .local) :
  GSM X (.Assign [.Name y py] (.ListComp elt [⟨tg,iter,[],0⟩] scope pos) spos) (setM i (zHk ms xs.length f t e)):=by
 have O:GM X (.ListComp elt [⟨tg,iter,[],0⟩] scope pos) (zHk ms xs.length f t e):=zKz c Y P cs W hg U;have h:∃ b,swapsWith (.ListComp elt [⟨tg,iter,[],0⟩] scope pos) (some (.Name y py)) spos.line X.env=pure b:=⟨_,rfl⟩;obtain⟨b,h⟩:=h;cases b with
 | false=>exact zKw S hy hl O h hf
 | true =>
  intro H0 α0 a s B H E I ⟨M,st,o,k,kp,J,p⟩;obtain⟨r,er,J⟩:=bind_some J;cases J;obtain⟨z,yy,NN,ez,ey,K,rfl⟩:=zGp er;rw[exec_Assign_Name_used _ _ _ _ h];refine qX (wpAny_standAt (qX ?_));show wpAny _ X.A (do let _<-comprehension (.ListComp elt [⟨tg,iter,[],0⟩] scope pos) scope X.env _ (newList []) false (eval iter X.env) (some (assign (.Name y py) X.env))) _ _ s;refine qX (wpAny_mono (wpAny_comprehension_free (use:=some (assign (.Name y py) X.env)) (Q:=λ_ u=>SP X a E .next u) rfl P (zBk (zEl I cs)) cs.kind (zCz cs) ?_) (λ_ u hq=>q9 (q9 hq)) λ_ _ e=>e);refine zFL (RR:=λacc C=>compPost (model X.prog X.w) X.A X.xe (some (assign (.Name y py) X.env)) (λ_ u=>SP X a E .next u) acc C) c Y cs W hg U I k ez K ey λD C l d m ns hI j n L G A F N=>?_
  have T:Inv X a B d l:=hI l.heap (Heap.SameBut.refl ..);obtain⟨v,es,ep,ho,Z,w3⟩:=id ns;have I2:Inv X (a++[(C,v)]) B d l:=T.pins_of λq hq=>(mem_append.mp hq).elim (λz=>T.pin q (xq _ z)) λz=>by
   have e:q=(C,v):=by simpa using z
   subst e;exact⟨ho,j,n,L,λv z=>by rw[Z] at z;cases z⟩
  show wpAny (model X.prog X.w) X.A (assign (.Name y py) X.env (.ref D)) _ X.xe l;refine thn (zFo S hy hl hf _ l B d (.ref D) (.ref D) (λB6 w=>w=d/\B6=B.set i (some (.ref D))) I2 rfl ⟨rfl,rfl⟩) λ_ s6 g=>?_
  obtain⟨B6,w,I6,q1,q2⟩:=g;subst q1 q2;have pc:=I6.pin (C,v) (xq _ (xq _ (by simp)));refine⟨m,⟨v,es,ep,pc.1,Z,w3⟩,λh' sb=>?_⟩;refine⟨_,w,I6.unpinned.turned (it:=C) (t':=s6.toks) (λb o h q=>sb.extBut b o h q) j (Ne.symm (Ne.symm n)) (.inr G) A F,?_⟩;obtain⟨O4,R,c2,d2⟩:=N;have V:=(k.next R c2).set (i:=i) d2;rw[q0] at V;exact p (M++O4) _ _ V (kp.trans R)
end
inductive SK where
 | mth (c m:Str) | mk (c kw:Str)
 deriving DecidableEq
noncomputable def spec:List (Str×SK):=[("Fill.films",.mth "Fill" "films"),("Rub.films",.mth "Rub" "films"),("Masked.films",.mth "Masked" "films"),("Join.films",.mth "Join" "films"),("Group.films",.mth "Group" "films"),("Picture.add",.mth "Picture" "add"),("Picture.drop",.mth "Picture" "drop"),("Picture.change",.mth "Picture" "change"),("Picture.lift",.mth "Picture" "lift"),("Picture.numbers",.mth "Picture" "numbers"),("Picture.layer_by",.mth "Picture" "layer_by"),("Picture.renew",.mth "Picture" "renew"),("Picture.cells",.mth "Picture" "cells"),("Picture.check_lies",.mth "Picture" "check_lies"),("Picture.lay",.mth "Picture" "lay"),("Picture.mark",.mth "Picture" "mark"),("Picture.ground_at",.mth "Picture" "ground_at"),("Fill()",.mk "Fill" "strength"),("Rub()",.mk "Rub" "strength"),("Masked()",.mk "Masked" "strength"),("Join()",.mk "Join" "strength"),("Group()",.mk "Group" "strength"),("Picture()",.mk "Picture" "watcher")]
abbrev Dm:=List (Str×MF)
def spI (K:W.Frag)(C:Addr)(F:MF):Sp:=λvs H Q _=>∃ x dx H1 us T G ws r,vs=.ref x::us/\H1 x=none/\H1 dx=none/\dx≠x/\H=upd (upd H1 dx (.own x)) x (.ins C dx [])/\zAJ K H1 T G/\DenWL K H1 T ws us/\F ws G=some r /\
 ∀ H' M,Kp H1 H'->zAJ K H' (T++M) r.2->DenW K H' (T++M) r.1 (.ref x)->Q .non H'
def KB (K:W.Frag)(fd:FuncData)(ps:List Str)(kw:Str):Prop:=∀ (s:Shared) (us:List Value) (u:Value),K.In s.heap->(us++[u]).length=ps.length->BindsTo s fd ⟨us,[(kw,u)]⟩ (ps.zip (us++[u]))
def zMC (P:Program)(w:World)(K:W.Frag)(mg:Str->Option Value)(base:Heap)(k:Nat)(x:Str)(F:MF):Option SK->Prop
 | none=>∃ f fd ps,FnOk P w K mg base CX0 k f fd ps (spM K F)/\mg x=some (.ref f)/\W.keepIn K (.ref f)=true/\zBP K fd ps []
 | some (.mth c m)=>∃ C f fd ps,zBy K c C/\Cls K C/\Meth K C m f/\FnOk P w K mg base CX0 k f fd ps (spM K F)/\zBP K fd ps []
 | some (.mk c kw)=>∃ j C f fd ps,j < k/\mg c=some (.ref C)/\Mk K C f/\FnOk P w K mg base CX0 j f fd ps (spI K C F)/\zBP K fd ps []/\zBP K fd ps [.none]/\KB K fd ps kw
def zMC.mono {K:W.Frag}(h:zMC P w K mg base j x F o)(e:j<=k):zMC P w K mg base k x F o:=by
 match o,h with
 | none,⟨f,a,b,h1,h2⟩=>exact⟨f,a,b,h1.mono e,h2⟩
 | some (.mth c m),⟨C,f,a,b,h1,h2,h3,h4,h5⟩=>exact⟨C,f,a,b,h1,h2,h3,h4.mono e,h5⟩
 | some (.mk c d),⟨i,C,f,a,b,h1,h2⟩=>exact⟨i,C,f,a,b,xQ h1 e,h2⟩
def DmOk (P:Program)(w:World)(K:W.Frag)(mg:Str->Option Value)(base:Heap)(k:Nat)(U:Dm):Prop :=
 ∀ x F,(x,F)∈U->zMC P w K mg base k x F (spec.lookup x)
def zHl {K:W.Frag}(h1:zBy K c A)(h2:zBy K c B):A=B:=by
 rw[zBy] at h1 h2;grind
def zLf (h:zEh gs=true)(n:zFt.contains m=false):gs.lookup m=none:=by
 cases e:gs.lookup m with
 | none=>rfl
 | some v =>
  unfold zEh zLg at h;rw[x8,all_eq_true] at h;have:=h.2 m (mem_map.mpr ⟨_,PySem.mem_of_lookup e,rfl⟩);grind
section
variable {X:Cx}{k:Nat}{U:Dm}
noncomputable def fldM (ob:List (Str×Str×Option Bool))(f:Str)(g:Mst->Option MR):Mst->Option MR:=λs=>(g s).bind λx=>match x.1 with
 | .obj c ns l=>if (c,f,none)∈ob then ((ns.zip l).lookup f).map λw=>(w,x.2) else none
 | .ob c ns n=>if (c,f,none)∈ob then (x.2[n]?).bind λws=>((ns.zip ws).lookup f).map λw=>(w,x.2) else none
 | _=>none
theorem zKM {K:W.Frag}{H:Hp}{T:List CA}{f:Str}{w:W}:∀ {gs:List (Str×V)} {l:List W},DenWL K H T l (gs.map (·.2))->((gs.map (·.1)).zip l).lookup f=some w->∃ v,gs.lookup f=some v/\DenW K H T w v
 | [],_,_,e=>by simp at e
 | (n,u)::gs,[],_,e=>by simp at e
 | (n,u)::gs,x::l,t,e=>by
  rw[map_cons,DenWL] at t;obtain⟨v,us,e1,t1,t2⟩:=t;cases e1;rw[map_cons,List.zip_cons_cons,lookup_cons] at e;rw[lookup_cons];dsimp only at e ⊢;by_cases q:(f==n)=true
  .rw [q] at e ⊢;cases e;exact⟨u,rfl,t1⟩
  .rw [Bool.not_eq_true] at q;rw[q] at e ⊢;exact zKM t2 e
theorem zIG {K:W.Frag}{gs:List (Str×V)}:∀ {ns:List Str} {vs:List V} {l:List W},(ns.map λn=>gs.lookup n)=vs.map some->DenWL K H T l vs->(ns.zip l).lookup f=some d->∃ v,gs.lookup f=some v/\DenW K H T d v
 | [],_,_,_,_,e=>by simp at e
 | n::ns,vs,[],_,_,e=>by simp at e
 | n::ns,vs,x::l,h,t,e=>by
  rw[DenWL] at t;obtain⟨v,us,rfl,t1,t2⟩:=t;simp only[map_cons,List.cons.injEq] at h;rw[List.zip_cons_cons,lookup_cons] at e;by_cases q:(f==n)=true
  .rw [q] at e;cases e;exact⟨v,by rw[eq_of_beq q];exact h.1,t1⟩
  .rw [Bool.not_eq_true] at q;rw[q] at e;exact zIG h.2 t2 e
def zSq (i:GM X e g)(J:attributeBase e fl X.env (eval e X.env)=eval e X.env)(D:∀ c,(c,fl,none)∈ob->∀ C,zBy X.K c C->Cls X.K C/\zBY X.K C fl):GM X (.Attribute e fl pos) (fldM ob fl g):=by
 refine(zOK i J).imp λB H Q b=>?_
 obtain⟨T,O,G,r,B,q,F⟩:=b;obtain⟨x,E,q⟩:=bind_some q;split at q
 .rename_i c K l hx;by_cases m:(c,fl,none)∈ob
  .rw [if_pos m] at q;obtain⟨w,p,j⟩:=x9.mp q;cases j;refine⟨T,O,G,x,B,E,λv y M k1 h f=>?_⟩;have d:=f;rw[hx,DenW] at d;obtain⟨a,N,rfl,⟨C,s,z,h1,h2,h3,h4⟩,h5⟩:=d;obtain⟨u,t,A⟩:=zIG h4 h5 p;obtain⟨k,o⟩:=D c m C h3;exact⟨a,C,s,z,u,rfl,zBf _ _ h1,k,o,t,F u y M k1 h A⟩
  .rw [if_neg m] at q;cases q
 .rename_i c K n hx;by_cases m:(c,fl,none)∈ob
  .rw [if_pos m] at q;obtain⟨L,I,q⟩:=bind_some q;obtain⟨w,p,j⟩:=x9.mp q;cases j;refine⟨T,O,G,x,B,E,λv y M k1 h f=>?_⟩;rw[hx,DenW] at f;obtain⟨a,i,rfl⟩:=f;obtain⟨C,s,z,h1,h2,h3,h4,h5⟩:=h.cell' i I;subst h4;obtain⟨u,t,A⟩:=zKM h5 p;obtain⟨k,o⟩:=D c m C h3;exact⟨a,C,s,z,u,rfl,h1,k,o,t,F u y M k1 h A⟩
  .rw [if_neg m] at q;cases q
 .cases q
noncomputable def clsW (m:Str):W->Option Str
 | .obj c _ _=>if zFt.contains m=true then none else some c
 | .ob c ns _=>if ns.contains m=true then none else some c
 | _=>none
def zOm {K:W.Frag}(f:zAJ K H T G)(h:clsW m w=some c)(d:DenW K H T w v):∃ a C dx gs,v=.ref a/\H a=some (.ins C dx gs)/\zBy K c C/\gs.lookup m=none:=by
 unfold clsW at h;split at h
 .by_cases q:zFt.contains m=true
  .rw [if_pos q] at h;cases h
  rw[if_neg q] at h;cases h;obtain⟨a,i,rfl,⟨C,dx,gs,h1,h2,h3,h4⟩,h5⟩:=d;exact⟨a,C,dx,gs,rfl,zBf _ _ h1,h3,zLf h2 (by simpa using q)⟩
 .rename_i j g n;by_cases q:g.contains m=true
  .rw [if_pos q] at h;cases h
  rw[if_neg q] at h;cases h;rw[DenW] at d;obtain⟨a,b,rfl⟩:=d;obtain⟨k,l,C,dx,gs,h1,h2,h3,h4,h5⟩:=f.cell b;refine⟨a,C,dx,gs,rfl,h1,h3,?_⟩;cases e:gs.lookup m with
  | none=>rfl
  | some v =>
   refine absurd ?_ q;rw[<- h4,List.contains_iff_mem];exact mem_map.mpr ⟨_,PySem.mem_of_lookup e,rfl⟩
 .cases h
theorem zGa (hbase:attributeBase o m env (eval o env)=eval o env)(hfew:methodCallForm (args.length+([]:List Keyword).length) (backTo pos (starEach args env)) (backToKw pos (keywordEach [] env))=true)(hline:(apos.endLine==pos.line)=true) :
  eval (.Call (.Attribute o m apos) args [] pos) env=(do
   let ov<-eval o env
   standAt apos.atName
   let (f,first)<-holding [ov] (getMethod ov m (do return (<- importBound o env).getD true))
   callWith pos f first (backTo pos (starEach args env)) (backToKw pos (keywordEach [] env))):=by
 rw[arm_eval_Call,hbase];unfold methodCall calleeOf methodCallPos;simp only[hfew,hline,if_true,Bool.not_true,Bool.or_true,pure_bind]
noncomputable def mthM (U:Dm)(ix:List (Str×Nat))(m:Str)(f:Mst->Option MR)(g:Mst->Option MA):Mst->Option MR:=λs=>(f s).bind λx=>(clsW m x.1).bind λc=>(ix.lookup c).bind λn=>(U[n]?).bind λe=>if spec.lookup e.1=some (.mth c m) then (g ⟨s.O,x.2⟩).bind λws=>e.2 (x.1::ws.1) ws.2 else none
def zSm {m:Str}{o:Expr}{h pos:Pos}{e:Expr}{es:List Expr}{ix:List (Str×Nat)}{f:Mst->Option MR}{g:Mst->Option MA}(he:GM X o f)(ha:GAM X (e::es) g)(d:DmOk X.prog X.w X.K X.mg X.base k U)(P:Room k X.A)
  (t:starEach (e::es) X.env=(false,eval e X.env)::starEach es X.env) (z:(backTo pos (starEach es X.env)).any (·.1)=false) (j:attributeBase o m X.env (eval o X.env)=eval o X.env) (l:methodCallForm ((e::es).length+([]:List Keyword).length) (backTo pos (starEach (e::es) X.env)) (backToKw pos (keywordEach [] X.env))=true) (i:(h.endLine==pos.line)=true):GM X (.Call (.Attribute o m h) (e::es) [] pos) (mthM U ix m f g):=by
 intro p s B H Q I ⟨T,O,G,r,A,q,R⟩;obtain⟨x,ex,q⟩:=bind_some q;obtain⟨c,V,q⟩:=bind_some q;obtain⟨n,en,q⟩:=bind_some q;obtain⟨b,ee,q⟩:=bind_some q;by_cases hk:spec.lookup b.1=some (.mth c m)
 .rw [if_pos hk] at q;obtain⟨w,W,q⟩:=bind_some q;have D:=d b.1 b.2 (mem_of_getElem? ee);rw[hk] at D;obtain⟨C,fa,fd,ps,d1,Y,F,d4,S⟩:=D;refine zPD (C:=C) he Y F d4 P S .nil zHJ ha t z (zGa j l i) p s B H Q I ?_;refine⟨T,O,G,x,A,ex,λv H1 M k1 K J=>?_⟩;obtain⟨a,C',L,gs,rfl,h1,h2,h3⟩:=zOm K V J;obtain rfl:=zHl d1 h2;refine⟨a,L,gs,rfl,h1,h3,T++M,O,x.2,w,A.next k1 K,W,λus H2 u E c2 y=>?_⟩;show spM X.K b.2 (.ref a::(us++[])) H2 Q E0;rw[append_nil];exact⟨T++M++u,w.2,x.1::w.1,r,c2,.cons (J.mono E u) y,q,λv Z Y4 N c3 F=>R v Z (M++(u++Y4)) (k1.trans (E.trans N)) (by simp_all) (by simp_all)⟩
 .rw [if_neg hk] at q;cases q
def zQG (S:GM X o f)(d:DmOk X.prog X.w X.K X.mg X.base k U)(t:Room k X.A)(e:attributeBase o m X.env (eval o X.env)=eval o X.env)(b:(apos.endLine==pos.line)=true):GM X (.Call (.Attribute o m apos) [] [] pos) (mthM U ix m f nilM):=by
 intro h s B H Q I ⟨T,O,G,r,P,q,u⟩;obtain⟨x,w,q⟩:=bind_some q;obtain⟨c,N,q⟩:=bind_some q;obtain⟨n,W,q⟩:=bind_some q;obtain⟨g,A,q⟩:=bind_some q;by_cases hk:spec.lookup g.1=some (.mth c m)
 .rw [if_pos hk] at q;obtain⟨Z,J,q⟩:=bind_some q;cases J;have D:=d g.1 g.2 (mem_of_getElem? A);rw[hk] at D;obtain⟨C,fa,Y,ps,d1,K,i,E,V⟩:=D;refine zMa (C:=C) S K i E t V .nil zHJ (zGa e rfl b) h s B H Q I ?_;refine⟨T,O,G,x,P,w,λv H1 M k1 l j=>?_⟩;obtain⟨a,C',F,R,rfl,h1,h2,h3⟩:=zOm l N j;obtain rfl:=zHl d1 h2;refine⟨a,F,R,rfl,h1,h3,T++M,x.2,[x.1],r,l,.cons j .nil,q,λv p L z y i=>u v p (M++L) (k1.trans z) (by rw[<- q0];exact y) (by rw[<- q0];exact i)⟩
 .rw [if_neg hk] at q;cases q
def zOA {b:List (Addr×Obj)}{B:St}{H:Hp}{s:Shared}{Q:VK}{us fus:List Value}{kw:List (Str×Value)}{vs:List V}{C f:Addr}{fd:FuncData}{ps:List Str}{d:Sp}(M:Mk X.K C f)(F:FnOk X.prog X.w X.K X.mg X.base CX0 k f fd ps d)(j:Room (k+1) X.A)
  (p:∀ (s':Shared) (x:Addr),X.K.In s'.heap->(Value.ref x::fus).length=ps.length->BindsTo s' fd ⟨.ref x::us,kw⟩ (ps.zip (.ref x::fus))) (I:Inv X b B H s) (r:Vals vs fus)
  (h:∀ x dx,H x=none->H dx=none->dx≠x->d (.ref x::vs) (upd (upd H dx (.own x)) x (.ins C dx [])) (λv H2=>v=.non/\Q (.ref x) H2) E0) :
  wpAny (model X.prog X.w) X.A (call (.ref C) us kw) (EP X b B Q) X.xe s:=by
 have hq:=h (s.heap.objs.size+1) s.heap.objs.size (I.hok.fresh (Nat.le_succ _)) (I.hok.fresh (le_refl _)) (ne_of_lt (Nat.lt_succ_self _));have c:=Inv.made (C:=C) I;have r2:Vals (V.ref (s.heap.objs.size+1)::vs) _:=.cons rfl r;have i:(Value.ref (s.heap.objs.size+1)::fus).length=ps.length:=by
  have e:=r2.length;rw[F.len _ _ _ _ hq] at e;exact e.symm
 refine wpAny_call (zMp (f:=f) I.kIn M.makes M.init (beq_iff_eq.mp M.fn) (codeAny_mono (F.run _ X.stack _ _ _ (Value.ref (s.heap.objs.size+1)::fus) _ _ E0 (j.make C us kw)
  (c.env0.make C us kw) (p _ _ c.kIn i) r2 hq) λr s' a=>?_))
 cases r with
 | error e=>exact a.elim
 | ok fl =>
  cases fl with
  | ret u =>
   obtain⟨v,m,n,o,g,l⟩:=c.after a;subst g;exact⟨o,⟨V.ref (s.heap.objs.size+1),m,n,rfl,l⟩⟩
  | next=>exact False.elim a
  | brk=>exact False.elim a
  | cont=>exact False.elim a
noncomputable def zPY (d:Bool):List W:=if d=true then [.dat .non] else []
noncomputable def mkM (U:Dm)(n:Nat)(c kw:Str)(d:Bool)(g:Mst->Option MA):Mst->Option MR:=λs=>(U[n]?).bind λe=>if spec.lookup e.1=some (.mk c kw) then (g s).bind λws=>e.2 (ws.1++zPY d) ws.2 else none
noncomputable def mkkM (U:Dm)(n:Nat)(c kw:Str)(g:Mst->Option MA)(h:Mst->Option MR):Mst->Option MR:=λs=>(U[n]?).bind λe=>if spec.lookup e.1=some (.mk c kw) then (g s).bind λws=>(h ⟨s.O,ws.2⟩).bind λw=>e.2 (ws.1++[w.1]) w.2 else none
def zUc {n:Nat}{c kw:Str}{b:Bool}{p pos:Pos}{e:Expr}{es:List Expr}{g:Mst->Option MA}(A:GAM X (e::es) g)(d:DmOk X.prog X.w X.K X.mg X.base k U)(Y:Room k X.A)(hg:Gl X c)(l:(c==("__debug__":Str))=false)
  (u:starEach (e::es) X.env=(false,eval e X.env)::starEach es X.env) (t:(backTo pos (starEach es X.env)).any (·.1)=false):GM X (.Call (.Name c p) (e::es) [] pos) (mkM U n c kw b g):=by
 intro i s B H Q I ⟨T,O,G,r,F,q,cc⟩;obtain⟨a,ee,q⟩:=bind_some q;by_cases hk:spec.lookup a.1=some (.mk c kw)
 .rw [if_pos hk] at q;obtain⟨h,R,q⟩:=bind_some q;have D:=d a.1 a.2 (mem_of_getElem? ee);rw[hk] at D;obtain⟨j,C,fa,fd,ps,K,d1,y,d3,P,Z,d6⟩:=D;refine wpAny_Call_Name_kw (zDo I hg d1 ?_ l);refine W.callWith_K (h₀:=X.base) I.ok.mod.kin y.kp (thn (A pos i s B H (λvs f=>∃ M,Kp H f/\zAJ X.K f (T++M) h.2/\DenWL X.K f (T++M) h.1 vs) I ⟨T,O,G,h,F,R,λvs f M k1 o m=>⟨M,k1,o,m⟩⟩) λus s1 ⟨vs,f,v,rv,M,k1,o,m⟩=>⟨v.kIn,?_⟩) u t;have rn:Vals (if b=true then [V.non] else []) (if b=true then [Value.none] else []):=by
   cases b with
   | true=>exact .cons rfl .nil
   | false=>exact .nil
  refine zOA y d3 (Y.mono K) (λs' x w z=>?_) v (rv.append rn) λx L S n2 E=>?_
  .cases b with
   | true=>exact Z s' (.ref x::us) w z
   | false =>
    exact P s' (.ref x::us) w z
  .refine ⟨x,L,f,_,T++M,h.2,h.1++zPY b,r,rfl,S,n2,E,rfl,o,m.append ?_,q,λH' M' N c2 J=>⟨rfl,cc (.ref x) H' (M++M') (k1.trans N) (by rw[<- q0];exact c2) (by simp_all)⟩⟩;cases b with
   | true=>exact .cons (by rw[DenW,Den]) .nil
   | false=>exact .nil
 .rw [if_neg hk] at q;cases q
def zSn {n:Nat}{c kw:Str}{p pos kpos:Pos}{e y:Expr}{es:List Expr}{g:Mst->Option MA}{h:Mst->Option MR}(ha:GAM X (e::es) g)(v:GM X y h)(d:DmOk X.prog X.w X.K X.mg X.base k U)(hr:Room k X.A)(hg:Gl X c)(u:(c==("__debug__":Str))=false)
  (K:starEach (e::es) X.env=(false,eval e X.env)::starEach es X.env) (E:((backTo pos (starEach (e::es) X.env)).any (·.1)||(backToKw pos (keywordEach [⟨some kw,y,kpos⟩] X.env)).any (·.1.isNone))=false):GM X (.Call (.Name c p) (e::es) [⟨some kw,y,kpos⟩] pos) (mkkM U n c kw g h):=by
 intro b s B H Q I ⟨T,O,G,r,V,q,cc⟩;obtain⟨f,ee,q⟩:=bind_some q;by_cases hk:spec.lookup f.1=some (.mk c kw)
 .rw [if_pos hk] at q;obtain⟨o,Z,q⟩:=bind_some q;obtain⟨w,eh,q⟩:=bind_some q;have D:=d f.1 f.2 (mem_of_getElem? ee);rw[hk] at D;obtain⟨j,C,fa,fd,ps,jk,d1,Y,d3,d4,d5,d6⟩:=D;refine wpAny_Call_Name_kw (zDo I hg d1 ?_ u);refine W.callWith_KW (h₀:=X.base) I.ok.mod.kin Y.kp rfl (thn (ha pos b s B H (λvs i=>∃ M,Kp H i/\zAJ X.K i (T++M) o.2/\DenWL X.K i (T++M) o.1 vs) I ⟨T,O,G,o,V,Z,λvs i M k1 R A=>⟨M,k1,R,A⟩⟩) λus s1 l=>?_) E K;obtain⟨vs,i,I1,rv,M,k1,R,A⟩:=l;refine thn (zPC (nm:=some kw) (kpos:=kpos) v (λ_ _ _ _ H Q I h=>wpAny_evalAll_nil ⟨[],H,I,.nil,h⟩) pos b s1 B i (λzs m=>∃ z a,zs=[z]/\Kp i m/\zAJ X.K m (T++M++a) w.2/\DenW X.K m (T++M++a) w.1 z) I1 ⟨T++M,O,o.2,w,V.next k1 R,eh,λz m a t N P=>⟨z,a,rfl,t,N,P⟩⟩) λwz s2 ⟨zs,m,S,rz,z,a,ez,t,N,dz⟩=>⟨S.kIn,?_⟩
  subst ez;obtain⟨F,rfl,J⟩:=zG4 rz;show wpAny _ _ (call (.ref C) us [(kw,F)]) _ _ s2;refine zOA (fus:=us++[F]) Y d3 (hr.mono jk) (λs' x hK hl=>d6 s' (.ref x::us) F hK hl) S (rv.append (.cons J .nil)) λx dx n1 n2 n3=>?_
  exact⟨x,dx,m,_,T++M++a,w.2,o.1++[w.1],r,rfl,n1,n2,n3,rfl,N,(A.mono t a).append (.cons dz .nil),q,λH' M' k3 c3 L=>⟨rfl,cc (.ref x) H' (M++(a++M')) (k1.trans (t.trans k3)) (by rw[<- q0,<- q0];exact c3) (by rw[<- q0,<- q0];exact L)⟩⟩
 .rw [if_neg hk] at q;cases q
noncomputable def clrM (t:Mst->Option MR):Mst->Option OutM:=λs=>(t s).bind λx=>match x.1 with
 | .loc n=>if n < x.2.length then some (.nx ⟨s.O,x.2.set n []⟩) else none
 | _=>none
def zP8 (z:GM X b t)(c:attributeBase b "clear" X.env (eval b X.env)=eval b X.env)(f:(apos.endLine==cpos.line)=true) :
  GSM X (.Expr (.Call (.Attribute b "clear" apos) [] [] cpos) pos) (clrM t):=λH0 y=>(zEN (zOL PySem.F.plainAttrs_list PySem.F.slot_list_clear PySem.F.type_list_clear zMl z c f) rfl).imp λE B H d=>by
 obtain⟨M,s,o,q,k,e,p⟩:=d;obtain⟨x,v,e⟩:=bind_some e;split at e
 .rename_i n A;by_cases hn:n < x.2.length
  .rw [if_pos hn] at e;cases e;refine⟨y++M,s.O,s.G,x,q,v,λv r C k1 g d1=>?_⟩;rw[A,DenW] at d1;obtain⟨a,u,rfl⟩:=d1;have i:=q.next k1 g;obtain⟨_,h,_,j,_⟩:=g.loc u;refine⟨.inl ⟨rfl,_,SqL.of j⟩,a,h,rfl,rfl,j,?_⟩;have l:Kp r (upd r a (.lst [])):=by show Same _ _;rw[zK8 j];exact Same.refl _
   have w:=g.change (ws:=[]) hn u .nil;have m:=i.next (M:=[]) l (by rw[append_nil];exact w)
   simp_all
   exact p (M++C) B _ m (k.trans (k1.trans l))
  .rw [if_neg hn] at e;cases e
 .cases e
end
section
variable {K:W.Frag}{H:Hp}{T:List CA}{G:Mem}{B:St}{O:List (Option W)}
def MS.chgG (b:MS K H T G B O){n:Nat}{a:Addr}{k:CK}{o:HO}{ws:List W}(e:T[n]?=some (a,k))(h2:fz1 o=none)(t:Kp H (upd H a o)->zBv K (upd H a o) T a ws k):MS K (upd H a o) T (G.set n ws) B O/\Kp H (upd H a o):=by
 have f:n < G.length:=by rw[<- b.cells.len];exact(zzg e).1
 obtain⟨c,d⟩:=b.cells.chgG f e h2 t;have m:=b.next (M:=[]) d (by rw[append_nil];exact c);rw[append_nil] at m;exact⟨m,d⟩
def DenWL.take:∀ {ws:List W} {vs:List V} (j:Nat),DenWL K H T ws vs->DenWL K H T (ws.take j) (vs.take j)
 | [],_,_,h=>by rw[DenWL] at h;subst h;rw[List.take_nil,List.take_nil];exact .nil
 | _::_,_,0,h=>.nil
 | _::ws,_,j+1,h=>by
  rw[DenWL] at h;obtain⟨v,us,rfl,h2,h3⟩:=h;exact .cons h2 (DenWL.take j h3)
def DenWL.drop:∀ {ws:List W} {vs:List V} (j:Nat),DenWL K H T ws vs->DenWL K H T (ws.drop j) (vs.drop j)
 | [],_,_,h=>by rw[DenWL] at h;subst h;rw[List.drop_nil,List.drop_nil];exact .nil
 | _::_,_,0,h=>h
 | _::ws,_,j+1,h=>by
  rw[DenWL] at h;obtain⟨v,us,rfl,h2,h3⟩:=h;exact DenWL.drop j h3
def DenWL.rev:∀ {ws:List W} {vs:List V},DenWL K H T ws vs->DenWL K H T ws.reverse vs.reverse
 | [],_,h=>by rw[DenWL] at h;subst h;exact .nil
 | _::ws,_,h=>by
  rw[DenWL] at h;obtain⟨v,us,rfl,h2,h3⟩:=h;rw[reverse_cons,reverse_cons];exact(DenWL.rev h3).append (.cons h2 .nil)
end
section
variable {X:Cx}
noncomputable def lm0M (t:Mst->Option MR)(op:List W->List W):Mst->Option OutM:=λs=>(t s).bind λx=>match x.1 with
 | .loc n=>(x.2[n]?).bind λws=>some (.nx ⟨s.O,x.2.set n (op ws)⟩)
 | _=>none
def zP4 (y:GM X b t)(f:attributeBase b "reverse" X.env (eval b X.env)=eval b X.env)(c:(apos.endLine==cpos.line)=true) :
  GSM X (.Expr (.Call (.Attribute b "reverse" apos) [] [] cpos) pos) (lm0M t List.reverse):=λH0 w=>(zEN (zOL PySem.F.plainAttrs_list PySem.F.slot_list_reverse PySem.F.type_list_reverse zIz y f c) rfl).imp λE B H d=>by
 obtain⟨M,s,o,i,k,e,p⟩:=d;obtain⟨x,u,e⟩:=bind_some e;split at e
 .rename_i n en;obtain⟨D,l,e⟩:=bind_some e;cases e;refine⟨w++M,s.O,s.G,x,i,u,λv C r k1 j d1=>?_⟩;rw[en,DenW] at d1;obtain⟨a,h,rfl⟩:=d1;obtain⟨z,g,q⟩:=j.loc' h l;refine⟨.inl ⟨rfl,_,SqL.of g⟩,a,z,rfl,rfl,g,?_⟩;obtain⟨m,A⟩:=(i.next k1 j).chg h g q.rev
  simp_all
  exact p (M++r) B _ m (k.trans (k1.trans A))
 .cases e
end
noncomputable def zTa (k:List Int):List W->Option W
 | []=>none
 | .tup [d,u]::ws=>if kI d=some k then some u else zTa k ws
 | _::_=>none
section
variable {K:W.Frag}{H:Hp}{T:List CA}
noncomputable def lenK (t:Bool):Nat:=if t=true then 2 else 1
end
section
variable {X:Cx}
noncomputable def nidW (x y:W)(G:Mem):Option MR:=match y with
 | .di b n=>(kI x).bind λks=>if ks.length=lenK b then (G[n]?).bind λws=>some (.dat (.bl (!(zTa ks ws).isSome)),G) else none
 | _=>none
noncomputable def lcpM (f:Mst->Option MR):Mst->Option MR:=λs=>(f s).bind λx=>match x.1 with
 | .loc n=>(x.2[n]?).bind λws=>some (.loc x.2.length,x.2++[ws])
 | _=>none
def zSp (u:Gl X "list")(z:X.mg "list"=none)(h:GM X e f)(i:starEach [e] X.env=[(false,eval e X.env)]):GM X (.Call (.Name "list" p) [e] [] pos) (lcpM f):=(zGT zD5 u z boot_list (zAj h zBE i) (by decide) (by decide) i rfl).imp λB H Q b=>by
 obtain⟨T,O,G,r,w,e,c⟩:=b;obtain⟨x,o,e⟩:=bind_some e;split at e
 .rename_i n en;obtain⟨B,t,e⟩:=bind_some e;cases e;refine⟨T,O,G,x,w,o,λv k A k1 g d1=>?_⟩;rw[en,DenW] at d1;obtain⟨a,y,rfl⟩:=d1;obtain⟨j,q,s⟩:=g.loc' y t;refine⟨a,j,rfl,.inl (SqL.of q),λl m=>?_⟩;have d:Same k (upd k l (.lst j)):=zAd m _;exact c _ _ (A++[(l,.lst)]) (k1.trans (zA0 d)) (by rw[<- q0];exact g.new d m zAc (s.mono (zA0 d) _)) (by rw[<- q0];exact zDn g)
 .cases e
noncomputable def cutW (ws:List W)(lo hi:Option Int):List W:=(ws.drop (HT.sIx ws.length 0 lo)).take (HT.sIx ws.length ws.length hi - HT.sIx ws.length 0 lo)
noncomputable def slcM (u:Bool)(f g:Mst->Option MR):Mst->Option MR:=λs=>(f s).bind λx=>(g ⟨s.O,x.2⟩).bind λy=>match x.1,y.1 with
 | .loc n,.dat (.int i)=>(y.2[n]?).bind λws=>some (.loc y.2.length,y.2++[cutW ws (if u then none else some i) (if u then some i else none)])
 | _,_=>none
end
end DL
end
section
namespace DL
open PySem Spec PyProof.Rows L2
set_option genSizeOf false in
set_option genInjectivity false in
inductive ME where
 | pur (e:E) | var (i:Nat) | call (n:Nat) (f:Str) (es:ME) | lst (es:ME) | ix (a b:ME) | cmp (op:CmpOp) (a b:ME) | cat (a b:ME)
 | comp (n:Nat) (ms:List Nat) (x:Str) (src el:ME) | rng (a:ME) | rng2 (a b:E) | it (a:ME) | not (a:ME) | orl (es:ME) | nil | cons (e es:ME) | fld (a:ME) (f:Str) | mth (ix:List (Str×Nat)) (m:Str) (a es:ME) | mk (n:Nat) (c kw:Str) (d:Bool) (es:ME) | mkk (n:Nat) (c kw:Str) (es a:ME) | lcp (a:ME) | slc (u:Bool) (a b:ME) | nid (a b:ME)
set_option genSizeOf false in
set_option genInjectivity false in
inductive MT where
 | nil | cons (a b:MT) | set (i:Nat) (e:ME) | setC (i:Nat) (e:ME) | app (t e:ME) | put (t k e:ME) | ife (c:ME) (a b:MT) | for1 (i:Nat) (src:ME) (b:MT) 
 | ret (e:ME) | never | clr (t:ME) | rev (t:ME) 
noncomputable def catW (x y:W)(G:Mem):Option MR:=match x,y with
 | .loc n,.loc m=>(G[n]?).bind λws=>(G[m]?).bind λvs=>if ws.length+vs.length<=10000 then some (.loc G.length,G++[ws++vs]) else none
 | _,_=>none
noncomputable def fnM (U:Dm)(n:Nat)(x:Str)(g:Mst->Option MA):Mst->Option MR:=λs=>match U[n]? with
 | some (y,F)=>if y=x then zLu F g s else none
 | none=>none
mutual
def evM (J:Gm)(U:Dm):ME->Mst->Option MR
 | .pur e=>zMw (evE J e)
 | .var i=>varM i
 | .call n f es=>fnM U n f (evMs J U es)
 | .lst es=>lstM (evMs J U es)
 | .ix a b=>twoM (evM J U a) (evM J U b) ixW
 | .cat a b=>twoM (evM J U a) (evM J U b) catW
 | .cmp op a b=>twoM (evM J U a) (evM J U b) (opM (cmpD op))
 | .fld a f=>fldM J.ob f (evM J U a)
 | .mth ix m a es=>mthM U ix m (evM J U a) (evMs J U es)
 | .mk n c kw d es=>mkM U n c kw d (evMs J U es)
 | .mkk n c kw es a=>mkkM U n c kw (evMs J U es) (evM J U a)
 | .lcp a=>lcpM (evM J U a)
 | .slc u a b=>slcM u (evM J U a) (evM J U b)
 | .comp n ms _ src el=>zHk ms 1 (evSrc J U src) (tgM n) (evM J U el)
 | _=>λ_=>none
def evMs (J:Gm)(U:Dm):ME->Mst->Option MA
 | .nil=>nilM
 | .cons e es=>zNk (evM J U e) (evMs J U es)
 | _=>λ_=>none
def evSrc (J:Gm)(U:Dm):ME->Mst->Option (Src×Mem)
 | .rng a=>zMR (evM J U a)
 | .rng2 a b=>zT8 (evE J a) (evE J b)
 | .it a=>srcM (evM J U a)
 | _=>λ_=>none
end
mutual
noncomputable def evT (J:Gm)(U:Dm):ME->Mst->Option MB
 | .pur e=>zMx (asB (evE J e))
 | .cmp op a b=>asBM (evM J U (.cmp op a b))
 | .call n f es=>asBM (evM J U (.call n f es))
 | .nid a b=>asBM (twoM (evM J U a) (evM J U b) nidW)
 | .not a=>notB (evT J U a)
 | .orl es=>evOrT J U es
 | _=>λ_=>none
noncomputable def zGm (J:Gm)(U:Dm):ME->Mst->Option MB
 | .cons e es=>(match es with
  | .nil=>evT J U e
  | es=>andB (evT J U e) (zGm J U es))
 | _=>λ_=>none
noncomputable def evOrT (J:Gm)(U:Dm):ME->Mst->Option MB
 | .cons e es=>(match es with
  | .nil=>evT J U e
  | es=>orB (evT J U e) (evOrT J U es))
 | _=>λ_=>none
end
mutual
def evS' (J:Gm)(U:Dm):MT->Mst->Option OutM
 | .set i e=>setM i (evM J U e)
 | .setC i e=>setM i (evM J U e)
 | .app t e=>appM (evM J U t) (evM J U e)
 | .put t k e=>putM (evM J U t) (evM J U k) (evM J U e)
 | .ife c a b=>ifM (evT J U c) (evSs' J U a) (evSs' J U b)
 | .for1 i src b=>λs=>(evSrc J U src s).bind λr=>zEv (tgM i) (evSs' J U b) r.1 0 ⟨s.O,r.2⟩
 | .ret e=>retM (evM J U e)
 | .clr t=>clrM (evM J U t)
 | .rev t=>lm0M (evM J U t) List.reverse
 | .nil=>λ_=>none
 | .cons _ _=>λ_=>none
 | .never=>λ_=>none
def evSs' (J:Gm)(U:Dm):MT->Mst->Option OutM
 | .nil=>λs=>some (.nx s)
 | .cons a b=>seqM (evS' J U a) (evSs' J U b)
 | _=>λ_=>none
end
noncomputable def zJK:Expr->Bool
 | .Name _ _=>true
 | .Subscript _ _ _=>true
 | .Attribute _ _ _=>true
 | _=>false
noncomputable def onKw (k:Keyword)(f:Str->Expr->Bool):Bool:=match k with
 | ⟨some s,v,_⟩=>f s v
 | _=>false
def zPT (h:onKw k f=true):∃ s v p,k=⟨some s,v,p⟩/\f s v=true:=by
 obtain⟨o,v,p⟩:=k;cases o with
 | none=>exact nof h
 | some s=>exact⟨s,v,p,rfl,h⟩
mutual
noncomputable def cM:ME->Scope->List Str->List Str->Expr->Bool
 | .pur e,sc,N,bs=>λx=>cE e sc N bs x
 | .var i,sc,N,bs=>λx=>cE (.var i) sc N bs x
 | .call _ f es,sc,N,bs=>λe=>onC e λy z2=>zGW z2 λx xs=>(decide (f=y)&&glB sc f&&okN f&&(spec.lookup f).isNone&&cMs es sc N bs (x::xs))
 | .lst es,sc,N,bs=>λe=>zKG e λl _=>cMs es sc N bs l
 | .ix a b,sc,N,bs=>λe=>zBS e λl r _=>zER r&&cM a sc N bs l&&cM b sc N bs r
 | .cat a b,sc,N,bs=>λe=>zHN e λl op' r _=>opB .Add op'&&cM a sc N bs l&&cM b sc N bs r
 | .cmp op a b,sc,N,bs=>λe=>zDV e λl z1 z2 _=>on1 z1 λop'=>on1 z2 λr=>cmB op op'&&cM a sc N bs l&&cM b sc N bs r
 | .fld a f,sc,N,bs=>λe=>zAs e λl m _=>decide (m=f)&&zJK l&&cM a sc N bs l
 | .mth _ m a es,sc,N,bs=>λe=>zBr e λz1 z2 z3 cpos=>zAs z1 λl m' apos=>on0 z3<|(decide (m'=m)&&zJK l&&(apos.endLine==cpos.line)&&decide (z2.length < 30)&&cM a sc N bs l&&cMs es sc N bs z2)
 | .mk _ c _ _ es,sc,N,bs=>λe=>onC e λy z2=>zGW z2 λx xs=>(decide (c=y)&&glB sc c&&okN c&&cMs es sc N bs (x::xs))
 | .mkk _ c kn es a,sc,N,bs=>λe=>zBr e λz1 z2 z3 _=>zA1 z1 λy _=>zGW z2 λx xs=>on1 z3 λkw=>onKw kw λs v=>decide (c=y)&&glB sc c&&okN c&&decide (s=kn)&&cMs es sc N bs (x::xs)&&cM a sc N bs v
 | .slc u a b,sc,N,bs=>λe=>zBS e λl z1 _=>zHM z1 λx y z2 _=>zE6 z2<|(if u then zE6 x<|zEP y λv=>cM a sc N bs l&&cM b sc N bs v else zE6 y<|zEP x λv=>cM a sc N bs l&&cM b sc N bs v)
 | .lcp a,sc,N,bs=>λe=>onC e λy z2=>on1 z2 λl=>(decide (y = "list")&&bltB sc bs "list"&&zAk l&&cM a sc N bs l)
 | .comp n ms x src el,sc,N,bs=>λe=>zDi e λv z1 scope _=>on1 z1 λz2=>zPU z2 λz3 t z4 a=>zA1 z3 λy _=>on0 z4<|(decide (x=y)&&decide (a=0)&&decide (n=N.length)&&cscB sc scope&&zMo scope N ms&&decide ((mask (noN N) ms N++[x]).Nodup)&&locB (relS sc scope) x&&ownB scope x&&cSrc src sc N bs t&&cM el (relS sc scope) (mask (noN N) ms N++[x]) bs v)
 | _,_,_,_=>λ_=>false
noncomputable def cMs:ME->Scope->List Str->List Str->List Expr->Bool
 | .nil,sc,N,bs=>λl=>l.isEmpty
 | .cons e es,sc,N,bs=>λl=>match l with
  | x::xs=>zAk x&&cM e sc N bs x&&cMs es sc N bs xs
  | []=>false
 | _,_,_,_=>λ_=>false
noncomputable def cSrc:ME->Scope->List Str->List Str->Expr->Bool
 | .rng a,sc,N,bs=>λx=>onC x λy z2=>on1 z2 λl=>(decide (y = "range")&&bltB sc bs "range"&&zAk l&&cM a sc N bs l)
 | .rng2 a b,sc,N,bs=>λ_=>false
 | .it a,sc,N,bs=>λx=>zKO x&&cM a sc N bs x
 | _,_,_,_=>λ_=>false
end
mutual
noncomputable def cT:ME->Scope->List Str->List Str->Expr->Bool
 | .pur e,sc,N,bs=>λx=>cE e sc N bs x
 | .cmp op a b,sc,N,bs=>λx=>cM (.cmp op a b) sc N bs x
 | .call n f es,sc,N,bs=>λx=>cM (.call n f es) sc N bs x
 | .nid a b,sc,N,bs=>λ_=>false
 | .not a,sc,N,bs=>λ_=>false
 | .orl es,sc,N,bs=>λe=>zEE e λz1 l _=>onEq z1 .Or<|(cTs es sc N bs l)
 | _,_,_,_=>λ_=>false
noncomputable def cTs:ME->Scope->List Str->List Str->List Expr->Bool
 | .cons e es,sc,N,bs=>λl=>match es with
  | .nil=>(match l with
   | [x]=>cT e sc N bs x
   | _=>false)
  | es=>(match l with
   | x::y::xs=>cT e sc N bs x&&cTs es sc N bs (y::xs)
   | _=>false)
 | _,_,_,_=>λ_=>false
end
noncomputable def zPs:ME->Bool
 | .comp _ _ _ _ _=>true
 | _=>false
mutual
noncomputable def cS' (sc:Scope)(N bs:List Str):MT->Stmt->Bool
 | .set i e=>λs=>zCO s λz1 v _=>on1 z1 λz2=>zA1 z2 λy _=>varB sc N i y&&zFB v&&cM e sc N bs v
 | .setC i e=>λs=>zCO s λz1 v _=>on1 z1 λz2=>zA1 z2 λy _=>zPs e&&varB sc N i y&&cM e sc N bs v
 | .app t e=>λs=>zDh s λz1 _=>zBr z1 λz2 z3 z4 cpos=>zAs z2 λb m apos=>on1 z3 λv=>on0 z4<|(decide (m = "append")&&zJK b&&(apos.endLine==cpos.line)&&zAk v&&cM t sc N bs b&&cM e sc N bs v)
 | .put t k e=>λs=>zCO s λz1 v _=>on1 z1 λz2=>zBS z2 λb kk _=>zFB v&&zER kk&&cM t sc N bs b&&cM k sc N bs kk&&cM e sc N bs v
 | .ife c a b=>λs=>onIf s λt l r _=>cT c sc N bs t&&cSs' sc N bs a l&&cSs' sc N bs b r
 | .for1 i it b=>λs=>zPV s λz1 t l z2 _=>zA1 z1 λy _=>on0 z2<|(varB sc N i y&&cSrc it sc N bs t&&cSs' sc N bs b l)
 | .ret e=>λs=>zED s λz1 _=>zEP z1 λv=>cM e sc N bs v
 | .clr t=>λs=>zDh s λz1 _=>zBr z1 λz2 z3 z4 cpos=>zAs z2 λb m apos=>on0 z3<|on0 z4<|(decide (m = "clear")&&zJK b&&(apos.endLine==cpos.line)&&cM t sc N bs b)
 | .rev t=>λs=>zDh s λz1 _=>zBr z1 λz2 z3 z4 cpos=>zAs z2 λb m apos=>on0 z3<|on0 z4<|(decide (m = "reverse")&&zJK b&&(apos.endLine==cpos.line)&&cM t sc N bs b)
 | .never=>λ_=>true
 | .nil=>λ_=>false
 | .cons _ _=>λ_=>false
noncomputable def cSs' (sc:Scope)(N bs:List Str):MT->List Stmt->Bool
 | .nil=>λl=>l.isEmpty
 | .cons a b=>λl=>match l with
  | s::r=>cS' sc N bs a s&&cSs' sc N bs b r
  | []=>false
 | _=>λ_=>false
end
end DL
end
section
namespace DL
open PySem Spec PyProof.Rows L2
structure XOkM (X:Cx)(k:Nat)(J:Gm)(U:Dm)(bs:List Str):Prop where
 x:XOk X k J bs
 d:DmOk X.prog X.w X.K X.mg X.base k U
def XOkM.comp (o:XOkM X k J U bs)(a:N.Nodup):XOkM (zAe X N scope s H fp) k J U bs:=⟨o.x.comp a,o.d⟩
section
variable {X:Cx}{k:Nat}{J:Gm}{U:Dm}{bs:List Str}
def zHW (h:∀ s,f s=none):GM X e f:=λpins s B H Q I a=>by
 obtain⟨T,O,G,r,b,q,c⟩:=a;rw[h] at q;cases q
def zM9 (h:∀ s,f s=none):GTM X e f:=λpins s B H Q I a=>by
 obtain⟨T,O,G,r,b,q,c⟩:=a;rw[h] at q;cases q
def zGJ (h:∀ x y,o x y=none)(s:Mst):twoM f g (opM o) s=none:=by
 unfold twoM;cases f s with
 | none=>rfl
 | some x =>
  rw[qx];cases g _ with
  | none=>rfl
  | some y =>
   unfold opM
   simp_all
def zPI:OpW X.K (zO8 X.K) catW:=λH T G x y z w v Q c e o h n=>by
 unfold catW at e;split at e
 .rename_i m k;obtain⟨u,s,e⟩:=bind_some e;obtain⟨us,r,e⟩:=bind_some e;by_cases hl:u.length+us.length<=10000
  .rw [if_pos hl] at e;cases e;rw[DenW] at h;obtain⟨a,h1,rfl⟩:=o;obtain⟨b,h2,rfl⟩:=h;obtain⟨j,t,g⟩:=c.loc' h1 s;obtain⟨l,q,f⟩:=c.loc' h2 r;refine⟨_,_,j,l,rfl,rfl,SqL.of t,SqL.of q,by rw[<- g.length,<- f.length];exact zDP hl,λp i=>?_⟩;have d:Same H (upd H p (.lst (j++l))):=zAd i _;exact n _ _ [(p,.lst)] (zA0 d) (c.new d i zAc ((g.append f).mono (zA0 d) _)) (zDn c)
  .rw [if_neg hl] at e;cases e
 .cases e
def zQI (e:X.A.units+64 < cLine)(d:GM X a f)(c:GM X b g):GM X (.Compare a [op] [b] pos) (twoM f g (opM (cmpD op)))/\GTM X (.Compare a [op] [b] pos) (asBM (twoM f g (opM (cmpD op)))):=by
 rcases zIW e with ⟨r,h1,h2,h3⟩ | h
 .exact ⟨((zJ7 h1 d c (h3 b)).imp λ_ _ _ q=>zFr (zOM h2) q),((zJ1 h1 d c (h3 b)).imp λ_ _ _ q=>zFr (zOM h2) (zK6 q))⟩
 .exact ⟨zHW (zGJ h),zM9 λs=>by unfold asBM;rw[zGJ h]⟩
def zUe (o:XOkM X k J U bs)(l:Gl X f)(j:(f==("__debug__":Str))=false)(i:GAM X (x::xs) g)(b:∀ e∈x::xs,zAk e=true)(c:spec.lookup f=none):GM X (.Call (.Name f p) (x::xs) [] pos) (fnM U n f g):=by
 cases q:U[n]? with
 | none=>exact zHW λs=>by unfold fnM;rw[q]
 | some h =>
  obtain⟨y,F⟩:=h;by_cases e:y=f
  .subst e;have d:fnM U n y g=zLu F g:=by
    funext s;unfold fnM
    simp_all
   rw[d];have D:=o.d y F (mem_of_getElem? q);rw[c] at D;obtain⟨a,m,r,h1,h2,h3,h4⟩:=D;exact zQJ h1 o.x.room l h2 h3 h4 i j (zAG (b x q8)) (zBD λe z=>b e (qJ _ z))
  .exact zHW λs=>by
    unfold fnM;rw[q];exact if_neg e
def zC0 {c}(h:zJK b=true):attributeBase b m env c=c:=by
 cases b<;>first | rfl | cases h
def zDc :∀ {es:List Expr},cMs a sc N bs es=true->∀ e∈es,zAk e=true:=by
 induction a with
 | nil =>
  intro es h;cases es with
  | nil=>intro e z;exact absurd z (by simp)
  | cons x c=>exact nomatch show false=true from h
 | cons a b _ d =>
  intro es h;cases es with
  | nil=>intro e z;exact absurd z (by simp)
  | cons x c =>
   simp only[cMs,x8] at h;intro e z;rcases mem_cons.mp z with rfl | z
   .simp_all
   .exact d h.2 e z
 | _=>intro es h;exact zzf h
def zTH (h:∀ e∈es,zAk e=true)(a:es.length < 30)(pos:Pos):methodCallForm (es.length+([]:List Keyword).length) (backTo pos (starEach es X.env)) (backToKw pos (keywordEach [] X.env))=true:=by
 unfold methodCallForm;have q:=zBD (X:=X) h pos;rw[x8,x8];refine⟨⟨?_,rfl⟩,decide_eq_true (by assumption)⟩
 simp_all
structure zUt (X:Cx)(J:Gm)(U:Dm)(bs:List Str)(a:ME):Prop where
 e:∀ e,cM a X.env.scope X.N bs e=true->GM X e (evM J U a):=by exact nh
 es:∀ es,cMs a X.env.scope X.N bs es=true->GAM X es (evMs J U a):=by exact nh
 s:∀ it,cSrc a X.env.scope X.N bs it=true->(∀ tg,GIM X tg it (evSrc J U a))/\∀ x,foldedSetIterable it X.env x=pure x:=by exact nh
 t:∀ e,cT a X.env.scope X.N bs e=true->GTM X e (evT J U a):=by exact nh
 ts:∀ l,cTs a X.env.scope X.N bs l=true->∀ pos,GWM X (.BoolOp .And l pos) (zGm J U a)/\GWM X (.BoolOp .Or l pos) (evOrT J U a):=by exact nh
def zBe (o:XOkM X k J U bs)(a:ME):zUt X J U bs a:=by
 induction a generalizing X with
 | pur e =>
  refine { e:=λx h=>zQH (((zDO o.x e).e _ h).1),t:=λx h=>zNA (((zDO o.x e).e _ h).2) }
 | var i =>
  refine { e:=λx h=>?_ };replace h:cE (.var i) X.env.scope X.N bs x=true:=h;obtain⟨_,_,rfl,g⟩:=zAQ h;replace h:=g;simp only[x8,qj] at h;obtain⟨⟨h2,h3⟩,h4⟩:=h;obtain⟨n1,n2⟩:=zCD h4;exact zSl h2 (zEK h3) n1 n2
 | call n f es ih =>
  have S:∀ e,cM (.call n f es) X.env.scope X.N bs e=true->GM X e (evM J U (.call n f es))/\GTM X e (asBM (evM J U (.call n f es))):=λe h=>by
   obtain⟨_,_,_,_,rfl,g⟩:=zBs h;obtain⟨_,_,rfl,w⟩:=zDU g;replace h:=w;simp only[x8,qj,Option.isNone_iff_eq_none] at h;obtain⟨⟨⟨⟨rfl,h2⟩,h3⟩,h5⟩,h4⟩:=h;have k:=λp pos=>zUe (n:=n) (p:=p) (pos:=pos) o (zEY h2) (zCD h3).1 ((ih o).es _ h4) (zDc h4) h5
   exact⟨k _ _,zP0 (k _ _) λ_=>rfl⟩
  exact { e:=λe h=>(S e h).1,t:=λe h=>(S e h).2 }
 | lst es ih =>
  refine { e:=λx h=>?_ };obtain⟨_,_,rfl,g⟩:=zGV h;replace h:=g;have h:=(ih o).es _ h;refine(zOJ h).imp λB H Q b4=>?_
  obtain⟨T,O,G,r,V,q,c⟩:=b4;obtain⟨ws,e1,q⟩:=bind_some q;by_cases hl:ws.1.length<=10000
  .rw [if_pos hl] at q;cases q;refine⟨T,O,G,ws,V,e1,λvs H1 M k1 c1 d1=>⟨by rw[<- d1.length];exact zDP hl,λp n=>?_⟩⟩;have R:Same H1 (upd H1 p (.lst vs)):=zAd n _;refine c _ _ (M++[(p,.lst)]) (k1.trans (zA0 R)) ?_ ?_
   .rw [<- q0];exact c1.new R n zAc (d1.mono (zA0 R) [(p,.lst)])
   .rw [<- q0];exact zDn c1
  .rw [if_neg hl] at q;cases q
 | ix a b j K =>
  refine { e:=λx h=>?_ };obtain⟨_,_,_,rfl,g⟩:=zA9 h;replace h:=g;simp only[x8] at h;obtain⟨⟨h0,h1⟩,h2⟩:=h;exact ((zRn (zKn.or zOU) ((j o).e _ h1) ((K o).e _ h2) (zE9 h0)).imp λ_ _ _ q=>zFr zRr q)
 | cat a b j K =>
  refine { e:=λx h=>?_ };obtain⟨_,_,_,_,rfl,g⟩:=zE7 h;replace h:=g;simp only[x8,opB,qj] at h;obtain⟨⟨rfl,h1⟩,h2⟩:=h;exact ((zRj zKD ((j o).e _ h1) ((K o).e _ h2)).imp λ_ _ _ q=>zFr zPI q)
 | cmp op a b j K =>
  have S:∀ e,cM (.cmp op a b) X.env.scope X.N bs e=true->GM X e (evM J U (.cmp op a b))/\GTM X e (asBM (evM J U (.cmp op a b))):=λe h=>by
   obtain⟨_,z1,z2,_,rfl,g⟩:=zCh h;obtain⟨_,rfl,w⟩:=zAt g;obtain⟨_,rfl,E⟩:=zAt w;replace h:=E;simp only[x8,cmB,qj] at h;obtain⟨⟨rfl,h1⟩,h2⟩:=h;exact zQI (zEC o.x) ((j o).e _ h1) ((K o).e _ h2)
  exact { e:=λe h=>(S e h).1,t:=λe h=>(S e h).2 }
 | fld a f j =>
  refine { e:=λx h=>?_ };obtain⟨_,_,_,rfl,g⟩:=zAh h;replace h:=g;simp only[x8,qj] at h;obtain⟨⟨rfl,h2⟩,h3⟩:=h;exact zSq ((j o).e _ h3) (zC0 h2) λc m C q=>o.x.g.ob _ m C q
 | mth ix m a es j A =>
  refine { e:=λx h=>?_ };obtain⟨z1,z2,z3,_,rfl,g⟩:=zAu h;obtain⟨_,_,_,rfl,w⟩:=zAh g;obtain⟨rfl,F⟩:=zBL w;replace h:=F;simp only[x8,qj] at h;obtain⟨⟨⟨⟨⟨rfl,h2⟩,h3⟩,h4⟩,h5⟩,h6⟩:=h;cases z2 with
  | nil =>
   cases es with
   | nil=>exact zQG ((j o).e _ h5) o.d o.x.room (zC0 h2) h3
   | _=>exact(zzf h6)
  | cons x xs =>
  have Y:=zDc h6;exact zSm ((j o).e _ h5) ((A o).es _ h6) o.d o.x.room (zAG (Y _ q8)) (zBD (λe z=>Y e (qJ _ z)) _) (zC0 h2) (zTH Y h4 _) h3
 | mk n c kw d es A =>
  refine { e:=λx h=>?_ };obtain⟨_,_,_,_,rfl,g⟩:=zBs h;obtain⟨_,_,rfl,w⟩:=zDU g;replace h:=w;simp only[x8,qj] at h;obtain⟨⟨⟨rfl,h2⟩,h3⟩,h4⟩:=h;have Y:=zDc h4;exact zUc ((A o).es _ h4) o.d o.x.room (zEY h2) (zCD h3).1 (zAG (Y _ q8)) (zBD (λe z=>Y e (qJ _ z)) _)
 | mkk n c kw es a A j =>
  refine { e:=λx h=>?_ };obtain⟨z1,z2,z3,_,rfl,g⟩:=zAu h;obtain⟨_,_,rfl,w⟩:=zAQ g;obtain⟨_,_,rfl,E⟩:=zDU w;obtain⟨_,rfl,F⟩:=zAt E;obtain⟨_,_,_,rfl,D⟩:=zPT F;replace h:=D;simp only[x8,qj] at h;obtain⟨⟨⟨⟨⟨rfl,h2⟩,h3⟩,rfl⟩,h4⟩,h5⟩:=h;have Y:=zDc h4;exact zSn ((A o).es _ h4) ((j o).e _ h5) o.d o.x.room (zEY h2) (zCD h3).1 (zAG (Y _ q8)) (by rw[zBD Y];rfl)
 | slc u a b j K =>
  refine { e:=λx h=>?_ };obtain⟨_,z1,_,rfl,g⟩:=zA9 h;obtain⟨_,_,z2,_,rfl,w⟩:=zE5 g;obtain⟨rfl,E⟩:=zDT w;cases u with
  | true =>
   rw[if_pos rfl] at E;obtain⟨rfl,F⟩:=zDT E;obtain⟨_,rfl,D⟩:=zCg F;rw[x8] at D;have W:=(j o).e _ D.1;have hb:=(K o).e _ D.2;refine(zFp zG8 W zHH (zHG hb)).imp λB H Q a4=>?_
   obtain⟨T,O,G,r,V,q,c⟩:=a4;obtain⟨x,ex,q⟩:=bind_some q;obtain⟨y,ey,q⟩:=bind_some q;split at q
   .rename_i n i en ei;obtain⟨ws,ew,q⟩:=bind_some q;cases q;refine⟨T,O,G,x,V,ex,λv H1 O3 k1 c1 d1=>⟨T++O3,O,x.2,y,V.next k1 c1,ey,λv2 H2 O4 k2 c2 d2=>?_⟩⟩;rw[ei,DenW,Den] at d2;rw[en,DenW] at d1;obtain⟨a,W,rfl⟩:=d1;obtain⟨vs,g2,g3⟩:=c2.loc' (getElem?_append_left (zzg W).1 |>.trans W) ew;refine⟨i,d2,a,vs,rfl,SqL.of g2,λl nl=>?_⟩;have R:Same H2 (upd H2 l (.lst (cutV vs none (some i)))):=zAd nl _;have g4:DenWL X.K H2 (T++O3++O4) (cutW ws none (some i)) (cutV vs none (some i)):=by unfold cutW cutV;rw[<- g3.length];exact(g3.drop _).take _
    exact c _ _ (O3++O4++[(l,.lst)]) ((k1.trans k2).trans (zA0 R)) (by rw[<- q0,<- q0];exact c2.new R nl zAc (g4.mono (zA0 R) _)) (by rw[<- q0,<- q0];exact zDn c2)
   .cases q
  | false =>
   rw[if_neg qY] at E;obtain⟨rfl,F⟩:=zDT E;obtain⟨_,rfl,D⟩:=zCg F;rw[x8] at D;have W:=(j o).e _ D.1;have hb:=(K o).e _ D.2;refine(zFp zG8 W (zHG hb) zHH).imp λB H Q a1=>?_
   obtain⟨T,O,G,r,V,q,c⟩:=a1;obtain⟨x,ex,q⟩:=bind_some q;obtain⟨y,ey,q⟩:=bind_some q;split at q
   .rename_i n i en ei;obtain⟨ws,ew,q⟩:=bind_some q;cases q;refine⟨T,O,G,x,V,ex,λv H1 O3 k1 c1 d1=>⟨T++O3,O,x.2,y,V.next k1 c1,ey,λv2 H2 O4 k2 c2 d2=>?_⟩⟩;rw[ei,DenW,Den] at d2;rw[en,DenW] at d1;obtain⟨a,W,rfl⟩:=d1;obtain⟨vs,g2,g3⟩:=c2.loc' (getElem?_append_left (zzg W).1 |>.trans W) ew;refine⟨i,d2,a,vs,rfl,SqL.of g2,λl nl=>?_⟩;have R:Same H2 (upd H2 l (.lst (cutV vs (some i) none))):=zAd nl _;have g4:DenWL X.K H2 (T++O3++O4) (cutW ws (some i) none) (cutV vs (some i) none):=by unfold cutW cutV;rw[<- g3.length];exact(g3.drop _).take _
    exact c _ _ _ ((k1.trans k2).trans (zA0 R)) (by rw[<- q0,<- q0];exact c2.new R nl zAc (g4.mono (zA0 R) _)) (by rw[<- q0,<- q0];exact zDn c2)
   .cases q
 | lcp a j =>
  refine { e:=λx h=>?_ };obtain⟨_,_,_,_,rfl,g⟩:=zBs h;obtain⟨_,rfl,w⟩:=zAt g;replace h:=w;simp only[x8,qj] at h;obtain⟨⟨⟨rfl,h2⟩,h3⟩,h4⟩:=h;obtain⟨g1,g2⟩:=zA8 o.x h2;exact zSp g1 g2 ((j o).e _ h4) (zAG h3)
 | nid a b j K =>
  exact {}
 | comp n V x e2 el A L =>
  refine { e:=λe h=>?_ };obtain⟨v,z1,N,pos,rfl,g⟩:=zCN h;obtain⟨z2,rfl,w⟩:=zAt g;obtain⟨z3,t,z4,a,rfl,E⟩:=zFs w;obtain⟨y,py,rfl,F⟩:=zAQ E;obtain⟨rfl,D⟩:=zBL F;replace h:=D;simp only[x8,qj] at h;obtain⟨⟨⟨⟨⟨⟨⟨⟨⟨rfl,rfl⟩,rfl⟩,h4⟩,h5⟩,h6⟩,h7⟩,h8⟩,h9⟩,h11⟩:=h;have cx:∀ s H fp,XOkM (zAe X (mask (noN X.N) V X.N++[x]) N s H fp) k J U bs:=λs H fp=>o.comp h6
  exact zKz o.x.calm (((A o).s _ h9).1 _) ((A o).s _ h9).2 (zHj h4) (zFw h5) (λs H fp=>zF4 (X:=zAe X (mask (noN X.N) V X.N++[x]) N s H fp) h6 (zLG (k:=0) rfl) (zET h7) (.inl h8)) λs H fp=>(L (cx s H fp)).e _ h11
 | rng a j =>
  refine { s:=λx h=>?_ };obtain⟨_,_,_,_,rfl,g⟩:=zBs h;obtain⟨_,rfl,w⟩:=zAt g;replace h:=w;simp only[x8,qj] at h;obtain⟨⟨⟨rfl,h2⟩,h3⟩,h4⟩:=h;obtain⟨g1,g2⟩:=zA8 o.x h2;exact⟨λtg=>zI9 g1 g2 ((j o).e _ h4) (zAG h3),λ_=>rfl⟩
 | rng2 a b =>
  exact {}
 | it a j =>
  refine { s:=λx h=>?_ };replace h:(zKO x&&cM a X.env.scope X.N bs x)=true:=h;simp only[x8] at h;exact⟨λtg=>zQK ((j o).e _ h.2),zFA h.1⟩
 | not a j =>
  exact {}
 | orl es ih =>
  refine { t:=λe h=>?_ };obtain⟨z1,_,_,rfl,g⟩:=zDG h;obtain⟨rfl,w⟩:=zDj g;replace h:=w;exact (λpins s B H Q I q=>(((ih o).ts _ h _).2) _ pins s B H Q I q)
 | nil =>
  refine { es:=λes h=>?_ };cases es with
  | nil=>exact zQS
  | cons x xs=>exact nof h
 | cons e es L A =>
  refine { es:=λl h=>?_,ts:=λl h pos=>?_ }
  .cases l with
   | nil=>exact nof h
   | cons x xs =>
    replace h:(zAk x&&cM e X.env.scope X.N bs x&&cMs es X.env.scope X.N bs xs)=true:=h;simp only[x8] at h;exact zNL ((L o).e _ h.1.2) ((A o).es _ h.2) (zAG h.1.1)
  .simp only [cTs] at h;split at h
   .split at h
    .exact ⟨(zJ0 ((L o).t _ h)),(zOD ((L o).t _ h))⟩
    .cases h
   .rename_i hn;split at h
    .rw [x8] at h;have q:=(A o).ts _ h.2 pos;have ea:zGm J U (.cons e es)=andB (evT J U e) (zGm J U es):=by
      rw[zGm];exact hn
     have eo:evOrT J U (.cons e es)=orB (evT J U e) (evOrT J U es):=by
      rw[evOrT];exact hn
     rw[ea,eo];exact⟨zPz ((L o).t _ h.1) q.1,zSY ((L o).t _ h.1) q.2⟩
    .cases h
end
section
variable {X:Cx}{k:Nat}{J:Gm}{U:Dm}{bs:List Str}
def zJg (o:XOkM X k J U bs)(z:∀ x,X.fn x=true)(a:MT):(∀ st,cS' X.env.scope X.N bs a st=true->GSM X st (evS' J U a))/\∀ sts,cSs' X.env.scope X.N bs a sts=true->GSsM X sts (evSs' J U a):=by
 have F:=o.x.nd
 induction a with
 | nil =>
  refine⟨nh,λl h=>?_⟩;cases l with
  | nil=>exact zNB
  | cons x T=>exact nof h
 | cons a b C r =>
  refine⟨nh,λl h=>?_⟩;cases l with
  | nil=>exact nof h
  | cons x T =>
   replace h:(cS' X.env.scope X.N bs a x&&cSs' X.env.scope X.N bs b T)=true:=h;simp only[x8] at h;exact zKv (C.1 _ h.1) (r.2 _ h.2)
 | set i e =>
  refine⟨λst h=>?_,nh⟩;obtain⟨u,_,_,rfl,d⟩:=zBT h;obtain⟨w,rfl,f⟩:=zAt d;obtain⟨_,_,rfl,g⟩:=zAQ f;replace h:=g;simp only[x8] at h;obtain⟨⟨h2,h3⟩,h4⟩:=h;obtain⟨Q,K,_⟩:=zB5 h2;exact zKw F Q K ((zBe o e).e _ h4) (zDH h3) (.inl (z _))
 | setC i e =>
  refine⟨λst h=>?_,nh⟩;obtain⟨u,_,_,rfl,d⟩:=zBT h;obtain⟨w,rfl,f⟩:=zAt d;obtain⟨_,_,rfl,g⟩:=zAQ f;replace h:=g;simp only[x8] at h;obtain⟨⟨h2,h3⟩,h4⟩:=h;obtain⟨w1,W,_⟩:=zB5 h3;cases e with
  | comp n I x E el =>
   obtain⟨v,u,m,a2,rfl,S⟩:=zCN h4;obtain⟨w,rfl,O⟩:=zAt S;obtain⟨G,t,P,a,rfl,N⟩:=zFs O;obtain⟨y,py,rfl,L⟩:=zAQ N;obtain⟨rfl,R⟩:=zBL L;replace h4:=R
   .simp only [x8,qj] at h4;obtain⟨⟨⟨⟨⟨⟨⟨⟨⟨rfl,rfl⟩,rfl⟩,h4⟩,h5⟩,h6⟩,h7⟩,h8⟩,h9⟩,h11⟩:=h4;have cx:∀ s H D,XOkM (zAe X (mask (noN X.N) I X.N++[x]) m s H D) k J U bs:=λs H D=>o.comp h6
    exact zND o.x.calm (((zBe o E).s _ h9).1 _) ((zBe o E).s _ h9).2 (zHj h4) (zFw h5) (λs H D=>zF4 (X:=zAe X (mask (noN X.N) I X.N++[x]) m s H D) h6 (zLG (k:=0) rfl) (zET h7) (.inl h8)) (λs H D=>(zBe (cx s H D) el).e _ h11) F w1 W (.inl (z _))
  | _=>cases h2
 | app t e =>
  refine⟨λst h=>?_,nh⟩;obtain⟨u,_,rfl,d⟩:=zCB h;obtain⟨w,G,P,_,rfl,f⟩:=zAu d;obtain⟨_,_,_,rfl,g⟩:=zAh f;obtain⟨_,rfl,q⟩:=zAt g;obtain⟨rfl,j⟩:=zBL q;replace h:=j;simp only[x8,qj] at h;obtain⟨⟨⟨⟨⟨rfl,h2⟩,h3⟩,h4⟩,h5⟩,h6⟩:=h;exact zP9 ((zBe o t).e _ h5) ((zBe o e).e _ h6) (zAG h4) (zC0 h2) h3
 | put t Y e =>
  refine⟨λst h=>?_,nh⟩;obtain⟨u,_,_,rfl,d⟩:=zBT h;obtain⟨w,rfl,f⟩:=zAt d;obtain⟨_,_,_,rfl,g⟩:=zA9 f;replace h:=g;simp only[x8] at h;obtain⟨⟨⟨⟨h1,h2⟩,h3⟩,h4⟩,h5⟩:=h;exact zP6 ((zBe o t).e _ h3) ((zBe o Y).e _ h4) ((zBe o e).e _ h5) (zLx h2) (zJa h1) rfl rfl
 | ife c a b C r =>
  refine⟨λst h=>?_,nh⟩;obtain⟨_,_,_,_,rfl,d⟩:=zKH h;replace h:=d;simp only[x8] at h;obtain⟨⟨h1,h2⟩,h3⟩:=h;exact zSf ((zBe o c).t _ h1) (C.2 _ h2) (r.2 _ h3)
 | for1 i it b r =>
  refine⟨λst h=>?_,nh⟩;obtain⟨u,_,_,w,_,rfl,d⟩:=zH1 h;obtain⟨_,_,rfl,f⟩:=zAQ d;obtain⟨rfl,g⟩:=zBL f;replace h:=g;simp only[x8] at h;obtain⟨⟨h2,h3⟩,h4⟩:=h;obtain⟨Q,K,_⟩:=zB5 h2;obtain⟨Z,V⟩:=(zBe o it).s _ h3;exact zP7 o.x.own o.x.calm (Z _) (zF4 F Q K (.inl (z _))) (r.2 _ h4) V
 | ret e =>
  refine⟨λst h=>?_,nh⟩;obtain⟨u,_,rfl,d⟩:=zDF h;obtain⟨_,rfl,f⟩:=zCg d;replace h:=f;exact zP5 ((zBe o e).e _ h)
 | clr t =>
  refine⟨λst h=>?_,nh⟩;obtain⟨u,_,rfl,d⟩:=zCB h;obtain⟨w,G,P,_,rfl,f⟩:=zAu d;obtain⟨_,_,_,rfl,g⟩:=zAh f;obtain⟨rfl,q⟩:=zBL g;obtain⟨rfl,j⟩:=zBL q;replace h:=j;simp only[x8,qj] at h;obtain⟨⟨⟨rfl,h2⟩,h3⟩,h5⟩:=h;exact zP8 ((zBe o t).e _ h5) (zC0 h2) h3
 | rev t =>
  refine⟨λst h=>?_,nh⟩;obtain⟨u,_,rfl,d⟩:=zCB h;obtain⟨w,G,P,_,rfl,f⟩:=zAu d;obtain⟨_,_,_,rfl,g⟩:=zAh f;obtain⟨rfl,q⟩:=zBL g;obtain⟨rfl,j⟩:=zBL q;replace h:=j;simp only[x8,qj] at h;obtain⟨⟨⟨rfl,h2⟩,h3⟩,h5⟩:=h;exact zP4 ((zBe o t).e _ h5) (zC0 h2) h3
 | never=>exact⟨λst h=>(λH0 α0=>zFm.imp λE B H A=>by obtain⟨M,s,o,I,k,e,p⟩:=A;cases e),nh⟩
end
section
variable {P:Program}{w:World}{K:W.Frag}{mg:Str->Option Value}{base:Heap}{k:Nat}{J:Gm}{U:Dm}{bs:List Str}
def zHi {st:Stmt}(F:Fun K x qual st f fd)(sc:zAg N ps (zAA st))(e:cSs' (zAA st) N bs b (zAN st)=true)(g:GOk P w K mg base k J bs)(d:DmOk P w K mg base k U) :
  FnOk P w K mg base CX0 (k+1) f fd ps (spM K (zA6 ps.length N.length (evSs' J U b))) :=
 zQV F sc λcdv A a s H E c =>
  (zJg ⟨⟨g,c,rfl,sc.nd,PassesOwn.never⟩,d⟩ (λ_=>rfl) b).2 _ e
def DmOk.mono (d:DmOk P w K mg base k U)(h:k<=j):DmOk P w K mg base j U:=λx F m=>(d x F m).mono h
noncomputable def Dm.add (U:Dm)(x:Str)(F:MF):Dm:=U++[(x,F)]
def DmOk.one (d:DmOk P w K mg base k U)(h:k<=j)(e:zMC P w K mg base j x F (spec.lookup x)):DmOk P w K mg base j (U.add x F):=λy G z=>by
 rcases mem_append.mp z with z | z
 .exact (d y G z).mono h
 .grind
def DmOk.add {st:Stmt}(d:DmOk P w K mg base k U)(g:GOk P w K mg base k J bs)(F:Fun K x x st f fd)(sc:zAg N ps (zAA st))(a:cSs' (zAA st) N bs b (zAN st)=true)(m:mg x=some (.ref f))(e:zBP K fd ps [])(c:spec.lookup x=none:=by decide +kernel) :
  DmOk P w K mg base (k+1) (U.add x (zA6 ps.length N.length (evSs' J U b))):=d.one (Nat.le_succ k) (by rw[c];exact⟨f,fd,ps,zHi F sc a g d,m,F.kp,e⟩)
def DmOk.addM {st:Stmt}(d:DmOk P w K mg base k U)(g:GOk P w K mg base k J bs)(F:Fun K nm qual st f fd)(sc:zAg N ps (zAA st))(l:cSs' (zAA st) N bs b (zAN st)=true)(i:zBP K fd ps [])(e:zBy K c C)(j:Cls K C)(a:Meth K C m f)(h:spec.lookup x=some (.mth c m)) :
  DmOk P w K mg base (k+1) (U.add x (zA6 ps.length N.length (evSs' J U b))):=d.one (Nat.le_succ k) (by rw[h];exact⟨C,f,fd,ps,e,j,a,zHi F sc l g d,i⟩)
def GOk.mono (g:GOk P w K mg base k J bs)(h:k<=j):GOk P w K mg base j J bs :=
 ⟨λx F m=>let ⟨f,fd,ps,h1,h2⟩:=g.fn x F m;⟨f,fd,ps,h1.mono h,h2⟩,g.cs,g.bt,trivial,trivial,trivial,λj L F e=>(g.lm j L F e).mono h,g.ob⟩
end
def zRD (f:H x=some (.ins C dx fs))(d:zEh fs=false):zCn (fzH H) (fzH (upd H x o)):=λb u q n=>by
 obtain⟨a,c⟩:=zCj.mp q;by_cases e:b=x
 .grind
 .exact zCj.mpr ⟨by rw[zAX e];exact a,c⟩
def zAJ.updI {K:W.Frag}(c:zAJ K H T G)(b:H x=some (.ins C dx fs))(g:zEh fs=false)(nm:mutF fs=false):zAJ K (upd H x o) T G :=
 ⟨c.len,c.nd,λn a q=>let ⟨p,h1,h2⟩:=c.at_ n a q;⟨p,h1,by
  have e:p.1≠x:=λz=>by
   obtain⟨u,f,d⟩:=h2.some
   simp_all
   cases f;rw[show fz1 _=if mutF fs=true then none else some _ from rfl] at d;grind
  have:=h2.monoF (zRD (o:=o) b g) (zAX e) [];rwa [append_nil] at this⟩⟩
noncomputable def zD9:List (Str×(Mst->Option MR))->Mst->Option (List W×Mem)
 | [],s=>some ([],s.G)
 | p::r,s=>(p.2 s).bind λw=>(zD9 r ⟨s.O,w.2⟩).map λz=>(w.1::z.1,z.2)
noncomputable def mkR (c:Str)(ns:List Str)(z:List W×Mem):MR:=if mutK ns=true then (.ob c ns z.2.length,z.2++[z.1]) else (.obj c ns z.1,z.2)
noncomputable def zF1 (c:Str)(n:Nat)(L:List (Str×(Mst->Option MR))):MF:=λws G=>if ws.length=n then (zD9 L ⟨none::ws.map some,G⟩).map (mkR c (L.map (·.1))) else none
def iT (K:W.Frag)(C dx x:Addr)(H1:Hp)(α0:List CA)(σ0:St)(O:List (Option W))(full:List Str)(L:List (Str×(Mst->Option MR))):TS:=λE B H =>
 ∃ M G fs vs acc z,B=σ0/\H x=some (.ins C dx fs)/\x∉(α0++M).map (·.1)/\Kp H1 H/\zAJ K H (α0++M) G/\fs.map (·.1)++L.map (·.1)=full/\((fs.map (·.1)).map λn=>fs.lookup n)=vs.map some/\DenWL K H (α0++M) acc vs/\zD9 L ⟨O,G⟩=some z /\
  ∀ M' H' fs' vs',x∉(α0++M').map (·.1)->Kp H1 H'->zAJ K H' (α0++M') z.2->H' x=some (.ins C dx fs')->fs'.map (·.1)=full->(full.map λn=>fs'.lookup n)=vs'.map some->DenWL K H' (α0++M') (acc++z.1) vs'->E.nx σ0 H'
noncomputable def zPA (full:List Str):Bool:=(List.range full.length).all λi=>!(zLg (full.take i))&&!(mutK (full.take i))
inductive zEp (X:Cx) (y:Str):List Stmt->List (Str×(Mst->Option MR))->Prop where
 | nil:zEp X y [] []
 | cons {f:Str} {e:Expr} {g:Mst->Option MR} {p p2 pos:Pos} {rest:List Stmt} {L:List (Str×(Mst->Option MR))} (h:GM X e g) (t:zEp X y rest L):zEp X y (.Assign [.Attribute (.Name y p) f p2] e pos::rest) ((f,g)::L)
theorem zFk {f:Str}{v:V}:∀ {fs:List (Str×V)},f∉fs.map (·.1)->putF f v fs=fs++[(f,v)]
 | [],_=>rfl
 | (g,u)::r,h=>by
  rw[map_cons,mem_cons,not_or] at h;unfold putF;rw[if_neg (λz=>h.1 z.symm),zFk h.2]
  rfl
def zM3 {α0:List CA}{σ0:St}(cl:Cls X.K C)(na:∀ n∈full,zBY X.K C n)(nd:full.Nodup)(hp:zPA full=true)(hl:full.length<=100)(n1:H1 x=none)
  (hy:X.N[0]?=some y) (vy:Vis X.env.scope y) (oy:okN y=true) (Z5:σ0[0]?=some (some (.ref x))) (s:σ0.length=O.length) (A:∀ (i:Nat) w,O[i]?=some (some w)->∃ v,σ0[i]?=some (some v)/\DenW X.K H1 α0 w v) :
  ∀ {k:List Stmt} {L:List (Str×(Mst->Option MR))},zEp X y k L->PSs X k (iT X.K C dx x H1 α0 σ0 O full L):=by
 intro k L h
 induction h with
 | nil =>
  refine zHF.imp λE B H d=>?_
  obtain⟨M,G,fs,Y,D,z,E,T,nx,k1,Z,c,R,Q,I,l⟩:=d;cases I;subst E;simp only[map_nil,append_nil] at c;exact l M H fs Y nx k1 Z T c (by rw[<- c];exact R) (by rw[append_nil];exact Q)
 | @cons f e g p p2 pos rest L hg t ih =>
  refine(zFl (zRc (zDS hy vy (zCD oy).1 (zCD oy).2) hg (by cases e<;>rfl)) ih).imp λE B H j=>?_
  obtain⟨M,G,fs,Y,D,z,E,T,nx,k1,Z,c,R,Q,I,l⟩:=j;subst E;obtain⟨w,ew,I⟩:=bind_some I;obtain⟨z',ez,e3⟩:=x9.mp I;cases e3;have ms:MS X.K H (α0++M) G B O:=⟨Z,s,λi w q=>let ⟨v,q1,P⟩:=A i w q;⟨v,q1,P.mono k1 M⟩⟩;refine⟨α0++M,O,G,w,ms,ew,λv u r k2 c2 dv=>⟨.ref x,Z5,x,C,dx,fs,rfl,?_⟩⟩;have mf:f∈full:=by rw[<- c];simp
  have lf:fs.length < full.length:=by
   have:=congrArg List.length c;simp only[qQ,qy,xY] at this;omega
  have tk:full.take fs.length=fs.map (·.1):=by
   rw[<- c,List.take_append_of_le_length (by rw[qy];exact le_refl _),List.take_of_length_le (by rw[qy];exact le_refl _)]
  have J:zEh fs=false/\mutF fs=false:=by
   unfold zPA at hp;have:=all_eq_true.mp hp fs.length (mem_range.mpr lf);rw[tk,x8,Bool.not_eq_true',Bool.not_eq_true'] at this;exact this
  have F:=J.1;have a:u x=some (.ins C dx fs):=zBf _ _ (k2 _ _ (zIF T J.2));have S:x∉(α0++(M++r)).map (·.1):=by
   rw[<- q0];exact c2.out a (zCj.mp (zIF a J.2)).2
  have K:f∉fs.map (·.1):=by
   rw[<- c] at nd;have:=(List.nodup_append.mp nd).2.2;exact λm=>this f m f (by simp) rfl
  refine⟨a,cl,na f mf,by omega,?_⟩;have up:zCn (fzH u) (fzH (upd u x (.ins C dx (putF f v fs)))):=zRD a F;have tr:∀ {ws:List W} {us:List V},DenWL X.K u (α0++M++r) ws us->DenWL X.K (upd u x (.ins C dx (putF f v fs))) (α0++(M++r)) ws us:=λ{ws us} q=>by
   have:=q.monoF up [];rw[append_nil,q0] at this;exact this
  refine⟨M++r,w.2,putF f v fs,Y++[v],D++[w.1],z',rfl,zAc,S,λb o q=>?_,?_,?_,?_,?_,ez,λM' H' U N a0 a1 a2 a3 a4 a5 a6=>l M' H' U N a0 a1 a2 a3 a4 a5 (by simpa using a6)⟩
  .have P:=k2 _ _ (k1 _ _ q);have ne:b≠x:=λz=>by
    rw[z] at q;have:=zBf _ _ q;rw[n1] at this;cases this
   obtain⟨g1,g2⟩:=zCj.mp P;exact zCj.mpr ⟨by rw[zAX ne];exact g1,g2⟩
  .rw [<- q0];exact c2.updI a F J.2
  .rw [zFk K,xJ,q0];exact c
  .have E:(putF f v fs).map (·.1)=fs.map (·.1)++[f]:=by rw[zFk K,xJ];rfl
   rw[E,xJ,xJ,<- R];congr 1
   .refine map_congr_left λn hn=>?_
    rw[zCP,if_neg (λz=>K (by rw[<- z];exact hn))]
   .show [(putF f v fs).lookup f]=[some v];rw[zCP,if_pos rfl]
  .exact tr ((Q.mono k2 r).append (.cons dv .nil))
noncomputable def zGu (sc:Scope)(N bs:List Str)(y:Str):List (Str×ME)->List Stmt->Bool
 | [],[]=>true
 | (f,m)::L,s::r=>(zCO s λz1 v _=>on1 z1 λz2=>zAs z2 λo f' _=>zA1 o λy' _=>decide (y'=y)&&decide (f'=f)&&cM m sc N bs v)&&zGu sc N bs y L r
 | _,_=>false
section
variable {P:Program}{w:World}{K:W.Frag}{mg:Str->Option Value}{base:Heap}{k:Nat}{J:Gm}{U:Dm}{bs:List Str}
theorem zIa (o:XOkM X k J U bs):∀ {L:List (Str×ME)} {sts:List Stmt},zGu X.env.scope X.N bs y L sts=true->zEp X y sts (L.map λp=>(p.1,evM J U p.2))
 | [],[],_=>.nil
 | [],_::_,h=>(zzf h)
 | _::_,[],h=>(zzf h)
 | (f,m)::L,s::r,h=>by
  unfold zGu at h;rw[x8] at h;obtain⟨h,h2⟩:=h;obtain⟨z1,_,_,rfl,hq1⟩:=zBT h;obtain⟨z2,rfl,hq2⟩:=zAt hq1;obtain⟨_,_,_,rfl,hq3⟩:=zAh hq2;obtain⟨_,_,rfl,hq4⟩:=zAQ hq3;simp only[x8,qj] at hq4;obtain⟨⟨rfl,rfl⟩,h4⟩:=hq4;exact .cons ((zBe o m).e _ h4) (zIa o h2)
def zJR:∀ {fs:List (Str×V)},(fs.map (·.1)).Nodup->((fs.map (·.1)).map λn=>fs.lookup n)=(fs.map (·.2)).map some
 | [],_=>rfl
 | (n,v)::r,h=>by
  rw[map_cons,nodup_cons] at h;rw[map_cons,map_cons,map_cons,map_cons,<- zJR h.2];congr 1
  .show (match n==n with | true=>some v | false=>r.lookup n)=_;rw[beq_self_eq_true]
  .refine map_congr_left λm hm=>?_
   rw[lookup_cons];have:(m==n)=false:=beq_eq_false_iff_ne.mpr λz=>h.1 (z▸hm)
   rw[this]
def zFz {f C:Addr}{a c y:Str}{st:Stmt}{dV kV N pm u ct oc:Value}{an od:Option Addr}{a9:Array (Option Value)}{ys:List Str}{L:List (Str×ME)}(lk:K.lookup f=some ⟨oc,od,.func (W.fnOf "__init__" a (zAl st) (zAN st) (zAA st) dV kV N pm an u ct),a9⟩)
  (b4:W.codeIn K u a=true) (S:zAg (y::ys) (y::ys) (zAA st)) (vy:visB (zAA st) y=true) (oy:okN y=true) (ck:zGu (zAA st) (y::ys) bs y L (zAN st)=true) (g:GOk P w K mg base k J bs) (d:DmOk P w K mg base k U)
  (cn:zBy K c C) (cl:Cls K C) (na:∀ n∈L.map (·.1),zBY K C n) (nd:(L.map (·.1)).Nodup) (hp:zPA (L.map (·.1))=true) (B:zLg (L.map (·.1))=true\/mutK (L.map (·.1))=true) (hl:(L.map (·.1)).length<=100) :
  FnOk P w K mg base CX0 (k+1) f (W.fnOf "__init__" a (zAl st) (zAN st) (zAA st) dV kV N pm an u ct) (y::ys) (spI K C (zF1 c ys.length (L.map λp=>(p.1,evM J U p.2)))):=by
 have l:(L.map λp=>(p.1,evM J U p.2)).map (·.1)=L.map (·.1):=by rw[map_map];rfl
 refine zTF lk b4 S (λvs H Q E h=>?_) λA D s H vs Q E hr h=>?_
 .obtain ⟨x,dx,H1,us,T,G,Y,r,rfl,_,_,_,_,_,R,m,_⟩:=h;unfold zF1 at m;by_cases q:Y.length=ys.length
  .rw [xY,<- R.length,q];rfl
  .rw [if_neg q] at m;cases m
 obtain⟨x,dx,H1,us,T,G,Y,r,rfl,n1,n2,n3,rfl,cc,R,m,j⟩:=h;unfold zF1 at m;have q:Y.length=ys.length:=Classical.byContradiction λz=>by rw[if_neg z] at m;cases m
 rw[if_pos q] at m;obtain⟨z,ez,e3⟩:=x9.mp m;subst e3;have o:XOkM (cxOf CX0 P w K mg base (y::ys) a (zAA st) f u A D s (upd (upd H1 dx (.own x)) x (.ins C dx [])) E).nox k J U bs:=⟨⟨g,hr,rfl,S.nd,PassesOwn.never⟩,d⟩;have F:L2.zCM (y::ys) (.ref x::us)=some (.ref x)::us.map some:=by
  unfold L2.zCM;have:(y::ys).length - (V.ref x::us).length=0:=by rw[xY,xY,<- R.length,q];omega
  rw[this];simp
 refine⟨_,PSs.nox (zM3 (σ0:=L2.zCM (y::ys) (.ref x::us)) (O:=none::Y.map some) (α0:=T) (H1:=H1) (x:=x) (dx:=dx) cl na nd hp hl n1 rfl (zEK vy) oy (by rw[F];rfl) (by rw[F,xY,xY,qy,qy,R.length]) (λi w e=>?_) (zIa o ck)),?_⟩
 .cases i with
  | zero=>cases e
  | succ i =>
   have e':(Y.map some)[i]?=some (some w):=e;rw[getElem?_map] at e';obtain⟨w',e1,e2⟩:=x9.mp e';cases e2;obtain⟨v,q1,q2⟩:=R.get e1;refine⟨v,?_,q2⟩;rw[F];show (us.map some)[i]?=_;rw[getElem?_map,q1];rfl
 .have sm:Same H1 (upd (upd H1 dx (.own x)) x (.ins C dx [])):=(zAd n2 _).trans (zAd (by rw[zAX (Ne.symm n3)];exact n1) _);refine⟨[],G,[],[],[],z,rfl,zAc,by rw[append_nil];exact cc.outN n1,zA0 sm,by rw[append_nil];exact cc.same sm,l,rfl,.nil,ez,λM' H' b X a0 a1 Z a3 M a5 a6=>?_⟩;rw[l] at j;by_cases mu:mutK (L.map (·.1))=true
  .have er:mkR c (L.map (·.1)) z=(.ob c (L.map (·.1)) z.2.length,z.2++[z.1]):=if_pos mu;rw[er] at j;have ev:X=b.map (·.2):=by
    rw[<- M,zJR (by rw[M];exact nd)] at a5;exact(List.map_inj_right (λ_ _ z=>xj z)).mp a5.symm
   rw[ev] at a6;have em:mutF b=true:=by unfold mutF;rw[M];exact mu
   have a7:DenWL K H' (T++M'++[(x,.ins c (L.map (·.1)))]) z.1 (b.map (·.2)):=a6.mono (Kp.refl H') _;refine j H' (M'++[(x,.ins c (L.map (·.1)))]) a1 ?_ ?_
   .rw [<- q0];exact Z.more a0 ⟨C,dx,b,a3,em,cn,M,a7⟩
   .rw [DenW,<- q0];exact⟨x,by rw[getElem?_append_right (by rw[Z.len];omega),Z.len,sub_self];rfl,rfl⟩
  .have er:mkR c (L.map (·.1)) z=(.obj c (L.map (·.1)) z.1,z.2):=if_neg mu;rw[er] at j;have B:=B.resolve_right mu;have hd:zEh b=true:=by unfold zEh;rw[M];exact B
   refine j H' M' a1 Z ?_;rw[DenW];exact⟨x,X,rfl,⟨C,dx,b,zIF a3 (zIN hd),hd,cn,a5⟩,a6⟩
def zDb (b:fd.defaults=.ref T)(e:K.lookup T=some ⟨oc,od,.seq #[.none] n,sl⟩)(a:K.In s.heap)
  (c:bindArgs fd args=seqItems? fd.defaults>>=kk) (d:kk (some #[.none])=pure binds):BindsTo s fd args binds:=.of_defaults b (a _ _ e) rfl c d
def DmOk.addC (d:DmOk P w K mg base k U)(b:j < k)(e:spec.lookup x=some (.mk c kw))(m:mg c=some (.ref C))(M:Mk K C f)(a:FnOk P w K mg base CX0 j f fd ps (spI K C F))(b1:zBP K fd ps [])(b2:zBP K fd ps [.none])(b3:KB K fd ps kw) :
  DmOk P w K mg base k (U.add x F):=d.one (le_refl k) (by rw[e];exact⟨j,C,f,fd,ps,b,m,M,a,b1,b2,b3⟩)
end
theorem zEk :∀ (names:List (Str×NameKind)) (acc:List (Str×Addr)),(∀ p∈names,p.2=.free->∃ c,cs.lookup p.1=some c) ->
  ∃ cl,clos names cs acc=some cl/\cl.map (·.1)=((names.filter λp=>p.2==.free).map (·.1)).reverse++acc.map (·.1)/\∀ p∈cl,p∈acc\/cs.lookup p.1=some p.2
 | [],acc,_=>⟨acc,rfl,by simp,λp hp=>.inl hp⟩
 | (x,k)::names,acc,h=>by
  unfold clos;by_cases e:(k==NameKind.free)=true
  .obtain ⟨c,ec⟩:=h (x,k) q8 (eq_of_beq e);obtain⟨cl,h1,h2,h3⟩:=zEk names ((x,c)::acc) λp hp=>h p (qJ _ hp)
   dsimp only at ec;rw[if_pos e,ec];refine⟨cl,h1,?_,λp hp=>?_⟩
   .rw [h2,filter_cons];simp[e]
   .rcases h3 p hp with z | z
    .rcases mem_cons.mp z with z | z
     .right;rw[z];exact ec
     .exact .inl z
    .exact .inr z
  .obtain ⟨cl,h1,h2,h3⟩:=zEk names acc λp hp=>h p (qJ _ hp)
   rw[if_neg e];refine⟨cl,h1,?_,h3⟩;rw[h2,filter_cons];simp[e]
def zGM {cs:List (Str×Addr)}(inj:∀ x y c,cs.lookup x=some c->cs.lookup y=some c->x=y):∀ {cl:List (Str×Addr)},(∀ p∈cl,cs.lookup p.1=some p.2)->(cl.map (·.1)).Nodup->(cl.map (·.2)).Nodup
 | [],_,_=>by simp
 | p::cl,h,nd=>by
  rw[map_cons,nodup_cons] at nd ⊢;refine⟨λz=>?_,zGM inj (λq hq=>h q (qJ _ hq)) nd.2⟩;obtain⟨q,hq,e⟩:=mem_map.mp z;have h1:=h p q8;have h2:=h q (qJ _ hq);rw[e] at h2;exact nd.1 (mem_map.mpr ⟨q,hq,inj _ _ _ h2 h1⟩)
noncomputable def capD:List Nat->List (Option W)->Option (List D)
 | [],_=>some []
 | i::ix,O=>(match O[i]? with
  | some (some (.dat d))=>some d
  | some (some (.obj c ns l))=>some (dobj c ns l)
  | _=>none).bind λd=>(capD ix O).bind λds=>some (d::ds)
noncomputable def lamE (Fg:MF)(j:Nat)(L:LamI)(ix:List Nat)(ge:Mst->Option MR):Mst->Option MR:=λs=>(ge s).bind λw=>(capD ix s.O).bind λds=>if noLs ds=true then Fg [w.1,.dat (.lam j L ds)] w.2 else none
noncomputable def lamM (Fg:MF)(j:Nat)(L:LamI)(ix:List Nat)(np nN:Nat)(gp:Mst->Option OutM)(ge:Mst->Option MR):MF:=zA6 np nN λs=>(gp s).bind λo=>match o with
 | .nx s'=>retM (lamE Fg j L ix ge) s'
 | _=>none
theorem zOn {K:W.Frag}(ms:MS K H T G B O):∀ {ix:List Nat} {ds:List D},capD ix O=some ds->∃ us,DenL K (fzH H) ds us/\us.length=ix.length/\∀ (k i:Nat),ix[k]?=some i->∃ v,us[k]?=some v/\B[i]?=some (some v)
 | [],ds,e=>by
  cases e;exact⟨[],.nil,rfl,λk i z=>by simp at z⟩
 | i::ix,ds,e=>by
  unfold capD at e;obtain⟨d,e0,e⟩:=bind_some e;obtain⟨ds',e1,e⟩:=bind_some e;cases e;obtain⟨us,h1,h2,h3⟩:=zOn ms e1;have hv:∃ v,B[i]?=some (some v)/\Den K (fzH H) d v:=by
   split at e0
   .rename_i d' q;cases e0;obtain⟨v,g1,g2⟩:=ms.get i _ q;rw[DenW] at g2;exact⟨v,g1,g2⟩
   .rename_i c ns l q;cases e0;obtain⟨v,g1,g2⟩:=ms.get i _ q;exact⟨v,g1,zIP g2⟩
   .cases e0
  obtain⟨v,g1,g2⟩:=hv;refine⟨v::us,.cons g2 h1,by rw[xY,xY,h2],λk i' z=>?_⟩;cases k with
  | zero =>
   have:i=i':=by simpa using z
   subst this;exact⟨v,rfl,g1⟩
  | succ k=>exact h3 k i' (by simpa using z)
theorem zGU {T M:Type}{R:T->M->Prop}:∀ {l:List T} {m:List M},l.length=m.length->(∀ (k:Nat) a b,l[k]?=some a->m[k]?=some b->R a b)->Paired R l m
 | [],[],_,_=>.nil
 | [],_::_,e,_=>by simp at e
 | _::_,[],e,_=>by simp at e
 | a::l,b::m,e,h=>.cons (h 0 a b (by simp) (by simp)) (zGU (by simpa using e) λk a' b' q1 q2=>h (k+1) a' b' (by simpa using q1) (by simpa using q2))
noncomputable def zFn (H:Hp)(h:Heap)(S:List Addr):Hp:=λb=>if b∈S then (h.get? b).map (λo=>.frz o anyU) else H b
section
variable {X:Cx}{pins:List (Addr×Obj)}{B:St}{H:Hp}{s:Shared}
def zNg (I:Inv X pins B H s){S:List Addr}(g:∀ b∈S,∃ y,X.env.cells.lookup y=some b)(j:∀ y,X.fn y=true) :
  Same H (zFn H s.heap S)/\(∀ b∈S,∃ o v,zFn H s.heap S b=some (.frz o anyU)/\s.heap.get? b=some o/\o.data=.cell v)/\(∀ b,b∉S->zFn H s.heap S b=H b)/\(∀ b∈S,X.s0.heap.objs.size<=b)/\Env0 X.prog X.w X.K X.mg X.base X.A X.stack s (zFn H s.heap S):=by
 have out:∀ {b:Addr},b∉S->zFn H s.heap S b=H b:=λz=>if_neg z
 have free:=λ{b} z=>let ⟨y,e⟩:=g b z;I.freeC y b e
 have p:∀ {b:Addr} {u:HO},H b=some u->b∉S:=λ{b u} e z=>by rw[free z] at e;cases e
 have f:Same H (zFn H s.heap S):=λb u e=>by rw[out (p e)];exact e
 have d:∀ b∈S,∃ o v,zFn H s.heap S b=some (.frz o anyU)/\s.heap.get? b=some o/\o.data=.cell v:=λb z=>by
  obtain⟨y,e⟩:=g b z;obtain⟨v,o,h,l⟩:=I.cell y b e;refine⟨o,v,?_,h,l⟩;unfold zFn
  simp_all
 have big:=λb z=>let ⟨y,e⟩:=g b z;I.ok.cab y b (j y) e
 have a:=I.env0;refine⟨f,d,λb z=>out z,big,⟨a.frames,a.mod,λb o e=>⟨(a.bs b o e).1,?_⟩,a.bsz,a.funs,λb z=>?_,λb u e=>?_,a.bare,a.tree,λx k c P e=>f _ _ (a.tabs x k c P e)⟩⟩
 .have i:b∉S:=λz=>absurd (lt_size e) (Nat.not_lt.mpr (le_trans I.ok.bsz (big b z)))
  rw[out i];exact(a.bs b o e).2
 .have i:b∉S:=λz2=>by
   rcases mem_cons.mp (I.stkSub b z) with q | q
   .obtain ⟨y,e⟩:=g b z2;exact I.cne y b e q
   .obtain ⟨_,o,h,_⟩:=I.ok.funs.mem q;exact absurd (lt_size h) (Nat.not_lt.mpr (big b z2))
  rw[out i];exact a.frf b z
 .by_cases z:b∈S
  .obtain ⟨o,v,m,r,_⟩:=d b z;rw[m] at e;cases e;exact zEZ r
  .rw [out z] at e;exact(I.hok b u e).stay (λ_ _ _ q=>q) (λ_ q=>f _ _ q) (λ_ _ q=>f _ _ q) λ_ _ _ q _=>f _ _ q
end
def zOu {S:List Addr}(c:Un fs [] H H1 h h1)(big:∀ b∈S,h.objs.size<=b)(t:h.objs.size<=L)(j:Same H1 H2)(out:∀ b,b∉S->H2 b=H1 b)(d:Un (L::fs) [] H2 H' h1 h'):Un fs [] H H' h h':=by
 have r:∀ {b:Addr} {o:Obj},h.get? b=some o->b∉S:=λ{b o} e z=>absurd (lt_size e) (Nat.not_lt.mpr (big b z))
 have s:∀ {b:Addr} {o:Obj},h.get? b=some o->b≠L:=λ{b o} e z=>absurd (lt_size e) (Nat.not_lt.mpr (by simp_all))
 have i:∀ {b:Addr} {o:Obj},h.get? b=some o->H b=none->H2 b=none:=λ{b o} e n=>by rw[out b (r e)];exact c.free b o e n (by simp)
 refine⟨λb o e n g a=>d.keep b o (c.keep b o e n g a) (i e n) (λz=>(mem_cons.mp z).elim (s e) g) a,λb o e n g a=>?_,λb o e n a=>?_,λb o e a=>?_,λb m e=>d.tups b m (j _ _ (c.tups b m e)),λb o u e=>d.frzs b o u (j _ _ (c.frzs b o u e)),λb q e=>d.tbls b q (j _ _ (c.tbls b q e))⟩
 .obtain ⟨sl,f⟩:=c.slot b o e n g a;obtain⟨l,p⟩:=d.slot b _ f (i e n) (qJ _ g) a;exact⟨l,p⟩
 .obtain ⟨k,f⟩:=c.there b o e a;exact d.free b k f (i e n) a
 .obtain ⟨k,f⟩:=c.there b o e a;exact d.there b k f a
structure zD7 (K:W.Frag)(x:Str)(st:Stmt)(f:Addr)(N:List Str)(pre:List Stmt)(e:Expr)(g:Str)(L:LamI)(ix:List Nat):Prop where
 body:∃ q1 lp cp rp,zAN st=pre++[.Return (some (.Call (.Name g q1) [e,.Lambda L.params L.body L.scope lp] [] cp)) rp]
 star:zAk e=true
 qual:L.qual=x ++ ".<locals>." ++ "<lambda>"
 lam:x∈zB6
 fnq:zEc K x=some f
 tab:∃ c P,tabQ K x=some (c,P)
 gl:glB (zAA st) g=true
 okg:okN g=true
 dflt:∀ env,defaultsOf L.params env=([],[])
 nd:(frN L).Nodup
 len:ix.length=(frN L).length
 cap:∀ (k:Nat) y,(frN L)[k]?=some y->∃ i,ix[k]?=some i/\N[i]?=some y/\(zAA st).names.lookup y=some .cell
 free:∀ p∈L.scope.names,p.2=.free->p.1∈frN L
def PS.nox {st:Stmt}(h:PS X.nox st t):PS X st t:=λpins s B H D I b =>
 wpAny_mono (h pins s B H D (I.wish _) b) (λ_ _ q=>q.unwish) λ_ _ z=>False.elim z
def zPn {K:W.Frag}{st:Stmt}(F:Fun K nm x st f fd)(sc:zAg N ps (zAA st))(LD:zD7 K x st f N pre e g L ix)
  (b6:(pre=[]/\gp=λs=>some (.nx s))\/∃ s1,pre=[s1]/\∀ cdv A outer s H E,Room k (A.deeper (envOfC x (zAA st) s.heap.objs.size f cdv))->GSM (cxOf CX0 P w K mg base N x (zAA st) f cdv A outer s H E).nox s1 gp)
  (he:∀ cdv A outer s H E,Room k (A.deeper (envOfC x (zAA st) s.heap.objs.size f cdv))->GM (cxOf CX0 P w K mg base N x (zAA st) f cdv A outer s H E).nox e ge)
  (gg:FnOk P w K mg base CX0 k fg fdg psg (spM K Fg)) (g4:mg g=some (.ref fg)) (kg:W.keepIn K (.ref fg)=true) (bg:zBP K fdg psg []):FnOk P w K mg base CX0 (k+1) f fd ps (spM K (lamM Fg j L ix ps.length N.length gp ge)):=by
 obtain⟨oc,od,kV,n3,pm,an,cdv,ct,k6,rfl,lk,f2⟩:=F.ex;have a3:∀ vs H Q E,spM K (lamM Fg j L ix ps.length N.length gp ge) vs H Q E->vs.length=ps.length:=λvs H Q E h=>by
  obtain⟨T,G,ws,r,c,d,O,n⟩:=h;unfold lamM zA6 at O;by_cases q:ws.length=ps.length/\ps.length<=N.length
  .rw [<- d.length];exact q.1
  .rw [if_neg q] at O;cases O
 refine⟨a3,λA outer s H j5 us vs Q E hr e0 hb r d1=>?_⟩;have hl:=a3 _ _ _ _ d1;have KX:K.In s.heap:=e0.mod.kin.keeps λb o e=>(e0.bs b o e).1
 have h0:s.heap.NoLimit:=e0.mod.nolimit.keeps λb o e=>(e0.bs b o e).1
 have b0:∀ y∈ps.zip us,(zAA st).names.lookup y.1=some .local\/((zAA st).names.lookup y.1=some .cell/\((cellsFrom (s.heap.objs.size+1) (zAA st).names []).lookup y.1).isSome=true):=λzz117 hy=>by
  obtain⟨n,v⟩:=zz117;rcases sc.par n (of_mem_zip hy).1 with q | q
  .exact .inl q
  .exact .inr ⟨q,W.cellsFrom_some _ _ _ (.inl q)⟩
 refine codeAny_call_function hr.depth (KX _ _ lk) rfl sc.co sc.gen rfl (W.codeRec_of KX f2) (hb _ _ _ _ ?_);refine wpAny_newFunctionEnv_cells sc.kind b0 λenv f6 s1 xx=>?_
 subst f6;refine⟨h0.keeps xx.toInCall.keep,codeAny_func ?_⟩;have I:Inv (cxOf CX0 P w K mg base N x (zAA st) f cdv A outer s H E) [] (zCM N vs) H s1:=zGf sc hr.hd (by have:=hr.dp;show A.depth+1+100 < _;omega) e0 hl r xx;have a8:Room k (cxOf CX0 P w K mg base N x (zAA st) f cdv A outer s H E).A:=hr.deeper _;obtain⟨q1,lp,cp,rp,eb⟩:=LD.body;obtain⟨T,G,ws,rr,cc,dw,O,g8⟩:=d1;unfold lamM zA6 at O;have hq:ws.length=ps.length/\ps.length<=N.length:=Classical.byContradiction λz=>by rw[if_neg z] at O;cases O
 rw[if_pos hq] at O;obtain⟨o,eo,O⟩:=bind_some O;obtain⟨o1,d0,S⟩:=bind_some (show ((gp _).bind _)=some o from eo);have d9:MS K H T G (zCM N vs) (ws.map some++List.replicate (N.length - ps.length) none):=by
  have:=zH5 (N:=N) cc dw (by rw[hq.1];exact hq.2);rwa [hq.1] at this
 obtain⟨c0,P0,R⟩:=LD.tab;have a9:cdv=.ref c0:=zJY R LD.fnq lk;have f7:∀ (a:Mst) (s1:Shared) (B1:St) (t:Hp) (O3:List CA),Inv (cxOf CX0 P w K mg base N x (zAA st) f cdv A outer s H E) [] B1 t s1->MS K t (T++O3) a.G B1 a.O->Kp H t->lamE Fg j L ix ge a=some rr ->
   wpAny (model P w) (cxOf CX0 P w K mg base N x (zAA st) f cdv A outer s H E).A (eval (.Call (.Name g q1) [e,.Lambda L.params L.body L.scope lp] [] cp) (cxOf CX0 P w K mg base N x (zAA st) f cdv A outer s H E).env) (λu Z=>CE outer P w H s Q u Z) (cxOf CX0 P w K mg base N x (zAA st) f cdv A outer s H E).xe s1:=by
  intro a s1 B1 t O3 I ms a7 D;obtain⟨wv,ew,D⟩:=bind_some D;obtain⟨ds,d7,D⟩:=bind_some D;have d6:noLs ds=true:=Classical.byContradiction λz=>by rw[if_neg z] at D;cases D
  rw[if_pos d6] at D;obtain⟨a0,d5,e3,c4⟩:=zOn ms d7;refine wpAny_Call_Name_kw (zDo I (zEY LD.gl) g4 ?_ (zCD LD.okg).1);refine W.callWith_K (h₀:=base) I.ok.mod.kin kg ?_ (zAG LD.star) rfl;rw[zAG LD.star];show wpAny _ _ (spliced ((false,eval e _)::backTo cp (starEach [.Lambda L.params L.body L.scope lp] _))) _ _ s1;refine Calls.spliced_cons (thn (PE.nox (he cdv A outer s H E a8) [] s1 B1 t (λy H2=>∃ V,Kp t H2/\zAJ K H2 (T++O3++V) wv.2/\DenW K H2 (T++O3++V) wv.1 y) I ⟨T++O3,a.O,a.G,wv,ms,ew,λv H2 V k2 c2 d2=>⟨V,k2,c2,d2⟩⟩) λu0 s2 a6=>?_);obtain⟨y,H2,I1,r1,V,d8,c2,dy⟩:=a6;have kc:∀ {y:Str},y∈frN L->(zAA st).names.lookup y=some .cell:=λ{y} my=>by
   obtain⟨kk,hk,e⟩:=List.getElem_of_mem my;obtain⟨_,_,_,q⟩:=LD.cap kk y (by rw[getElem?_eq_getElem hk,e]);exact q
  obtain⟨cl,f5,g9,h1⟩:=zEk (cs:=(cxOf CX0 P w K mg base N x (zAA st) f cdv A outer s H E).env.cells) L.scope.names [] λp hp hf=>I1.ok.has p.1 (.inl (kc (LD.free p hp hf)))
  have B:cl.map (·.1)=frN L:=by rw[g9];unfold frN;simp
  have J:∀ p∈cl,(cxOf CX0 P w K mg base N x (zAA st) f cdv A outer s H E).env.cells.lookup p.1=some p.2:=λp hp=>(h1 p hp).elim (λz=>absurd z (by simp)) id
  have d4:(cl.map (·.2)).Nodup:=zGM I1.ok.inj J (by rw[B];exact LD.nd);show wpAny _ _ (spliced ((false,eval (.Lambda L.params L.body L.scope lp) _)::backTo cp (starEach [] _))) _ _ s2;refine Calls.spliced_cons (zMz I1 (LD.dflt _) f5 a9 (e0.mod.codes x LD.lam c0 P0 R) (I1.tabs x LD.lam c0 P0 R) λf' c' g0 h7 h2 u1 H3 s3 sm nf hf h5 co I2=>?_);refine Calls.spliced_nil ⟨I2.kIn,?_⟩;have hS:∀ b∈cl.map (·.2),∃ y,(cxOf CX0 P w K mg base N x (zAA st) f cdv A outer s H E).env.cells.lookup y=some b:=λb z=>by
   obtain⟨p,hp,rfl⟩:=mem_map.mp z;exact⟨p.1,J p hp⟩
  obtain⟨U,c6,out,big,e2⟩:=zNg I2 hS λ_=>rfl
  obtain⟨Y,i1⟩:∃ Y:Hp,Y=zFn H3 s3.heap (cl.map (·.2)):=⟨_,rfl⟩;rw[<- i1] at U c6 out e2;have X:Same H2 Y:=sm.trans U;have a5:zBc Y cl a0:=by
   have lc:cl.length=a0.length:=by
    have:=congrArg List.length B;rw[qy] at this;rw[e3,LD.len,this]
   refine zGU lc λkk p v' g1 g2=>?_
   have gy:(frN L)[kk]?=some p.1:=by rw[<- B,getElem?_map,g1];rfl
   obtain⟨i,ei,h8,c5⟩:=LD.cap kk p.1 gy;obtain⟨v2,gv,g7⟩:=c4 kk i ei;rw[g2] at gv;cases gv;obtain⟨mm,hn,b9⟩:=I2.loc;obtain⟨uu,ru,lo⟩:=b9 i p.1 v' h8 g7 (.inr (.inl c5));obtain⟨o,k7,k1,k2,k3⟩:=c6 p.2 (mem_map.mpr ⟨p,mem_of_getElem? g1,rfl⟩);rcases lo with ⟨q,_⟩ | ⟨_,c2,e1,o2,ho2,hd2⟩
   .have q':(zAA st).names.lookup p.1=some .local:=q;rw[c5] at q';cases q'
   .rw [J p (mem_of_getElem? g1)] at e1;cases e1;rw[k2] at ho2;cases ho2;exact⟨o,uu,k1,hd2,ru⟩
  have la:zEB Y L f' a0:=⟨cl,h7,c',g0,h2,u1,by rw[LD.qual];exact U _ _ hf,U _ _ h5,by rw[LD.qual];exact co,B,d4,a5⟩;have dl:DenW K Y (T++O3++V) (.dat (.lam j L ds)) (.ref f'):=by
   rw[DenW];refine Den.fz (by rw[noL];exact d6) ?_;rw[Den];exact⟨f',a0,rfl,la,d5.mono (Same.trans d8 (zBf.trans X))⟩
  have b7:Vals [y,.ref f'] [u0,.ref f']:=.cons r1 (.cons rfl .nil);have g3:DenWL K Y (T++O3++V) [wv.1,.dat (.lam j L ds)] [y,.ref f']:=.cons (dy.keep (zA0 X)) (.cons dl .nil);have c9:spM K Fg [y,.ref f'] Y Q E:=⟨T++O3++V,wv.2,_,rr,c2.same X,g3,D,λv H' M k3 c3 d3=>g8 v H' (O3++(V++M)) (Same.trans a7 (Same.trans d8 (Same.trans (zA0 X) k3))) (by rw[<- q0,<- q0];exact c3) (by rw[<- q0,<- q0];exact d3)⟩;have f3:([u0,.ref f']:List Value).length=psg.length:=by rw[<- b7.length];exact gg.len _ _ _ _ c9
  have bt:=bg s3 [u0,.ref f'] I2.kIn (by simpa using f3);refine wpAny_call (codeAny_mono (gg.run _ _ s3 Y _ _ _ Q E a8 e2 bt (by simpa using b7) c9) λr' Z hq=>?_);cases r' with
  | error e=>exact hq.elim
  | ok fl =>
   cases fl with
   | ret u =>
    obtain⟨v,H',os,c7,un,b8,rv,q⟩:=hq;exact⟨v,H',os.trans I2.os,c7,zOu I2.base big (le_refl _) U out un,b8,rv,q⟩
   | next=>exact False.elim hq
   | brk=>exact False.elim hq
   | cont=>exact False.elim hq
 have a2:∀ (a:Mst) (s1:Shared) (B1:St) (t:Hp) (O3:List CA),Inv (cxOf CX0 P w K mg base N x (zAA st) f cdv A outer s H E) [] B1 t s1->MS K t (T++O3) a.G B1 a.O->Kp H t->retM (lamE Fg j L ix ge) a=some o ->
   wpAny (model P w) (cxOf CX0 P w K mg base N x (zAA st) f cdv A outer s H E).A (execs [.Return (some (.Call (.Name g q1) [e,.Lambda L.params L.body L.scope lp] [] cp)) rp] (cxOf CX0 P w K mg base N x (zAA st) f cdv A outer s H E).env) (λfl Z=>∃ u,fl=.ret u/\CE outer P w H s Q u Z) (cxOf CX0 P w K mg base N x (zAA st) f cdv A outer s H E).xe s1:=by
  intro a s1 B1 t O3 I ms a7 D;obtain⟨r1,er,D⟩:=bind_some D;cases D;cases O;refine wpAny_execs_cons (wpAny_Return_some (thn (f7 a s1 B1 t O3 I ms a7 er) λu Z h=>?_));exact⟨u,rfl,h⟩
 have h6:wpAny (model P w) (cxOf CX0 P w K mg base N x (zAA st) f cdv A outer s H E).A (execs (zAN st) (cxOf CX0 P w K mg base N x (zAA st) f cdv A outer s H E).env) (λfl Z=>∃ u,fl=.ret u/\CE outer P w H s Q u Z) (cxOf CX0 P w K mg base N x (zAA st) f cdv A outer s H E).xe s1:=by
  rw[eb];rcases b6 with ⟨rfl,rfl⟩ | ⟨st1,rfl,hs1⟩
  .cases d0;exact a2 _ s1 _ H [] I (by rw[append_nil];exact d9) (Kp.refl H) S
  .show wpAny _ _ (execs (st1::[_]) _) _ _ s1;have h9:=PS.nox (hs1 cdv A outer s H E a8 H T) [] s1 (zCM N vs) H { nx:=λB1 t=>∃ a O3,MS K t (T++O3) a.G B1 a.O/\Kp H t/\retM (lamE Fg j L ix ge) a=some o,rt:=λ_ _=>False } I ⟨[],⟨_,G⟩,o1,by rw[append_nil];exact d9,Kp.refl H,d0,by
    cases o1 with
    | nx a=>exact λO3 B1 t m k=>⟨a,O3,m,k,S⟩
    | rt r1=>cases S
    | bk _=>cases S
    | ct _=>cases S⟩
   refine wpAny_execs_cons (thn h9 λfl s2 q=>?_);cases fl with
   | next =>
    obtain⟨B1,t,I1,a,O3,m,k,e⟩:=q;exact a2 a s2 B1 t O3 I1 m k e
   | brk=>obtain⟨_,_,_,q⟩:=q;exact q.elim
   | cont=>obtain⟨_,_,_,q⟩:=q;exact q.elim
   | ret u=>obtain⟨_,_,_,_,_,q⟩:=q;exact q.elim
 refine wpAny_mono h6 (λfl Z a4=>?_) λe Z hs=>hs
 obtain⟨u,e,h⟩:=a4;subst e;exact h
noncomputable def zUN (x:Str)(s:Stmt):LamI:=match s with
 | .Return (some (.Call _ [_,.Lambda a b c _] _ _)) _=>⟨x ++ ".<locals>." ++ "<lambda>",a,b,c⟩
 | s=>⟨x,zAl s,.Name x ⟨0,0,0,0⟩,zAA s⟩
noncomputable def zM1 (x:Str)(st:Stmt):LamI:=zUN x ((zAN st).getLast?.getD (.Pass ⟨0,0,0,0⟩))
noncomputable def zC8 (st:Stmt):Expr:=match (zAN st).getLast?.getD (.Pass ⟨0,0,0,0⟩) with
 | .Return (some (.Call _ [e,_] _ _)) _=>e
 | _=>.Name "" ⟨0,0,0,0⟩
noncomputable def lamB (x:Str)(ys:List Str)(L:LamI):Bool:=(L.scope.kind==.function)&&!L.scope.isCoroutine&&!L.scope.isGenerator&&decide (x::ys).Nodup&&(L.scope.names.lookup x==some .local)&&ys.all (λy=>L.scope.names.lookup y==some .free)&&L.scope.names.all (λp=>!(p.2==.free)||ys.contains p.1)&&L.scope.names.all (λp=>!(p.2==.cell))&&decide (frN L=ys)
def zEF (h:lamB x ys L=true)(a:∀ cl pm c ctv u,bindArgs (W.kla_fn "<lambda>" L.qual L.params L.body L.scope cl pm c ctv) ⟨[u],[]⟩=pure [(x,u)]):zGG x ys L/\frN L=ys:=by
 unfold lamB at h;simp only[x8,Bool.not_eq_true',qj,all_eq_true,Bool.or_eq_true,beq_iff_eq,List.contains_iff_mem,beq_eq_false_iff_ne] at h;obtain⟨⟨⟨⟨⟨⟨⟨⟨h1,h2⟩,h3⟩,h4⟩,h5⟩,h6⟩,h7⟩,h8⟩,h9⟩:=h;refine⟨⟨h1,h2,h3,h4,h5,h6,λy e=>?_,h8,a⟩,h9⟩;rcases h7 _ (PySem.mem_of_lookup e) with z | z
 .simp_all
 .omega
def zEI (L:LamI):∀ p∈L.scope.names,p.2=.free->p.1∈frN L:=λp b a=>by
 unfold frN;rw[List.mem_reverse];exact mem_map.mpr ⟨p,mem_filter.mpr ⟨b,by rw[a];rfl⟩,rfl⟩
noncomputable def capB (sc:Scope)(ps ys:List Str)(ix:List Nat):Bool:=decide (ix.length=ys.length)&&(List.range ys.length).all λk=>match ys[k]?,ix[k]? with
 | some y,some i=>decide (ps[i]?=some y)&&(sc.names.lookup y==some .cell)
 | _,_=>false
def zIY (h:capB sc ps ys ix=true):ix.length=ys.length/\∀ (k:Nat) y,ys[k]?=some y->∃ i,ix[k]?=some i/\ps[i]?=some y/\sc.names.lookup y=some .cell:=by
 unfold capB at h;rw[x8,qj,all_eq_true] at h;refine⟨h.1,λk y e=>?_⟩;have b:=(zzg e).1;have z:=h.2 k (mem_range.mpr b);have c:k < ix.length:=by rw[h.1];exact b
 have a:=getElem?_eq_getElem c;rw[e,a] at z;rw[x8,qj,beq_iff_eq] at z;exact⟨_,a,z.1,z.2⟩
noncomputable def cPre (sc:Scope)(N bs:List Str):MT->List Stmt->Bool
 | .nil,[]=>true
 | .cons a .nil,[s]=>cS' sc N bs a s
 | _,_=>false
def zEA (J:Gm)(U:Dm):MT->Mst->Option OutM
 | .cons a _=>evS' J U a
 | _=>λs=>some (.nx s)
section
variable {P:Program}{w:World}{K:W.Frag}{mg:Str->Option Value}{base:Heap}{k:Nat}{J:Gm}{U:Dm}{bs:List Str}
def zOT {st:Stmt}(d:DmOk P w K mg base k U)(t:GOk P w K mg base k J bs)(F:Fun K nm x st f fd)(sc:zAg N ps (zAA st))(LD:zD7 K x st f N pre e g L ix)
  (h:cPre (zAA st) N bs mp pre=true) (m:cM me (zAA st) N bs e=true) (mem:(g,Fg)∈U) (u:spec.lookup g=none):FnOk P w K mg base CX0 (k+1) f fd ps (spM K (lamM Fg j L ix ps.length N.length (zEA J U mp) (evM J U me))):=by
 have D:=d g Fg mem;rw[u] at D;obtain⟨v,q,n,l,i,r,p⟩:=D;have o:∀ cdv A a s H E,Room k _->XOkM (cxOf CX0 P w K mg base N x (zAA st) f cdv A a s H E).nox k J U bs:=λcdv A a s H E c=>⟨⟨t,c,rfl,sc.nd,PassesOwn.never⟩,d⟩
 refine zPn F sc LD ?_ (λcdv A a s H E c=>(zBe (o cdv A a s H E c) me).e _ m) l i r p;unfold cPre at h;split at h
 .exact .inl ⟨rfl,rfl⟩
 .exact .inr ⟨_,rfl,λcdv A a s H E c=>(zJg (o cdv A a s H E c) (λ_=>rfl) _).1 _ h⟩
 .cases h
def DmOk.addF {st:Stmt}(d:DmOk P w K mg base k U)(a:GOk P w K mg base k J bs)(F:Fun K x x st f fd)(sc:zAg N ps (zAA st))(LD:zD7 K x st f N pre e g L ix)
  (i:cPre (zAA st) N bs mp pre=true) (c:cM me (zAA st) N bs e=true) (m:mg x=some (.ref f)) (h:zBP K fd ps []) (mem:(g,Fg)∈U) (b:spec.lookup g=none:=by decide +kernel) (l:spec.lookup x=none:=by decide +kernel) :
  DmOk P w K mg base (k+1) (U.add x (lamM Fg j L ix ps.length N.length (zEA J U mp) (evM J U me))):=d.one (Nat.le_succ k) (by rw[l];exact⟨f,fd,ps,zOT d a F sc LD i c mem b,m,F.kp,h⟩)
def DmOk.addFM {st:Stmt}(d:DmOk P w K mg base k U)(n:GOk P w K mg base k J bs)(F:Fun K nm x st f fd)(sc:zAg N ps (zAA st))(LD:zD7 K x st f N pre e g L ix)
  (q:cPre (zAA st) N bs mp pre=true) (i:cM me (zAA st) N bs e=true) (o:zBP K fd ps []) (mem:(g,Fg)∈U) (h:zBy K c C) (p:Cls K C) (a:Meth K C m f) (l:spec.lookup x=some (.mth c m)) (b:spec.lookup g=none:=by decide +kernel) :
  DmOk P w K mg base (k+1) (U.add x (lamM Fg j L ix ps.length N.length (zEA J U mp) (evM J U me))):=d.one (Nat.le_succ k) (by rw[l];exact⟨C,f,fd,ps,h,p,a,zOT d n F sc LD q i mem b,o⟩)
end
def tabs_of {K:W.Frag}{a:List (Str×Addr×Addr)}(h1:tabQ K "thinned_covers"=a.lookup ("thinned_covers":Str))(h2:tabQ K "Fill.films"=a.lookup ("Fill.films":Str))(h3:tabQ K "Join.films"=a.lookup ("Join.films":Str))(h4:tabQ K "Group.films"=a.lookup ("Group.films":Str)):∀ x∈zB6,tabQ K x=a.lookup x:=by
 intro x b;simp only[zB6,mem_cons,not_mem_nil,or_false] at b;rcases b with rfl | rfl | rfl | rfl
 .omega
 .omega
 .omega
 .omega
def zIA (h1:ds.length=n+1)(h2:noFs ds=true)(h:EvP (G (ds.map λd=>some (d,false))) Q):EvP (lamD n G ds) Q:=by
 obtain⟨r,e,q⟩:=h;exact⟨r,by unfold lamD;rw[if_pos ⟨h1,h2⟩];exact e,q⟩
noncomputable def scB (N P:List Str)(sc:Scope):Bool:=(sc.kind==.function)&&!sc.isCoroutine&&!sc.isGenerator&&decide N.Nodup&&decide (N.take P.length=P)&&P.all (λx=>sc.names.lookup x==some .local||sc.names.lookup x==some .cell)&&sc.names.all λy=>!(y.2==.free)
def zJo (h:scB N P sc=true):zAg N P sc:=by
 unfold scB at h;simp only[x8,Bool.not_eq_true',qj,all_eq_true,Bool.or_eq_true,beq_iff_eq,beq_eq_false_iff_ne] at h;obtain⟨⟨⟨⟨⟨⟨h1,h2⟩,h3⟩,h4⟩,h5⟩,h6⟩,h7⟩:=h;exact⟨h1,h2,h3,h4,h5,h6,h7⟩
noncomputable def dB (st:Stmt)(n:Nat)(N bs:List Str)(b:S):Bool:=scB N (N.take n) (zAA st)&&cSs (zAA st) N bs b (zAN st)
noncomputable def dM (st:Stmt)(n:Nat)(N bs:List Str)(b:MT):Bool:=scB N (N.take n) (zAA st)&&cSs' (zAA st) N bs b (zAN st)
structure FT (K:W.Frag)(x:Str)(st:Stmt)(f:Addr):Prop where
 a:W.nsIn K mainGlobals x=some (some (.ref f))
 F:∃ fd,Fun K x x st f fd
def ft {K:W.Frag}{st:Stmt}{kV:Value}(a:W.nsIn K mainGlobals x=some (some (.ref f)))(l:K.lookup f=some ⟨oc,od,.func (W.fnOf x x (zAl st) (zAN st) (zAA st) .none kV dc pm an cd ct),sl⟩)(c:W.codeIn K cd x=true)(k:W.keepIn K (.ref f)=true):FT K x st f:=⟨a,_,zK9 l c k⟩
def bO (x q:Str)(st:Stmt)(ps:List Str):Prop:=∀ (kV doc pm:Value) (an:Option Addr) (cdv ct:Value) (us:List Value),us.length=ps.length->bindArgs (W.fnOf x q (zAl st) (zAN st) (zAA st) .none kV doc pm an cdv ct) ⟨us,[]⟩=pure (ps.zip us)
def bz0 {st:Stmt}(b:ps.length=0)(h:∀ {kV doc pm:Value} {an:Option Addr} {cdv ct:Value},bindArgs (W.fnOf x q (zAl st) (zAN st) (zAA st) .none kV doc pm an cdv ct) ⟨[],[]⟩=pure (ps.zip [])):bO x q st ps:=λ_ _ _ _ _ _ us a=>by cases List.eq_nil_of_length_eq_zero (a.trans b);exact h
def bz1 {st:Stmt}(b:ps.length=1)(h:∀ {kV doc pm:Value} {an:Option Addr} {cdv ct a:Value},bindArgs (W.fnOf x q (zAl st) (zAN st) (zAA st) .none kV doc pm an cdv ct) ⟨[a],[]⟩=pure (ps.zip [a])):bO x q st ps:=λ_ _ _ _ _ _ us c=>by replace c:=c.trans b;(iterate 1 rcases us with _|⟨_,us⟩;cases c;replace c:=Nat.succ.inj c);cases List.eq_nil_of_length_eq_zero c;exact h
def bz2 {st:Stmt}(c:ps.length=2)(h:∀ {kV doc pm:Value} {an:Option Addr} {cdv ct a b:Value},bindArgs (W.fnOf x q (zAl st) (zAN st) (zAA st) .none kV doc pm an cdv ct) ⟨[a,b],[]⟩=pure (ps.zip [a,b])):bO x q st ps:=λ_ _ _ _ _ _ us d=>by replace d:=d.trans c;(iterate 2 rcases us with _|⟨_,us⟩;cases d;replace d:=Nat.succ.inj d);cases List.eq_nil_of_length_eq_zero d;exact h
def bz3 {st:Stmt}(e:ps.length=3)(h:∀ {kV doc pm:Value} {an:Option Addr} {cdv ct a b c:Value},bindArgs (W.fnOf x q (zAl st) (zAN st) (zAA st) .none kV doc pm an cdv ct) ⟨[a,b,c],[]⟩=pure (ps.zip [a,b,c])):bO x q st ps:=λ_ _ _ _ _ _ us d=>by replace d:=d.trans e;(iterate 3 rcases us with _|⟨_,us⟩;cases d;replace d:=Nat.succ.inj d);cases List.eq_nil_of_length_eq_zero d;exact h
def bz4 {st:Stmt}(f:ps.length=4)(h:∀ {kV doc pm:Value} {an:Option Addr} {cdv ct a b c d:Value},bindArgs (W.fnOf x q (zAl st) (zAN st) (zAA st) .none kV doc pm an cdv ct) ⟨[a,b,c,d],[]⟩=pure (ps.zip [a,b,c,d])):bO x q st ps:=λ_ _ _ _ _ _ us e=>by replace e:=e.trans f;(iterate 4 rcases us with _|⟨_,us⟩;cases e;replace e:=Nat.succ.inj e);cases List.eq_nil_of_length_eq_zero e;exact h
def bz5 {st:Stmt}(f:ps.length=5)(h:∀ {kV doc pm:Value} {an:Option Addr} {cdv ct a b c d e:Value},bindArgs (W.fnOf x q (zAl st) (zAN st) (zAA st) .none kV doc pm an cdv ct) ⟨[a,b,c,d,e],[]⟩=pure (ps.zip [a,b,c,d,e])):bO x q st ps:=λ_ _ _ _ _ _ us g=>by replace g:=g.trans f;(iterate 5 rcases us with _|⟨_,us⟩;cases g;replace g:=Nat.succ.inj g);cases List.eq_nil_of_length_eq_zero g;exact h
section
variable {P:Program}{w:World}{K:W.Frag}{mg:Str->Option Value}{base h:Heap}{k:Nat}{J:Gm}{U:Dm}{bs:List Str}{x:Str}{st:Stmt}{f:Addr}{N ps:List Str}{n:Nat}
def GOk.addT (g:GOk P w K mg base k J bs)(X:K.In h)(G:h.Ns mainGlobals mg)(t:FT K x st f)(a:dB st n N bs b=true)(c:bO x x st (N.take n)):GOk P w K mg base (k+1) (J.add x (dFun (N.take n).length N.length (evSs J b))) bs :=
 let ⟨_,E⟩:=t.F;g.add E (zJo (Bool.and_eq_true_iff.mp a).1) (Bool.and_eq_true_iff.mp a).2 (W.mg_of X G t.a) (E.binds c)
def DmOk.addT (d:DmOk P w K mg base k U)(g:GOk P w K mg base k J bs)(X:K.In h)(G:h.Ns mainGlobals mg)(t:FT K x st f)(a:dM st n N bs b=true)(e:bO x x st (N.take n))(c:spec.lookup x=none:=by decide +kernel):DmOk P w K mg base (k+1) (U.add x (zA6 (N.take n).length N.length (evSs' J U b))) :=
 let ⟨_,E⟩:=t.F;d.add g E (zJo (Bool.and_eq_true_iff.mp a).1) (Bool.and_eq_true_iff.mp a).2 (W.mg_of X G t.a) (E.binds e) c
def GOk.aT (n:Nat)(N:List Str)(g:GOk P w K mg base k J bs)(X:K.In h)(G:h.Ns mainGlobals mg)(t:FT K x st f)(c:dB st n N bs b=true:=by decide +kernel)(a:bO x x st (N.take n):=by first | exact bz2 rfl rfl | exact bz1 rfl rfl | exact bz3 rfl rfl | exact bz4 rfl rfl | exact bz0 rfl rfl | exact bz5 rfl rfl):GOk P w K mg base (k+1) (J.add x (dFun (N.take n).length N.length (evSs J b))) bs:=g.addT X G t c a
def GOk.aU (N:List Str)(g:GOk P w K mg base k J bs)(X:K.In h)(G:h.Ns mainGlobals mg)(t:FT K x st f)(a:bO x x st N:=by first | exact bz2 rfl rfl | exact bz1 rfl rfl | exact bz3 rfl rfl | exact bz4 rfl rfl | exact bz0 rfl rfl | exact bz5 rfl rfl):GOk P w K mg base k (J.add x (λ_=>none)) bs :=
 let ⟨_,E⟩:=t.F;g.addN E (W.mg_of X G t.a) (E.binds a)
def DmOk.aT {b:MT}{j:Nat}(n:Nat)(N:List Str)(d:DmOk P w K mg base k U)(g:GOk P w K mg base j J bs)(X:K.In h)(G:h.Ns mainGlobals mg)(t:FT K x st f)(c:j<=k:=by decide)(a:dM st n N bs b=true:=by decide +kernel)(e:bO x x st (N.take n):=by first | exact bz2 rfl rfl | exact bz1 rfl rfl | exact bz3 rfl rfl | exact bz4 rfl rfl | exact bz0 rfl rfl | exact bz5 rfl rfl)(i:spec.lookup x=none:=by decide +kernel):DmOk P w K mg base (k+1) (U.add x (zA6 (N.take n).length N.length (evSs' J U b))):=d.addT (g.mono c) X G t a e i
end
section
variable {P:Program}{w:World}{K:W.Frag}{mg:Str->Option Value}{base:Heap}{k:Nat}{J:Gm}{U:Dm}{bs:List Str}{m q c:Str}{st:Stmt}{C f:Addr}{N:List Str}{n:Nat}
structure FQ (K:W.Frag)(C f:Addr)(m q:Str)(st:Stmt):Prop where
 M:Meth K C m f
 F:∃ fd,Fun K m q st f fd
def fq {kV:Value}(a:W.findIn K (.ref C) m=some (some (.ref f)))(i:W.isFn K (.ref f)=true)(l:K.lookup f=some ⟨oc,od,.func (W.fnOf m q (zAl st) (zAN st) (zAA st) .none kV dc pm an cd ct),sl⟩)(c:W.codeIn K cd q=true)(k:W.keepIn K (.ref f)=true):FQ K C f m q st:=⟨⟨a,i,k⟩,_,zK9 l c k⟩
def DmOk.addQ (d:DmOk P w K mg base k U)(g:GOk P w K mg base k J bs)(t:FQ K C f m q st)(h:zBy K c C)(e:Cls K C)(a:dM st n N bs b=true)(i:bO m q st (N.take n))(j:spec.lookup q=some (.mth c m)):DmOk P w K mg base (k+1) (U.add q (zA6 (N.take n).length N.length (evSs' J U b))) :=
 let ⟨_,E⟩:=t.F;d.addM g E (zJo (Bool.and_eq_true_iff.mp a).1) (Bool.and_eq_true_iff.mp a).2 (E.binds i) h e t.M j
def DmOk.aQ {b:MT}{j:Nat}(n:Nat)(N:List Str)(d:DmOk P w K mg base k U)(g:GOk P w K mg base j J bs)(t:FQ K C f m q st)(e:zBy K c C)(l:Cls K C)(a:j<=k:=by decide)(o:dM st n N bs b=true:=by decide +kernel)(h:bO m q st (N.take n):=by first | exact bz2 rfl rfl | exact bz1 rfl rfl | exact bz3 rfl rfl | exact bz4 rfl rfl)(i:spec.lookup q=some (.mth c m):=by decide +kernel):DmOk P w K mg base (k+1) (U.add q (zA6 (N.take n).length N.length (evSs' J U b))):=d.addQ (g.mono a) t e l o h i
structure UC (K:W.Frag)(c:Str)(C:Addr)(ns:List Str):Prop where
 a:zBy K c C
 c:Cls K C
 k:W.makesIn K C=true
 kc:W.keepIn K (.ref C)=true
 n:∀ n∈ns,zBY K C n
def nf0:∀ n∈([]:List Str),zBY K C n:=by simp
def nfc (h:W.findIn K (.ref C) x=some none)(t:∀ n∈ns,zBY K C n):∀ n∈x::ns,zBY K C n:=λn a=>by
 cases a with
 | head=>exact h
 | tail _ a=>exact t n a
def uc (a:W.nsIn K mainGlobals c=some (some (.ref C)))(d:W.plainGet K C Str.empty=true)(e:W.hasDictIn K C=true)(g:W.plainOver K C=true)(b:W.findIn K (.ref C) "__setattr__"=some (some (.builtin "object.__setattr__")))(mk:W.makesIn K C=true)(f:W.keepIn K (.ref C)=true)(n:∀ n∈ns,zBY K C n):UC K c C ns:=⟨a,⟨d,e,g,b⟩,mk,f,n⟩
def UC.o (u:UC K c C ns)(h:x∈ns):∀ C',zBy K c C'->Cls K C'/\zBY K C' x:=λ_ q=>by
 obtain rfl:=zHl u.a q;exact⟨u.c,u.n x h⟩
end
def zQn :evM J U (.pur e)=zMw (evE J e):=rfl
def zQm :evM J U (.var i)=varM i:=rfl
def zNb :evM J U (.call n f es)=fnM U n f (evMs J U es):=rfl
def zNZ  :evMs J U .nil=nilM:=rfl
def zLU :evMs J U (.cons e es)=zNk (evM J U e) (evMs J U es):=rfl
def zQo :evM J U (.lst es)=lstM (evMs J U es):=rfl
def zTQ :evM J U (.ix a b)=twoM (evM J U a) (evM J U b) ixW:=rfl
def zQf :evT J U (.pur e)=zMx (asB (evE J e)):=rfl
def zLQ  :evSs' J U .nil=(λs=>some (.nx s)):=rfl
def zCy :evSs' J U (.cons a b)=seqM (evS' J U a) (evSs' J U b):=rfl
def zNT :evS' J U (.set i e)=setM i (evM J U e):=rfl
def zLS :evS' J U (.setC i e)=setM i (evM J U e):=rfl
def zNU :evS' J U (.ret e)=retM (evM J U e):=rfl
def zIK :evS' J U (.ife c a b)=ifM (evT J U c) (evSs' J U a) (evSs' J U b):=rfl
def zNW :evS' J U (.app t e)=appM (evM J U t) (evM J U e):=rfl
def zNa :evM J U (.comp n ms u2 src el)=zHk ms 1 (evSrc J U src) (tgM n) (evM J U el):=rfl
def zNS :evSrc J U (.it a)=srcM (evM J U a):=rfl
section
variable {J:Gm}{U:Dm}{O:List (Option W)}{G:Mem}{s:Mst}
def zAa (a:drS G O=O1)(h:EvP (evE J e O1) λr=>EvP (zG0 r G) Q):EvP (evM J U (.pur e) ⟨O,G⟩) Q:=by
 obtain⟨r,b,z,c,q⟩:=h;exact⟨z,by rw[zQn];unfold zMw;rw[a,b,qx,c],q⟩
def zAf (n:noL d=true)(h:Q (.dat d,G)):EvP (zG0 (d,.cl) G) Q:=⟨_,by cases d<;>exact if_pos (e:=none) n,h⟩
def zL2 (n:noLs ds=true)(h:Q (.loc G.length,G++[ds.map .dat])):EvP (zG0 (.lst ds,.fr) G) Q:=⟨_,if_pos n,h⟩
def zAM (e:O[i]?=some (some w))(h:Q (w,G)):EvP (evM J U (.var i) ⟨O,G⟩) Q:=by
 refine⟨_,?_,h⟩;rw[zQm];unfold varM;rw[e]
def zBM (e:U[n]?=some (f,F))(h:EvP (evMs J U es s) λws=>EvP (F ws.1 ws.2) Q):EvP (evM J U (.call n f es) s) Q:=by
 obtain⟨ws,b,r,a,q⟩:=h;refine⟨r,?_,q⟩;rw[zNb];unfold fnM;unfold zLu
 simp_all
def zAY (h:Q ([],G)):EvP (evMs J U .nil ⟨O,G⟩) Q:=⟨_,by rw[zNZ];rfl,h⟩
def zAD (h:EvP (evM J U e s) λw=>EvP (evMs J U es ⟨s.O,w.2⟩) λws=>Q (w.1::ws.1,ws.2)):EvP (evMs J U (.cons e es) s) Q:=by
 obtain⟨w,a,ws,b,q⟩:=h;exact⟨_,by rw[zLU];unfold zNk;rw[a,qx,b,qx],q⟩
def zDk (h:EvP (evMs J U es s) λr=>r.1.length<=10000/\Q (.loc r.2.length,r.2++[r.1])):EvP (evM J U (.lst es) s) Q:=by
 obtain⟨r,a,l,q⟩:=h;exact⟨_,by rw[zQo];unfold lstM;rw[a,qx,if_pos l],q⟩
def m_ix (h:EvP (evM J U a s) λx=>EvP (evM J U b ⟨s.O,x.2⟩) λy=>EvP (ixW x.1 y.1 y.2) Q):EvP (evM J U (.ix a b) s) Q:=by
 obtain⟨x,d,y,e,r,c,q⟩:=h;exact⟨_,by rw[zTQ];unfold twoM;rw[d,qx,e,qx,c],q⟩
def zQp :evM J U (.cmp op a b)=twoM (evM J U a) (evM J U b) (opM (cmpD op)):=rfl
def zUJ (h:EvP (evM J U a s) λx=>EvP (evM J U b ⟨s.O,x.2⟩) λy=>∃ u v,drW y.2 x.1=some u/\drW y.2 y.1=some v/\EvP (cmpD op u v) λr=>EvP (zG0 r y.2) Q):EvP (evM J U (.cmp op a b) s) Q:=by
 obtain⟨x,c,y,e,u,v,f,d,r,i,z,g,q⟩:=h;exact⟨_,by rw[zQp];unfold twoM;rw[c,qx,e,qx];unfold opM;rw[f,qx,d,qx,i,qx,g],q⟩
def zQq :evM J U (.cat a b)=twoM (evM J U a) (evM J U b) catW:=rfl
def zSI (h:EvP (evM J U a s) λx=>EvP (evM J U b ⟨s.O,x.2⟩) λy=>∃ n m ws vs,x.1=.loc n/\y.1=.loc m/\y.2[n]?=some ws/\y.2[m]?=some vs/\ws.length+vs.length<=10000/\Q (.loc y.2.length,y.2++[ws++vs])):EvP (evM J U (.cat a b) s) Q:=by
 obtain⟨⟨x,c⟩,e1,⟨y,m2⟩,e2,n,m,ws,vs,rfl,rfl,e3,e4,l,q⟩:=h;refine⟨_,?_,q⟩;rw[zQq];unfold twoM
 simp_all
 show (m2[n]?.bind λws=>m2[m]?.bind λvs=>if ws.length+vs.length<=10000 then some _ else none)=_
 simp_all
def zC9 (e:G[n]?=some ws)(a:atI ws i=some w)(h:Q (w,G)):EvP (ixW (.loc n) (.dat (.int i)) G) Q:=by
 refine⟨_,?_,h⟩;show (G[n]?.bind λws=>(atI ws i).map λw=>_)=_
 simp_all
def zEr (c:drS G O=O1)(h:EvP (evE J e O1) λr=>∃ b,r.1=.bl b/\Q (b,G)):EvP (evT J U (.pur e) ⟨O,G⟩) Q:=by
 obtain⟨r,a,b,f,q⟩:=h;refine⟨_,?_,q⟩;rw[zQf];unfold zMx;have:asB (evE J e) O1=some b:=by
  unfold asB;obtain⟨d,k⟩:=r
  simp_all
 simp_all
def zQg :evT J U (.cmp op a b)=asBM (evM J U (.cmp op a b)):=rfl
def zTz (h:EvP (evM J U (.cmp op a b) s) λr=>∃ c,r.1=.dat (.bl c)/\Q (c,r.2)):EvP (evT J U (.cmp op a b) s) Q:=by
 obtain⟨⟨r,m⟩,e1,c,e2,q⟩:=h;cases e2;refine⟨_,?_,q⟩;rw[zQg];unfold asBM;rw[e1]
def KM (J:Gm)(U:Dm)(b:MT)(Q:OutM->Prop):OutM->Prop
 | .nx s=>EvP (evSs' J U b s) Q
 | o=>Q o
def zAq (h:Q (.nx s)):EvP (evSs' J U .nil s) Q:=⟨_,by rw[zLQ],h⟩
def zAB (h:EvP (evS' J U a s) (KM J U b Q)):EvP (evSs' J U (.cons a b) s) Q:=by
 obtain⟨o,c,q⟩:=h;cases o with
 | nx e =>
  obtain⟨r,d,q⟩:=q;exact⟨r,by rw[zCy];unfold seqM;rw[c];exact d,q⟩
 | rt r=>exact⟨_,by rw[zCy];unfold seqM;rw[c,qx],q⟩
 | bk r=>exact⟨_,by rw[zCy];unfold seqM;rw[c,qx],q⟩
 | ct r=>exact⟨_,by rw[zCy];unfold seqM;rw[c,qx],q⟩
def zAP (h:EvP (evSs' J U b s) Q):KM J U b Q (.nx s):=h
def zDp (h:Q (.rt r)):KM J U b Q (.rt r):=h
def zAn (h:EvP (evM J U e s) λr=>Q (.nx ⟨s.O.set i (some r.1),r.2⟩)):EvP (evS' J U (.set i e) s) Q:=by
 obtain⟨r,a,q⟩:=h;exact⟨_,by rw[zNT];unfold setM;rw[a];rfl,q⟩
def zFe (h:EvP (evM J U e s) λr=>Q (.nx ⟨s.O.set i (some r.1),r.2⟩)):EvP (evS' J U (.setC i e) s) Q:=by
 obtain⟨r,a,q⟩:=h;exact⟨_,by rw[zLS];unfold setM;rw[a];rfl,q⟩
def zBo (h:EvP (evM J U e s) λr=>Q (.rt r)):EvP (evS' J U (.ret e) s) Q:=by
 obtain⟨r,a,q⟩:=h;exact⟨_,by rw[zNU];unfold retM;rw[a];rfl,q⟩
def zC4 (h:EvP (evT J U c s) λr=>(r.1=true->EvP (evSs' J U a ⟨s.O,r.2⟩) Q)/\(r.1=false->EvP (evSs' J U b ⟨s.O,r.2⟩) Q)):EvP (evS' J U (.ife c a b) s) Q:=by
 obtain⟨⟨r,m⟩,e1,q1,q2⟩:=h;cases r with
 | true =>
  obtain⟨o,d,q⟩:=q1 rfl;exact⟨o,by rw[zIK];unfold ifM;rw[e1,qx];exact(if_pos rfl).trans d,q⟩
 | false =>
  obtain⟨o,d,q⟩:=q2 rfl;exact⟨o,by rw[zIK];unfold ifM;rw[e1,qx];exact(if_neg qY).trans d,q⟩
def zCA (h:EvP (evM J U t s) λx=>EvP (evM J U e ⟨s.O,x.2⟩) λr=>∃ n ws,x.1=.loc n/\r.2[n]?=some ws/\ws.length<=10000/\Q (.nx ⟨s.O,r.2.set n (ws++[r.1])⟩)):EvP (evS' J U (.app t e) s) Q:=by
 obtain⟨_,a,r,d,n,ws,b,c,l,q⟩:=h;refine⟨_,?_,q⟩;rw[zNW];unfold appM;rw[a,qx]
 simp_all
def KFM (Q:MR->Prop):OutM->Prop
 | .rt r=>Q r
 | .nx s=>Q (.dat .non,s.G)
 | _=>False
def zC2 (h1:ws.length=np)(h2:np<=nN)(h:EvP (g ⟨ws.map some++List.replicate (nN - np) none,G⟩) (KFM Q)):EvP (zA6 np nN g ws G) Q:=by
 obtain⟨o,a,q⟩:=h;cases o with
 | rt r=>exact⟨_,by unfold zA6;rw[if_pos ⟨h1,h2⟩,a];rfl,q⟩
 | nx s=>exact⟨_,by unfold zA6;rw[if_pos ⟨h1,h2⟩,a];rfl,q⟩
 | bk _=>exact q.elim
 | ct _=>exact q.elim
theorem zHC :∀ ds:List D,sbL f (ds.map .dat)=some ds
 | []=>by rw[map_nil,sbL]
 | d::ds=>by rw[map_cons,sbL,sbW,qx,zHC ds];rfl
def zEg (e:G[n]?=some ws)(h:sbL (drN G k) ws=some ds):drN G (k+1) n=some (.lst ds):=by
 rw[drN,e,qx,h];rfl
def zHf (e:G[n]?=some (ds.map .dat)):drN G (k+1) n=some (.lst ds):=zEg e (zHC ds)
def zLd :drS G (some (.dat d)::O)=some (d,false)::drS G O:=rfl
def zLc (h:drN G 6 n=some d):drS G (some (.loc n)::O)=some (d,false)::drS G O:=by
 show ((drW G _).map λd=>_)::drS G O=_;unfold drW;rw[sbW,h]
 rfl
def zCm (h:drS G O=O1):drS G (some (.dat d)::O)=some (d,false)::O1:=by rw[<- h];exact zLd
def zAp (h:drS G O=O1):drS G (o::O)=(o.bind λw=>(drW G w).map λd=>(d,false))::O1:=by rw[<- h];rfl
def zES (h:EvP (evSrc J U src s) λz=>∃ y N,zBw (tgM n) (evM J U el) z.1 N 0 ⟨mask none ms s.O++[none],z.2⟩ []=some y/\y.1.length<=10000/\Q (.loc y.2.length,y.2++[y.1])):EvP (evM J U (.comp n ms x src el) s) Q:=by
 obtain⟨z,b,y,N,a,l,q⟩:=h;refine⟨_,?_,q⟩;rw[zNa];unfold zHk;rw[b];simp;rw[zLo a,qx,if_pos l]
def zRK (e:evM J U a s=some (.loc n,m))(h:Q (.live n,m)):EvP (evSrc J U (.it a) s) Q:=by
 refine⟨_,?_,h⟩;rw[zNS];unfold srcM;rw[e]
 rfl
end
end DL
end
section
namespace DL
open PySem L2
end DL
end
section
namespace DL
open PySem Spec PyProof.Rows L2
def zLT :evS' J U (.for1 i src b)=(λs=>(evSrc J U src s).bind λr=>zEv (tgM i) (evSs' J U b) r.1 0 ⟨s.O,r.2⟩):=rfl
def zLR :evSrc J U (.rng a)=zMR (evM J U a):=rfl
def zNV :evS' J U (.put t k e)=putM (evM J U t) (evM J U k) (evM J U e):=rfl
section
variable {J:Gm}{U:Dm}{O:List (Option W)}{G:Mem}{s:Mst}
def KLM (P:Mst->Prop)(Q:OutM->Prop):OutM->Prop
 | .nx s=>P s
 | .ct s=>P s
 | .bk s=>Q (.nx s)
 | .rt r=>Q (.rt r)
def zCG (ws:List W)(P:Nat->Mst->Prop)(it:∀ j s,P j s->itm s.G src=some ws)
  (step:∀ j w s,ws[j]?=some w->P j s->∃ s1,t w s=some s1/\EvP (b s1) (KLM (P (j+1)) Q)) (i:∀ s,P ws.length s->Q (.nx s)) (h:P 0 s):EvP (zEv t b src 0 s) Q:=by
 have n:∀ (k j:Nat) (s:Mst),j+k=ws.length->P j s->∃ o,forN t b src (k+1) j s=some o/\Q o:=by
  intro k
  induction k with
  | zero =>
   intro j s e p;have v:j=ws.length:=by omega
   subst v;refine⟨_,?_,i s p⟩;rw[forN,it _ s p,qx,getElem?_eq_none (le_refl _)]
  | succ k u =>
   intro j s e p;have a:ws[j]?=some ws[j]:=getElem?_eq_getElem (by omega);obtain⟨s1,f,o,d,q⟩:=step j _ s a p;cases o with
   | nx c =>
    obtain⟨m,g,l⟩:=u (j+1) c (by omega) q;exact⟨m,by rw[forN,it j s p,qx,a];dsimp only;rw[f,qx,d,qx];exact g,l⟩
   | ct c =>
    obtain⟨m,g,l⟩:=u (j+1) c (by omega) q;exact⟨m,by rw[forN,it j s p,qx,a];dsimp only;rw[f,qx,d,qx];exact g,l⟩
   | bk c=>exact⟨_,by rw[forN,it j s p,qx,a];dsimp only;rw[f,qx,d,qx],q⟩
   | rt r=>exact⟨_,by rw[forN,it j s p,qx,a];dsimp only;rw[f,qx,d,qx],q⟩
 obtain⟨o,e,q⟩:=n ws.length 0 s (by omega) h;exact⟨o,zNN e,q⟩
def zBR (h:EvP (evSrc J U src s) λr=>EvP (zEv (tgM i) (evSs' J U b) r.1 0 ⟨s.O,r.2⟩) Q):EvP (evS' J U (.for1 i src b) s) Q:=by
 obtain⟨r,c,o,a,q⟩:=h;exact⟨o,by rw[zLT];dsimp only;rw[c];exact a,q⟩
def zBn (h:EvP (evM J U a s) λx=>∃ n,x.1=.loc n/\Q (.live n,x.2)):EvP (evSrc J U (.it a) s) Q:=by
 obtain⟨⟨x,m⟩,e,n,e2,q⟩:=h;cases e2;exact zRK e q
def zBa (h:EvP (evM J U a s) λx=>∃ j,x.1=.dat (.int j)/\(-(2^62)<=j/\j < 2^62)/\Q (.items ((rngL 0 j.toNat).map .dat),x.2)):EvP (evSrc J U (.rng a) s) Q:=by
 obtain⟨⟨x,m⟩,e,j,e2,l,q⟩:=h;cases e2;refine⟨_,?_,q⟩;rw[zLR];unfold zMR;rw[e];exact if_pos l
def zN7 (h:EvP (evM J U e s) λr=>EvP (evM J U t ⟨s.O,r.2⟩) λx=>EvP (evM J U k ⟨s.O,x.2⟩) λj=>∃ n i ws m,x.1=.loc n/\j.1=.dat (.int i)/\j.2[n]?=some ws/\ixN ws.length i=some m/\Q (.nx ⟨s.O,j.2.set n (ws.set m r.1)⟩)):EvP (evS' J U (.put t k e) s) Q:=by
 obtain⟨r,a,⟨x,mx⟩,e2,⟨j,mj⟩,e3,n,i,ws,m,e4,e5,e6,e7,q⟩:=h;refine⟨_,?_,q⟩;rw[zNV];unfold putM;rw[a,qx,e2,qx,e3,qx]
 simp_all
end
end DL
namespace DL
open PySem L2
end DL
end
section
namespace DL
open PySem L2
noncomputable def news (m k:Nat):List W:=(List.range k).map λj=>.loc (m+j)
def zDX (m i:Nat):news m (i+1)=news m i++[.loc (m+i)]:=by unfold news;rw[range_succ,xJ];rfl
def zBi (m i:Nat):(news m i).length=i:=by unfold news;rw[qy,length_range]
def zFu (h:i < k):(news m k)[i]?=some (.loc (m+i)):=by unfold news;rw[getElem?_map,getElem?_range h];rfl
def zEj (ws:List W)(P:Nat->Mst->List W->Prop)(it:∀ j s d,P j s d->itm s.G src=some ws)
  (step:∀ j w s d,ws[j]?=some w->P j s d->d.length<=10000/\∃ s1 r,t w s=some s1/\e s1=some r/\P (j+1) ⟨s1.O,r.2⟩ (d++[r.1])) (h:P 0 s []):∃ y s' N,zBw t e src N 0 s []=some y/\P ws.length s' y.1/\s'.G=y.2:=by
 have b:∀ (k j:Nat) (s:Mst) (d:List W),j+k=ws.length->P j s d->∃ y s',zBw t e src (k+1) j s d=some y/\P ws.length s' y.1/\s'.G=y.2:=by
  intro k
  induction k with
  | zero =>
   intro j s d a p;have a:j=ws.length:=by omega
   subst a;refine⟨(d,s.G),s,?_,p,rfl⟩;rw[zBw,it _ s d p,qx,getElem?_eq_none (le_refl _)]
  | succ k i =>
   intro j s d a p;have f:j < ws.length:=by omega
   have c:ws[j]?=some ws[j]:=getElem?_eq_getElem f;obtain⟨l,s1,r,o,n,q⟩:=step j _ s d c p;obtain⟨y,s',m,g⟩:=i (j+1) ⟨s1.O,r.2⟩ _ (by omega) q;refine⟨y,s',?_,g⟩;rw[zBw,it j s d p,qx,c]
   simp_all
 obtain⟨y,s',e,q⟩:=b ws.length 0 s [] (by omega) h;exact⟨y,s',_,e,q⟩
mutual
theorem zHv {f g:Nat->Option D}(hf:∀ n d,f n=some d->g n=some d):∀ {w:W} {d:D},sbW f w=some d->sbW g w=some d
 | .dat x,d,e=>by rw[sbW] at e ⊢;exact e
 | .loc n,d,e=>by rw[sbW] at e ⊢;exact hf n d e
 | .tup ws,d,e=>by
  rw[sbW] at e ⊢;obtain⟨ds,e1,rfl⟩:=x9.mp e;rw[sbL_mono hf e1]
  rfl
 | .obj c ns ws,d,e=>by rw[sbW] at e ⊢;exact e
theorem sbL_mono {f g:Nat->Option D}(hf:∀ n d,f n=some d->g n=some d):∀ {ws:List W} {ds:List D},sbL f ws=some ds->sbL g ws=some ds
 | [],ds,e=>by rw[sbL] at e ⊢;exact e
 | w::ws,ds,e=>by
  rw[sbL] at e ⊢;obtain⟨d,e1,e⟩:=bind_some e;obtain⟨ds',e2,rfl⟩:=x9.mp e;rw[zHv hf e1,qx,sbL_mono hf e2]
  rfl
end
theorem zIM (hm:∀ (n:Nat) (ws:List W),G[n]?=some ws->G'[n]?=some ws):∀ (k n:Nat) (d:D),drN G k n=some d->drN G' k n=some d
 | 0,_,_,e=>by cases e
 | k+1,n,d,e=>by
  rw[drN] at e ⊢;obtain⟨ws,e1,e⟩:=bind_some e;obtain⟨ds,e2,rfl⟩:=x9.mp e;rw[hm n ws e1,qx,sbL_mono (λn d q=>zIM hm k n d q) e2]
  rfl
def zAR {P:Mem}{n:Nat}{ws:List W}(h:G[n]?=some ws):(G++P)[n]?=some ws:=by
 rw[getElem?_append_left (zzg h).1];exact h
theorem zDg {g:Nat->Option D}{T:Type}(ad:T->Nat)(d:T->D):∀ l:List T,(∀ i∈l,g (ad i)=some (d i))->sbL g (l.map λi=>.loc (ad i))=some (l.map d)
 | [],_=>by rw[map_nil,sbL];rfl
 | i::l,h=>by
  rw[map_cons,sbL,sbW,h i q8,qx,zDg ad d l λj hj=>h j (qJ _ hj)]
  rfl
noncomputable def zLa:MT:=.cons (.ret (.comp 1 [] "k" (.rng (.var 0)) (.lst .nil))) .nil
def zIf (F:MF):Prop:=∀ (k:Nat) (G:Mem) (Q:MR->Prop),k<=100->Q (.loc (G.length+k),G++List.replicate k []++[news G.length k])->EvP (F [.dat (.int k)] G) Q
def zNh :zIf (zA6 1 1 (evSs' J U zLa)):=λk G Q p h=>by
 refine zC2 rfl (by decide) ?_;unfold zLa;refine zAB (zBo (zES (zBa (zAM (w:=.dat (.int k)) rfl ⟨(k:Int),rfl,by omega,?_⟩))));rw[toNat_natCast];obtain⟨y,n,N,e,⟨o,c,b,f⟩,p4⟩:=zEj (t:=tgM 1) (e:=evM J U (.lst .nil)) (src:=.items ((rngL 0 k).map .dat)) (s:=⟨mask none [] [some (.dat (.int k))]++[none],G⟩) ((rngL 0 k).map .dat)
  (λj s d=>∃ o:Option W,s=⟨[some (.dat (.int k)),o],G++List.replicate j []⟩/\d=news G.length j/\j<=k) (λj s d _=>rfl) (λj w s d l a=>by
   obtain⟨o,c,b,f⟩:=a;subst c b;have m:j < k:=by
    have:=(zzg l).1;rw[qy,zAm] at this;exact this
   refine⟨by rw[zBi];omega,⟨[some (.dat (.int k)),some w],G++List.replicate j []⟩,(.loc (G++List.replicate j []).length,G++List.replicate j []++[[]]),rfl,?_,some w,?_,?_,by omega⟩
   .rfl
   .rw [List.replicate_succ',q0]
   .rw [zDX,qQ,length_replicate]) ⟨none,by rw[List.replicate_zero,append_nil];rfl,rfl,zero_le _⟩
 have i:((rngL 0 k).map W.dat).length=k:=by rw[qy,zAm]
 rw[i] at c b;subst c;have g:y=(news G.length k,G++List.replicate k []):=Prod.ext b p4.symm;refine⟨y,N,e,by rw[b,zBi];omega,?_⟩;rw[g];show KFM Q (.rt (.loc (G++List.replicate k []).length,_));rw[qQ,length_replicate];exact h
structure zBx (G:Mem)(a w h:Nat)(f:Nat->Nat->List D):Prop where
 cell:∀ r c,r < h->c<=w->G[a+r*(w+2)+c]?=some ((f r c).map .dat)
 row:∀ r,r < h->G[a+r*(w+2)+(w+1)]?=some (news (a+r*(w+2)) (w+1))
 top:G[a+h*(w+2)]?=some ((List.range h).map λr=>.loc (a+r*(w+2)+(w+1)))
def zBx.keep (t:zBx G a w h f)(k:∀ (n:Nat) (ws:List W),a<=n->n<=a+h*(w+2)->G[n]?=some ws->G'[n]?=some ws):zBx G' a w h f:=by
 have lt:∀ r c,r < h->c<=w+1->r*(w+2)+c < h*(w+2):=λr c b d=>by
  have:=mul_le_mul_right (w+2) b;grind
 exact⟨λr c b d=>k _ _ (by omega) (by have:=lt r c b (by omega);omega) (t.cell r c b d),λr b=>k _ _ (by omega) (by have:=lt r (w+1) b (by omega);omega) (t.row r b),k _ _ (by omega) (le_refl _) t.top⟩
def zBx.app (t:zBx G a w h f)(P:Mem):zBx (G++P) a w h f:=t.keep λ_ _ _ _ e=>zAR e
def zOV (b:c<=w+1)(a:c'<=w+1)(e:r*(w+2)+c=r'*(w+2)+c'):r=r'/\c=c':=by
 have lt:∀ {r r' c c':Nat},c<=w+1->r < r'->r*(w+2)+c < r'*(w+2)+c':=λ{r r' c c'} b d=>by
  have:=mul_le_mul_right (w+2) d;grind
 rcases Nat.lt_trichotomy r r' with q | q | q
 .have:=lt (c':=c') b q;omega
 .grind
 .have:=lt (c':=c) a q;omega
noncomputable def more (f:Nat->Nat->List D)(r c:Nat)(q:D):Nat->Nat->List D:=λr' c'=>if r'=r/\c'=c then f r c++[q] else f r' c'
theorem zBx.more (t:zBx G a w h f)(hr:r < h)(hc:c<=w):zBx (G.set (a+r*(w+2)+c) (((f r c).map .dat)++[.dat q])) a w h (more f r c q):=by
 have hl:=(zzg (t.cell r c hr hc)).1;have hn:r*(w+2)+c < h*(w+2):=by
  have:=mul_le_mul_right (w+2) (show r+1<=h from hr);rw[Nat.succ_mul] at this;omega
 refine⟨λr' c' hr' hc'=>?_,λr' hr'=>?_,?_⟩
 .by_cases e:r'=r/\c'=c
  .obtain ⟨rfl,rfl⟩:=e;rw[getElem?_set_self hl];unfold DL.more;rw[if_pos ⟨rfl,rfl⟩,xJ]
   rfl
  .unfold DL.more;rw[if_neg e,getElem?_set_ne]
   .exact t.cell r' c' hr' hc'
   .intro z;have:=zOV (w:=w) (r:=r) (c:=c) (r':=r') (c':=c') (by omega) (by omega) (by omega);exact e ⟨this.1.symm,this.2.symm⟩
 .rw [getElem?_set_ne]
  .exact t.row r' hr'
  .intro z;have:=zOV (w:=w) (r:=r) (c:=c) (r':=r') (c':=w+1) (by omega) (by omega) (by omega);omega
 .rw [getElem?_set_ne (by omega)];exact t.top
def zBx.other (t:zBx G a w h f)(b:n < a\/a+h*(w+2) < n):zBx (G.set n x) a w h f:=t.keep λm c h1 h2 e=>by
 rw[getElem?_set_ne (by omega)];exact e
def zN5 (t:zBx G a w h f):drN G 6 (a+h*(w+2))=some (.lst ((List.range h).map λr=>D.lst ((List.range (w+1)).map λc=>.lst (f r c)))):=by
 refine zEg t.top (zDg _ _ _ λr b=>?_)
 simp_all
 have q:drN G 5 (a+r*(w+2)+w+1)=some (.lst ((List.range (w+1)).map λc=>.lst (f r c))):=by
  refine zEg (t.row r b) (zDg _ _ _ λc d=>?_)
  simp_all
  exact zEg (t.cell r c b (by omega)) (zHC _)
 omega
noncomputable def tabE (ne:Nat):ME:=.comp 7 [] "row" (.rng (.var 1)) (.call ne "empty_lists" (.cons (.pur (.bin .Add (.var 0) (.int 1))) .nil))
def zN4 (p:U[ne]?=some (("empty_lists":Str),Fe))(A:zIf Fe)(H:w<=6)(E:h<=6)
  (C:∀ P:Mem,P.length=h*(w+2)+1->zBx (G++P) G.length w h (λ_ _=>[])->Q (.loc (G.length+h*(w+2)),G++P)) :
  EvP (evM J U (tabE ne) ⟨[some (.dat (.int w)),some (.dat (.int h)),x2,x3,x4,x5,x6],G⟩) Q:=by
 unfold tabE;refine zES (zBa (zAM (w:=.dat (.int h)) rfl ⟨(h:Int),rfl,by omega,?_⟩));rw[toNat_natCast];obtain⟨y,D,N,e,⟨o,P,m,i,g,v,l,k⟩,p7⟩:=zEj (t:=tgM 7) (e:=evM J U (.call ne "empty_lists" (.cons (.pur (.bin .Add (.var 0) (.int 1))) .nil))) (src:=.items ((rngL 0 h).map .dat)) (s:=⟨mask none [] [some (.dat (.int w)),some (.dat (.int h)),x2,x3,x4,x5,x6]++[none],G⟩) ((rngL 0 h).map .dat)
  (λj s d=>∃ (o:Option W) (P:Mem),s=⟨[some (.dat (.int w)),some (.dat (.int h)),x2,x3,x4,x5,x6,o],G++P⟩/\d=(List.range j).map (λr=>W.loc (G.length+r*(w+2)+(w+1)))/\P.length=j*(w+2)/\j<=h /\
   (∀ r c,r < j->c<=w->(G++P)[G.length+r*(w+2)+c]?=some [])/\∀ r,r < j->(G++P)[G.length+r*(w+2)+(w+1)]?=some (news (G.length+r*(w+2)) (w+1))) (λj s d _=>rfl) (λj x s d u f=>by
   obtain⟨o,P,m,i,g,v,l,k⟩:=f;subst m i;have F:j < h:=by
    have:=(zzg u).1;rw[qy,zAm] at this;exact this
   have a:(G++P).length=G.length+j*(w+2):=by rw[qQ,g]
   refine⟨by rw[qy,length_range];omega,⟨[some (.dat (.int w)),some (.dat (.int h)),x2,x3,x4,x5,x6,some x],G++P⟩,(.loc ((G++P).length+(w+1)),(G++P)++List.replicate (w+1) []++[news (G++P).length (w+1)]),rfl,?_,some x,P++List.replicate (w+1) []++[news (G++P).length (w+1)],?_,?_,?_,by omega,?_,?_⟩
   .refine (zBM (Q:=λr=>r=(W.loc ((G++P).length+(w+1)),(G++P)++List.replicate (w+1) []++[news (G++P).length (w+1)])) p (zAD (zAa zLd (zAZ (zAI rfl (zAO (zEo (zAf rfl (zAY ?_))))))))).eq;exact A (w+1) (G++P) _ (by omega) rfl
   .simp only [q0]
   .rw [range_succ,xJ,a];rfl
   .simp only [qQ,length_replicate,length_singleton,g];rw[Nat.succ_mul];omega
   .intro r c b n;by_cases q:r < j
    .rw [<- q0,<- q0];exact zAR (zAR (l r c q n))
    .have:r=j:=by omega
     subst this;rw[<- q0,<- q0,getElem?_append_left (by rw[qQ,length_replicate,a];omega),getElem?_append_right (by rw[a];omega),a,getElem?_replicate];rw[if_pos (by omega)]
   .intro r b;by_cases q:r < j
    .rw [<- q0,<- q0];exact zAR (zAR (k r q))
    .have:r=j:=by omega
     subst this;have ll:(G++P++List.replicate (w+1) []).length=G.length+r*(w+2)+(w+1):=by rw[qQ,length_replicate,a]
     rw[<- q0,<- q0,getElem?_append_right (by rw[ll];exact le_refl _),ll,sub_self];show some (news (G++P).length (w+1))=_;rw[a]) ⟨none,[],by rw[append_nil];rfl,rfl,by simp,zero_le _,λr c b=>absurd b (by omega),λr b=>absurd b (by omega)⟩
 have B:((rngL 0 h).map W.dat).length=h:=by rw[qy,zAm]
 rw[B] at i g l k;subst m;have z:y=((List.range h).map (λr=>W.loc (G.length+r*(w+2)+(w+1))),G++P):=Prod.ext i p7.symm;refine⟨y,N,e,by rw[i,qy,length_range];omega,?_⟩;rw[z];have a:(G++P).length=G.length+h*(w+2):=by rw[qQ,g]
 show Q (.loc (G++P).length,(G++P)++[_]);rw[a,q0];refine C _ (by rw[qQ,g];rfl) ⟨λr c b n=>?_,λr b=>?_,?_⟩
 .rw [<- q0];exact zAR (l r c b n)
 .rw [<- q0];exact zAR (k r b)
 .rw [<- q0,getElem?_append_right (by rw[a];exact le_refl _),a,sub_self]
  rfl
def zKo (e:atI ds i=some d)(h:Q (.dat d,G)):EvP (ixW (.dat (.tup ds)) (.dat (.int i)) G) Q:=by
 refine⟨_,?_,h⟩;show (atI ds i).map _=_
 simp_all
def zQy (h:drW G x=some d):drS G (some x::O)=some (d,false)::drS G O:=by
 show _::drS G O=_
 simp_all
structure Pz where
 c:Int
 r:Int
 x:D
 y:D
 f:D
 g:D
abbrev Pz.d (z:Pz):D:=.tup [.int z.c,.int z.r,z.x,z.y]
structure PzB (w h:Nat)(z:Pz):Prop where
 r0:0<=z.r
 r1:z.r < h
 c0:-1<=z.c
 c1:z.c < w
 n:noL z.d=true
 f:noL z.f=true
 g:noL z.g=true
noncomputable def fc (p:Pz->D)(zs:List Pz)(r c:Nat):List D:=(zs.filter λz=>decide (z.r=(r:Int))&&decide (z.c+1=(c:Int))).map p
def zLF (hz:PzB w h z):fc p (zs++[z])=more (fc p zs) z.r.toNat (z.c+1).toNat (p z):=by
 have a:=hz.r0;have b:=hz.c0;unfold fc more;grind
noncomputable def zPl (nf nr:Nat):MT:=.cons (.set 6 (.pur (.bin .Add (.ix (.var 5) (.int 0)) (.int 1)))) (.cons (.app (.ix (.ix (.var 3) (.ix (.var 5) (.pur (.int 1)))) (.var 6)) (.pur (.call nf "fall" (.cons (.var 5) .nil)))) (.cons (.app (.ix (.ix (.var 4) (.ix (.var 5) (.pur (.int 1)))) (.var 6)) (.pur (.call nr "right" (.cons (.var 5) .nil)))) .nil))
def zKg {J:Gm}{U:Dm}{nf nr:Nat}{C B:List D->Option R}(ef:J.fns[nf]?=some (("fall":Str),C))(er:J.fns[nr]?=some (("right":Str),B)){w h a b:Nat}{z:Pz}(E:C [z.d]=some (z.f,.cl))(X:B [z.d]=some (z.g,.cl)){f g:Nat->Nat->List D}{A y v V:Option W}{G:Mem}{Q:OutM->Prop}
  (hz:PzB w h z) (t:zBx G a w h f) (Y:zBx G b w h g) (ab:a+h*(w+2) < b) (N:∀ r c,(f r c).length<=10000) (T:∀ r c,(g r c).length<=10000)
  (I:∀ G':Mem,G'.length=G.length->(∀ m:Nat,m < a->G'[m]?=G[m]?)->(∀ m:Nat,b+h*(w+2) < m->G'[m]?=G[m]?)->zBx G' a w h (more f z.r.toNat (z.c+1).toNat z.f)->zBx G' b w h (more g z.r.toNat (z.c+1).toNat z.g)->Q (.nx ⟨[A,y,v,some (.loc (a+h*(w+2))),some (.loc (b+h*(w+2))),some (.dat z.d),some (.dat (.int (z.c+1)))],G'⟩)) :
  EvP (evSs' J U (zPl nf nr) ⟨[A,y,v,some (.loc (a+h*(w+2))),some (.loc (b+h*(w+2))),some (.dat z.d),V],G⟩) Q:=by
 have r0:=hz.r0;have r1:=hz.r1;have c0:=hz.c0;have c1:=hz.c1;have H:z.r=((z.r.toNat:Nat):Int):=by omega
 have eC:z.c+1=(((z.c+1).toNat:Nat):Int):=by omega
 have e:z.r.toNat < h:=by omega
 have u:(z.c+1).toNat<=w:=by omega
 have k:∀ (a:Nat),atI ((List.range h).map λr=>W.loc (a+r*(w+2)+(w+1))) z.r=some (.loc (a+z.r.toNat*(w+2)+(w+1))):=λa=>by
  have q:atI ((List.range h).map λr=>W.loc (a+r*(w+2)+(w+1))) ((z.r.toNat:Nat):Int)=some (.loc (a+z.r.toNat*(w+2)+(w+1))):=zAx (by rw[getElem?_map,getElem?_range e];rfl);rw[<- H] at q;exact q
 have o:∀ (a:Nat),atI (news (a+z.r.toNat*(w+2)) (w+1)) (z.c+1)=some (.loc (a+z.r.toNat*(w+2)+(z.c+1).toNat)):=λa=>by
  have q:atI (news (a+z.r.toNat*(w+2)) (w+1)) (((z.c+1).toNat:Nat):Int)=some (.loc (a+z.r.toNat*(w+2)+(z.c+1).toNat)):=zAx (zFu (by omega));rw[<- eC] at q;exact q
 have p:atI [D.int z.c,.int z.r,z.x,z.y] 1=some (.int z.r):=rfl;have S:z.r.toNat*(w+2)+(z.c+1).toNat < h*(w+2):=by
  have:=mul_le_mul_right (w+2) (show z.r.toNat+1<=h from e);rw[Nat.succ_mul] at this;omega
 unfold zPl;refine zAB (zAn (zAa (zAp (zAp (zAp (zAp (zAp (zCm rfl)))))) ?_));refine zAZ (zBA (zAI rfl (zAO (zDJ (d:=.int z.c) rfl (zAO (zEo (zAf rfl (zAP ?_))))))));(walk_at "s");refine zAB (zCA (m_ix (m_ix (zAM rfl (m_ix (zAM rfl (zAa rfl (zAO (zAf rfl ?_)))))))));refine zKo p (zC9 t.top (k a) (zAM rfl (zC9 (t.row _ e) (o a) ?_)));refine zAa (zAp (zAp (zAp (zAp (zAp (zCm rfl)))))) ?_;refine zAK ef (zAC (zAI rfl (n_cl (zAT ?_))));refine⟨_,E,?_⟩;refine n_cl (zAf hz.f ⟨_,_,rfl,t.cell _ _ e u,by rw[qy];exact N _ _,zAP ?_⟩);have i:=t.more (q:=z.f) e u;have tg2:=Y.other (n:=a+z.r.toNat*(w+2)+(z.c+1).toNat) (x:=((f z.r.toNat (z.c+1).toNat).map .dat)++[.dat z.f]) (by omega);have Z:(G.set (a+z.r.toNat*(w+2)+(z.c+1).toNat) (((f z.r.toNat (z.c+1).toNat).map .dat)++[.dat z.f])).length=G.length:=length_set;have F:∀ m:Nat,m < a->(G.set (a+z.r.toNat*(w+2)+(z.c+1).toNat) (((f z.r.toNat (z.c+1).toNat).map .dat)++[.dat z.f]))[m]?=G[m]?:=λm l=>getElem?_set_ne (by omega)
 have P:∀ m:Nat,b+h*(w+2) < m->(G.set (a+z.r.toNat*(w+2)+(z.c+1).toNat) (((f z.r.toNat (z.c+1).toNat).map .dat)++[.dat z.f]))[m]?=G[m]?:=λm l=>getElem?_set_ne (by omega)
 have M:∀ j:Mem,j.length=G.length->(∀ m:Nat,m < a->j[m]?=G[m]?)->(∀ m:Nat,b+h*(w+2) < m->j[m]?=G[m]?)->zBx j a w h (more f z.r.toNat (z.c+1).toNat z.f)->zBx j b w h g ->
   EvP (evSs' J U (.cons (.app (.ix (.ix (.var 4) (.ix (.var 5) (.pur (.int 1)))) (.var 6)) (.pur (.call nr "right" (.cons (.var 5) .nil)))) .nil) ⟨[A,y,v,some (.loc (a+h*(w+2))),some (.loc (b+h*(w+2))),some (.dat z.d),some (.dat (.int (z.c+1)))],j⟩) Q:=by
  intro j K O L i tg2;refine zAB (zCA (m_ix (m_ix (zAM rfl (m_ix (zAM rfl (zAa rfl (zAO (zAf rfl ?_)))))))));refine zKo p (zC9 tg2.top (k b) (zAM rfl (zC9 (tg2.row _ e) (o b) ?_)));refine zAa (zAp (zAp (zAp (zAp (zAp (zCm rfl)))))) ?_;refine zAK er (zAC (zAI rfl (n_cl (zAT ?_))));refine⟨_,X,?_⟩;refine n_cl (zAf hz.g ⟨_,_,rfl,tg2.cell _ _ e u,by rw[qy];exact T _ _,zAP (zAq ?_)⟩);refine I _ (by rw[length_set];exact K) (λm l=>?_) (λm l=>?_) (i.other (by omega)) (tg2.more e u)
  .rw [getElem?_set_ne (by omega)];exact O m l
  .rw [getElem?_set_ne (by omega)];exact L m l
 exact M _ Z F P i tg2
noncomputable def zHA (na nf nr nw ne:Nat):MT:=.cons (.setC 3 (tabE ne)) (.cons (.setC 4 (tabE ne)) (.cons (.for1 5 (.it (.pur (.call na "all_pieces" (.cons (.var 0) (.cons (.var 1) (.cons (.var 2) .nil)))))) (zPl nf nr)) (.cons (.ret (.comp 7 [] "row" (.rng (.var 1)) (.pur (.call nw "row_of_shares" (.cons (.ix (.var 3) (.var 7)) (.cons (.ix (.var 4) (.var 7)) .nil)))))) .nil)))
noncomputable def zBq (rz:Nat->List D)(k:Nat):Mem:=(List.range k).map λr=>(rz r).map W.dat
theorem zKQ:∀ {ds:List D},(∀ d∈ds,noL d=true)->noLs ds=true
 | [],_=>rfl
 | d::ds,h=>by rw[noLs,h d q8,zKQ λd m=>h d (qJ _ m)];rfl
def zOa (a:List Pz)(r c:Nat):(fc p a r c).length<=a.length:=by unfold fc;rw[qy];exact List.length_filter_le _ _
structure ZOk (Fa Ff Fr Fw:List D->Option R)(w h:Nat)(sh:D)(zs:List Pz)(rz:Nat->List D):Prop where
 w2:w<=6
 h2:h<=6
 zl:zs.length<=5000
 all:Fa [.int w,.int h,sh]=some (.lst (zs.map Pz.d),.fr)
 b:∀ z∈zs,PzB w h z
 f:∀ z∈zs,Ff [z.d]=some (z.f,.cl)
 r:∀ z∈zs,Fr [z.d]=some (z.g,.cl)
 w:∀ r,r < h->Fw [.lst ((List.range (w+1)).map λc=>.lst (fc Pz.f zs r c)),.lst ((List.range (w+1)).map λc=>.lst (fc Pz.g zs r c))]=some (.lst (rz r),.fr)
 n:∀ r,r < h->noLs (rz r)=true
def zJl (ea:J.fns[na]?=some (("all_pieces":Str),Fa))(ef:J.fns[nf]?=some (("fall":Str),Ff))(er:J.fns[nr]?=some (("right":Str),Fr))(ew:J.fns[nw]?=some (("row_of_shares":Str),Fw))(ee:U[ne]?=some (("empty_lists":Str),Fe))
  (he:zIf Fe)        (ok:ZOk Fa Ff Fr Fw w h sh zs rz) (dx:drW G x=some sh)
  (hQ:∀ P:Mem,Q (.loc ((G++P).length+h),G++P++zBq rz h++[news (G++P).length h])):EvP (zA6 3 7 (evSs' J U (zHA na nf nr nw ne)) [.dat (.int w),.dat (.int h),x] G) Q:=by
 have B:=ok.b;have Z:=ok.w2;have h2:=ok.h2;have zl:=ok.zl;refine zC2 rfl (by decide) ?_;unfold zHA;show EvP (evSs' J U _ ⟨[some (.dat (.int w)),some (.dat (.int h)),some x,none,none,none,none],G⟩) _;refine zAB (zFe (zN4 ee he Z h2 λP1 g1 t1=>zAP ?_));(walk_at "s");refine zAB (zFe (zN4 ee he Z h2 λP2 g2 Y=>zAP ?_));(walk_at "s");have ta:=t1.app P2;have i:(G++P1).length=G.length+h*(w+2)+1:=by rw[qQ,g1];omega
 rw[i] at Y;rw[i];have S:drW (G++P1++P2) x=some (sh):=(zHv (λn d q=>zIM (λm ws e=>zAR (zAR e)) 6 n d q) dx);refine zAB (zBR (zBn (zAa (zCm (zCm (zQy S))) ?_)));refine zAK ea (zAC (zAI rfl (n_cl (zAC (zAI rfl (n_cl (zAC (zAI (d:=sh) rfl (n_cl (zAT ?_)))))))))) ;refine⟨_,ok.all,?_⟩;refine n_fr (zL2 (zKQ λd m=>let ⟨z,E,e⟩:=mem_map.mp m;e▸(B z E).n) ⟨_,rfl,?_⟩);have lb:(G++P1++P2).length=G.length+h*(w+2)+1+h*(w+2)+1:=by rw[qQ,i,g2];omega
 dsimp only;refine zCG (s:=⟨_,_⟩) ((zs.map Pz.d).map .dat) (λj s=>∃ (k g:Option W) (a:Mem),s=⟨[some (.dat (.int w)),some (.dat (.int h)),some x,some (.loc (G.length+h*(w+2))),some (.loc (G.length+h*(w+2)+1+h*(w+2))),k,g],a⟩/\a.length=(G++P1++P2).length+1/\(∀ m:Nat,m < G.length->a[m]?=G[m]?)/\a[(G++P1++P2).length]?=some ((zs.map Pz.d).map .dat) /\
  zBx a G.length w h (fc Pz.f (zs.take j))/\zBx a (G.length+h*(w+2)+1) w h (fc Pz.g (zs.take j))) ?_ ?_ ?_ ⟨none,none,G++P1++P2++[(zs.map Pz.d).map .dat],rfl,by rw[qQ];rfl,?_,?_,?_,?_⟩
 .rintro j s ⟨k,g,a,rfl,V,M,O,I,C⟩;exact O
 .rintro j y s f ⟨k,g,a,rfl,V,M,O,I,C⟩;rw[map_map,getElem?_map] at f;obtain⟨z,b,rfl⟩:=x9.mp f;have E:=B z (mem_of_getElem? b);have et:zs.take (j+1)=zs.take j++[z]:=by rw[List.take_add_one,b];rfl
  refine⟨_,rfl,?_⟩;dsimp only;(walk_at "s");have ll:∀ (p:Pz->D) r c,(fc p (zs.take j) r c).length<=10000:=λp r c=>by
   have:=zOa (p:=p) (zs.take j) r c;rw[length_take] at this;omega
  refine zKg ef er (ok.f z (mem_of_getElem? b)) (ok.r z (mem_of_getElem? b)) E I C (by omega) (ll _) (ll _) fun μ2 e1 X e3 t3 t4=>?_
  rw[<- zLF (p:=Pz.f) E,<- et] at t3;rw[<- zLF (p:=Pz.g) E,<- et] at t4;exact⟨_,_,μ2,rfl,by rw[e1];exact V,λm L=>by rw[X m L];exact M m L,by rw[e3 _ (by rw[lb];omega)];exact O,t3,t4⟩
 .rintro s ⟨k,g,a,rfl,V,M,O,I,C⟩;have el:((zs.map Pz.d).map W.dat).length=zs.length:=by rw[qy,qy]
  rw[el,List.take_length] at I C;refine zAP ?_;refine zAB (zBo (zES (zBa (zAM (w:=.dat (.int h)) rfl ⟨(h:Int),rfl,by omega,?_⟩))));rw[toNat_natCast];obtain⟨y,s',N,e,⟨o,K,A,p3⟩,p4⟩:=zEj (t:=tgM 7) (e:=evM J U (.pur (.call nw "row_of_shares" (.cons (.ix (.var 3) (.var 7)) (.cons (.ix (.var 4) (.var 7)) .nil))))) (src:=.items ((rngL 0 h).map .dat)) (s:=⟨mask none [] [some (.dat (.int w)),some (.dat (.int h)),some x,some (.loc (G.length+h*(w+2))),some (.loc (G.length+h*(w+2)+1+h*(w+2))),k,g]++[none],a⟩) ((rngL 0 h).map .dat)
   (λj s d=>∃ o:Option W,s=⟨[some (.dat (.int w)),some (.dat (.int h)),some x,some (.loc (G.length+h*(w+2))),some (.loc (G.length+h*(w+2)+1+h*(w+2))),k,g,o],a++zBq rz j⟩/\d=news a.length j/\j<=h) (λj s d _=>rfl) (λj y s d f u=>by
    obtain⟨o,K,A,p3⟩:=u;subst K A;have F:j < h:=by
     have:=(zzg f).1;rw[qy,zAm] at this;exact this
    have R:y=.dat (.int (j:Int)):=by
     unfold rngL at f;rw[map_map,getElem?_map,getElem?_range F] at f;have:=(xj f).symm;rw[this];simp
    subst R;have t5:=I.app (zBq rz j);have t6:=C.app (zBq rz j);have T:(a++zBq rz j).length=a.length+j:=by rw[qQ];unfold zBq;rw[qy,length_range]
    refine⟨by rw[zBi];omega,⟨[some (.dat (.int w)),some (.dat (.int h)),some x,some (.loc (G.length+h*(w+2))),some (.loc (G.length+h*(w+2)+1+h*(w+2))),k,g,some (.dat (.int (j:Int)))],a++zBq rz j⟩,(.loc (a++zBq rz j).length,(a++zBq rz j)++[(rz j).map .dat]),rfl,?_,some (.dat (.int (j:Int))),?_,?_,by omega⟩
    .refine (zAa (Q:=λr=>r=(W.loc (a++zBq rz j).length,(a++zBq rz j)++[(rz j).map .dat])) (zCm (zCm (zAp ((zLc (zN5 t5)).trans (congrArg _ ((zLc (zN5 t6)).trans (congrArg _ (zAp (zAp (zCm rfl))))))))) ) ?_).eq;refine zAK ew (zAC (zBA (zAI rfl (zAI rfl ?_))));refine zAw (d:=.lst ((List.range (w+1)).map λc=>.lst (fc Pz.f zs j c))) (zAx (by rw[getElem?_map,getElem?_range F];rfl)) (n_cl (zAC (zBA (zAI rfl (zAI rfl ?_)))));refine zAw (d:=.lst ((List.range (w+1)).map λc=>.lst (fc Pz.g zs j c))) (zAx (by rw[getElem?_map,getElem?_range F];rfl)) (n_cl (zAT ?_));exact⟨_,ok.w j F,n_fr (zL2 (ok.n j F) rfl)⟩
    .have:zBq rz (j+1)=zBq rz j++[(rz j).map .dat]:=by
      unfold zBq;rw[range_succ,xJ]
      rfl
     rw[this,q0]
    .rw [zDX,T]) ⟨none,by unfold zBq;rw[List.range_zero,map_nil,append_nil];rfl,rfl,zero_le _⟩
  have lw:((rngL 0 h).map W.dat).length=h:=by rw[qy,zAm]
  rw[lw] at K A;subst K;have X:y=(news a.length h,a++zBq rz h):=Prod.ext A p4.symm;refine⟨y,N,e,by rw[A,zBi];omega,?_⟩;rw[X];have em:∃ P:Mem,a=G++P:=by
   refine⟨a.drop G.length,?_⟩;have:G=a.take G.length:=by
    apply ext_getElem?;intro m;rw[List.getElem?_take];by_cases q:m < G.length
    .rw [if_pos q];exact(M m q).symm
    .rw [if_neg q,getElem?_eq_none (by omega)]
   exact(List.take_append_drop G.length a).symm.trans (congrArg (λl=>l++a.drop G.length) this.symm)
  obtain⟨P,rfl⟩:=em;have q:=hQ P;have T:(G++P++zBq rz h).length=(G++P).length+h:=by rw[qQ];unfold zBq;rw[qy,length_range]
  show KFM Q (.rt (.loc (G++P++zBq rz h).length,_));rw[T];exact q
 .intro m L;rw[q0,q0,getElem?_append_left L]
 .rw [getElem?_append_right (le_refl _),sub_self];rfl
 .exact ta.app _
 .exact Y.app _
abbrev Lp:=List (Nat×List D)
structure Ll (G:Mem)(n:Nat)(l:Lp):Prop where
 top:G[n]?=some (l.map λp=>.loc p.1)
 row:∀ p∈l,G[p.1]?=some (p.2.map .dat)
abbrev llD (l:Lp):D:=.lst (l.map λp=>.lst p.2)
def Ll.dr (e:Ll G n l):drW G (.loc n)=some (llD l):=zEg e.top (zDg _ _ l λp a=>zHf (e.row p a))
def Ll.keep (e:Ll G n l)(k1:G'[n]?=G[n]?)(k2:∀ p∈l,G'[p.1]?=G[p.1]?):Ll G' n l:=⟨by rw[k1];exact e.top,λp a=>by rw[k2 p a];exact e.row p a⟩
def Ll.lt (e:Ll G n l):n < G.length/\∀ p∈l,p.1 < G.length:=⟨(zzg e.top).1,λp a=>(zzg (e.row p a)).1⟩
def Ll.set (e:Ll G n l)(h:m≠n)(h2:∀ p∈l,m≠p.1):Ll (G.set m ws) n l:=e.keep (getElem?_set_ne h) λp a=>getElem?_set_ne (h2 p a)
def zAF {i:Nat}(e:O[i]?=some (some w))(h:drW G w=some d):(drS G O)[i]?=some (some (d,false)):=by
 unfold drS
 simp_all
def zAL :drW G (.dat d)=some d:=rfl
def zF6 (e:G[n]?=some (ds.map .dat)):drW G (.loc n)=some (.lst ds):=by unfold drW;exact zHf e
noncomputable def lpT (b:Nat)(rz:Nat->List D)(h:Nat):Lp:=(List.range h).map λr=>(b+r,rz r)
def zKf (a:p∈lpT b rz h):∃ r,r < h/\p=(b+r,rz r):=by
 obtain⟨r,c,rfl⟩:=mem_map.mp a;exact⟨r,mem_range.mp c,rfl⟩
def zEL (a:Nat->List D)(h:Nat):(zBq a h).length=h:=by unfold zBq;rw[qy,length_range]
def zSL (G:Mem)(a:Nat->List D)(h:Nat):Ll (G++zBq a h++[news G.length h]) (G.length+h) (lpT G.length a h):=by
 refine⟨?_,λp b=>?_⟩
 .rw [getElem?_append_right (by rw[qQ,zEL];omega),qQ,zEL,sub_self];unfold lpT news;simp
 .obtain ⟨r,c,rfl⟩:=zKf b;dsimp only;rw[getElem?_append_left (by rw[qQ,zEL];omega)];unfold zBq
  simp_all
noncomputable def zQZ (nm:Nat):S:=.cons (.ret (.call nm "minus" (.cons (.ix (.ix (.var 0) (.int 2)) (.int 1)) (.cons (.ix (.ix (.var 0) (.int 3)) (.int 1)) .nil)))) .nil
def zNx (F:List D->Option R):Prop:=∀ (c r:Int) (p q:Pt) (n:Nat) (Q:R->Prop),PB n p->PB n q->n<=1000000->c.natAbs<=100->(∀ f,RB (4*n+20) f->Q (ratD f,.cl))->EvP (F [zE3 c r p q]) Q
def zQY {Fm:List D->Option R}(a:J.fns[nm]?=some (("minus":Str),Fm))(b:zD6 Fm):zNx (dFun 1 1 (evSs J (zQZ nm))):=λc r p q n Q h1 h2 c _ h=>by
 (walk_at "d");unfold zQZ;(walk_at "st");(walk_at "w");exact h _ ((zCZ h1.y h2.y).mono (by omega))
noncomputable def zJv (ng nt nf nm nd:Nat):S:=.cons (.set 1 (.ix (.var 0) (.int 0))) (.cons (.ife (.cmp .Eq (.var 1) (.neg (.int 1))) (.cons (.ret (.glob ng "NOUGHT")) .nil) .nil) (.cons (.ret (.call nt "times" (.cons (.call nf "fall" (.cons (.var 0) .nil)) (.cons (.call nm "minus" (.cons (.tup (.cons (.bin .Add (.var 1) (.int 1)) (.cons (.int 1) .nil))) (.cons (.call nd "middle" (.cons (.ix (.ix (.var 0) (.int 2)) (.int 0)) (.cons (.ix (.ix (.var 0) (.int 3)) (.int 0)) .nil))) .nil))) .nil)))) .nil))
def zL8 (F:List D->Option R):Prop:=∀ (c r:Int) (p q:Pt) (n:Nat) (Q:R->Prop),PB n p->PB n q->n<=1000000->c.natAbs<=100->(∀ f,RB (6*n+40) f->Q (ratD f,.cl))->EvP (F [zE3 c r p q]) Q
def zMS {Fm:List D->Option R}(u:J.cs[ng]?=some (("NOUGHT":Str),.tup [.int 0,.int 1]))(o:J.fns[nt]?=some (("times":Str),Ft))(t:J.fns[nf]?=some (("fall":Str),Ff))(v:J.fns[nm]?=some (("minus":Str),Fm))(l:J.fns[nd]?=some (("middle":Str),Fd))
  (s:zDA Ft) (g:zNx Ff) (m:zD6 Fm) (a:MidF Fd):zL8 (dFun 1 2 (evSs J (zJv ng nt nf nm nd))):=λc r p q n Q h1 h2 b e h=>by
 (walk_at "d");unfold zJv;(walk_at "st");(walk_at "w");refine zBI (λz=>?_) λz=>?_
 ·(walk_at "w");exact h 0 (zBK.mono (by omega))
 .have i:RB 8 ((c+1:Int):Rat):=zHw (zD0 (k:=200) (by omega) (by decide)) (by decide);(walk_at "w");refine g c r p q n _ h1 h2 b e λf j=>?_
  (walk_at "w");refine a _ _ n _ h1.x h2.x (by omega) λm f=>?_
  (walk_at "w");rw[zFy];(walk_at "w");exact h _ ((zAi j (zCZ i f)).mono (by omega))
noncomputable def allB (ns np:Nat):S:=.cons (.set 3 (.lst .nil)) (.cons (.for1 4 (.it (.var 2)) (.cons (.for1 5 (.it (.call ns "sides" (.cons (.var 4) .nil))) (.cons (.ext 3 (.call np "pieces" (.cons (.var 0) (.cons (.var 1) (.cons (.var 5) .nil))))) .nil)) .nil)) (.cons (.retOwn 3) .nil))
structure FlB (n P w h:Nat)(rs:List (List Pt)):Prop where
 w2:w<=6
 h2:h<=6
 m:rs.length<=6
 b:8*n+20<=1000000
 p:P<=12
 r:∀ ps∈rs,ps.length<=P/\∀ p∈ps,PB n p
def AllF (F:List D->Option R):Prop:=∀ (n P w h:Nat) (rs:List (List Pt)) (Q:R->Prop),FlB n P w h rs->(∀ ds,ds.length<=rs.length*(P*(w+h+4))->(∀ d∈ds,isZ (8*n+20) w h d)->Q (.lst ds,.fr))->EvP (F [.int w,.int h,zBp rs]) Q
def zTm (es:J.fns[ns]?=some (("sides":Str),Fs))(B:J.fns[np]?=some (("pieces":Str),Fp))(r:zL7 Fs)(A:zHp Fp):AllF (dFun 3 6 (evSs J (allB ns np))):=λn P w h f Q fb E=>by
 obtain⟨R,h2,I,S,L,C⟩:=fb;(walk_at "d");unfold allB;(walk_at "st");refine zAH ?_;(walk_at "e");have H:P*(w+h+4)<=12*16:=Nat.mul_le_mul L (by omega);have T:f.length*(P*(w+h+4))<=6*(12*16):=Nat.mul_le_mul I H;refine zAH (zDL (zG6 (zAI rfl (w_cl (ds:=f.map zIr) ?_))));refine zD1 (λxs O=>∃ (c:List D) (a b:Option (D×Bool)),O=[some (.int (w:Int),false),some (.int (h:Int),false),some (zBp f,false),some (.lst c,true),a,b]/\(∀ x∈xs,x∈f.map zIr)/\c.length+xs.length*(P*(w+h+4))<=f.length*(P*(w+h+4))/\∀ d∈c,isZ (8*n+20) w h d) ?_ ?_ _ _ ⟨[],none,none,rfl,λ_ m=>m,by simp,by simp⟩
 .rintro x xs O ⟨c,a,b,rfl,l,i,g⟩;obtain⟨j,G,rfl⟩:=mem_map.mp (l x q8);obtain⟨t,q⟩:=C j G;have pk:=mul_le_mul_right (w+h+4) t;rw[xY,Nat.succ_mul] at i;refine⟨_,rfl,?_⟩;(walk_at "s");refine zAH (zDL (zG6 (zAK es (zAC (zAI rfl (n_cl (zAT ?_)))))));refine r j _ (by omega) (n_fr (w_fr ?_));refine zD1 (λys O=>∃ (c:List D) (b:Option (D×Bool)),O=[some (.int (w:Int),false),some (.int (h:Int),false),some (zBp f,false),some (.lst c,true),some (zIr j,false),b]/\(∀ y∈ys,y∈(DM.zGP j).map zGQ)/\c.length+ys.length*(w+h+4)+xs.length*(P*(w+h+4))<=f.length*(P*(w+h+4))/\∀ d∈c,isZ (8*n+20) w h d) ?_ ?_ _ _ ⟨c,b,rfl,λ_ m=>m,by rw[qy,DM.zJj];omega,g⟩
  .rintro y ys O ⟨c,b,rfl,p,i,g⟩;obtain⟨s,u,rfl⟩:=mem_map.mp (p y q8);obtain⟨F,v⟩:=DM.zJi u;rw[xY,Nat.succ_mul] at i;refine⟨_,rfl,?_⟩;(walk_at "s");refine zAH (zTV rfl (zAK B (zAC (zAI rfl (n_cl (zAC (zAI rfl (n_cl (zAC (zAI rfl (n_cl (zAT ?_))))))))))));refine A w h s n _ (q _ F) (q _ v) (by omega) (by omega) (by omega) λds M K=>?_
   refine n_fr ⟨_,rfl,by omega,zBQ ⟨_,_,rfl,λz m=>p z (qJ _ m),by rw[qQ];omega,λd m=>(mem_append.mp m).elim (g d) (K d)⟩⟩
  .rintro O ⟨c,b,rfl,_,i,g⟩;exact k_nx (zBQ ⟨c,_,b,rfl,λz m=>l z (qJ _ m),by omega,g⟩)
 .rintro O ⟨c,a,b,rfl,_,i,g⟩;refine k_nx ?_;(walk_at "w");exact E _ (by omega) g
noncomputable def rowB (np nt ng:Nat):S:=.cons (.set 2 (.lst .nil)) (.cons (.set 3 (.glob ng "NOUGHT")) (.cons (.for1 4 (.r1 (.bin .Sub (.len (.var 0)) (.int 1))) (.cons (.set 3 (.call np "plus" (.cons (.var 3) (.cons (.call nt "total" (.cons (.ix (.var 0) (.var 4)) .nil)) .nil)))) (.cons (.app 2 (.call np "plus" (.cons (.var 3) (.cons (.call nt "total" (.cons (.ix (.var 1) (.bin .Add (.var 4) (.int 1))) .nil)) .nil)))) .nil))) (.cons (.retOwn 2) .nil)))
def RowF (F:List D->Option R):Prop:=∀ (fs gs:List D) (w L B:Nat) (Q:R->Prop),fs.length=w+1->gs.length=w+1->w<=6->L<=5000->L*(B+1)<=4000000->(∀ d∈fs++gs,∃ f:List Rat,d=zDD f/\f.length<=L/\∀ q∈f,RB B q)->(∀ qs:List Rat,qs.length=w->(∀ q∈qs,RB ((w+1)*(L*(B+1)+2)+1) q)->Q (zDD qs,.fr))->EvP (F [.lst fs,.lst gs]) Q
def zN2 (h:f.length<=L/\∀ q∈f,RB B q):WB f (f.length*(B+1))/\f.length*(B+1)<=L*(B+1)/\RB (L*(B+1)+1) (DM.sumR f):=by
 have a:=zN0 h.2;have b:f.length*(B+1)<=L*(B+1):=mul_le_mul_right _ h.1;exact⟨a,b,(zNz a).mono (Nat.succ_le_succ b)⟩
def zRT (ep:J.fns[np]?=some (("plus":Str),Fp))(Y:J.fns[nt]?=some (("total":Str),Ft))(P:J.cs[ng]?=some (("NOUGHT":Str),.tup [.int 0,.int 1]))(hp:zEw Fp)(u:zL4 Ft):RowF (dFun 2 5 (evSs J (rowB np nt ng))):=λfs E w L B Q lf lg S Z V r G=>by
 (walk_at "d");unfold rowB;(walk_at "st");refine zAH ?_;(walk_at "e");refine zAH (zCl (zCk P ?_));(walk_at "e");refine zAH (zDL (zIl (zAZ (zBt (zAI rfl (zEu (zAO (zTk ?_))))))));refine⟨_,rfl,by omega,?_⟩;rw[show ((fs.length:Int) - 1).toNat=w by omega];generalize hM:L*(B+1)=M at *;refine zD1 (λxs O=>∃ (j:Nat) (o:Option (D×Bool)) (q:Rat) (b:List Rat),O=[some (.lst fs,false),some (.lst E,false),some (zDD b,true),some (ratD q,false),o]/\xs=(rngL 0 w).drop j/\j<=w/\b.length=j/\RB (1+j*(M+2)) q/\∀ q∈b,RB ((w+1)*(M+2)+1) q) ?_ ?_ _ _ ⟨0,none,0,[],rfl,rfl,zero_le _,rfl,zBK.mono (by omega),by simp⟩
 .rintro x xs O ⟨j,o,q,b,rfl,a,v,p,C,hq⟩;obtain⟨n,rfl,rfl⟩:=zRU a.symm;obtain⟨d,U,R⟩:=zGD (ds:=fs) (k:=j) (by omega) (by omega);obtain⟨e,X,H⟩:=zGD (ds:=E) (k:=(j:Int)+1) (by omega) (by omega);obtain⟨f,rfl,h⟩:=r d (List.mem_append_left _ U);obtain⟨g,rfl,c⟩:=r e (xq _ X);obtain⟨K,T,A⟩:=zN2 h;obtain⟨I,W,t⟩:=zN2 c;rw[hM] at T A W t;have l1:=h.1;have l2:=c.1;have F:(j+1)*(M+2)<=w*(M+2):=mul_le_mul_right _ n;have wb:w*(M+2)<=6*(M+2):=mul_le_mul_right _ S;have i:=zCa C A;have l:=zCa i t;rw[Nat.succ_mul] at F;refine⟨_,rfl,?_⟩;(walk_at "s");refine zAH ?_;(walk_at "e");refine zAw R ?_;(walk_at "e");refine u f _ _ K (by omega) (by omega) ?_;(walk_at "e");refine zAH (zDa rfl (by rw[qy];omega) ?_);(walk_at "e");refine zAw H ?_;(walk_at "e");refine u g _ _ I (by omega) (by omega) ?_;(walk_at "e");refine zBQ ⟨j+1,_,_,b++[_],by unfold zDD;rw[xJ];rfl,rfl,by omega,by simp[p],i.mono (by rw[Nat.succ_mul];omega),λz m=>(mem_append.mp m).elim (hq z) λy=>mem_singleton.mp y▸l.mono (by rw[Nat.succ_mul];omega)⟩
 .rintro O ⟨j,o,q,b,rfl,a,v,p,C,hq⟩;obtain rfl:=zO4 a v;refine k_nx ?_;(walk_at "w");exact G _ p hq
def zMj (a:List Rat):noLs (a.map ratD)=true:=by
 induction a with
 | nil=>rfl
 | cons q a b=>rw[map_cons,noLs,b];rfl
def zRC (K:AllF Fa)(y:zNx Ff)(o:zL8 Fr)(Q:RowF Fw)(fb:FlB n P w h rs)(H:(w+1)*(rs.length*(P*(w+h+4))*(48*n+161)+2) < B)(J:rs.length*(P*(w+h+4))*(48*n+161)<=4000000) :
  ∃ T:List (List Rat),(T.length=h/\∀ qs∈T,qs.length=w/\∀ q∈qs,RB B q)/\∃ zs,ZOk Fa Ff Fr Fw w h (zBp rs) zs λr=>(T.getD r []).map ratD:=by
 obtain⟨x,C,ds,rfl,O,F⟩:=K n P w h rs (λx=>∃ ds:List D,x=(.lst ds,.fr)/\ds.length<=rs.length*(P*(w+h+4))/\∀ d∈ds,isZ (8*n+20) w h d) fb λds l p=>⟨ds,rfl,l,p⟩
 have t:=fb.w2;have h2:=fb.h2;have s:=fb.b;have U:rs.length*(P*(w+h+4))<=6*(12*16):=Nat.mul_le_mul fb.m (Nat.mul_le_mul fb.p (by omega));generalize rs.length*(P*(w+h+4))=M at *;obtain⟨zs,rfl,k⟩:=zLI (f:=Pz.d) (P:=λz=>PzB w h z/\Ff [z.d]=some (z.f,.cl)/\Fr [z.d]=some (z.g,.cl)/\isR (48*n+160) z.f/\isR (48*n+160) z.g) (ds:=ds) λd m=>by
  obtain⟨c,r,p,q,rfl,G,I,E,r1,u,v⟩:=F d m;obtain⟨_,L,f,rfl,j⟩:=y c r p q _ (λx=>∃ f,x=(ratD f,.cl)/\RB (48*n+160) f) u v s (by omega) λf j=>⟨f,rfl,j.mono (by omega)⟩
  obtain⟨_,A,g,rfl,R⟩:=o c r p q _ (λx=>∃ f,x=(ratD f,.cl)/\RB (48*n+160) f) u v s (by omega) λf j=>⟨f,rfl,j.mono (by omega)⟩
  exact⟨⟨c,r,ptD p,ptD q,ratD f,ratD g⟩,rfl,⟨E,r1,G,I,rfl,rfl,rfl⟩,L,A,⟨f,rfl,j⟩,g,rfl,R⟩
 rw[qy] at O;have fr:∀ (p:Pz->D),(∀ z∈zs,isR (48*n+160) (p z))->∀ r c,∃ f:List Rat,D.lst (fc p zs r c)=zDD f/\f.length<=M/\∀ q∈f,RB (48*n+160) q:=λp N r c=>by
  obtain⟨f,e,b⟩:=zLI (f:=ratD) (P:=RB (48*n+160)) (ds:=fc p zs r c) λd m=>by
   obtain⟨z,S,rfl⟩:=mem_map.mp m;exact N z (mem_filter.mp S).1
  refine⟨f,congrArg _ e,?_,b⟩;have:=congrArg List.length e;rw[qy] at this;have:=zOa (p:=p) zs r c;omega
 have i:∀ r,∃ qs:List Rat,Fw [.lst ((List.range (w+1)).map λc=>.lst (fc Pz.f zs r c)),.lst ((List.range (w+1)).map λc=>.lst (fc Pz.g zs r c))]=some (zDD qs,.fr)/\qs.length=w/\∀ q∈qs,RB B q:=λr=>by
  obtain⟨_,e,qs,rfl,q⟩:=Q ((List.range (w+1)).map λc=>.lst (fc Pz.f zs r c)) ((List.range (w+1)).map λc=>.lst (fc Pz.g zs r c)) w M (48*n+160) (λx=>∃ qs:List Rat,x=(zDD qs,.fr)/\qs.length=w/\∀ q∈qs,RB B q) (by simp) (by simp) t (by omega) J (λd m=>by
   rcases mem_append.mp m with m | m<;>(obtain⟨c,_,rfl⟩:=mem_map.mp m)
   .exact fr Pz.f (λz m=>(k z m).2.2.2.1) r c
   .exact fr Pz.g (λz m=>(k z m).2.2.2.2) r c) λqs l b=>⟨qs,rfl,l,λq m=>(b q m).mono H⟩
  exact⟨qs,e,q⟩
 refine⟨(List.range h).map λr=>(i r).choose,⟨by simp,λqs m=>?_⟩,zs,⟨t,h2,by omega,C,λz m=>(k z m).1,λz m=>(k z m).2.1,λz m=>(k z m).2.2.1,λr o=>?_,λr o=>zMj _⟩⟩
 .obtain ⟨r,_,rfl⟩:=mem_map.mp m;exact(i r).choose_spec.2
 .rw [getD_eq_getElem?_getD,getElem?_map,getElem?_range o];exact(i r).choose_spec.1
end DL
end
section
namespace DL
open PySem Spec PyProof.Rows L2
section
variable {J:Gm}{U:Dm}{s:Mst}
def zKb (h:EvP (evM J U a s) λx=>∃ c ns l w,x.1=.obj c ns l/\(c,fl,none)∈J.ob/\(ns.zip l).lookup fl=some w/\Q (w,x.2)):EvP (evM J U (.fld a fl) s) Q:=by
 obtain⟨⟨x,m⟩,e,c,ns,l,w,rfl,h1,h2,q⟩:=h;refine⟨_,?_,q⟩;show fldM J.ob fl _ s=_;unfold fldM;rw[e,qx]
 simp_all
def zLO (h:EvP (evE J a O) λx=>∃ c ns l d,x.1=.obj c ns l/\(c,fl,none)∈J.ob/\(ns.zip l).lookup fl=some d/\Q (d,.cl)):EvP (evE J (.fld a fl) O) Q:=by
 obtain⟨⟨x,k⟩,e,c,ns,l,d,rfl,h1,h2,q⟩:=h;refine⟨_,?_,q⟩;show one _ _ O=_;unfold one;rw[e];show (if _∈J.ob then _ else _)=_
 simp_all
def zPj (h:EvP (evM J U a s) λx=>∃ c n y F,clsW m x.1=some c/\ix.lookup c=some n/\U[n]?=some (y,F)/\spec.lookup y=some (.mth c m)/\EvP (evMs J U es ⟨s.O,x.2⟩) λws=>EvP (F (x.1::ws.1) ws.2) Q):EvP (evM J U (.mth ix m a es) s) Q:=by
 obtain⟨x,j,c,n,y,F,e,f,i,g,ws,b,r,d,q⟩:=h;refine⟨r,?_,q⟩;show mthM U ix m _ _ s=_;unfold mthM
 simp_all
def m_mk (b:U[n]?=some (y,F))(f:spec.lookup y=some (.mk c kw))(h:EvP (evMs J U es s) λws=>EvP (F (ws.1++zPY d) ws.2) Q):EvP (evM J U (.mk n c kw d es) s) Q:=by
 obtain⟨ws,a,r,e,q⟩:=h;refine⟨r,?_,q⟩;show mkM U n c kw d _ s=_;unfold mkM
 simp_all
def zSH (h:EvP (evM J U a s) λx=>EvP (evM J U b ⟨s.O,x.2⟩) λy=>∃ n i ws,x.1=.loc n/\y.1=.dat (.int i)/\y.2[n]?=some ws/\Q (.loc y.2.length,y.2++[cutW ws (if u then none else some i) (if u then some i else none)])):EvP (evM J U (.slc u a b) s) Q:=by
 obtain⟨x,g,y,e,n,i,ws,j,d,c,q⟩:=h;refine⟨_,?_,q⟩;show slcM u (evM J U a) (evM J U b) s=_;unfold slcM;rw[g];show (evM J U b _).bind _=_;rw[e];obtain⟨m,l⟩:=x;obtain⟨k,f⟩:=y;subst j d;show (f[n]?).bind _=_;rw[c]
 rfl
def zPk (h:EvP (evM J U a s) λx=>∃ n ws,x.1=.loc n/\x.2[n]?=some ws/\Q (.loc x.2.length,x.2++[ws])):EvP (evM J U (.lcp a) s) Q:=by
 obtain⟨⟨x,m⟩,e1,n,ws,rfl,e2,q⟩:=h;refine⟨_,?_,q⟩;show lcpM _ s=_;unfold lcpM;rw[e1,qx]
 simp_all
def zRO (h:EvP (evM J U t s) λx=>∃ n ws,x.1=.loc n/\x.2[n]?=some ws/\Q (.nx ⟨s.O,x.2.set n ws.reverse⟩)):EvP (evS' J U (.rev t) s) Q:=by
 obtain⟨⟨x,m⟩,e1,n,ws,rfl,e2,q⟩:=h;refine⟨_,?_,q⟩;show lm0M _ List.reverse s=_;unfold lm0M;rw[e1,qx]
 simp_all
def zF0 {c:Str}{n:Nat}{L:List (Str×(Mst->Option MR))}{ws:List W}{G:Mem}{Q:MR->Prop}(h1:ws.length=n)(a:mutK (L.map (·.1))=false)(h:EvP (zD9 L ⟨none::ws.map some,G⟩) λz=>Q (.obj c (L.map (·.1)) z.1,z.2)):EvP (zF1 c n L ws G) Q:=by
 obtain⟨z,e,q⟩:=h;exact⟨_,by unfold zF1;rw[if_pos h1,e];unfold mkR;rw[a];rfl,q⟩
def zCQ (h:EvP (g s) λw=>EvP (zD9 r ⟨s.O,w.2⟩) λz=>Q (w.1::z.1,z.2)):EvP (zD9 ((x,g)::r) s) Q:=by
 obtain⟨w,a,z,b,q⟩:=h;exact⟨_,by unfold zD9;dsimp only;rw[a,qx,b];rfl,q⟩
def zIC (h:Q ([],s.G)):EvP (zD9 [] s) Q:=⟨_,rfl,h⟩
end
end DL
end
open PySem L2 DL
local macro_rules | `(tactic| walk_at "f")=>`(tactic| exact ⟨rfl,rfl,rfl,by decide +kernel,rfl,by decide +kernel,by decide +kernel⟩)
section
namespace Q
open PySem L2 DL
noncomputable def top (i:Nat):Stmt:=PySem.Challenge.pw_coverfill_k33_joins_and_groups.main.body.getD i (.Pass ⟨0,0,0,0⟩)
noncomputable def bs:List Str:=["abs","len","range","list","tuple","zip","reversed","max","isinstance","bool","int"]
noncomputable def b0:S:=zPf
noncomputable def b1:S:=.cons (.ife (.cmp .Eq (.var 1) (.int 0)) (.cons (.rse "NoRatio" (.str "the bottom of a ratio is not 0")) .nil) .nil) (.cons (.set 2 (.call 0 "common_measure" (.cons (.abs (.var 0)) (.cons (.abs (.var 1)) .nil)))) (.cons (.ife (.cmp .Lt (.var 1) (.int 0)) (.cons (.set 2 (.neg (.var 2))) .nil) .nil) (.cons (.ret (.tup (.cons (.bin .FloorDiv (.var 0) (.var 2)) (.cons (.bin .FloorDiv (.var 1) (.var 2)) .nil)))) .nil)))
noncomputable def b2:S:=zIs "ratio" 1
noncomputable def b3:S:=zFD "ratio" 1
noncomputable def b4:S:=zEy "ratio" 1
noncomputable def b5:S:=zHK "ratio" 1
noncomputable def b6:S:=zPa 2
noncomputable def b7:S:=zJW 6 0
noncomputable def b8:S:=zJT
noncomputable def b9:S:=.cons (.ife (.call 8 "under" (.cons (.var 0) (.cons (.var 1) .nil))) (.cons (.ret (.var 1)) .nil) .nil) (.cons (.ife (.call 8 "under" (.cons (.var 2) (.cons (.var 0) .nil))) (.cons (.ret (.var 2)) .nil) .nil) (.cons (.ret (.var 0)) .nil))
noncomputable def b10:S:=wpB
noncomputable def b11:S:=.cons (.ret (.call 9 "between" (.cons (.var 0) (.cons (.glob 0 "NOUGHT") (.cons (.glob 2 "ONE") .nil))))) .nil
noncomputable def b12:S:=zLq 2 0
noncomputable def b13:S:=zRV 3 2
noncomputable def b14:S:=zPc 4
noncomputable def b15:S:=zO2 14 2
noncomputable def b16:S:=inkB 13 14
noncomputable def b17:S:=rubB 13 0
noncomputable def b18:S:=zPq 4 15
noncomputable def b19:S:=mixB 2 13 4 14
noncomputable def b20:S:=zLz 14 13
noncomputable def b21:S:=zJk
noncomputable def N22:List Str:=["start","end","last"]
noncomputable def P22:List Str:=["start","end","last"]
noncomputable def b22:S:=zPX 8 22
def sc22:zAg N22 P22 (zAA (top 33)):=by (walk_at "f")
def ck22:cSs (zAA (top 33)) N22 bs b22 (zAN (top 33))=true:=by decide +kernel
noncomputable def b23:S:=zJw 5 3 2 4
noncomputable def b24:S:=.cons (.set 2 (.ix (.var 0) (.int 0))) (.cons (.set 3 (.ix (.var 0) (.int 1))) (.cons (.set 4 (.call 22 "numbers_between" (.cons (.ix (.var 2) (.int 0)) (.cons (.ix (.var 3) (.int 0)) (.cons (.var 1) .nil))))) (.frz 4 (.cons (.set 5 (.call 23 "rests_at" (.cons (.var 4) (.cons (.ix (.var 2) (.int 0)) (.cons (.ix (.var 3) (.int 0)) (.cons (.ix (.var 2) (.int 1)) (.cons (.ix (.var 3) (.int 1)) .nil))))))) (.frz 4 (.frz 5 (.cons (.ret (.comp1 6 [] "k" (.r1 (.len (.var 4))) .nil (.tup (.cons (.tup (.cons (.ix (.var 4) (.var 6)) (.cons (.int 1) .nil))) (.cons (.ix (.var 5) (.var 6)) .nil))))) .nil)))))))
noncomputable def b25:S:=.cons (.set 2 (.ix (.var 0) (.int 0))) (.cons (.set 3 (.ix (.var 0) (.int 1))) (.cons (.set 4 (.call 22 "numbers_between" (.cons (.ix (.var 2) (.int 1)) (.cons (.ix (.var 3) (.int 1)) (.cons (.var 1) .nil))))) (.frz 4 (.cons (.set 5 (.call 23 "rests_at" (.cons (.var 4) (.cons (.ix (.var 2) (.int 1)) (.cons (.ix (.var 3) (.int 1)) (.cons (.ix (.var 2) (.int 0)) (.cons (.ix (.var 3) (.int 0)) .nil))))))) (.frz 4 (.frz 5 (.cons (.ret (.comp1 6 [] "k" (.r1 (.len (.var 4))) .nil (.tup (.cons (.ix (.var 5) (.var 6)) (.cons (.tup (.cons (.ix (.var 4) (.var 6)) (.cons (.int 1) .nil))) .nil))))) .nil)))))))
noncomputable def b26:S:=zL0 8
noncomputable def b27:S:=.cons (.set 3 (.lst .nil)) (.cons (.set 4 (.int 0)) (.cons (.for1 5 (.it (.var 0)) (.cons (.whl (.andl (.cons (.cmp .Lt (.var 4) (.len (.var 1))) (.cons (.call 26 "comes_ahead" (.cons (.ix (.var 1) (.var 4)) (.cons (.var 5) (.cons (.var 2) .nil)))) .nil))) (.cons (.app 3 (.ix (.var 1) (.var 4))) (.cons (.aug .Add 4 (.int 1)) .nil))) (.cons (.ife (.andl (.cons (.cmp .Lt (.var 4) (.len (.var 1))) (.cons (.cmp .Eq (.ix (.var 1) (.var 4)) (.var 5)) .nil))) (.cons (.aug .Add 4 (.int 1)) .nil) .nil) (.cons (.app 3 (.var 5)) .nil)))) (.cons (.ret (.bin .Add (.var 3) (.sl (.var 1) (.cons (.var 4) .nil) .nil))) .nil)))
noncomputable def b28:S:=zJe 27 24 25 8
noncomputable def b29:S:=midB 4 2 1
noncomputable def b30:S:=pcB 10 29
noncomputable def b31:S:=onB
noncomputable def b32:S:=zHI 28 30 31
noncomputable def b33:S:=zQZ 3
noncomputable def b34:S:=zJv 0 4 33 3 29
noncomputable def mb35:MT:=zLa
noncomputable def b35:S:=.cons (.ret (.comp1 1 [] "k" (.r1 (.var 0)) .nil (.lst .nil))) .nil
noncomputable def b36:S:=allB 21 32
noncomputable def b37:S:=rowB 2 7 0
noncomputable def mb38:MT:=zHA 36 33 34 37 0
noncomputable def mb39:MT:=.cons (.ret (.comp 1 [] "ring" (.it (.var 0)) (.pur (.list (.var 1))))) .nil
noncomputable def b40:S:=.cons (.ret (.ite (.cmp .Is (.var 0) .non) (.glob 2 "ONE") (.var 0))) .nil
noncomputable def mb41:MT:=.cons (.ret (.comp 2 [] "row" (.it (.var 0)) (.comp 3 [] "one" (.it (.var 2)) (.pur (.callv 1 (.var 3)))))) .nil
noncomputable def mb42:MT:=.cons (.set 3 (.lst .nil)) (.cons (.for1 4 (.rng (.pur (.len (.var 0)))) (.cons (.app (.var 3) (.comp 5 [] "column" (.rng (.pur (.len (.ix (.var 0) (.var 4))))) (.pur (.callw 2 (.cons (.ix (.ix (.var 0) (.var 4)) (.var 5)) (.cons (.ix (.ix (.var 1) (.var 4)) (.var 5)) .nil)))))) .nil)) (.cons (.ret (.var 3)) .nil))
noncomputable def mb43:MT:=.cons (.ret (.call 3 "each_changed" (.cons (.call 1 "shares" (.cons (.var 0) (.cons (.var 1) (.cons (.var 2) .nil)))) (.cons (.pur (.glob 3 "cover")) .nil)))) .nil
noncomputable def N44:List Str:=["width","height","shape","strength"]
noncomputable def P44:List Str:=["width","height","shape","strength"]
def sc44:zAg N44 P44 (zAA (top 57)):=by (walk_at "f")
noncomputable def mb45:MT:=.cons (.ret (.comp 2 [] "row" (.rng (.var 1)) (.comp 3 [] "column" (.rng (.var 0)) (.pur (.call 12 "clear_film" .nil))))) .nil
noncomputable def mb46:MT:=.cons (.set 3 (.call 7 "clear_films" (.cons (.var 0) (.cons (.var 1) .nil)))) (.cons (.for1 4 (.it (.var 2)) (.cons (.set 3 (.call 4 "put_together" (.cons (.mth [("Fill",12),("Rub",13)] "films" (.var 4) (.cons (.var 0) (.cons (.var 1) .nil))) (.cons (.var 3) (.cons (.pur (.glob 4 "joined")) .nil))))) .nil)) (.cons (.ret (.var 3)) .nil))
noncomputable def zSE:MT:=.cons (.set 3 (.call 7 "clear_films" (.cons (.var 0) (.cons (.var 1) .nil)))) (.cons (.for1 4 (.it (.var 2)) (.cons (.set 3 (.call 4 "put_together" (.cons (.mth [("Fill",12),("Rub",13),("Join",15),("Group",16)] "films" (.var 4) (.cons (.var 0) (.cons (.var 1) .nil))) (.cons (.var 3) (.cons (.pur (.glob 4 "joined")) .nil))))) .nil)) (.cons (.ret (.var 3)) .nil))
noncomputable def b47:S:=zQ0
noncomputable def b48:S:=zJP
noncomputable def b49:S:=zG7
noncomputable def b50:S:=lowB
noncomputable def b51:S:=zIs "_law_low" 50
noncomputable def b52:S:=zFD "_law_low" 50
noncomputable def b53:S:=zEy "_law_low" 50
noncomputable def b54:S:=zLC 48
noncomputable def b55:S:=.cons (.set 1 (.bin .Add (.int 1) (.bin .Mod (.var 0) (.int 6)))) (.cons (.set 2 (.bin .FloorDiv (.var 0) (.int 6))) (.cons (.ife (.cmp .Eq (.bin .Mod (.var 2) (.int 7)) (.int 0)) (.cons (.ret (.tup (.cons (.int 0) (.cons (.int 1) .nil)))) .nil) .nil) (.cons (.ife (.cmp .Eq (.bin .Mod (.var 2) (.int 7)) (.int 1)) (.cons (.ret (.tup (.cons (.int 1) (.cons (.int 1) .nil)))) .nil) .nil) (.cons (.ret (.call 50 "_law_low" (.cons (.bin .Mod (.bin .Mult (.bin .FloorDiv (.var 2) (.int 9)) (.int 48271)) (.bin .Add (.var 1) (.int 1))) (.cons (.var 1) .nil)))) .nil))))
noncomputable def b56:S:=.cons (.set 2 (.lst (.cons (.call 53 "_law_times" (.cons (.ix (.var 0) (.int 0)) (.cons (.ix (.var 1) (.int 0)) .nil))) .nil))) (.cons (.for1 3 (.r2 (.int 1) (.int 5)) (.cons (.app 2 (.call 51 "_law_plus" (.cons (.ix (.var 0) (.var 3)) (.cons (.call 53 "_law_times" (.cons (.ix (.var 0) (.int 0)) (.cons (.ix (.var 1) (.var 3)) .nil))) .nil)))) .nil)) (.cons (.ret (.tupl (.var 2))) .nil))
noncomputable def b57:S:=.cons (.set 2 (.lst (.cons (.call 51 "_law_plus" (.cons (.call 52 "_law_minus" (.cons (.tup (.cons (.int 1) (.cons (.int 1) .nil))) (.cons (.var 1) .nil))) (.cons (.call 53 "_law_times" (.cons (.var 1) (.cons (.ix (.var 0) (.int 0)) .nil))) .nil))) .nil))) (.cons (.for1 3 (.it (.sl (.var 0) (.cons (.int 1) .nil) .nil)) (.cons (.app 2 (.call 53 "_law_times" (.cons (.var 1) (.cons (.var 3) .nil)))) .nil)) (.cons (.ret (.tupl (.var 2))) .nil))
noncomputable def b58:S:=.cons (.setC 2 (.comp1 3 [] "_law_part_here" (.it (.sl (.var 0) (.cons (.int 1) .nil) .nil)) .nil (.call 53 "_law_times" (.cons (.var 1) (.cons (.var 3) .nil))))) (.cons (.ret (.tupl (.bin .Add (.lst (.cons (.call 52 "_law_minus" (.cons (.tup (.cons (.int 1) (.cons (.int 1) .nil))) (.cons (.ix (.var 2) (.int 0)) .nil))) .nil)) (.var 2)))) .nil)
noncomputable def b59:S:=.cons (.set 2 (.ix (.lst (.cons (.int 1) (.cons (.int 2) (.cons (.int 4) (.cons (.int 3) .nil))))) (.bin .Mod (.var 0) (.int 4)))) (.frz 2 (.cons (.ret (.call 50 "_law_low" (.cons (.bin .Sub (.bin .Mod (.bin .FloorDiv (.var 0) (.int 4)) (.bin .Add (.bin .Mult (.var 2) (.bin .Add (.var 1) (.int 2))) (.int 1))) (.var 2)) (.cons (.var 2) .nil)))) .nil))
noncomputable def b60:S:=.cons (.set 3 (.bin .Sub (.bin .Mod (.ix (.var 0) (.int 0)) (.bin .Add (.var 1) (.int 1))) (.int 1))) (.cons (.set 4 (.bin .Sub (.bin .Mod (.ix (.var 0) (.int 1)) (.bin .Add (.var 2) (.int 1))) (.int 1))) (.cons (.set 5 (.bin .Add (.bin .Add (.var 3) (.int 1)) (.bin .Mod (.ix (.var 0) (.int 2)) (.bin .Add (.var 1) (.int 1))))) (.cons (.set 6 (.bin .Add (.bin .Add (.var 4) (.int 1)) (.bin .Mod (.ix (.var 0) (.int 3)) (.bin .Add (.var 2) (.int 1))))) (.cons (.ret (.lst (.cons (.tup (.cons (.tup (.cons (.var 3) (.cons (.int 1) .nil))) (.cons (.tup (.cons (.var 4) (.cons (.int 1) .nil))) .nil))) (.cons (.tup (.cons (.tup (.cons (.var 5) (.cons (.int 1) .nil))) (.cons (.tup (.cons (.var 4) (.cons (.int 1) .nil))) .nil))) (.cons (.tup (.cons (.tup (.cons (.var 5) (.cons (.int 1) .nil))) (.cons (.tup (.cons (.var 6) (.cons (.int 1) .nil))) .nil))) (.cons (.tup (.cons (.tup (.cons (.var 3) (.cons (.int 1) .nil))) (.cons (.tup (.cons (.var 6) (.cons (.int 1) .nil))) .nil))) .nil)))))) .nil))))
noncomputable def mb61:MT:=.cons (.set 3 (.pur (.bin .Add (.bin .Mod (.var 0) (.int 2147483646)) (.int 1)))) (.cons (.set 4 (.lst .nil)) (.cons (.for1 5 (.rng (.ix (.pur (.lst (.cons (.int 1) (.cons (.int 1) (.cons (.int 1) (.cons (.int 1) (.cons (.int 0) (.cons (.int 1) (.cons (.int 1) (.cons (.int 1) .nil)))))))))) (.pur (.bin .Mod (.var 0) (.int 8))))) (.cons (.set 6 (.lst .nil)) (.cons (.for1 7 (.rng (.pur (.int 9))) (.cons (.set 3 (.pur (.bin .Mod (.bin .Mult (.var 3) (.int 48271)) (.int 2147483647)))) (.cons (.app (.var 6) (.pur (.bin .FloorDiv (.var 3) (.int 11)))) .nil))) (.cons (.ife (.pur (.cmp .Eq (.bin .Mod (.bin .FloorDiv (.var 0) (.int 8)) (.int 3)) (.int 0))) (.cons (.app (.var 4) (.pur (.call 60 "_law_box" (.cons (.var 6) (.cons (.var 1) (.cons (.var 2) .nil)))))) .nil) (.cons (.set 8 (.lst .nil)) (.cons (.for1 7 (.rng (.pur (.bin .Add (.int 3) (.bin .Mod (.ix (.var 6) (.int 8)) (.int 2))))) (.cons (.app (.var 8) (.pur (.tup (.cons (.call 59 "_law_at" (.cons (.ix (.var 6) (.bin .Mult (.int 2) (.var 7))) (.cons (.var 1) .nil))) (.cons (.call 59 "_law_at" (.cons (.ix (.var 6) (.bin .Add (.bin .Mult (.int 2) (.var 7)) (.int 1))) (.cons (.var 2) .nil))) .nil))))) .nil)) (.cons (.app (.var 4) (.var 8)) .nil)))) .nil)))) (.cons (.ret (.var 4)) .nil)))
noncomputable def b62:S:=.cons (.ife (.orl (.cons (.not (.isi .list (.var 0))) (.cons (.cmp .NotEq (.len (.var 0)) (.len (.var 1))) .nil))) (.cons (.ret (.bl false)) .nil) .nil) (.cons (.for1 2 (.r1 (.len (.var 1))) (.cons (.ife (.orl (.cons (.not (.isi .list (.ix (.var 0) (.var 2)))) (.cons (.cmp .NotEq (.len (.ix (.var 0) (.var 2))) (.len (.ix (.var 1) (.var 2)))) .nil))) (.cons (.ret (.bl false)) .nil) .nil) (.cons (.for1 3 (.r1 (.len (.ix (.var 1) (.var 2)))) (.cons (.ife (.not (.call 54 "_law_like" (.cons (.ix (.ix (.var 0) (.var 2)) (.var 3)) (.cons (.ix (.ix (.var 1) (.var 2)) (.var 3)) .nil)))) (.cons (.ret (.bl false)) .nil) .nil) .nil)) .nil))) (.cons (.ret (.bl true)) .nil))
noncomputable def b63:S:=.cons (.ret (.tup (.cons (.bin .Mod (.var 0) (.int 256)) (.cons (.ix (.lst (.cons (.int 255) (.cons (.int 0) (.cons (.bin .Mod (.bin .FloorDiv (.var 0) (.int 3)) (.int 256)) .nil)))) (.bin .Mod (.bin .FloorDiv (.var 0) (.int 256)) (.int 3))) (.cons (.bin .Mod (.bin .FloorDiv (.var 0) (.int 7)) (.int 256)) .nil))))) .nil
noncomputable def mb64:MT:=.cons (.set 3 (.pur (.tup (.cons (.int 0) (.cons (.int 1) .nil))))) (.cons (.setC 4 (.comp 8 [6] "_law_j" (.rng (.var 2)) (.comp 9 [7] "_law_i" (.rng (.var 1)) (.pur (.tup (.cons (.tup (.cons (.int 1) (.cons (.int 1) .nil))) (.cons (.var 3) (.cons (.var 3) (.cons (.var 3) (.cons (.var 3) .nil)))))))))) (.cons (.for1 5 (.it (.var 0)) (.cons (.for1 6 (.rng (.var 2)) (.cons (.for1 7 (.rng (.var 1)) (.cons (.put (.ix (.var 4) (.var 6)) (.var 7) (.pur (.call 56 "_law_joined" (.cons (.ix (.ix (.var 5) (.var 6)) (.var 7)) (.cons (.ix (.ix (.var 4) (.var 6)) (.var 7)) .nil))))) .nil)) .nil)) .nil)) (.cons (.ret (.var 4)) .nil)))
noncomputable def mb65:MT:=.cons (.set 3 (.lst .nil)) (.cons (.for1 4 (.it (.var 0)) (.cons (.ife (.pur (.var 2)) (.cons (.app (.var 3) (.comp 5 [] "_law_film" (.it (.var 4)) (.pur (.call 58 "_law_alone" (.cons (.var 5) (.cons (.var 1) .nil)))))) .nil) (.cons (.app (.var 3) (.comp 5 [] "_law_film" (.it (.var 4)) (.pur (.call 57 "_law_mixed" (.cons (.var 5) (.cons (.var 1) .nil)))))) .nil)) .nil)) (.cons (.ret (.var 3)) .nil))
noncomputable def mb66:MT:=.cons (.set 2 (.lcp (.var 0))) (.cons (.ife (.pur (.cmp .Is (.var 1) .non)) (.cons (.set 3 (.lst (.cons (.mk 10 "Join" "strength" true (.cons (.var 2) .nil)) (.cons (.mk 11 "Group" "strength" true (.cons (.var 2) .nil)) .nil)))) .nil) (.cons (.set 3 (.lst (.cons (.mk 10 "Join" "strength" false (.cons (.var 2) (.cons (.var 1) .nil))) (.cons (.mkk 11 "Group" "strength" (.cons (.var 2) .nil) (.var 1)) .nil)))) .nil)) (.cons (.rev (.var 2)) (.cons (.app (.var 2) (.mk 9 "Rub" "strength" true (.cons (.lst .nil) .nil))) (.cons (.ret (.var 3)) .nil))))
noncomputable def mb67:MT:=.cons (.set 4 (.call 21 "_law_stacked" (.cons (.var 1) (.cons (.ix (.var 3) (.pur (.int 0))) (.cons (.ix (.var 3) (.pur (.int 1))) .nil))))) (.cons (.ife (.pur (.cmp .Is (.var 2) .non)) (.cons (.set 2 (.pur (.tup (.cons (.int 1) (.cons (.int 1) .nil))))) .nil) .nil) (.cons (.set 5 (.lst .nil)) (.cons (.for1 6 (.rng (.pur (.int 2))) (.cons (.set 7 (.call 22 "_law_by" (.cons (.var 4) (.cons (.var 2) (.cons (.pur (.cmp .Eq (.var 6) (.int 1))) .nil))))) (.cons (.set 8 (.mth [("Fill",12),("Rub",13),("Join",18),("Group",19)] "films" (.ix (.var 0) (.var 6)) (.cons (.ix (.var 3) (.pur (.int 0))) (.cons (.ix (.var 3) (.pur (.int 1))) .nil)))) (.cons (.ife (.pur (.not (.call 62 "_law_rows_good" (.cons (.var 8) (.cons (.var 7) .nil))))) (.cons (.ret (.pur .non)) .nil) .nil) (.cons (.put (.ix (.var 8) (.pur (.int 0))) (.pur (.int 0)) (.pur .non)) (.cons (.clr (.var 8)) (.cons (.app (.var 5) (.var 7)) .nil))))))) (.cons (.ret (.var 5)) .nil))))
noncomputable def N68:List Str:=["_law_script","_law_width","_law_height","_law_layers","_law_k","_law_cell_here","_law_shape_here","_law_t","_law_many","_law_one","_law_other","_law_size","_law_films","_law_dues"]
noncomputable def P68:List Str:=["_law_script"]
noncomputable def mb68:MT:=.cons (.set 1 (.pur (.bin .Add (.int 1) (.bin .Mod (.call 47 "_law_cell" (.cons (.var 0) (.cons (.int 0) .nil))) (.int 3))))) (.cons (.set 2 (.pur (.bin .Add (.int 1) (.bin .Mod (.call 47 "_law_cell" (.cons (.var 0) (.cons (.int 1) .nil))) (.int 2))))) (.cons (.set 3 (.lst .nil)) (.cons (.for1 4 (.rng (.pur (.int 4))) (.cons (.set 5 (.pur (.call 49 "_law_spread" (.cons (.call 47 "_law_cell" (.cons (.var 0) (.cons (.bin .Add (.int 2) (.var 4)) .nil))) (.cons (.var 4) .nil))))) (.cons (.set 6 (.call 20 "_law_shape" (.cons (.pur (.bin .FloorDiv (.var 5) (.int 3))) (.cons (.var 1) (.cons (.var 2) .nil))))) (.cons (.set 7 (.pur (.call 55 "_law_part" (.cons (.call 49 "_law_spread" (.cons (.call 47 "_law_cell" (.cons (.var 0) (.cons (.bin .Add (.int 7) (.var 4)) .nil))) (.cons (.var 4) .nil))) .nil)))) (.cons (.ife (.pur (.cmp .Eq (.bin .Mod (.var 5) (.int 3)) (.int 0))) (.cons (.app (.var 3) (.mk 9 "Rub" "strength" false (.cons (.var 6) (.cons (.var 7) .nil)))) .nil) (.cons (.app (.var 3) (.mk 8 "Fill" "strength" false (.cons (.var 6) (.cons (.pur (.call 63 "_law_ink" (.cons (.bin .FloorDiv (.var 5) (.int 5)) .nil))) (.cons (.var 7) .nil))))) .nil)) .nil))))) (.cons (.set 8 (.pur (.bin .Mod (.call 47 "_law_cell" (.cons (.var 0) (.cons (.int 6) .nil))) (.int 4)))) (.cons (.set 7 (.pur .non)) (.cons (.ife (.pur (.cmp .Gt (.bin .Mod (.bin .FloorDiv (.call 47 "_law_cell" (.cons (.var 0) (.cons (.int 6) .nil))) (.int 4)) (.int 4)) (.int 0))) (.cons (.set 7 (.pur (.call 55 "_law_part" (.cons (.call 49 "_law_spread" (.cons (.call 47 "_law_cell" (.cons (.var 0) (.cons (.int 11) .nil))) (.cons (.int 11) .nil))) .nil)))) .nil) .nil) (.cons (.set 9 (.call 23 "_law_made" (.cons (.slc true (.var 3) (.var 8)) (.cons (.var 7) .nil)))) (.cons (.set 10 (.call 23 "_law_made" (.cons (.cat (.var 9) (.lst (.cons (.ix (.var 3) (.pur (.int 3))) .nil))) (.cons (.var 7) .nil)))) (.cons (.for1 11 (.it (.lst (.cons (.pur (.tup (.cons (.var 1) (.cons (.var 2) .nil)))) (.cons (.pur (.tup (.cons (.bin .Add (.var 2) (.int 1)) (.cons (.var 1) .nil)))) (.cons (.pur (.tup (.cons (.var 1) (.cons (.var 2) .nil)))) .nil))))) (.cons (.setC 12 (.comp 14 [] "_law_layer" (.it (.var 3)) (.mth [("Fill",12),("Rub",13),("Join",18),("Group",19)] "films" (.var 14) (.cons (.ix (.var 11) (.pur (.int 0))) (.cons (.ix (.var 11) (.pur (.int 1))) .nil))))) (.cons (.set 13 (.call 24 "_law_told" (.cons (.var 9) (.cons (.slc true (.var 12) (.var 8)) (.cons (.var 7) (.cons (.var 11) .nil)))))) (.cons (.ife (.orl (.cons (.pur (.cmp .Is (.var 13) .non)) (.cons (.cmp .Is (.call 24 "_law_told" (.cons (.var 10) (.cons (.cat (.var 13) (.lst (.cons (.ix (.var 12) (.pur (.int 3))) .nil))) (.cons (.var 7) (.cons (.var 11) .nil))))) (.pur .non)) .nil))) (.cons (.ret (.pur (.bl false))) .nil) .nil) .nil)))) (.cons (.ret (.pur (.bl true))) .nil))))))))))
def zUG:cSs' (zAA (top 87)) N68 bs mb68 (zAN (top 87))=true:=by decide
def sc68:zAg N68 P68 (zAA (top 87)):=⟨rfl,rfl,rfl,by decide +kernel,rfl,by decide +kernel,by decide +kernel⟩
noncomputable def zG2:List Str:=["self","shape","ink","strength"]
noncomputable def zCp:List Str:=["self","shape","ink","strength"]
def zIo:zAg zG2 zCp (zAA (zAE (top 61) 0)):=by (walk_at "f")
noncomputable def zDs:List (Str×ME):=[("shape",(.call 2 "own_shape" (.cons (.var 1) .nil))),("ink",(.var 2)),("strength",(.pur (.call 40 "strength_or_one" (.cons (.var 3) .nil))))]
def zHU:zGu (zAA (zAE (top 61) 0)) zG2 bs "self" zDs (zAN (zAE (top 61) 0))=true:=by decide +kernel
noncomputable def zIe:List Str:=["self","shape","strength"]
noncomputable def zDd:List Str:=["self","shape","strength"]
def zJn:zAg zIe zDd (zAA (zAE (top 62) 0)):=by (walk_at "f")
noncomputable def zEX:List (Str×ME):=[("shape",(.call 2 "own_shape" (.cons (.var 1) .nil))),("strength",(.pur (.call 40 "strength_or_one" (.cons (.var 2) .nil))))]
def zI7:zGu (zAA (zAE (top 62) 0)) zIe bs "self" zEX (zAN (zAE (top 62) 0))=true:=rfl
noncomputable def zG1:List Str:=["self","layers","strength"]
noncomputable def zCo:List Str:=["self","layers","strength"]
def zIn:zAg zG1 zCo (zAA (zAE (top 63) 0)):=⟨rfl,rfl,rfl,by decide +kernel,rfl,by decide +kernel,by decide +kernel⟩
noncomputable def zDr:List (Str×ME):=[("layers",(.lcp (.var 1))),("strength",(.pur (.call 40 "strength_or_one" (.cons (.var 2) .nil))))]
def zHT:zGu (zAA (zAE (top 63) 0)) zG1 bs "self" zDr (zAN (zAE (top 63) 0))=true:=by decide +kernel
noncomputable def zFV:List Str:=["self","layers","strength"]
noncomputable def zCI:List Str:=["self","layers","strength"]
def zHB:zAg zFV zCI (zAA (zAE (top 64) 0)):=by (walk_at "f")
noncomputable def zDI:List (Str×ME):=[("layers",(.lcp (.var 1))),("strength",(.pur (.call 40 "strength_or_one" (.cons (.var 2) .nil))))]
def zGg:zGu (zAA (zAE (top 64) 0)) zFV bs "self" zDI (zAN (zAE (top 64) 0))=true:=by decide +kernel
noncomputable def zBJ:List Str:=["self","width","height","thinned"]
noncomputable def zCq:List Str:=["self","width","height"]
def zFg:zAg zBJ zCq (zAA (zAE (top 61) 1)):=⟨rfl,rfl,rfl,by decide +kernel,rfl,by decide +kernel,by decide +kernel⟩
noncomputable def zDz:MT:=.cons (.ret (.call 3 "each_changed" (.cons (.call 6 "thinned_covers" (.cons (.var 1) (.cons (.var 2) (.cons (.fld (.var 0) "shape") (.cons (.fld (.var 0) "strength") .nil))))) (.cons (.pur (.glob 5 "rub_film")) .nil)))) .nil
noncomputable def zAy:List Str:=["self","width","height"]
noncomputable def zB4:List Str:=["self","width","height"]
def zDQ:zAg zAy zB4 (zAA (zAE (top 63) 1)):=⟨rfl,rfl,rfl,by decide +kernel,rfl,by decide +kernel,by decide +kernel⟩
noncomputable def zAr:List Str:=["self","width","height"]
noncomputable def zBl:List Str:=["self","width","height"]
def zC5:zAg zAr zBl (zAA (zAE (top 64) 1)):=by (walk_at "f")
noncomputable def mp0:MT:=.nil
noncomputable def me0:ME:=(.call 5 "covers" (.cons (.var 0) (.cons (.var 1) (.cons (.var 2) .nil))))
def pck0:cPre (zAA (top 57)) N44 bs mp0 (zAN (top 57)).dropLast=true:=by decide +kernel
def eck0:cM me0 (zAA (top 57)) N44 bs (zC8 (top 57))=true:=by decide +kernel
noncomputable def mp1:MT:=(.cons (.set 3 (.call 6 "thinned_covers" (.cons (.var 1) (.cons (.var 2) (.cons (.fld (.var 0) "shape") (.cons (.fld (.var 0) "strength") .nil)))))) .nil)
noncomputable def me1:ME:=(.var 3)
def pck1:cPre (zAA (zAE (top 61) 1)) zBJ bs mp1 (zAN (zAE (top 61) 1)).dropLast=true:=rfl
def eck1:cM me1 (zAA (zAE (top 61) 1)) zBJ bs (zC8 (zAE (top 61) 1))=true:=rfl
noncomputable def mp2:MT:=.nil
noncomputable def me2:ME:=(.call 14 "joined_films" (.cons (.var 1) (.cons (.var 2) (.cons (.fld (.var 0) "layers") .nil))))
def pck2:cPre (zAA (zAE (top 63) 1)) zAy bs mp2 (zAN (zAE (top 63) 1)).dropLast=true:=by decide +kernel
def eck2:cM me2 (zAA (zAE (top 63) 1)) zAy bs (zC8 (zAE (top 63) 1))=true:=by decide +kernel
noncomputable def zSD:ME:=(.call 17 "joined_films" (.cons (.var 1) (.cons (.var 2) (.cons (.fld (.var 0) "layers") .nil))))
def zTY:cM zSD (zAA (zAE (top 63) 1)) zAy bs (zC8 (zAE (top 63) 1))=true:=by decide +kernel
noncomputable def mp3:MT:=.nil
noncomputable def me3:ME:=(.call 14 "joined_films" (.cons (.var 1) (.cons (.var 2) (.cons (.fld (.var 0) "layers") .nil))))
def pck3:cPre (zAA (zAE (top 64) 1)) zAr bs mp3 (zAN (zAE (top 64) 1)).dropLast=true:=rfl
def eck3:cM me3 (zAA (zAE (top 64) 1)) zAr bs (zC8 (zAE (top 64) 1))=true:=rfl
noncomputable def zSC:ME:=(.call 17 "joined_films" (.cons (.var 1) (.cons (.var 2) (.cons (.fld (.var 0) "layers") .nil))))
def zTX:cM zSC (zAA (zAE (top 64) 1)) zAr bs (zC8 (zAE (top 64) 1))=true:=by decide +kernel
noncomputable def G0:Gm:=⟨[],[("NOUGHT",.tup [.int 0,.int 1]),("HALF",.tup [.int 1,.int 2]),("ONE",.tup [.int 1,.int 1]),("cover",.fn 11 "cover"),("joined",.fn 18 "joined"),("rub_film",.fn 17 "rub_film")],[],[],[],[],[("Fill","shape",none),("Fill","ink",none),("Fill","strength",none),("Rub","shape",none),("Rub","strength",none),("Join","layers",none),("Join","strength",none),("Group","layers",none),("Group","strength",none)]⟩
def F0:List D->Option R:=dFun 2 3 (evSs G0 b0)
def G1:Gm:=G0.add "common_measure" F0
def F1:List D->Option R:=dFun 2 3 (evSs G1 b1)
def G2:Gm:=G1.add "ratio" F1
def F2:List D->Option R:=dFun 2 2 (evSs G2 b2)
def G3:Gm:=G2.add "plus" F2
def F3:List D->Option R:=dFun 2 2 (evSs G3 b3)
def G4:Gm:=G3.add "minus" F3
def F4:List D->Option R:=dFun 2 2 (evSs G4 b4)
def G5:Gm:=G4.add "times" F4
def F5:List D->Option R:=dFun 2 2 (evSs G5 b5)
def G6:Gm:=G5.add "parted" F5
def F6:List D->Option R:=dFun 1 2 (evSs G6 b6)
def G7:Gm:=G6.add "neighbours_added" F6
def F7:List D->Option R:=dFun 1 2 (evSs G7 b7)
def G8:Gm:=G7.add "total" F7
def F8:List D->Option R:=dFun 2 2 (evSs G8 b8)
def G9:Gm:=G8.add "under" F8
def F9:List D->Option R:=dFun 3 3 (evSs G9 b9)
def G10:Gm:=G9.add "between" F9
def F10:List D->Option R:=dFun 1 1 (evSs G10 b10)
def G11:Gm:=G10.add "whole_part" F10
def F11:List D->Option R:=dFun 1 1 (evSs G11 b11)
def G12:Gm:=G11.add "cover" F11
def F12:List D->Option R:=dFun 0 0 (evSs G12 b12)
def G13:Gm:=G12.add "clear_film" F12
def F13:List D->Option R:=dFun 1 1 (evSs G13 b13)
def G14:Gm:=G13.add "rest_of" F13
def F14:List D->Option R:=dFun 2 2 (evSs G14 b14)
def G15:Gm:=G14.add "multiplied" F14
def F15:List D->Option R:=dFun 2 3 (evSs G15 b15)
def G16:Gm:=G15.add "seen" F15
def F16:List D->Option R:=dFun 2 2 (evSs G16 b16)
def G17:Gm:=G16.add "ink_film" F16
def F17:List D->Option R:=dFun 1 1 (evSs G17 b17)
def G18:Gm:=G17.add "rub_film" F17
def F18:List D->Option R:=dFun 2 2 (evSs G18 b18)
def G19:Gm:=G18.add "joined" F18
def F19:List D->Option R:=dFun 2 2 (evSs G19 b19)
def G20:Gm:=G19.add "mixed" F19
def F20:List D->Option R:=dFun 2 3 (evSs G20 b20)
def G21:Gm:=G20.add "alone" F20
def F21:List D->Option R:=dFun 1 1 (evSs G21 b21)
def G22:Gm:=G21.add "sides" F21
def zTp:Gm:=G22.add "numbers_between" (λ_=>none)
def zTq:List D->Option R:=dFun 3 3 (evSs zTp b22)
def zTo:Gm:=G22.add "numbers_between" zTq
def F22:List D->Option R:=dFun 3 3 (evSs zTo b22)
def G23:Gm:=G22.add "numbers_between" F22
def F23:List D->Option R:=dFun 5 6 (evSs G23 b23)
def G24:Gm:=G23.add "rests_at" F23
def F24:List D->Option R:=dFun 2 6 (evSs G24 b24)
def G25:Gm:=G24.add "upright_crossings" F24
def F25:List D->Option R:=dFun 2 6 (evSs G25 b25)
def G26:Gm:=G25.add "level_crossings" F25
def F26:List D->Option R:=dFun 3 3 (evSs G26 b26)
def G27:Gm:=G26.add "comes_ahead" F26
def F27:List D->Option R:=dFun 3 6 (evSs G27 b27)
def G28:Gm:=G27.add "made_one" F27
def F28:List D->Option R:=dFun 3 6 (evSs G28 b28)
def G29:Gm:=G28.add "stops" F28
def F29:List D->Option R:=dFun 2 2 (evSs G29 b29)
def G30:Gm:=G29.add "middle" F29
def F30:List D->Option R:=dFun 2 4 (evSs G30 b30)
def G31:Gm:=G30.add "piece_between" F30
def F31:List D->Option R:=dFun 3 3 (evSs G31 b31)
def G32:Gm:=G31.add "counts_on" F31
def F32:List D->Option R:=dFun 3 5 (evSs G32 b32)
def G33:Gm:=G32.add "pieces" F32
def F33:List D->Option R:=dFun 1 1 (evSs G33 b33)
def G34:Gm:=G33.add "fall" F33
def F34:List D->Option R:=dFun 1 2 (evSs G34 b34)
def G35:Gm:=G34.add "right" F34
def F35:List D->Option R:=dFun 1 1 (evSs G35 b35)
def G36:Gm:=G35.add "empty_lists" F35
def F36:List D->Option R:=dFun 3 6 (evSs G36 b36)
def G37:Gm:=G36.add "all_pieces" F36
def F37:List D->Option R:=dFun 2 5 (evSs G37 b37)
def G38:Gm:=G37.add "row_of_shares" F37
noncomputable def F38:List D->Option R:=λ_=>none
def G39:Gm:=G38.add "shares" F38
noncomputable def F39:List D->Option R:=λ_=>none
def G40:Gm:=G39.add "own_shape" F39
def F40:List D->Option R:=dFun 1 1 (evSs G40 b40)
def G41:Gm:=G40.add "strength_or_one" F40
noncomputable def F41:List D->Option R:=λ_=>none
def G42:Gm:=G41.add "each_changed" F41
noncomputable def F42:List D->Option R:=λ_=>none
def G43:Gm:=G42.add "put_together" F42
noncomputable def F43:List D->Option R:=λ_=>none
def G44:Gm:=G43.add "covers" F43
noncomputable def F44:List D->Option R:=λ_=>none
def G45:Gm:=G44.add "thinned_covers" F44
noncomputable def F45:List D->Option R:=λ_=>none
def G46:Gm:=G45.add "clear_films" F45
noncomputable def F46:List D->Option R:=λ_=>none
def G47:Gm:=G46.add "joined_films" F46
def F47:List D->Option R:=dFun 2 4 (evSs G47 b47)
def G48:Gm:=G47.add "_law_cell" F47
def F48:List D->Option R:=dFun 1 1 (evSs G48 b48)
def G49:Gm:=G48.add "_law_whole" F48
def F49:List D->Option R:=dFun 2 2 (evSs G49 b49)
def G50:Gm:=G49.add "_law_spread" F49
def F50:List D->Option R:=dFun 2 5 (evSs G50 b50)
def G51:Gm:=G50.add "_law_low" F50
def F51:List D->Option R:=dFun 2 2 (evSs G51 b51)
def G52:Gm:=G51.add "_law_plus" F51
def F52:List D->Option R:=dFun 2 2 (evSs G52 b52)
def G53:Gm:=G52.add "_law_minus" F52
def F53:List D->Option R:=dFun 2 2 (evSs G53 b53)
def G54:Gm:=G53.add "_law_times" F53
def F54:List D->Option R:=dFun 2 4 (evSs G54 b54)
def G55:Gm:=G54.add "_law_like" F54
def F55:List D->Option R:=dFun 1 3 (evSs G55 b55)
def G56:Gm:=G55.add "_law_part" F55
def F56:List D->Option R:=dFun 2 4 (evSs G56 b56)
def G57:Gm:=G56.add "_law_joined" F56
def F57:List D->Option R:=dFun 2 4 (evSs G57 b57)
def G58:Gm:=G57.add "_law_mixed" F57
def F58:List D->Option R:=dFun 2 3 (evSs G58 b58)
def G59:Gm:=G58.add "_law_alone" F58
def F59:List D->Option R:=dFun 2 3 (evSs G59 b59)
def G60:Gm:=G59.add "_law_at" F59
def F60:List D->Option R:=dFun 3 7 (evSs G60 b60)
def G61:Gm:=G60.add "_law_box" F60
noncomputable def F61:List D->Option R:=λ_=>none
def G62:Gm:=G61.add "_law_shape" F61
def F62:List D->Option R:=dFun 2 4 (evSs G62 b62)
def G63:Gm:=G62.add "_law_rows_good" F62
def F63:List D->Option R:=dFun 1 1 (evSs G63 b63)
def G64:Gm:=G63.add "_law_ink" F63
noncomputable def F64:List D->Option R:=λ_=>none
def G65:Gm:=G64.add "_law_stacked" F64
noncomputable def F65:List D->Option R:=λ_=>none
def G66:Gm:=G65.add "_law_by" F65
noncomputable def F66:List D->Option R:=λ_=>none
def G67:Gm:=G66.add "_law_made" F66
noncomputable def F67:List D->Option R:=λ_=>none
def G68:Gm:=G67.add "_law_told" F67
noncomputable def L0:LamI:=zM1 "thinned_covers" (top 57)
noncomputable def lb0:E:=.call 4 "times" (.cons (.var 0) (.cons (.var 1) .nil))
def lsc0:zGG "s" ["strength"] L0/\frN L0=(["strength"]:List Str):=zEF rfl λ_ _ _ _ _=>rfl
def lck0:cE lb0 L0.scope ("s"::["strength"]) bs L0.body=true:=rfl
def FL0:List D->Option R:=lamD 1 (evE G68 lb0)
def GL0:Gm:=G68.addL L0 FL0
noncomputable def L1:LamI:=zM1 "Fill.films" (zAE (top 61) 1)
noncomputable def lb1:E:=.call 16 "ink_film" (.cons (.var 0) (.cons (.fld (.var 1) "ink") .nil))
def lsc1:zGG "s" ["self"] L1/\frN L1=(["self"]:List Str):=zEF rfl λ_ _ _ _ _=>rfl
def lck1:cE lb1 L1.scope ("s"::["self"]) bs L1.body=true:=rfl
def FL1:List D->Option R:=lamD 1 (evE GL0 lb1)
def GL1:Gm:=GL0.addL L1 FL1
noncomputable def L2:LamI:=zM1 "Join.films" (zAE (top 63) 1)
noncomputable def lb2:E:=.call 19 "mixed" (.cons (.var 0) (.cons (.fld (.var 1) "strength") .nil))
def lsc2:zGG "film" ["self"] L2/\frN L2=(["self"]:List Str):=zEF (by decide +kernel) λ_ _ _ _ _=>rfl
def lck2:cE lb2 L2.scope ("film"::["self"]) bs L2.body=true:=by decide +kernel
def FL2:List D->Option R:=lamD 1 (evE GL1 lb2)
def GL2:Gm:=GL1.addL L2 FL2
noncomputable def L3:LamI:=zM1 "Group.films" (zAE (top 64) 1)
noncomputable def lb3:E:=.call 20 "alone" (.cons (.var 0) (.cons (.fld (.var 1) "strength") .nil))
def lsc3:zGG "film" ["self"] L3/\frN L3=(["self"]:List Str):=zEF (by decide +kernel) λ_ _ _ _ _=>rfl
def lck3:cE lb3 L3.scope ("film"::["self"]) bs L3.body=true:=rfl
def FL3:List D->Option R:=lamD 1 (evE GL2 lb3)
def GL3:Gm:=GL2.addL L3 FL3
noncomputable def D0:Dm:=[]
def FM35:MF:=zA6 1 1 (evSs' GL3 D0 mb35)
def D1:Dm:=D0.add "empty_lists" FM35
def FM38:MF:=zA6 3 7 (evSs' GL3 D1 mb38)
def D2:Dm:=D1.add "shares" FM38
def FM39:MF:=zA6 1 1 (evSs' GL3 D2 mb39)
def D3:Dm:=D2.add "own_shape" FM39
def FM41:MF:=zA6 2 2 (evSs' GL3 D3 mb41)
def D4:Dm:=D3.add "each_changed" FM41
def FM42:MF:=zA6 3 5 (evSs' GL3 D4 mb42)
def D5:Dm:=D4.add "put_together" FM42
def FM43:MF:=zA6 3 3 (evSs' GL3 D5 mb43)
def D6:Dm:=D5.add "covers" FM43
def FM44:MF:=lamM FM41 0 L0 [3] P44.length N44.length (zEA GL3 D6 mp0) (evM GL3 D6 me0)
def D7:Dm:=D6.add "thinned_covers" FM44
def FM45:MF:=zA6 2 2 (evSs' GL3 D7 mb45)
def D8:Dm:=D7.add "clear_films" FM45
def zC1:MF:=zF1 "Fill" 3 (zDs.map λp=>(p.1,evM GL3 D8 p.2))
def D9:Dm:=D8.add "Fill()" zC1
def zCJ:MF:=zF1 "Rub" 2 (zEX.map λp=>(p.1,evM GL3 D9 p.2))
def D10:Dm:=D9.add "Rub()" zCJ
def zBm:MF:=zF1 "Join" 2 (zDr.map λp=>(p.1,evM GL3 D10 p.2))
def D11:Dm:=D10.add "Join()" zBm
def zBV:MF:=zF1 "Group" 2 (zDI.map λp=>(p.1,evM GL3 D11 p.2))
def D12:Dm:=D11.add "Group()" zBV
def zBO:MF:=lamM FM41 1 L1 [0] zCq.length zBJ.length (zEA GL3 D12 mp1) (evM GL3 D12 me1)
def D13:Dm:=D12.add "Fill.films" zBO
def zBZ:MF:=zA6 3 3 (evSs' GL3 D13 zDz)
def D14:Dm:=D13.add "Rub.films" zBZ
def FM46:MF:=zA6 3 5 (evSs' GL3 D14 mb46)
def D15:Dm:=D14.add "joined_films" FM46
def zDe:MF:=lamM FM41 2 L2 [0] zB4.length zAy.length (zEA GL3 D15 mp2) (evM GL3 D15 me2)
def D16:Dm:=D15.add "Join.films" zDe
def zDB:MF:=lamM FM41 3 L3 [0] zBl.length zAr.length (zEA GL3 D16 mp3) (evM GL3 D16 me3)
def D17:Dm:=D16.add "Group.films" zDB
def zOo:MF:=zA6 3 5 (evSs' GL3 D17 zSE)
def D18:Dm:=D17.add "joined_films" zOo
def zCt:MF:=lamM FM41 2 L2 [0] zB4.length zAy.length (zEA GL3 D18 mp2) (evM GL3 D18 zSD)
def D19:Dm:=D18.add "Join.films" zCt
def zCc:MF:=lamM FM41 3 L3 [0] zBl.length zAr.length (zEA GL3 D19 mp3) (evM GL3 D19 zSC)
def D20:Dm:=D19.add "Group.films" zCc
def FM61:MF:=zA6 3 9 (evSs' GL3 D20 mb61)
def D21:Dm:=D20.add "_law_shape" FM61
def FM64:MF:=zA6 3 8 (evSs' GL3 D21 mb64)
def D22:Dm:=D21.add "_law_stacked" FM64
def FM65:MF:=zA6 3 5 (evSs' GL3 D22 mb65)
def D23:Dm:=D22.add "_law_by" FM65
def FM66:MF:=zA6 2 4 (evSs' GL3 D23 mb66)
def D24:Dm:=D23.add "_law_made" FM66
def FM67:MF:=zA6 4 9 (evSs' GL3 D24 mb67)
def D25:Dm:=D24.add "_law_told" FM67
def FM68:MF:=zA6 1 14 (evSs' GL3 D25 mb68)
theorem len1 {T:Type}:∀ {us:List T},us.length=1->∃ a0,us=[a0]
 | [a0],_=>⟨a0,rfl⟩
theorem len2 {T:Type}:∀ {us:List T},us.length=2->∃ a0 a1,us=[a0,a1]
 | [a0,a1],_=>⟨a0,a1,rfl⟩
theorem len3 {T:Type}:∀ {us:List T},us.length=3->∃ a0 a1 a2,us=[a0,a1,a2]
 | [a0,a1,a2],_=>⟨a0,a1,a2,rfl⟩
theorem len4 {T:Type}:∀ {us:List T},us.length=4->∃ a0 a1 a2 a3,us=[a0,a1,a2,a3]
 | [a0,a1,a2,a3],_=>⟨a0,a1,a2,a3,rfl⟩
set_option maxHeartbeats 4000000 in
theorem all_mk {l:W.OpenLaw}(X:K.In h)(G:h.Ns mainGlobals mg)(hfa:mg "law"=some (.ref fa))
    
      
   (lt0:tabQ K "thinned_covers"=some (lc0,lp0))
   (lt1:tabQ K "Fill.films"=some (lc1,lp1))
   (lt2:tabQ K "Join.films"=some (lc2,lp2))
   (lt3:tabQ K "Group.films"=some (lc3,lp3))
  
    
  
  (t0:FT K "common_measure" (top 8) f0)
  (t1:FT K "ratio" (top 9) f1)
  (t2:FT K "plus" (top 10) f2)
  (t3:FT K "minus" (top 11) f3)
  (t4:FT K "times" (top 12) f4)
  (t5:FT K "parted" (top 13) f5)
  (t6:FT K "neighbours_added" (top 14) f6)
  (t7:FT K "total" (top 15) f7)
  (t8:FT K "under" (top 16) f8)
  (t9:FT K "between" (top 17) f9)
  (t10:FT K "whole_part" (top 18) f10)
  (t11:FT K "cover" (top 20) f11)
  (t12:FT K "clear_film" (top 21) f12)
  (t13:FT K "rest_of" (top 22) f13)
  (t14:FT K "multiplied" (top 23) f14)
  (t15:FT K "seen" (top 24) f15)
  (t16:FT K "ink_film" (top 25) f16)
  (t17:FT K "rub_film" (top 26) f17)
  (t18:FT K "joined" (top 27) f18)
  (t19:FT K "mixed" (top 28) f19)
  (t20:FT K "alone" (top 29) f20)
  (t21:FT K "sides" (top 31) f21)
  (t22:FT K "numbers_between" (top 33) f22)
  (t23:FT K "rests_at" (top 34) f23)
  (t24:FT K "upright_crossings" (top 35) f24)
  (t25:FT K "level_crossings" (top 36) f25)
  (t26:FT K "comes_ahead" (top 37) f26)
  (t27:FT K "made_one" (top 38) f27)
  (t28:FT K "stops" (top 39) f28)
  (t29:FT K "middle" (top 40) f29)
  (t30:FT K "piece_between" (top 41) f30)
  (t31:FT K "counts_on" (top 42) f31)
  (t32:FT K "pieces" (top 43) f32)
  (t33:FT K "fall" (top 44) f33)
  (t34:FT K "right" (top 45) f34)
  (t35:FT K "empty_lists" (top 47) f35)
  (t36:FT K "all_pieces" (top 48) f36)
  (t37:FT K "row_of_shares" (top 49) f37)
  (t38:FT K "shares" (top 50) f38)
  (t39:FT K "own_shape" (top 52) f39)
  (t40:FT K "strength_or_one" (top 53) f40)
  (t41:FT K "each_changed" (top 54) f41)
  (t42:FT K "put_together" (top 55) f42)
  (t43:FT K "covers" (top 56) f43)
  (t44:FT K "thinned_covers" (top 57) f44)
  (t45:FT K "clear_films" (top 58) f45)
  (t46:FT K "joined_films" (top 59) f46)
  (t47:FT K "_law_cell" (top 66) f47)
  (t48:FT K "_law_whole" (top 67) f48)
  (t49:FT K "_law_spread" (top 68) f49)
  (t50:FT K "_law_low" (top 69) f50)
  (t51:FT K "_law_plus" (top 70) f51)
  (t52:FT K "_law_minus" (top 71) f52)
  (t53:FT K "_law_times" (top 72) f53)
  (t54:FT K "_law_like" (top 73) f54)
  (t55:FT K "_law_part" (top 74) f55)
  (t56:FT K "_law_joined" (top 75) f56)
  (t57:FT K "_law_mixed" (top 76) f57)
  (t58:FT K "_law_alone" (top 77) f58)
  (t59:FT K "_law_at" (top 78) f59)
  (t60:FT K "_law_box" (top 79) f60)
  (t61:FT K "_law_shape" (top 80) f61)
  (t62:FT K "_law_rows_good" (top 81) f62)
  (t63:FT K "_law_ink" (top 82) f63)
  (t64:FT K "_law_stacked" (top 83) f64)
  (t65:FT K "_law_by" (top 84) f65)
  (t66:FT K "_law_made" (top 85) f66)
  (t67:FT K "_law_told" (top 86) f67)
  (a68:W.nsIn K mainGlobals "law"=some (some (.ref f68))) (l68:K.lookup f68=some ⟨oc68,od68,.func (W.fnOf "law" "law" (zAl (top 87)) (zAN (top 87)) (zAA (top 87)) .none kV68 dc68 pm68 an68 cd68 ct68),sl68⟩) (c68:W.codeIn K cd68 "law"=true) (k68:W.keepIn K (.ref f68)=true)
  (z0:W.nsIn K mainGlobals "abs"=some none)
  (z1:W.nsIn K mainGlobals "len"=some none)
  (z2:W.nsIn K mainGlobals "range"=some none)
  (z3:W.nsIn K mainGlobals "list"=some none)
  (z4:W.nsIn K mainGlobals "tuple"=some none)
  (z5:W.nsIn K mainGlobals "zip"=some none)
  (z6:W.nsIn K mainGlobals "reversed"=some none)
  (z7:W.nsIn K mainGlobals "max"=some none)
  (z8:W.nsIn K mainGlobals "isinstance"=some none)
  (z9:W.nsIn K mainGlobals "bool"=some none)
  (z10:W.nsIn K mainGlobals "int"=some none)
  (ca0:W.nsIn K mainGlobals "NOUGHT"=some (some (.ref g0))) (cl0:K.lookup g0=some ⟨.type "tuple",cod0,.seq cit0 cn0,csl0⟩) (cv0:cit0.toList.map absV=[some (.int 0),some (.int 1)])
  (ca1:W.nsIn K mainGlobals "HALF"=some (some (.ref g1))) (cl1:K.lookup g1=some ⟨.type "tuple",cod1,.seq cit1 cn1,csl1⟩) (cv1:cit1.toList.map absV=[some (.int 1),some (.int 2)])
  (ca2:W.nsIn K mainGlobals "ONE"=some (some (.ref g2))) (cl2:K.lookup g2=some ⟨.type "tuple",cod2,.seq cit2 cn2,csl2⟩) (cv2:cit2.toList.map absV=[some (.int 1),some (.int 1)])
  (u_u0:UC K "Fill" o_u0 ["shape","ink","strength"])
  (u_u1:UC K "Rub" o_u1 ["shape","strength"])
  (u_u2:UC K "Join" o_u2 ["layers","strength"])
  (u_u3:UC K "Group" o_u3 ["layers","strength"])
  (m_q0:W.findIn K (.ref o_u0) "__init__"=some (some (.ref f_q0)))
  (i_q0:W.isFn K (.ref f_q0)=true)
  (l_q0:K.lookup f_q0=some ⟨oc_q0,od_q0,.func (W.fnOf "__init__" "Fill.__init__" (zAl (zAE (top 61) 0)) (zAN (zAE (top 61) 0)) (zAA (zAE (top 61) 0)) (.ref T_q0) kV_q0 dc_q0 pm_q0 an_q0 cd_q0 ct_q0),sl_q0⟩)
  (c_q0:W.codeIn K cd_q0 "Fill.__init__"=true)
  (k_q0:W.keepIn K (.ref f_q0)=true)
  (lT_q0:K.lookup T_q0=some ⟨ocT_q0,odT_q0,.seq #[.none] nT_q0,slT_q0⟩)
  (t_q1:FQ K o_u0 f_q1 "films" "Fill.films" (zAE (top 61) 1))
  (m_q2:W.findIn K (.ref o_u1) "__init__"=some (some (.ref f_q2)))
  (i_q2:W.isFn K (.ref f_q2)=true)
  (l_q2:K.lookup f_q2=some ⟨oc_q2,od_q2,.func (W.fnOf "__init__" "Rub.__init__" (zAl (zAE (top 62) 0)) (zAN (zAE (top 62) 0)) (zAA (zAE (top 62) 0)) (.ref T_q2) kV_q2 dc_q2 pm_q2 an_q2 cd_q2 ct_q2),sl_q2⟩)
  (c_q2:W.codeIn K cd_q2 "Rub.__init__"=true)
  (k_q2:W.keepIn K (.ref f_q2)=true)
  (lT_q2:K.lookup T_q2=some ⟨ocT_q2,odT_q2,.seq #[.none] nT_q2,slT_q2⟩)
  (t_q3:FQ K o_u1 f_q3 "films" "Rub.films" (zAE (top 62) 1))
  (m_q4:W.findIn K (.ref o_u2) "__init__"=some (some (.ref f_q4)))
  (i_q4:W.isFn K (.ref f_q4)=true)
  (l_q4:K.lookup f_q4=some ⟨oc_q4,od_q4,.func (W.fnOf "__init__" "Join.__init__" (zAl (zAE (top 63) 0)) (zAN (zAE (top 63) 0)) (zAA (zAE (top 63) 0)) (.ref T_q4) kV_q4 dc_q4 pm_q4 an_q4 cd_q4 ct_q4),sl_q4⟩)
  (c_q4:W.codeIn K cd_q4 "Join.__init__"=true)
  (k_q4:W.keepIn K (.ref f_q4)=true)
  (lT_q4:K.lookup T_q4=some ⟨ocT_q4,odT_q4,.seq #[.none] nT_q4,slT_q4⟩)
  (t_q5:FQ K o_u2 f_q5 "films" "Join.films" (zAE (top 63) 1))
  (m_q6:W.findIn K (.ref o_u3) "__init__"=some (some (.ref f_q6)))
  (i_q6:W.isFn K (.ref f_q6)=true)
  (l_q6:K.lookup f_q6=some ⟨oc_q6,od_q6,.func (W.fnOf "__init__" "Group.__init__" (zAl (zAE (top 64) 0)) (zAN (zAE (top 64) 0)) (zAA (zAE (top 64) 0)) (.ref T_q6) kV_q6 dc_q6 pm_q6 an_q6 cd_q6 ct_q6),sl_q6⟩)
  (c_q6:W.codeIn K cd_q6 "Group.__init__"=true)
  (k_q6:W.keepIn K (.ref f_q6)=true)
  (lT_q6:K.lookup T_q6=some ⟨ocT_q6,odT_q6,.seq #[.none] nT_q6,slT_q6⟩)
  (t_q7:FQ K o_u3 f_q7 "films" "Group.films" (zAE (top 64) 1))
  : ∃ fd:FuncData,(∀ (s:Shared) (v:Value),BindsTo s fd ⟨[v],[]⟩ [("_law_script",v)])/\∀ base:Heap,K.In base->base.Ns mainGlobals mg->FnOk l.prog w K mg base CX0 90 fa fd ["_law_script"] (spM K FM68):=by
 have e:=hfa.symm.trans (W.mg_of X G a68);cases e;obtain⟨_,E22⟩:=t22.F;have B22:=E22.binds (ps:=P22) λ_ _ _ _ _ _ us hl=>by obtain⟨_,_,_,rfl⟩:=len3 hl;rfl
 obtain⟨_,E44⟩:=t44.F;have B44:=E44.binds (ps:=P44) λ_ _ _ _ _ _ us hl=>by obtain⟨_,_,_,_,rfl⟩:=len4 hl;rfl
 have E68:=zK9 (st:=top 87) l68 c68 k68;have B68:=E68.binds (ps:=P68) λ_ _ _ _ _ _ us hl=>by obtain⟨_,rfl⟩:=len1 hl;rfl
 refine⟨W.fnOf "law" "law" (zAl (top 87)) (zAN (top 87)) (zAA (top 87)) .none kV68 dc68 pm68 an68 cd68 ct68,λs v=>.of_eq rfl,λbase _ _=>?_⟩;have g0:GOk l.prog w K mg base 0 G0 bs:=⟨λx F h=>absurd h (by simp[G0]),λx d h=>?_,λx h=>?_,trivial,trivial,trivial,λj L F e=>absurd e (by simp[G0]),λp h=>?_⟩
 .have g22:GOk l.prog w K mg base 22 G22 bs:=(.aT 1 ["ring"] (.aT 2 ["film","t","added"] (.aT 2 ["film","t"] (.aT 2 ["upper","lower"] (.aT 1 ["s"] (.aT 2 ["s","ink"] (.aT 2 ["film","ground","through"] (.aT 2 ["parts","by"] (.aT 1 ["part"] (.aT 0 [] (.aT 1 ["share"] (.aT 1 ["one"] (.aT 3 ["one","low","high"] (.aT 2 ["one","other"] (.aT 1 ["some","sums"] (.aT 1 ["some","added"] (.aT 2 ["one","other"] (.aT 2 ["one","other"] (.aT 2 ["one","other"] (.aT 2 ["one","other"] (.aT 2 ["top","bottom","measure"] (.aT 2 ["one","other","rest"] g0 X G t0) X G t1) X G t2) X G t3) X G t4) X G t5) X G t6) X G t7) X G t8) X G t9) X G t10) X G t11) X G t12) X G t13) X G t14) X G t15) X G t16) X G t17) X G t18) X G t19) X G t20) X G t21);have g22_0:GOk l.prog w K mg base 22 zTp bs:=g22.addN E22 (W.mg_of X G t22.a) B22;have g22_1:GOk l.prog w K mg base 23 zTo bs:=g22.addR g22_0 (by decide) E22 sc22 ck22 (W.mg_of X G t22.a) B22;have g23:GOk l.prog w K mg base 24 G23 bs:=g22.addR g22_1 (by decide) E22 sc22 ck22 (W.mg_of X G t22.a) B22;have g44:GOk l.prog w K mg base 40 G44 bs:=(.aU ["width","height","shape"] (.aU ["some","others","make"] (.aU ["rows","change"] (.aT 1 ["strength"] (.aU ["shape"] (.aU ["width","height","shape"] (.aT 2 ["falls","rights","told","fallen","column"] (.aT 3 ["width","height","shape","found","ring","side"] (.aT 1 ["count"] (.aT 1 ["piece","column"] (.aT 1 ["piece"] (.aT 3 ["width","height","side","points","parts"] (.aT 3 ["width","height","piece"] (.aT 2 ["start","end","column","row"] (.aT 2 ["one","other"] (.aT 3 ["width","height","side","start","end","crossed"] (.aT 3 ["some","others","to_the_right","points","k","point"] (.aT 3 ["one","other","to_the_right"] (.aT 2 ["side","height","start","end","numbers","widths"] (.aT 2 ["side","width","start","end","numbers","heights"] (.aT 5 ["numbers","start","end","rest","rest_end","slope"] g23 X G t23) X G t24) X G t25) X G t26) X G t27) X G t28) X G t29) X G t30) X G t31) X G t32) X G t33) X G t34) X G t35) X G t36) X G t37) X G t38) X G t39) X G t40) X G t41) X G t42) X G t43);have g45:GOk l.prog w K mg base 40 G45 bs:=g44.addN E44 (W.mg_of X G t44.a) B44;have g68:GOk l.prog w K mg base 56 G68 bs:=(.aU ["_law_made_here","_law_all_films","_law_t","_law_size"] (.aU ["_law_layers","_law_t"] (.aU ["_law_rows","_law_t","_law_by_itself"] (.aU ["_law_all_films","_law_width","_law_height"] (.aT 1 ["_law_cell_here"] (.aT 2 ["_law_found","_law_due","_law_k","_law_j"] (.aU ["_law_cell_here","_law_width","_law_height"] (.aT 3 ["_law_parts","_law_width","_law_height","_law_left","_law_low_here","_law_far","_law_high"] (.aT 2 ["_law_some","_law_most","_law_bottom"] (.aT 2 ["_law_film","_law_t","_law_parts"] (.aT 2 ["_law_film","_law_t","_law_parts","_law_part_here"] (.aT 2 ["_law_upper","_law_lower","_law_parts","_law_k"] (.aT 1 ["_law_cell_here","_law_bottom","_law_rest"] (.aT 2 ["_law_found","_law_due","_law_part_here","_law_number"] (.aT 2 ["_law_one","_law_other"] (.aT 2 ["_law_one","_law_other"] (.aT 2 ["_law_one","_law_other"] (.aT 2 ["_law_top","_law_bottom","_law_one","_law_other","_law_rest"] (.aT 2 ["_law_cell_here","_law_k"] (.aT 1 ["_law_found"] (.aT 2 ["_law_script","_law_k","_law_seed","_law_some"] (.aU ["width","height","layers"] (.aU ["width","height"] g45 X G t45) X G t46) X G t47) X G t48) X G t49) X G t50) X G t51) X G t52) X G t53) X G t54) X G t55) X G t56) X G t57) X G t58) X G t59) X G t60) X G t61) X G t62) X G t63) X G t64) X G t65) X G t66) X G t67)
  have bk_q0:=λ(s:Shared) (args:Args) (bi:List (Str×Value)) kk (hK:K.In s.heap) h1 h2=>zDb (s:=s) (args:=args) (binds:=bi) (kk:=kk) (fd:=W.fnOf "__init__" "Fill.__init__" (zAl (zAE (top 61) 0)) (zAN (zAE (top 61) 0)) (zAA (zAE (top 61) 0)) (.ref T_q0) kV_q0 dc_q0 pm_q0 an_q0 cd_q0 ct_q0) rfl lT_q0 hK h1 h2
  obtain⟨_,E_q1⟩:=t_q1.F;have B_q1:=E_q1.binds (ps:=zCq) (bz3 rfl rfl);have bk_q2:=λ(s:Shared) (args:Args) (bi:List (Str×Value)) kk (hK:K.In s.heap) h1 h2=>zDb (s:=s) (args:=args) (binds:=bi) (kk:=kk) (fd:=W.fnOf "__init__" "Rub.__init__" (zAl (zAE (top 62) 0)) (zAN (zAE (top 62) 0)) (zAA (zAE (top 62) 0)) (.ref T_q2) kV_q2 dc_q2 pm_q2 an_q2 cd_q2 ct_q2) rfl lT_q2 hK h1 h2
  have bk_q4:=λ(s:Shared) (args:Args) (bi:List (Str×Value)) kk (hK:K.In s.heap) h1 h2=>zDb (s:=s) (args:=args) (binds:=bi) (kk:=kk) (fd:=W.fnOf "__init__" "Join.__init__" (zAl (zAE (top 63) 0)) (zAN (zAE (top 63) 0)) (zAA (zAE (top 63) 0)) (.ref T_q4) kV_q4 dc_q4 pm_q4 an_q4 cd_q4 ct_q4) rfl lT_q4 hK h1 h2
  obtain⟨_,E_q5⟩:=t_q5.F;have B_q5:=E_q5.binds (ps:=zB4) (bz3 rfl rfl);have bk_q6:=λ(s:Shared) (args:Args) (bi:List (Str×Value)) kk (hK:K.In s.heap) h1 h2=>zDb (s:=s) (args:=args) (binds:=bi) (kk:=kk) (fd:=W.fnOf "__init__" "Group.__init__" (zAl (zAE (top 64) 0)) (zAN (zAE (top 64) 0)) (zAA (zAE (top 64) 0)) (.ref T_q6) kV_q6 dc_q6 pm_q6 an_q6 cd_q6 ct_q6) rfl lT_q6 hK h1 h2
  obtain⟨_,E_q7⟩:=t_q7.F;have B_q7:=E_q7.binds (ps:=zBl) (bz3 rfl rfl);have gl0:GOk l.prog w K mg base 57 GL0 bs:=g68.addL lsc0.1 lsc0.2 lck0;have fq0:zEc K "thinned_covers"=some f44:=by
   unfold zEc;rw[show zKd.lookup ("thinned_covers":Str)=none from by decide +kernel];simp only[t44.a]
  have ld0:zD7 K "thinned_covers" (top 57) f44 N44 (zAN (top 57)).dropLast (zC8 (top 57)) "each_changed" L0 [3]:=by
   have cp:=zIY (sc:=zAA (top 57)) (ps:=N44) (ys:=["strength"]) (ix:=[3]) (by decide +kernel);rw[<- lsc0.2] at cp;exact⟨⟨_,_,_,_,rfl⟩,rfl,rfl,by decide,fq0,⟨_,_,lt0⟩,by decide +kernel,by decide,λ_=>rfl,by rw[lsc0.2];decide,cp.1,cp.2,zEI _⟩
  have gl1:GOk l.prog w K mg base 58 GL1 bs:=gl0.addL lsc1.1 lsc1.2 lck1;have fq1:zEc K "Fill.films"=some f_q1:=by
   unfold zEc;rw[show zKd.lookup ("Fill.films":Str)=some (("Fill":Str),("films":Str)) from by decide +kernel];simp only[show W.nsIn K mainGlobals _=_ from u_u0.a,t_q1.M.1]
  have ld1:zD7 K "Fill.films" (zAE (top 61) 1) f_q1 zBJ (zAN (zAE (top 61) 1)).dropLast (zC8 (zAE (top 61) 1)) "each_changed" L1 [0]:=by
   have cp:=zIY (sc:=zAA (zAE (top 61) 1)) (ps:=zBJ) (ys:=["self"]) (ix:=[0]) (by decide +kernel);rw[<- lsc1.2] at cp;exact⟨⟨_,_,_,_,rfl⟩,rfl,rfl,by decide,fq1,⟨_,_,lt1⟩,by decide +kernel,by decide,λ_=>rfl,by rw[lsc1.2];decide,cp.1,cp.2,zEI _⟩
  have gl2:GOk l.prog w K mg base 59 GL2 bs:=gl1.addL lsc2.1 lsc2.2 lck2;have fq2:zEc K "Join.films"=some f_q5:=by
   unfold zEc;rw[show zKd.lookup ("Join.films":Str)=some (("Join":Str),("films":Str)) from by decide +kernel];simp only[show W.nsIn K mainGlobals _=_ from u_u2.a,t_q5.M.1]
  have ld2:zD7 K "Join.films" (zAE (top 63) 1) f_q5 zAy (zAN (zAE (top 63) 1)).dropLast (zC8 (zAE (top 63) 1)) "each_changed" L2 [0]:=by
   have cp:=zIY (sc:=zAA (zAE (top 63) 1)) (ps:=zAy) (ys:=["self"]) (ix:=[0]) (by decide +kernel);rw[<- lsc2.2] at cp;exact⟨⟨_,_,_,_,rfl⟩,rfl,rfl,by decide,fq2,⟨_,_,lt2⟩,by decide +kernel,by decide,λ_=>rfl,by rw[lsc2.2];decide,cp.1,cp.2,zEI _⟩
  have gl3:GOk l.prog w K mg base 60 GL3 bs:=gl2.addL lsc3.1 lsc3.2 lck3;have fq3:zEc K "Group.films"=some f_q7:=by
   unfold zEc;rw[show zKd.lookup ("Group.films":Str)=some (("Group":Str),("films":Str)) from by decide +kernel];simp only[show W.nsIn K mainGlobals _=_ from u_u3.a,t_q7.M.1]
  have ld3:zD7 K "Group.films" (zAE (top 64) 1) f_q7 zAr (zAN (zAE (top 64) 1)).dropLast (zC8 (zAE (top 64) 1)) "each_changed" L3 [0]:=by
   have cp:=zIY (sc:=zAA (zAE (top 64) 1)) (ps:=zAr) (ys:=["self"]) (ix:=[0]) (by decide +kernel);rw[<- lsc3.2] at cp;exact⟨⟨_,_,_,_,rfl⟩,rfl,rfl,by decide,fq3,⟨_,_,lt3⟩,by decide +kernel,by decide,λ_=>rfl,by rw[lsc3.2];decide,cp.1,cp.2,zEI _⟩
  have d0:DmOk l.prog w K mg base 60 D0:=λx F h=>absurd h (by simp[D0])
  have d6:DmOk l.prog w K mg base 66 D6:=(.aT 3 ["width","height","shape"] (.aT 3 ["some","others","make","rows","row"] (.aT 2 ["rows","change"] (.aT 1 ["shape"] (.aT 3 ["width","height","shape","falls","rights","piece","place"] (.aT 1 ["count"] d0 gl3 X G t35) gl3 X G t38) gl3 X G t39) gl3 X G t41) gl3 X G t42) gl3 X G t43);have d7:DmOk l.prog w K mg base 67 D7:=d6.addF (gl3.mono (by decide)) E44 sc44 ld0 pck0 eck0 (W.mg_of X G t44.a) B44 (mem_of_getElem? (i:=3) (show D6[3]?=some (("each_changed":Str),FM41) from rfl));have d8:DmOk l.prog w K mg base 68 D8:=(.aT 2 ["width","height"] d7 gl3 X G t45);have fi_q0:=zFz (J:=GL3) (c := "Fill") (C:=o_u0) (y := "self") (ys:=zCp.tail) (L:=zDs) l_q0 c_q0 zIo (by decide +kernel) (by decide) zHU (gl3.mono (by decide)) d8 u_u0.a u_u0.c u_u0.n (by decide +kernel) (by decide +kernel) (by decide +kernel) (by decide);have d9:DmOk l.prog w K mg base 70 D9:=(d8.mono (by decide)).addC (kw := "strength") (j:=69) (by decide) (by decide +kernel) (W.mg_of X G u_u0.a) ⟨u_u0.k,m_q0,i_q0,u_u0.kc⟩ fi_q0 (λs us hK hl=>by obtain⟨_,_,_,_,rfl⟩:=len4 (us:=us) (by simpa [zCp] using hl);exact bk_q0 s _ _ _ hK rfl rfl) (λs us hK hl=>by obtain⟨_,_,_,rfl⟩:=len3 (us:=us) (by simpa [zCp] using hl);exact bk_q0 s _ _ _ hK rfl rfl) (λs us u hK hl=>by obtain⟨_,_,_,rfl⟩:=len3 (us:=us) (by simpa [zCp] using hl);exact bk_q0 s _ _ _ hK rfl rfl);have fi_q2:=zFz (J:=GL3) (c := "Rub") (C:=o_u1) (y := "self") (ys:=zDd.tail) (L:=zEX) l_q2 c_q2 zJn (by decide +kernel) (by decide) zI7 (gl3.mono (by decide)) d9 u_u1.a u_u1.c u_u1.n (by decide +kernel) (by decide +kernel) (by decide +kernel) (by decide);have d10:DmOk l.prog w K mg base 72 D10:=(d9.mono (by decide)).addC (kw := "strength") (j:=71) (by decide) (by decide +kernel) (W.mg_of X G u_u1.a) ⟨u_u1.k,m_q2,i_q2,u_u1.kc⟩ fi_q2 (λs us hK hl=>by obtain⟨_,_,_,rfl⟩:=len3 (us:=us) (by simpa [zDd] using hl);exact bk_q2 s _ _ _ hK rfl rfl) (λs us hK hl=>by obtain⟨_,_,rfl⟩:=len2 (us:=us) (by simpa [zDd] using hl);exact bk_q2 s _ _ _ hK rfl rfl) (λs us u hK hl=>by obtain⟨_,_,rfl⟩:=len2 (us:=us) (by simpa [zDd] using hl);exact bk_q2 s _ _ _ hK rfl rfl);have fi_q4:=zFz (J:=GL3) (c := "Join") (C:=o_u2) (y := "self") (ys:=zCo.tail) (L:=zDr) l_q4 c_q4 zIn (by decide +kernel) (by decide) zHT (gl3.mono (by decide)) d10 u_u2.a u_u2.c u_u2.n (by decide +kernel) (by decide +kernel) (by decide +kernel) (by decide);have d11:DmOk l.prog w K mg base 74 D11:=(d10.mono (by decide)).addC (kw := "strength") (j:=73) (by decide) (by decide +kernel) (W.mg_of X G u_u2.a) ⟨u_u2.k,m_q4,i_q4,u_u2.kc⟩ fi_q4 (λs us hK hl=>by obtain⟨_,_,_,rfl⟩:=len3 (us:=us) (by simpa [zCo] using hl);exact bk_q4 s _ _ _ hK rfl rfl) (λs us hK hl=>by obtain⟨_,_,rfl⟩:=len2 (us:=us) (by simpa [zCo] using hl);exact bk_q4 s _ _ _ hK rfl rfl) (λs us u hK hl=>by obtain⟨_,_,rfl⟩:=len2 (us:=us) (by simpa [zCo] using hl);exact bk_q4 s _ _ _ hK rfl rfl);have fi_q6:=zFz (J:=GL3) (c := "Group") (C:=o_u3) (y := "self") (ys:=zCI.tail) (L:=zDI) l_q6 c_q6 zHB (by decide +kernel) (by decide) zGg (gl3.mono (by decide)) d11 u_u3.a u_u3.c u_u3.n (by decide +kernel) (by decide +kernel) (by decide +kernel) (by decide)
  have d12:DmOk l.prog w K mg base 76 D12:=(d11.mono (by decide)).addC (kw := "strength") (j:=75) (by decide) (by decide +kernel) (W.mg_of X G u_u3.a) ⟨u_u3.k,m_q6,i_q6,u_u3.kc⟩ fi_q6 (λs us hK hl=>by obtain⟨_,_,_,rfl⟩:=len3 (us:=us) (by simpa [zCI] using hl);exact bk_q6 s _ _ _ hK rfl rfl) (λs us hK hl=>by obtain⟨_,_,rfl⟩:=len2 (us:=us) (by simpa [zCI] using hl);exact bk_q6 s _ _ _ hK rfl rfl) (λs us u hK hl=>by obtain⟨_,_,rfl⟩:=len2 (us:=us) (by simpa [zCI] using hl);exact bk_q6 s _ _ _ hK rfl rfl);have d13:DmOk l.prog w K mg base 77 D13:=d12.addFM (gl3.mono (by decide)) E_q1 zFg ld1 pck1 eck1 B_q1 (mem_of_getElem? (i:=3) (show D12[3]?=some (("each_changed":Str),FM41) from rfl)) u_u0.a u_u0.c t_q1.M (by decide +kernel);have d15:DmOk l.prog w K mg base 79 D15:=(.aT 3 ["width","height","layers","rows","layer"] (.aQ 3 ["self","width","height"] d13 gl3 t_q3 u_u1.a u_u1.c) gl3 X G t46);have d16:DmOk l.prog w K mg base 80 D16:=d15.addFM (gl3.mono (by decide)) E_q5 zDQ ld2 pck2 eck2 B_q5 (mem_of_getElem? (i:=3) (show D15[3]?=some (("each_changed":Str),FM41) from rfl)) u_u2.a u_u2.c t_q5.M (by decide +kernel);have d17:DmOk l.prog w K mg base 81 D17:=d16.addFM (gl3.mono (by decide)) E_q7 zC5 ld3 pck3 eck3 B_q7 (mem_of_getElem? (i:=3) (show D16[3]?=some (("each_changed":Str),FM41) from rfl)) u_u3.a u_u3.c t_q7.M (by decide +kernel);have d18:DmOk l.prog w K mg base 82 D18:=(.aT 3 ["width","height","layers","rows","layer"] d17 gl3 X G t46);have d19:DmOk l.prog w K mg base 83 D19:=d18.addFM (gl3.mono (by decide)) E_q5 zDQ ld2 pck2 zTY B_q5 (mem_of_getElem? (i:=3) (show D18[3]?=some (("each_changed":Str),FM41) from rfl)) u_u2.a u_u2.c t_q5.M (by decide +kernel);have d20:DmOk l.prog w K mg base 84 D20:=d19.addFM (gl3.mono (by decide)) E_q7 zC5 ld3 pck3 zTX B_q7 (mem_of_getElem? (i:=3) (show D19[3]?=some (("each_changed":Str),FM41) from rfl)) u_u3.a u_u3.c t_q7.M (by decide +kernel);have d25:DmOk l.prog w K mg base 89 D25:=(.aT 4 ["_law_made_here","_law_all_films","_law_t","_law_size","_law_rows","_law_dues","_law_k","_law_due","_law_found"] (.aT 2 ["_law_layers","_law_t","_law_handed","_law_made_here"] (.aT 3 ["_law_rows","_law_t","_law_by_itself","_law_come","_law_row"] (.aT 3 ["_law_all_films","_law_width","_law_height","_law_nought","_law_rows","_law_films","_law_j","_law_i"] (.aT 3 ["_law_cell_here","_law_width","_law_height","_law_some","_law_shape_here","_law_ring","_law_parts","_law_k","_law_points"] d20 gl3 X G t61) gl3 X G t64) gl3 X G t65) gl3 X G t66) gl3 X G t67);exact zHi E68 sc68 zUG (gl3.mono (by decide)) d25
 .simp only [G0,mem_cons,Prod.mk.injEq,List.mem_nil_iff,or_false,not_mem_nil] at h;rcases h with ⟨rfl,rfl⟩ | ⟨rfl,rfl⟩ | ⟨rfl,rfl⟩ | ⟨rfl,rfl⟩ | ⟨rfl,rfl⟩ | ⟨rfl,rfl⟩
  .exact zF3 (ns:=[0,1]) (W.mg_of X G ca0) cl0 cv0
  .exact zF3 (ns:=[1,2]) (W.mg_of X G ca1) cl1 cv1
  .exact zF3 (ns:=[1,1]) (W.mg_of X G ca2) cl2 cv2
  .exact ⟨_,.ref f11,W.mg_of X G t11.a,rfl,by rw[Den];exact⟨_,rfl,t11.a⟩⟩
  .exact ⟨_,.ref f18,W.mg_of X G t18.a,rfl,by rw[Den];exact⟨_,rfl,t18.a⟩⟩
  .exact ⟨_,.ref f17,W.mg_of X G t17.a,rfl,by rw[Den];exact⟨_,rfl,t17.a⟩⟩
 .simp only [bs,mem_cons,List.mem_nil_iff,or_false,not_mem_nil] at h;rcases h with rfl | rfl | rfl | rfl | rfl | rfl | rfl | rfl | rfl | rfl | rfl
  .exact W.mg_none_of X G z0
  .exact W.mg_none_of X G z1
  .exact W.mg_none_of X G z2
  .exact W.mg_none_of X G z3
  .exact W.mg_none_of X G z4
  .exact W.mg_none_of X G z5
  .exact W.mg_none_of X G z6
  .exact W.mg_none_of X G z7
  .exact W.mg_none_of X G z8
  .exact W.mg_none_of X G z9
  .exact W.mg_none_of X G z10
 .simp only [G0,mem_cons,List.mem_nil_iff,or_false,not_mem_nil] at h;rcases h with rfl | rfl | rfl | rfl | rfl | rfl | rfl | rfl | rfl
  .exact u_u0.o (by decide)
  .exact u_u0.o (by decide)
  .exact u_u0.o (by decide)
  .exact u_u1.o (by decide)
  .exact u_u1.o (by decide)
  .exact u_u2.o (by decide)
  .exact u_u2.o (by decide)
  .exact u_u3.o (by decide)
  .exact u_u3.o (by decide)
end Q
end
section
namespace Q
open PySem DL
open L2
def h0:zQ9 F0:=λa b Q a c h=>zPe a c h
def h1:zFT F1:=zMU rfl h0
def h2:zEw F2:=zPB (nr:=1) rfl h1
def h3:zD6 F3:=zMm (nr:=1) rfl h1
def h4:zDA F4:=zMM (nr:=1) rfl h1
def h5:zGF F5:=zJ9 rfl h1
def h6:zNw F6:=zPZ rfl h2
def h7:zL4 F7:=zML (nn:=6) (ng:=0) rfl h6 rfl
def h8:zFS F8:=zMK
def h9 (p b a:Rat)(n:Nat)(Q:R->Prop)(e:RB n p)(g:RB n b)(f:RB n a)(l:n<=10000000)(h:Q (ratD (if p < b then b else if a < p then a else p),.cl)):EvP (F9 [ratD p,ratD b,ratD a]) Q:=by
 (walk_at "d");unfold b9;(walk_at "st");(walk_at "w");refine h8 p b n n _ e g (by omega) ?_;(walk_at "w");refine zBI (λc=>?_) λc=>?_
 .rw [if_pos c] at h;(walk_at "w");exact h
 rw[if_neg c] at h;(walk_at "w");refine h8 a p n n _ f e (by omega) ?_;(walk_at "w");refine zBI (λc=>?_) λc=>?_
 .rw [if_pos c] at h;(walk_at "w");exact h
 rw[if_neg c] at h;(walk_at "w");exact h
noncomputable def cov (p:Rat):Rat:=if p < 0 then 0 else if 1 < p then 1 else p
def h10:WpF F10:=zTx
def h11 (p:Rat)(n:Nat)(Q:R->Prop)(b:RB n p)(a:1<=n)(l:n<=10000000)(h:Q (ratD (cov p),.cl)):EvP (F11 [ratD p]) Q:=by
 (walk_at "d");unfold b11;(walk_at "st");(walk_at "w");refine h9 p 0 1 n _ b (zBK.mono a) (zB0.mono a) l ?_;(walk_at "w");exact h
def zIT (h:RB n p)(l:1<=n):RB n (cov p):=by
 unfold cov;split
 .exact zBK.mono l
 .split
  .exact zB0.mono l
  .exact h
def h13:zJN F13:=zO6 (nm:=3) (n1:=2) rfl rfl h3
def h14:zHq F14:=zPb (nt:=4) rfl h4
def h22:zMB (λ_ _=>True) F22:=zKN (nu:=8) (ns:=22) rfl h8 λ_ _=>⟨_,rfl,(zKN (nu:=8) (ns:=22) rfl h8 λh z=>absurd z h)⟩
def h23:zL9 F23:=zMT rfl rfl rfl rfl h5 h3 h2 h4
def h27:zRA F27:=zPg (na:=26) rfl (zNu (nu:=8) rfl h8)
def h28:zL5 F28:=zMO rfl rfl rfl rfl h27 (zTg true rfl rfl h22 h23) (zTg false (nn:=22) (nr:=23) rfl rfl h22 h23) h8
def h29:MidF F29:=zSB rfl rfl rfl h4 h2
def h32:zHp F32:=zJ4 (ns:=28) (np:=30) (no:=31) rfl rfl rfl h28 (zUD (nw:=10) (nm:=29) rfl rfl h10 h29) zUE
def h33:zNx F33:=zQY rfl h3
def h36:AllF F36:=zTm (ns:=21) (np:=32) rfl rfl zMP h32
def h37:RowF F37:=zRT (np:=2) (nt:=7) (ng:=0) rfl rfl rfl h2 h7
def h40n (Q:R->Prop)(h:Q (ratD 1,.cl)):EvP (F40 [.non]) Q:=by
 (walk_at "d");unfold b40;(walk_at "w");refine⟨(.bl true,.cl),rfl,true,rfl,?_⟩;(walk_at "w");exact h
def h40 (t:Rat)(Q:R->Prop)(h:Q (ratD t,.cl)):EvP (F40 [ratD t]) Q:=by
 (walk_at "d");unfold b40;(walk_at "w");refine⟨(.bl false,.cl),rfl,false,rfl,?_⟩;(walk_at "w");exact h
def h47:zTs F47:=zQz
def h48:zL3 F48:=λi Q h=>zMI h
def h49:zL6 F49:=zJf
def h50:LowF F50:=zSK
def h52:zD6 F52:=zKj rfl h50
def h53:zDA F53:=zKe (nr:=50) rfl h50
def h54:zOp F54:=zNO (nw:=48) rfl h48
def I255 (i:Int):Prop:=0<=i/\i<=255
def h63 (c:Int)(Q:R->Prop)(h:∀ r g b:Int,I255 r->I255 g->I255 b->Q (inkD r g b,.cl)):EvP (F63 [.int c]) Q:=by
 have f:∀ x:Int,I255 (x.fmod 256):=λx=>by
  have d1:=xX x (show (0:Int) < 256 by decide);have j:=fmod_lt_of_pos x (show (0:Int) < 256 by decide);exact⟨d1,by omega⟩
 (walk_at "d");unfold b63;(walk_at "st");refine zAH ?_;(walk_at "e");refine zA7 (by decide) ?_;(walk_at "e");refine zCH (zBU (by decide) (by decide)) ?_;(walk_at "e");refine zA7 (by decide) ?_;(walk_at "e");refine zCH (zBU (by decide) (by decide)) ?_;(walk_at "e");refine zA7 (by decide) ?_;have d1:=xX (c.fdiv 256) (show (0:Int) < 3 by decide);have j:=fmod_lt_of_pos (c.fdiv 256) (show (0:Int) < 3 by decide);obtain⟨g,k,l⟩:∃ g:Int,I255 g/\atI [D.int 255,.int 0,.int ((c.fdiv 3).fmod 256)] ((c.fdiv 256).fmod 3)=some (.int g):=by
  generalize (c.fdiv 256).fmod 3=i at d1 j;have a:i=0\/i=1\/i=2:=by omega
  rcases a with rfl | rfl | rfl
  .exact ⟨255,⟨by decide,by decide⟩,rfl⟩
  .exact ⟨0,⟨by decide,by decide⟩,rfl⟩
  .exact ⟨_,f _,rfl⟩
 refine zAw l (n_cl ?_);(walk_at "e");refine zCH (zBU (by decide) (by decide)) ?_;(walk_at "e");refine zA7 (by decide) ?_;(walk_at "e");exact h _ _ _ (f _) k (f _)
def At3F (F:List D->Option R):Prop:=∀ (x:Int) (m:Nat) (Q:R->Prop),m<=10->(∀ q:Rat,RB 7 q->Q (ratD q,.cl))->EvP (F [.int x,.int m]) Q
def h59:At3F F59:=λx m Q g h=>by
 (walk_at "d");unfold b59;(walk_at "st");refine zAH ?_;(walk_at "e");refine zA7 (by decide) ?_;have d1:=xX x (show (0:Int) < 4 by decide);have c:=fmod_lt_of_pos x (show (0:Int) < 4 by decide);obtain⟨b,b1,b2,f⟩:∃ b:Int,1<=b/\b<=4/\atI [D.int 1,.int 2,.int 4,.int 3] (x.fmod 4)=some (.int b):=by
  generalize x.fmod 4=i at d1 c;have a:i=0\/i=1\/i=2\/i=3:=by omega
  rcases a with rfl | rfl | rfl | rfl
  .exact ⟨1,by decide,by decide,rfl⟩
  .exact ⟨2,by decide,by decide,rfl⟩
  .exact ⟨4,by decide,by decide,rfl⟩
  .exact ⟨3,by decide,by decide,rfl⟩
 refine zAw f ?_;(walk_at "e");refine zHZ rfl ?_;(walk_at "w");refine zCH (zBU (by decide) (by decide)) ?_;(walk_at "w");refine zA4 (zC6 (by omega)) ?_;(walk_at "w");refine zA7 (by have:=Int.mul_pos (show 0 < b by omega) (show (0:Int) < m+2 by omega);omega) ?_;(walk_at "w");refine h50 _ _ _ (by omega) ?_;(walk_at "w");have n:=Int.mul_pos (show 0 < b by omega) (show (0:Int) < m+2 by omega);have k1:b*((m:Int)+2)<=4*12:=Int.mul_le_mul b2 (by omega) (by omega) (by decide);have l:=xX (x.fdiv 4) (show (0:Int) < b*(m+2)+1 by omega);have j:=fmod_lt_of_pos (x.fdiv 4) (show (0:Int) < b*(m+2)+1 by omega);exact h _ (zE2 (by omega) (zD0 (k:=100) (by omega) (by decide)) (zD0 (k:=100) (by omega) (by decide)))
structure Kq (G μ2:Mem):Prop where
 le:G.length<=μ2.length
 kp:∀ x,x < G.length->μ2[x]?=G[x]?
def zBG :Kq G (G++P):=⟨by rw[qQ];omega,λx a=>getElem?_append_left a⟩
def zIB :Kq G G:=⟨le_refl _,λ_ _=>rfl⟩
def Kq.trans {μ2:Mem}(a:Kq G μ2)(b:Kq μ2 O7):Kq G O7:=⟨le_trans a.le b.le,λx c=>(b.kp x (xQ c a.le)).trans (a.kp x c)⟩
def Kq.ll {μ2:Mem}(k:Kq G μ2)(e:Ll G n l):Ll μ2 n l:=e.keep (k.kp n e.lt.1) λp a=>k.kp p.1 (e.lt.2 p a)
def Kq.get {μ2:Mem}{n:Nat}(k:Kq G μ2)(e:G[n]?=some ws):μ2[n]?=some ws:=(k.kp n (zzg e).1).trans e
def Kq.set {μ2:Mem}(k:Kq G μ2)(h:G.length<=n):Kq G (μ2.set n ws):=⟨by rw[length_set];exact k.le,λx a=>(getElem?_set_ne (by omega)).trans (k.kp x a)⟩
def Kq.app {μ2:Mem}(k:Kq G μ2):Kq G (μ2++P):=k.trans zBG
def zH7 (e:Ll G n l):∀ p∈l,p.1≠n:=λp a z=>by
 have h1:=e.row p a;rw[z,e.top] at h1;have h2:=xj h1;cases l with
 | nil=>exact absurd a (by simp)
 | cons q l =>
  cases h3:p.2 with
  | nil=>rw[h3] at h2;cases h2
  | cons d b=>rw[h3] at h2;cases h2
structure Rw (G:Mem)(n b:Nat)(l:Lp)(rows:List (List D)):Prop where
 ll:Ll G n l
 lo:∀ p∈l,b<=p.1
 top:b<=n
 snd:l.map (λp=>p.2)=rows
def Rw.len (e:Rw G n b l rows):l.length=rows.length:=by rw[<- e.snd,qy]
def Rw.dr (e:Rw G n b l rows):drW G (.loc n)=some (.lst (rows.map .lst)):=by
 rw[e.ll.dr,<- e.snd,map_map]
 rfl
def Rw.keep {μ2:Mem}(e:Rw G n b l rows)(k:Kq G μ2):Rw μ2 n b l rows:=⟨k.ll e.ll,e.lo,e.top,e.snd⟩
def Rw.lt (e:Rw G n b l rows):n < G.length:=e.ll.lt.1
def Rw.below (e:Rw G n b l rows)(h:c<=b):Rw G n c l rows:=⟨e.ll,λp a=>le_trans h (e.lo p a),le_trans h e.top,e.snd⟩
theorem Rw.at (e:Rw G n b l rows){j:Nat}(h:rows[j]?=some ds):∃ m,l[j]?=some (m,ds):=by
 rw[<- e.snd,getElem?_map] at h;obtain⟨p,h1,h2⟩:=x9.mp h;exact⟨p.1,by rw[h1,<- h2]⟩
def zKk (e:Ll G n l)(h:G[r]?=some (ds.map .dat))(b:r≠n):Ll (G.set n (l.map (λp=>W.loc p.1)++[.loc r])) n (l++[(r,ds)]):=by
 refine⟨?_,λp a=>?_⟩
 .rw [getElem?_set_self e.lt.1,xJ]
  rfl
 .rcases mem_append.mp a with z | z
  .rw [getElem?_set_ne (Ne.symm (zH7 e p z))];exact e.row p z
  .rw [mem_singleton.mp z,getElem?_set_ne (Ne.symm b)];exact h
def zJp {T:Type}{J:Gm}{U:Dm}{nm:Str}{N n b:Nat}{x:List Nat}{src E:ME}{O:List (Option W)}{L G:Mem}{l:Lp}{as:List T}{u v:T->List D}{Q:MR->Prop}(X:EvP (evSrc J U src ⟨O,L⟩) λr=>r=(.live n,G))(e:Rw G n b l (as.map u))(hN:(mask none x O).length=N)(hl:as.length<=100)
  (R:∀ (P:Mem) (m:Nat) (a:T),a∈as->(G++P)[m]?=some ((u a).map .dat)->EvP (evM J U E ⟨mask none x O++[some (.loc m)],G++P⟩) λr=>r=(.loc (G++P).length,G++P++[(v a).map .dat]))
  (Y:∀ (P:Mem) (l':Lp),Rw (G++P) (G.length+as.length) G.length l' (as.map v)->Q (.loc (G.length+as.length),G++P)) :
  EvP (evM J U (.comp N x nm src E) ⟨O,L⟩) Q:=by
 obtain⟨r,er,rfl⟩:=X;refine zES ⟨_,er,?_⟩;have ll:=e.len;rw[qy] at ll;obtain⟨y,s',M,V,⟨o,z,B,S⟩,p4⟩:=zEj (t:=tgM N) (e:=evM J U E) (src:=.live n) (s:=⟨mask none x O++[none],G⟩) (l.map λp=>.loc p.1)
  (λj s d=>∃ o:Option W,s=⟨mask none x O++[o],G++(as.take j).map λa=>(v a).map W.dat⟩/\d=news G.length j/\j<=as.length) (λj s d g=>by obtain⟨o,z,_,_⟩:=g;subst z;exact zAR e.ll.top) (λj w s d H f=>by
   obtain⟨o,z,B,S⟩:=f;subst z B;rw[getElem?_map] at H;obtain⟨p,F,rfl⟩:=x9.mp H;have c:j < as.length:=by rw[<- ll];exact(zzg F).1
   have k:as[j]?=some as[j]:=getElem?_eq_getElem c;have C:p.2=u as[j]:=by
    have h1:(l.map λp=>p.2)[j]?=some p.2:=by rw[getElem?_map,F];rfl
    rw[e.snd,getElem?_map,k] at h1;exact(xj h1).symm
   have Z:=mem_of_getElem? F;have K:=e.ll.row p Z;rw[C] at K;have h:(G++(as.take j).map λa=>(v a).map W.dat).length=G.length+j:=by rw[qQ,qy,length_take];omega
   refine⟨by rw[zBi];omega,⟨mask none x O++[some (.loc p.1)],G++(as.take j).map λa=>(v a).map W.dat⟩,(.loc (G++(as.take j).map λa=>(v a).map W.dat).length,(G++(as.take j).map λa=>(v a).map W.dat)++[(v as[j]).map .dat]),?_,(R _ p.1 as[j] (mem_of_getElem? k) (zAR K)).eq,some (.loc p.1),?_,?_,by omega⟩
   .unfold tgM;dsimp only;rw[set_append_right _ _ (by omega),hN,sub_self]
    rfl
   .rw [List.take_add_one,k,Option.toList_some,xJ,q0];rfl
   .rw [zDX,h]) ⟨none,by rw[List.take_zero,map_nil,append_nil],rfl,zero_le _⟩
 rw[qy,ll] at z B;subst z;rw[List.take_length] at p4;have C:y=(news G.length as.length,G++as.map λa=>(v a).map W.dat):=Prod.ext B p4.symm;refine⟨y,M,V,by rw[B,zBi];omega,?_⟩;rw[C];have h:(G++as.map λa=>(v a).map W.dat).length=G.length+as.length:=by rw[qQ,qy]
 dsimp only;rw[h,q0];have I:∀ p∈(List.range as.length).map (λj=>(G.length+j,((as[j]?).map v).getD [])),∃ j,j < as.length/\∃ a,as[j]?=some a/\p=(G.length+j,v a):=λp A=>by
  obtain⟨j,c,rfl⟩:=mem_map.mp A;have c:=mem_range.mp c;exact⟨j,c,as[j],getElem?_eq_getElem c,by rw[getElem?_eq_getElem c];rfl⟩
 refine Y _ ((List.range as.length).map λj=>(G.length+j,((as[j]?).map v).getD [])) ⟨⟨?_,λp A=>?_⟩,λp A=>?_,Nat.le_add_right _ _,?_⟩
 .rw [<- q0,getElem?_append_right (by rw[h];exact le_refl _),h,sub_self,map_map]
  rfl
 .obtain ⟨j,c,a,k,rfl⟩:=I p A;dsimp only;rw[<- q0,getElem?_append_left (by rw[h];omega),getElem?_append_right (by omega),Nat.add_sub_cancel_left,getElem?_map,k]
  rfl
 .obtain ⟨j,c,a,k,rfl⟩:=I p A;exact Nat.le_add_right _ _
 .rw [map_map];apply ext_getElem?;intro i;rw[getElem?_map,getElem?_map];by_cases q:i < as.length
  .rw [getElem?_range q,getElem?_eq_getElem q];simp[getElem?_eq_getElem q]
  .rw [getElem?_eq_none (by rw[length_range];omega),getElem?_eq_none (by omega)]
   rfl
def zJq {T:Type}{J:Gm}{U:Dm}{nm:Str}{N m:Nat}{f:List Nat}{src g:ME}{O:List (Option W)}{G:Mem}{as:List T}{u v:T->D}{Q:MR->Prop}(E:EvP (evSrc J U src ⟨O,G⟩) λr=>r=(.live m,G))(e:G[m]?=some ((as.map u).map .dat))(x:(mask none f O).length=N)(H:as.length<=100)
  (A:∀ a∈as,EvP (evM J U g ⟨mask none f O++[some (.dat (u a))],G⟩) λr=>r=(.dat (v a),G)) (q:Q (.loc G.length,G++[(as.map v).map .dat])) :
  EvP (evM J U (.comp N f nm src g) ⟨O,G⟩) Q:=by
 obtain⟨r,C,rfl⟩:=E;refine zES ⟨_,C,?_⟩;obtain⟨y,I,M,z,⟨o,F,n⟩,p4⟩:=zEj (t:=tgM N) (e:=evM J U g) (src:=.live m) (s:=⟨mask none f O++[none],G⟩) ((as.map u).map .dat)
  (λj s d=>∃ o:Option W,s=⟨mask none f O++[o],G⟩/\d=((as.map v).take j).map W.dat) (λj s d b=>by obtain⟨o,i,_⟩:=b;subst i;exact e) (λj w s d k c=>by
   obtain⟨o,i,B⟩:=c;subst i B;rw[getElem?_map,getElem?_map] at k;obtain⟨d1,h,rfl⟩:=x9.mp k;obtain⟨a,p,rfl⟩:=x9.mp h;refine⟨by rw[qy,length_take,qy];omega,⟨mask none f O++[some (.dat (u a))],G⟩,(.dat (v a),G),?_,(A a (mem_of_getElem? p)).eq,some (.dat (u a)),rfl,?_⟩
   .unfold tgM;dsimp only;rw[set_append_right _ _ (by omega),x,sub_self]
    rfl
   .rw [List.take_add_one,getElem?_map,p,xJ]
    rfl) ⟨none,rfl,rfl⟩
 rw[qy,qy] at n;subst F;have l:y=((as.map v).map W.dat,G):=Prod.ext (by rw[n,List.take_of_length_le (by rw[qy];exact le_refl _)]) p4.symm;refine⟨y,M,z,by rw[l];show ((as.map v).map W.dat).length<=_;rw[qy,qy];omega,?_⟩;rw[l];exact q
def Six (ps:List Pt):Prop:=ps.length<=4/\∀ p∈ps,PB 7 p
def zBz {i:Int}(h:i.natAbs<=100):RB 7 (i:Rat):=zHw (zD0 (k:=100) h (by decide)) (by decide)
def zKP (ps:List Pt):noLs (ps.map ptD)=true:=by
 induction ps with
 | nil=>rfl
 | cons p ps a =>
  show (noL (ptD p)&&noLs (ps.map ptD))=true;rw[a]
  rfl
def h60 (w h:Nat)(f c g a:Int)(xs:List D)(Q:R->Prop)(i:w<=10)(k:h<=10)(r:∀ ps:List Pt,Six ps->Q (zIr ps,.fr)):EvP (F60 [.lst (.int f::.int c::.int g::.int a::xs),.int w,.int h]) Q:=by
 have b:∀ (x:Int) (n:Nat),n<=10->0<=x.fmod (n+1)/\x.fmod (n+1)<=10:=λx n t=>by
  have d1:=xX x (show (0:Int) < n+1 by omega);have u:=fmod_lt_of_pos x (show (0:Int) < n+1 by omega);omega
 have o:=b f w i;have p:=b c h k;have m:=b g w i;have s:=b a h k;(walk_at "d");unfold b60;(walk_at "st");refine zAH (zCl (zAZ (zAZ (zBA (zAI rfl (zAO (zAw (d:=.int f) (zAx (j:=0) rfl) ?_)))))));(walk_at "e");refine zA7 (by omega) ?_;(walk_at "e");refine zAH (zCl (zAZ (zAZ (zBA (zAI rfl (zAO (zAw (d:=.int c) (zAx (j:=1) rfl) ?_)))))));(walk_at "e");refine zA7 (by omega) ?_;(walk_at "e");refine zAH (zCl (zAZ (zAZ ?_)));(walk_at "e");refine zAw (d:=.int g) (zAx (j:=2) rfl) ?_;(walk_at "e");refine zA7 (by omega) ?_;(walk_at "e");refine zAH (zCl (zAZ (zAZ ?_)));(walk_at "e");refine zAw (d:=.int a) (zAx (j:=3) rfl) ?_;(walk_at "e");refine zA7 (by omega) ?_;(walk_at "e");generalize f.fmod ((w:Int)+1)=y0 at o;generalize c.fmod ((h:Int)+1)=y1 at p;generalize g.fmod ((w:Int)+1)=y2 at m;generalize a.fmod ((h:Int)+1)=y3 at s;have q:=r [(((y0 - 1:Int):Rat),((y1 - 1:Int):Rat)),(((y0 - 1+1+y2:Int):Rat),((y1 - 1:Int):Rat)),(((y0 - 1+1+y2:Int):Rat),((y1 - 1+1+y3:Int):Rat)),(((y0 - 1:Int):Rat),((y1 - 1+1+y3:Int):Rat))] ⟨by show 4<=4;decide,λp l=>by
  simp only[mem_cons,not_mem_nil,or_false] at l;rcases l with rfl | rfl | rfl | rfl
  .exact ⟨zBz (by omega),zBz (by omega)⟩
  .exact ⟨zBz (by omega),zBz (by omega)⟩
  .exact ⟨zBz (by omega),zBz (by omega)⟩
  .exact ⟨zBz (by omega),zBz (by omega)⟩⟩
 (walk_at "w");simp only[zFy];exact q
def idx (e:((rngL 0 n).map W.dat)[j]?=some y):y=.dat (.int (j:Int))/\j < n:=by
 have a:j < n:=by
  have:=(zzg e).1;rw[qy,zAm] at this;omega
 unfold rngL at e
 simp_all
def nrng :((rngL 0 n).map W.dat).length=n:=by rw[qy,zAm]
abbrev zDq (xs:List Int):List W:=(xs.map D.int).map .dat
def zAU {G:Mem}{ws:List W}:(G++[ws])[G.length]?=some ws:=by simp
def zH9 {G:Mem}{ws vs:List W}:(G++[ws]).set G.length vs=G++[vs]:=by simp
def nine {xs:List Int}(h:xs.length=9):∃ a b c d e f g i j,xs=[a,b,c,d,e,f,g,i,j]:=by
 iterate 9 (rcases xs with _|⟨_,xs⟩;cases h;replace h:=Nat.succ.inj h)
 cases List.eq_nil_of_length_eq_zero h;exact⟨_,_,_,_,_,_,_,_,_,rfl⟩
def shI (c:Int)(w h:Nat)(G:Mem)(j:Nat)(s:Mst):Prop:=∃ (x3:Int) (o5 o6 o7 o8:Option W) (G':Mem) (l:Lp) (rs:List (List Pt)),s=⟨[some (.dat (.int c)),some (.dat (.int (w:Int))),some (.dat (.int (h:Int))),some (.dat (.int x3)),some (.loc G.length),o5,o6,o7,o8],G'⟩/\Kq G G'/\Rw G' G.length G.length l (rs.map λps=>ps.map ptD)/\rs.length=j/\∀ ps∈rs,Six ps
def m61 (c:Int)(w h:Nat)(L:w<=10)(M:h<=10)(G:Mem)(Q:MR->Prop)(hQ:∀ (G':Mem) (n:Nat) (l:Lp) (rs:List (List Pt)),Kq G G'->Rw G' n G.length l (rs.map λps=>ps.map ptD)->rs.length<=1->(∀ ps∈rs,Six ps)->Q (.loc n,G')):EvP (FM61 [.dat (.int c),.dat (.int (w:Int)),.dat (.int (h:Int))] G) Q:=by
 refine zC2 rfl (by decide) ?_;unfold mb61;show EvP (evSs' GL3 D20 _ ⟨[some (.dat (.int c)),some (.dat (.int (w:Int))),some (.dat (.int (h:Int))),none,none,none,none,none,none],G⟩) _;refine zAB (zAn (zAa rfl (zAZ (zAZ (zAI (zAF rfl zAL) (zAO (zA7 (by decide) (zAO (zEo (zAf rfl (zAP ?_)))))))))));(walk_at "s");refine zAB (zAn (zDk (zAY ⟨zero_le _,zAP ?_⟩)));(walk_at "s");have d1:=xX c (show (0:Int) < 8 by decide);have Z:=fmod_lt_of_pos c (show (0:Int) < 8 by decide);obtain⟨k,hk,ek⟩:∃ k:Nat,k<=1/\atI (([1,1,1,1,0,1,1,1]:List Int).map λi=>W.dat (.int i)) (c.fmod 8)=some (.dat (.int (k:Int))):=by
  generalize c.fmod 8=i at d1 Z;have o:i=0\/i=1\/i=2\/i=3\/i=4\/i=5\/i=6\/i=7:=by omega
  rcases o with rfl | rfl | rfl | rfl | rfl | rfl | rfl | rfl
  .exact ⟨1,by decide,rfl⟩
  .exact ⟨1,by decide,rfl⟩
  .exact ⟨1,by decide,rfl⟩
  .exact ⟨1,by decide,rfl⟩
  .exact ⟨0,by decide,rfl⟩
  .exact ⟨1,by decide,rfl⟩
  .exact ⟨1,by decide,rfl⟩
  .exact ⟨1,by decide,rfl⟩
 refine zAB (zBR (zBa (m_ix (zAa rfl ?_))));refine zOb ?_;(walk_at "w");refine zL2 rfl ?_;refine zAa rfl (zAZ (zAI (zAF rfl zAL) (zAO (zA7 (by decide) (zAf rfl (zC9 zAU ek ⟨_,rfl,by omega,?_⟩))))));rw[toNat_natCast];have kM:Kq G (G++[[]]++[(([1,1,1,1,0,1,1,1]:List Int).map λi=>W.dat (.int i))]):=zBG.app;have tM:(G++[[]]++[(([1,1,1,1,0,1,1,1]:List Int).map λi=>W.dat (.int i))])[G.length]?=some []:=zAR zAU;refine zCG (s:=⟨_,_⟩) ((rngL 0 k).map .dat) (shI c w h G) (λj s _=>rfl) ?_ ?_ ⟨_,none,none,none,none,_,[],[],rfl,kM,⟨⟨tM,λp g=>absurd g (by simp)⟩,λp g=>absurd g (by simp),le_refl _,rfl⟩,rfl,by simp⟩
 .rintro j y s B ⟨x3,o5,T,b,u,G',l,rs,rfl,K,r,E,I⟩;obtain⟨rfl,U⟩:=idx B;refine⟨_,rfl,?_⟩;dsimp only;(walk_at "s");have ln:G.length < G'.length:=r.lt;have A:∀ (x3:Int) (a:List Int) (ps:List Pt) (b u:Option W),Six ps ->
    shI c w h G (j+1) ⟨[some (.dat (.int c)),some (.dat (.int (w:Int))),some (.dat (.int (h:Int))),some (.dat (.int x3)),some (.loc G.length),some (.dat (.int (j:Int))),some (.loc G'.length),b,u],List.set (G'++[zDq a]++[(ps.map ptD).map W.dat]) G.length (l.map (λp=>W.loc p.1)++[W.loc (G'++[zDq a]).length])⟩:=λx3 a ps b u h6=>by
   have S:=r.keep (μ2:=G'++[zDq a]++[(ps.map ptD).map .dat]) zBG.app;have N:(G'++[zDq a]).length≠G.length:=by rw[qQ];omega
   refine⟨x3,_,_,b,u,_,l++[((G'++[zDq a]).length,ps.map ptD)],rs++[ps],rfl,(K.app.app).set (le_refl _),⟨zKk S.ll zAU N,λp g=>?_,le_refl _,?_⟩,by rw[qQ,E];rfl,λx v=>?_⟩
   .rcases mem_append.mp g with z | z
    .exact r.lo p z
    .rw [mem_singleton.mp z];show G.length<=(G'++[zDq a]).length;rw[qQ];omega
   .rw [xJ,r.snd,xJ];rfl
   .rcases mem_append.mp v with z | z
    .exact I x z
    .rw [mem_singleton.mp z];exact h6
  refine zAB (zAn (zDk (zAY ⟨zero_le _,zAP ?_⟩)));(walk_at "s");refine zAB (zBR (zBa (zAa rfl (zAO (zAf rfl ⟨_,rfl,by decide,?_⟩)))));refine zCG (s:=⟨_,_⟩) ((rngL 0 9).map .dat) (λi s=>∃ (x3:Int) (b:Option W) (a:List Int),s=⟨[some (.dat (.int c)),some (.dat (.int (w:Int))),some (.dat (.int (h:Int))),some (.dat (.int x3)),some (.loc G.length),some (.dat (.int (j:Int))),some (.loc G'.length),b,u],G'++[zDq a]⟩/\a.length=i) (λ_ _ _=>rfl) ?_ ?_ ⟨x3,b,[],rfl,rfl⟩
  .rintro i y s B ⟨x3,b,a,rfl,v⟩;obtain⟨rfl,V⟩:=idx B;refine⟨_,rfl,?_⟩;dsimp only;(walk_at "s");refine zAB (zAn (zAa rfl (zAZ (zAZ (zAI (zAF rfl zAL) (zAO (zA4 (zFC (by decide)) (zAO (zA7 (by decide) (zAf rfl (zAP ?_)))))))))));(walk_at "s");refine zAB (zCA (zAM rfl (zAa rfl (zAZ (zAI (zAF rfl zAL) (zAO (zCH (zBU (by decide) (by decide)) (zAf rfl ⟨_,_,rfl,zAU,by rw[qy,qy];omega,zAP (zAq ?_)⟩))))))));dsimp only;rw[zH9];exact⟨_,_,a++[((x3*48271).fmod 2147483647).fdiv 11],by simp only[zDq,xJ,map_cons,map_nil];rfl,by rw[qQ,v];rfl⟩
  .rintro s ⟨x3,b,a,rfl,v⟩;rw[nrng] at v;obtain⟨O,Y,a2,a3,a4,a5,a6,a7,D,F⟩:=nine v;have H:drW (G'++[zDq a]) (.loc G'.length)=some (.lst (a.map .int)):=zF6 zAU;have top:(G'++[zDq a])[G.length]?=some (l.map λp=>.loc p.1):=zAR r.ll.top;have C:(l.map λp=>W.loc p.1).length<=10000:=by rw[qy,r.len,qy,E];omega
   refine zAP (zAB (zC4 (zEr rfl (zBg (zAZ (zAZ (zAI (zAF rfl zAL) (zAO (zCH (zBU (by decide) (by decide)) (zAO (zA7 (by decide) (zAO (zNq ?_)))))))))))));refine⟨_,rfl,λ_=>?_,λ_=>?_⟩
   .refine zAB (zCA (zAM rfl (zAa rfl (zAK rfl (zAC (zAI (zAF rfl H) (n_cl (zAC (zAI (zAF rfl zAL) (n_cl (zAC (zAI (zAF rfl zAL) (n_cl (zAT ?_))))))))))))));rw[F];refine h60 w h O Y a2 a3 _ _ L M λps h6=>?_
    refine n_fr (zL2 (zKP ps) ⟨_,_,rfl,zAR (by rw[<- F];exact top),C,zAP (zAq (zAP (zAq ?_)))⟩);dsimp only;rw[<- F];exact A x3 a ps _ _ h6
   .refine zAB (zAn (zDk (zAY ⟨zero_le _,zAP ?_⟩)));(walk_at "s");have f:∀ P:Mem,drW (G'++[zDq a]++P) (.loc G'.length)=some (.lst (a.map .int)):=λP=>zF6 (zAR zAU)
    have t:∀ (i:Nat) (x:Int),a[i]?=some x->∀ {Q:R->Prop},Q (.int x,.cl)->EvP (ixD (.lst (a.map .int)) (.int (i:Int))) Q:=λi x e {Q} q=>zAw (zAx (by rw[getElem?_map,e];rfl)) q
    have e1:=xX D (show (0:Int) < 2 by decide);have e2:=fmod_lt_of_pos D (show (0:Int) < 2 by decide);obtain⟨m,hm,X⟩:∃ m:Nat,m<=4/\3+D.fmod 2=(m:Int):=⟨(3+D.fmod 2).toNat,by omega,by omega⟩;refine zAB (zBR (zBa (zAa rfl (zAZ (zAO (zAZ (zBA (zAI (zAF rfl (f _)) (zAO (t 8 D (by rw[F];rfl) (zAO (zA7 (by decide) (zEo (zAf rfl ⟨_,rfl,by omega,?_⟩))))))))))))));rw[X,toNat_natCast];refine zCG (s:=⟨_,_⟩) ((rngL 0 m).map .dat) (λi s=>∃ (b:Option W) (ps:List Pt),s=⟨[some (.dat (.int c)),some (.dat (.int (w:Int))),some (.dat (.int (h:Int))),some (.dat (.int x3)),some (.loc G.length),some (.dat (.int (j:Int))),some (.loc G'.length),b,some (.loc (G'++[zDq a]).length)],G'++[zDq a]++[(ps.map ptD).map .dat]⟩/\ps.length=i/\∀ p∈ps,PB 7 p) (λ_ _ _=>rfl) ?_ ?_ ⟨b,[],rfl,rfl,by simp⟩
    .rintro i y s B ⟨b,ps,rfl,g,J⟩;obtain⟨rfl,V⟩:=idx B;refine⟨_,rfl,?_⟩;dsimp only;(walk_at "s");have b1:2*i < a.length:=by omega
     have b2:2*i+1 < a.length:=by omega
     refine zAB (zCA (zAM rfl (zAa rfl (zD2 (zAC (zAK rfl (zAC (zBA (zAI (zAF rfl (f _)) (zAZ (zAO (zAI (zAF rfl zAL) (zA4 (zC6 (by decide)) ?_)))))))))))));rw[show (2:Int)*(i:Int)=((2*i:Nat):Int) by omega];refine t _ _ (getElem?_eq_getElem b1) (n_cl (zAC (zAI (zAF rfl zAL) (n_cl (zAT ?_)))));refine h59 _ w _ L λq1 r1=>n_cl (n_cl (zAC (zAK rfl (zAC (zBA (zAI (zAF rfl (f _)) (zAZ (zAZ (zAO (zAI (zAF rfl zAL) (zA4 (zC6 (by decide)) (zAO (zEo ?_)))))))))))))
     rw[show (2:Int)*(i:Int)+1=((2*i+1:Nat):Int) by omega];refine t _ _ (getElem?_eq_getElem b2) (n_cl (zAC (zAI (zAF rfl zAL) (n_cl (zAT ?_)))));refine h59 _ h _ M λq2 r2=>n_cl (n_cl (zAT ⟨by show 2<=10000;decide,zAf rfl ⟨_,_,rfl,zAU,by rw[qy,qy];omega,zAP (zAq ?_)⟩⟩))
     dsimp only;rw[zH9];refine⟨_,ps++[(q1,q2)],by simp only[xJ,map_cons,map_nil];rfl,by rw[qQ,g];rfl,λp hq=>?_⟩;rcases mem_append.mp hq with z | z
     .exact J p z
     .rw [mem_singleton.mp z];exact⟨r1.mono (by decide),r2.mono (by decide)⟩
    .rintro s ⟨b,ps,rfl,g,J⟩;rw[nrng] at g;refine zAP (zAB (zCA (zAM rfl (zAM rfl ⟨_,_,rfl,zAR top,C,zAP (zAq (zAP (zAq ?_)))⟩))));dsimp only;exact A x3 a ps _ _ ⟨by omega,J⟩
 .rintro s ⟨x3,o5,T,b,u,G',l,rs,rfl,K,r,E,I⟩;rw[nrng] at E;exact zAP (zAB (zBo (zAM rfl (zDp (hQ G' _ l rs K r (by omega) I)))))
def zLP (e:O[i]?=some (some (.fn n x,false)))(b:J.fns[n]?=some (x,F))(h:EvP (evE J a O) λy=>y.2≠.dt/\EvP (F [y.1]) λr=>r.2≠.dt/\Q r):EvP (evE J (.callv i a) O) Q:=by
 obtain⟨y,f,g,r,c,d,q⟩:=h;refine⟨r,?_,q⟩;show zEn J.lm J.fns i _ O=_;unfold zEn;have j:fnvF J.fns n x [y.1]=some r:=by unfold fnvF;rw[b];exact(if_pos rfl).trans c
 simp_all
def CV (f d d':D):Prop:=∀ (O:Dst) (i j:Nat) (Q:R->Prop),O[i]?=some (some (f,false))->O[j]?=some (some (d,false))->Q (d',.cl)->EvP (evE GL3 (.callv i (.var j)) O) Q
def zTd (b:GL3.fns[n]?=some (x,F))(h:∀ Q:R->Prop,Q (d',.cl)->EvP (F [d]) Q):CV (.fn n x) d d':=λO i j Q a c q =>
 zLP a b (zAI c ⟨(λz=>nomatch z),h _ ⟨(λz=>nomatch z),q⟩⟩)
def zLl (b:GL3.lm[J]?=some (L,FL))(h:∀ Q:R->Prop,Q (d',.cl)->EvP (FL (d::dl)) Q):CV (.lam J L dl) d d':=λO i j Q a c q =>
 zNR a b (zAI c ⟨(λz=>nomatch z),h _ ⟨(λz=>nomatch z),q⟩⟩)
def m41 {f:D}(o:noL f=true){T:Type}{rows:List (List T)}{u v:T->D}{n b:Nat}{G:Mem}{l:Lp}{Q:MR->Prop}(e:Rw G n b l (rows.map (List.map u)))(c:rows.length<=100)(i:∀ qs∈rows,qs.length<=100/\∀ q∈qs,CV f (u q) (v q)/\noL (v q)=true)
  (j:∀ (P:Mem) (l':Lp),Rw (G++P) (G.length+rows.length) G.length l' (rows.map (List.map v))->Q (.loc (G.length+rows.length),G++P)):EvP (FM41 [.loc n,.dat f] G) Q:=by
 refine zC2 rfl (by decide) ?_;unfold mb41;show EvP (evSs' GL3 D3 _ ⟨[some (.loc n),some (.dat f)],G⟩) _;refine zAB (zBo (zJp (as:=rows) (u:=List.map u) (v:=List.map v) (zBn (zAM rfl ⟨n,rfl,rfl⟩)) e rfl c (λP m qs hq d=>?_) λP l' k=>zDp (j P l' k)));show EvP (evM GL3 D3 _ ⟨[some (.loc n),some (.dat f),some (.loc m)],G++P⟩) _;obtain⟨h1,h2⟩:=i qs hq;refine zJq (as:=qs) (u:=u) (v:=v) (zBn (zAM rfl ⟨m,rfl,rfl⟩)) d rfl h1 (λq g=>?_) rfl;obtain⟨h,a⟩:=h2 q g;exact zAa rfl (h _ 1 3 _ (zAF rfl zAL) (zAF rfl zAL) (zAf a rfl))
def zHQ {T M:Type}{f:T->M}{d:T}:∀ {n:Nat} {l:List T},l.length=n->l.map f=(List.range n).map λi=>f (l.getD i d):=λ{n l} e=>by
 subst e;refine ext_getElem? λi=>?_
 rw[getElem?_map,getElem?_map];by_cases h:i < l.length
 .rw [getElem?_range h,getElem?_eq_getElem h];simp[getD_eq_getElem?_getD,h]
 .rw [getElem?_eq_none (by omega),getElem?_eq_none (by simpa using h)];rfl
structure Fl (w h:Nat)(rs:List (List Pt)):Prop where
 w1:1<=w
 w2:w<=4
 h1:1<=h
 h2:h<=4
 rl:rs.length<=1
 six:∀ ps∈rs,Six ps
def Fl.fb (f:Fl w h rs):FlB 7 4 w h rs:=⟨by have:=f.w2;omega,by have:=f.h2;omega,by have:=f.rl;omega,by decide,by decide,f.six⟩
def TabR (w h:Nat)(rs:List (List Pt))(T:List (List Rat)):Prop:=(T.length=h/\∀ qs∈T,qs.length=w/\∀ q∈qs,RB 220900 q)/\∃ zs,ZOk F36 F33 F34 F37 w h (zBp rs) zs λr=>(T.getD r []).map ratD
def tabR (w h:Nat)(rs:List (List Pt)):List (List Rat):=Classical.epsilon (TabR w h rs)
def zFc (f:Fl w h rs):TabR w h rs (tabR w h rs):=by
 have a:=f.w2;have h2:=f.h2;have m:=Nat.mul_le_mul f.rl (Nat.mul_le_mul_left 4 (show w+h+4<=12 by omega));generalize e:rs.length*(4*(w+h+4))=M at m;have k:=Nat.mul_le_mul (show w+1<=5 by omega) (show M*(48*7+161)+2<=30000 by omega);exact Classical.epsilon_spec (zRC h36 h33 (zMS rfl rfl rfl rfl rfl h4 h33 h3 h29) h37 f.fb (by rw[e];omega) (by rw[e];omega))
def zDN (f:Fl w h rs):(tabR w h rs).length=h:=(zFc f).1.1
def zCf (f:Fl w h rs):∀ qs∈tabR w h rs,qs.length<=100/\∀ q∈qs,RB 220900 q:=λqs hq=>by
 have:=(zFc f).1.2 qs hq;exact⟨by have:=f.w2;omega,this.2⟩
def zT6 (f:Fl w h rs)(dr:drW G x=some (zBp rs))(b:∀ (P:Mem) (m:Nat) (l:Lp),Rw (G++P) m G.length l ((tabR w h rs).map (List.map ratD))->Q (.loc m,G++P)):EvP (FM38 [.dat (.int (w:Int)),.dat (.int (h:Int)),x] G) Q:=by
 obtain⟨⟨c,_⟩,zs,ok⟩:=zFc f;refine zJl (na:=36) (nf:=33) (nr:=34) (nw:=37) (ne:=0) rfl rfl rfl rfl rfl zNh ok dr λP=>?_
 have T:=zSL (G++P) (λr=>((tabR w h rs).getD r []).map ratD) h;rw[q0,q0 G] at T ⊢;refine b _ _ _ ⟨T,λp a=>?_,by rw[qQ];omega,?_⟩
 .obtain ⟨r,d,rfl⟩:=zKf a;show G.length<=(G++P).length+r;rw[qQ];omega
 .unfold lpT;rw[map_map,zHQ c]
  rfl
def m43 (f:Fl w h rs)(dr:drW G x=some (zBp rs))(g:∀ (P:Mem) (m:Nat) (l:Lp),Rw (G++P) m G.length l ((tabR w h rs).map (List.map λq=>ratD (cov q)))->Q (.loc m,G++P)):EvP (FM43 [.dat (.int (w:Int)),.dat (.int (h:Int)),x] G) Q:=by
 refine zC2 rfl (by decide) ?_;unfold mb43;show EvP (evSs' GL3 D5 _ ⟨[some (.dat (.int (w:Int))),some (.dat (.int (h:Int))),some x],G⟩) _;refine zAB (zBo (zBM (F:=FM41) rfl (zAD (zBM (F:=FM38) rfl (zAD (zAM rfl (zAD (zAM rfl (zAD (zAM rfl (zAY ?_)))))))))));refine(show EvP (FM38 [.dat (.int (w:Int)),.dat (.int (h:Int)),x] G) _ from ?_);refine zT6 f dr λP m l e=>?_
 refine zAD (zAa rfl (zCk (d:=.fn 11 "cover") rfl (zAf rfl (zAY ?_))));refine(show EvP (FM41 [.loc m,.dat (.fn 11 "cover")] (G++P)) _ from ?_);refine m41 (f:=.fn 11 "cover") rfl (rows:=tabR w h rs) (u:=ratD) (v:=λq=>ratD (cov q)) e (by rw[zDN f];have:=f.h2;omega) (λqs hq=>⟨(zCf f qs hq).1,λq c=>⟨zTd (F:=F11) rfl λQ a=>h11 q 220900 Q ((zCf f qs hq).2 q c) (by decide) (by decide) a,rfl⟩⟩) λP2 i R2=>zDp ?_
 rw[q0] at R2 ⊢;exact g _ _ _ (R2.below (by rw[qQ];omega))
def zKm (h1:ws.length=np)(h2:np<=nN)
  (h:EvP (gp ⟨ws.map some++List.replicate (nN - np) none,G⟩) λo=>∃ s,o=.nx s/\EvP (ge s) λw=>∃ ds,capD ix s.O=some ds/\noLs ds=true/\EvP (Fg [w.1,.dat (.lam j L ds)] w.2) Q):EvP (lamM Fg j L ix np nN gp ge ws G) Q:=by
 obtain⟨o,a,s,rfl,w,d,ds,b,e,r,c,q⟩:=h;refine zC2 h1 h2 ⟨.rt r,?_,q⟩;rw[a,qx];unfold retM lamE
 simp_all
def m44 (f:Fl w h rs)(c:RB 80 t)(dr:drW G x=some (zBp rs))(g:∀ (P:Mem) (m:Nat) (l:Lp),Rw (G++P) m G.length l ((tabR w h rs).map (List.map λq=>ratD (cov q*t)))->Q (.loc m,G++P)):EvP (FM44 [.dat (.int (w:Int)),.dat (.int (h:Int)),x,.dat (ratD t)] G) Q:=by
 refine zKm rfl (by decide) ⟨_,rfl,_,rfl,?_⟩;show EvP (evM GL3 D6 me0 ⟨[some (.dat (.int (w:Int))),some (.dat (.int (h:Int))),some x,some (.dat (ratD t))],G⟩) _;unfold me0;refine zBM (F:=FM43) rfl (zAD (zAM rfl (zAD (zAM rfl (zAD (zAM rfl (zAY ?_)))))));refine(show EvP (FM43 [.dat (.int (w:Int)),.dat (.int (h:Int)),x] G) _ from ?_);refine m43 f dr λP m l e=>⟨[ratD t],rfl,rfl,?_⟩
 refine m41 (f:=.lam 0 L0 [ratD t]) rfl (rows:=tabR w h rs) (u:=λq=>ratD (cov q)) (v:=λq=>ratD (cov q*t)) e (by rw[zDN f];have:=f.h2;omega) (λqs hq=>⟨(zCf f qs hq).1,λq a=>⟨zLl (FL:=FL0) rfl λQ d=>?_,rfl⟩⟩) λP2 i R2=>?_
 .refine zIA rfl rfl ?_;show EvP (evE G58 lb0 [some (ratD (cov q),false),some (ratD t,false)]) _;unfold lb0;(walk_at "w");refine h4 (cov q) t 220900 80 _ (zIT ((zCf f qs hq).2 q a) (by decide)) c (by decide) ?_;(walk_at "w");exact d
 rw[q0] at R2 ⊢;exact g _ _ _ (R2.below (by rw[qQ];omega))
abbrev zJE (a:Nat) (ink:D) (t:Rat):W:=.obj "Fill" ["shape","ink","strength"] [.loc a,.dat ink,.dat (ratD t)]
abbrev rubW (a:Nat) (t:Rat):W:=.obj "Rub" ["shape","strength"] [.loc a,.dat (ratD t)]
def m39 (e:Rw G n b l rows)(c:rows.length<=100)(f:∀ ds∈rows,noLs ds=true)(i:∀ (P:Mem) (m:Nat) (l':Lp),Rw (G++P) m G.length l' rows->Q (.loc m,G++P)):EvP (FM39 [.loc n] G) Q:=by
 refine zC2 rfl (by decide) ?_;unfold mb39;show EvP (evSs' GL3 D2 _ ⟨[some (.loc n)],G⟩) _;have d:Rw G n b l (rows.map id):=by rw[List.map_id];exact e
 refine zAB (zBo (zJp (as:=rows) (u:=id) (v:=id) (zBn (zAM rfl ⟨n,rfl,rfl⟩)) d rfl c (λP m ds g h=>?_) λP l' a=>zDp (i P _ l' (by rw[List.map_id] at a;exact a))));exact zAa rfl (zHa (zAI (zAF rfl (zF6 h)) (zN6 (zL2 (f ds g) rfl))))
def StO (o:D)(t:Rat):Prop:=(o=.non/\t=1)\/o=ratD t
def zHu (h:StO o t)(q:Q (ratD t,.cl)):EvP (F40 [o]) Q:=by
 rcases h with ⟨rfl,rfl⟩ | rfl
 .exact h40n Q q
 .exact h40 t Q q
def zUL (e:Rw G n b l rows)(c:rows.length<=100)(a:∀ ds∈rows,noLs ds=true)(d:StO o t)(f:∀ (P:Mem) (m:Nat) (l':Lp),Rw (G++P) m G.length l' rows->Q (zJE m ink t,G++P)):EvP (zC1 [.loc n,.dat ink,.dat o] G) Q:=by
 refine zF0 rfl rfl ?_;show EvP (zD9 [("shape",evM GL3 D8 (.call 2 "own_shape" (.cons (.var 1) .nil))),("ink",evM GL3 D8 (.var 2)),("strength",evM GL3 D8 (.pur (.call 40 "strength_or_one" (.cons (.var 3) .nil))))] ⟨[none,some (.loc n),some (.dat ink),some (.dat o)],G⟩) _;refine zCQ (zBM (F:=FM39) rfl (zAD (zAM rfl (zAY ?_))));refine m39 e c a λP m l' g=>?_
 refine zCQ (zAM rfl (zCQ (zAa rfl (zAK rfl (zAC (zAI (zAF rfl zAL) (n_cl (zAT ?_))))))));exact zHu d (n_cl (zAf rfl (zIC (f P m l' g))))
def mRub (e:Rw G n b l rows)(f:rows.length<=100)(d:∀ ds∈rows,noLs ds=true)(a:StO o t)(g:∀ (P:Mem) (m:Nat) (l':Lp),Rw (G++P) m G.length l' rows->Q (rubW m t,G++P)):EvP (zCJ [.loc n,.dat o] G) Q:=by
 refine zF0 rfl rfl ?_;show EvP (zD9 [("shape",evM GL3 D9 (.call 2 "own_shape" (.cons (.var 1) .nil))),("strength",evM GL3 D9 (.pur (.call 40 "strength_or_one" (.cons (.var 2) .nil))))] ⟨[none,some (.loc n),some (.dat o)],G⟩) _;refine zCQ (zBM (F:=FM39) rfl (zAD (zAM rfl (zAY ?_))));refine m39 e f d λP m l' c=>?_
 refine zCQ (zAa rfl (zAK rfl (zAC (zAI (zAF rfl zAL) (n_cl (zAT ?_))))));exact zHu a (n_cl (zAf rfl (zIC (g P m l' c))))
def zLE (F:MF)(ob:W)(w h:Nat)(G:Mem)(v:List (List D)):Prop:=∀ Q:MR->Prop,(∀ (P:Mem) (m:Nat) (l:Lp),Rw (G++P) m G.length l v->Q (.loc m,G++P))->EvP (F [ob,.dat (.int (w:Int)),.dat (.int (h:Int))] G) Q
def zUp (f:Fl w h rs)(c:RB 80 t)(h1:I255 r)(h2:I255 g)(h3:I255 b)(dr:drW G (.loc a)=some (zBp rs)):zLE zBO (zJE a (inkD r g b) t) w h G ((tabR w h rs).map (List.map λq=>fmD (zI6 (cov q*t) r g b))):=λQ k=>by
 refine zKm rfl (by decide) ?_;show EvP (evS' GL3 D12 (.set 3 _) ⟨[some (zJE a (inkD r g b) t),some (.dat (.int (w:Int))),some (.dat (.int (h:Int))),none],G⟩) _;refine zAn (zBM (F:=FM44) rfl (zAD (zAM rfl (zAD (zAM rfl (zAD (zKb (zAM rfl ⟨_,_,_,_,rfl,by decide,rfl,zAD (zKb (zAM rfl ⟨_,_,_,_,rfl,by decide,rfl,zAY ?_⟩))⟩))))))));refine(show EvP (FM44 [.dat (.int (w:Int)),.dat (.int (h:Int)),.loc a,.dat (ratD t)] G) _ from ?_);refine m44 f c dr λP m l j=>⟨_,rfl,?_⟩
 (walk_at "s");refine zAM rfl ⟨[.obj "Fill" ["ink","strength"] [inkD r g b,ratD t]],rfl,rfl,?_⟩;refine m41 (f:=.lam 1 L1 [.obj "Fill" ["ink","strength"] [inkD r g b,ratD t]]) rfl (rows:=tabR w h rs) (u:=λq=>ratD (cov q*t)) (v:=λq=>fmD (zI6 (cov q*t) r g b)) j (by rw[zDN f];have:=f.h2;omega) (λqs hq=>⟨(zCf f qs hq).1,λq d=>⟨zLl (FL:=FL1) rfl λQ i=>?_,rfl⟩⟩) λP2 n R2=>?_
 .refine zIA rfl rfl ?_;show EvP (evE GL0 lb1 [some (ratD (cov q*t),false),some (.obj "Fill" ["ink","strength"] [inkD r g b,ratD t],false)]) _;unfold lb1;refine zAK rfl (zAC (zAI rfl (n_cl (zAC (zLO (zAI rfl ⟨_,_,_,_,rfl,by decide,rfl,n_cl (zAT ?_)⟩))))));refine (zSX rfl rfl h13 h14) (cov q*t) r g b 4000081 _ ((zAi (zIT ((zCf f qs hq).2 q d) (by decide)) c).mono (by decide)) (by decide) h1 h2 h3 ?_;exact n_cl i
 rw[q0] at R2 ⊢;exact k _ _ _ (R2.below (by rw[qQ];omega))
def fRub (f:Fl w h rs)(b:RB 80 t)(dr:drW G (.loc a)=some (zBp rs)):zLE zBZ (rubW a t) w h G ((tabR w h rs).map (List.map λq=>fmD ⟨1 - cov q*t,0,0,0,0⟩)):=λQ j=>by
 refine zC2 rfl (by decide) ?_;unfold zDz;show EvP (evSs' GL3 D13 _ ⟨[some (rubW a t),some (.dat (.int (w:Int))),some (.dat (.int (h:Int)))],G⟩) _;refine zAB (zBo (zBM (F:=FM41) rfl (zAD (zBM (F:=FM44) rfl (zAD (zAM rfl (zAD (zAM rfl (zAD (zKb (zAM rfl ⟨_,_,_,_,rfl,by decide,rfl,zAD (zKb (zAM rfl ⟨_,_,_,_,rfl,by decide,rfl,zAY ?_⟩))⟩)))))))))));refine(show EvP (FM44 [.dat (.int (w:Int)),.dat (.int (h:Int)),.loc a,.dat (ratD t)] G) _ from ?_);refine m44 f b dr λP m l i=>?_
 refine zAD (zAa rfl (zCk (d:=.fn 17 "rub_film") rfl (zAf rfl (zAY ?_))));refine(show EvP (FM41 [.loc m,.dat (.fn 17 "rub_film")] (G++P)) _ from ?_);refine m41 (f:=.fn 17 "rub_film") rfl (rows:=tabR w h rs) (u:=λq=>ratD (cov q*t)) (v:=λq=>fmD ⟨1 - cov q*t,0,0,0,0⟩) i (by rw[zDN f];have:=f.h2;omega) (λqs hq=>⟨(zCf f qs hq).1,λq c=>⟨zTd (F:=F17) rfl λQ g=>(zRS rfl rfl h13) (cov q*t) 4000081 Q ((zAi (zIT ((zCf f qs hq).2 q c) (by decide)) b).mono (by decide)) (by decide) g,rfl⟩⟩) λP2 k R2=>zDp ?_
 rw[q0] at R2 ⊢;exact j _ _ _ (R2.below (by rw[qQ];omega))
def idxs :∀ x∈rngL 0 n,∃ k:Nat,x=.int (k:Int)/\k < n:=λx a=>by
 obtain⟨k,rfl,b,k1⟩:=zFj a;exact⟨k.toNat,by rw[show ((k.toNat:Nat):Int)=k by omega],by omega⟩
abbrev fsD (T:List (List (List Rat))):D:=.lst (T.map λr=>.lst (r.map rsD))
def h62 (T:List (List (List Rat)))(Q:R->Prop)(B:T.length<=100)(A:∀ r∈T,r.length<=100)(v:Q (.bl true,.cl)):EvP (F62 [fsD T,fsD T]) Q:=by
 (walk_at "d");unfold b62;(walk_at "st");refine zAH (zEf (zLJ (zLK (zGl (zLN (zAI rfl (zPr (x_bl (x_bl (cb_f ?_))))))))));refine zLL (zBg (zBt (zAI rfl (zEu (zBt (zAI rfl (zEu ?_)))))));refine zQ2 (x_bl (zLr (zD3 rfl (zBQ (k_nx ?_)))));refine zAH (zDL (zIl (zBt (zAI rfl (zEu ⟨_,rfl,by rw[qy];omega,?_⟩)))));rw[qy,toNat_natCast];have c:∀ {i:Nat} {r:List (List Rat)},T[i]?=some r->atI (T.map λr=>D.lst (r.map rsD)) (i:Int)=some (.lst (r.map rsD)):=λ{i r} e=>zAx (by rw[getElem?_map,e];rfl)
 refine zD1 (λxs O=>(∃ a b,O=[some (fsD T,false),some (fsD T,false),a,b])/\∀ x∈xs,∃ k:Nat,x=.int (k:Int)/\k < T.length) ?_ ?_ _ _ ⟨⟨none,none,rfl⟩,idxs⟩
 .rintro x xs O ⟨⟨a,b,rfl⟩,o⟩;obtain⟨i,rfl,u⟩:=o x q8;have f:T[i]?=some T[i]:=getElem?_eq_getElem u;have t:=A _ (mem_of_getElem? f);generalize T[i]=r at f t;refine⟨_,rfl,?_⟩;(walk_at "s");refine zAH (zEf (zLJ (zLK (zGl (zLN (zBA (zAI rfl (zAI rfl (zAw (c f) (zPr (x_bl (x_bl (cb_f ?_)))))))))))));refine zLL (zBg (zBt (zBA (zAI rfl (zAI rfl (zAw (c f) (zEu (zBt (zBA (zAI rfl (zAI rfl (zAw (c f) (zEu ?_)))))))))))));refine zQ2 (x_bl (zLr (zD3 rfl (zBQ (k_nx ?_)))));refine zAH (zDL (zIl (zBt (zBA (zAI rfl (zAI rfl (zAw (c f) (zEu ⟨_,rfl,by rw[qy];omega,?_⟩))))))));rw[qy,toNat_natCast];have g:∀ {j:Nat} {p:List Rat},r[j]?=some p->atI (r.map rsD) (j:Int)=some (rsD p):=λ{j p} e=>zAx (by rw[getElem?_map,e];rfl)
  refine zD1 (λys O=>(∃ b,O=[some (fsD T,false),some (fsD T,false),some (.int (i:Int),false),b])/\∀ x∈ys,∃ k:Nat,x=.int (k:Int)/\k < r.length) ?_ ?_ _ _ ⟨⟨b,rfl⟩,idxs⟩
  .rintro y ys O ⟨⟨b,rfl⟩,n⟩;obtain⟨j,rfl,l⟩:=n y q8;have m:r[j]?=some r[j]:=getElem?_eq_getElem l;generalize r[j]=p at m;refine⟨_,rfl,?_⟩;(walk_at "s");refine zAH (zEf (zGl (zAK rfl (zAC (zBA (zBA (zAI rfl (zAI rfl (zAw (c f) (zAI rfl (zAw (g m) (n_cl (zAC (zBA (zBA (zAI rfl (zAI rfl (zAw (c f) (zAI rfl (zAw (g m) (n_cl (zAT ?_))))))))))))))))))))));refine h54 p _ ?_;refine n_cl (x_bl (x_bl (cb_f (zBQ (k_nx (zBQ ?_))))));exact⟨⟨_,rfl⟩,λy h=>n y (qJ _ h)⟩
  .rintro O ⟨⟨b,rfl⟩,_⟩;refine k_nx (zBQ ?_);exact⟨⟨_,_,rfl⟩,λy h=>o y (qJ _ h)⟩
 .rintro O ⟨⟨a,b,rfl⟩,_⟩;refine k_nx ?_;(walk_at "w");exact v
def zO3 (top:G[n]?=some (news m rows.length))(d:∀ (i:Nat) ds,rows[i]?=some ds->G[m+i]?=some (ds.map .dat))(g:b<=n)(h:b<=m):∃ l,Rw G n b l rows:=by
 have f:∀ p∈(List.range rows.length).map (λj=>(m+j,(rows[j]?).getD [])),∃ j ds,rows[j]?=some ds/\p=(m+j,ds):=λp a=>by
  obtain⟨j,c,rfl⟩:=mem_map.mp a;have c:=mem_range.mp c;exact⟨j,rows[j],getElem?_eq_getElem c,by rw[getElem?_eq_getElem c];rfl⟩
 refine⟨(List.range rows.length).map λj=>(m+j,(rows[j]?).getD []),⟨by rw[map_map];exact top,λp a=>?_⟩,λp a=>?_,g,?_⟩
 .obtain ⟨j,ds,e,rfl⟩:=f p a;exact d j ds e
 .obtain ⟨j,ds,e,rfl⟩:=f p a;exact le_trans h (Nat.le_add_right _ _)
 .rw [map_map];apply ext_getElem?;intro i;rw[getElem?_map];by_cases q:i < rows.length
  .rw [getElem?_range q,getElem?_eq_getElem q];simp[getElem?_eq_getElem q]
  .rw [getElem?_eq_none (by rw[length_range];omega),getElem?_eq_none (by omega)]
   rfl
def zJu (a:List (List Pt)):D.lst ((a.map λps=>ps.map ptD).map .lst)=zBp a:=by
 unfold zBp;rw[map_map]
 rfl
def Rw.shape (e:Rw G n b l (rs.map λps=>ps.map ptD)):drW G (.loc n)=some (zBp rs):=by rw[e.dr,zJu]
def zIH {b:List (List Pt)}:∀ ds∈b.map (λps=>ps.map ptD),noLs ds=true:=λds a=>by
 obtain⟨ps,_,rfl⟩:=mem_map.mp a;exact zKP ps
def zMn {O:List (Option W)}:mask none [] O=O:=by unfold mask;simp
def h18:zTn F18:=zPo (nt:=4) (ns:=15) rfl rfl h4 (zO1 (nm:=14) (np:=2) rfl rfl h14 h2)
def h51:zEw F51:=zMt (nr:=50) rfl h50
def h55 (c:Int)(Q:R->Prop)(h:∀ q:Rat,RB 80 q->Q (ratD q,.cl)):EvP (F55 [.int c]) Q:=by
 (walk_at "d");unfold b55;(walk_at "st");refine zAH ?_;(walk_at "e");refine zA7 (by decide) ?_;(walk_at "e");have g:=xX c (show (0:Int) < 6 by decide);have a:=fmod_lt_of_pos c (show (0:Int) < 6 by decide);refine zAH ?_;(walk_at "e");refine zCH (zBU (by decide) (by decide)) ?_;(walk_at "w");refine zA7 (by decide) ?_;(walk_at "w");refine zBI (λ_=>?_) λ_=>?_
 ·(walk_at "w");exact h 0 (zBK.mono (by decide))
 (walk_at "w");refine zA7 (by decide) ?_;(walk_at "w");refine zBI (λ_=>?_) λ_=>?_
 ·(walk_at "w");exact h 1 (zB0.mono (by decide))
 (walk_at "w");refine zCH (zBU (by decide) (by decide)) ?_;(walk_at "w");refine zA4 (zFC (by decide)) ?_;(walk_at "w");refine zA7 (by omega) ?_;(walk_at "w");have b:=xX (Int.fdiv (c.fdiv 6) 9*48271) (show 0 < 1+c.fmod 6+1 by omega);have f:=fmod_lt_of_pos (Int.fdiv (c.fdiv 6) 9*48271) (show 0 < 1+c.fmod 6+1 by omega);refine h50 _ _ _ (by omega) ?_;(walk_at "w");exact h _ (zE2 (by omega) (zD0 (k:=100) (by omega) (by decide)) (zD0 (k:=100) (by omega) (by decide)))
noncomputable def zPp:S:=.cons (.app 2 (.call 51 "_law_plus" (.cons (.ix (.var 0) (.var 3)) (.cons (.call 53 "_law_times" (.cons (.ix (.var 0) (.int 0)) (.cons (.ix (.var 1) (.var 3)) .nil))) .nil)))) .nil
def zDY (a:FB m f)(d:atI ([f.k,f.a,f.r,f.g,f.b].map ratD) k=some (ratD p))(b:atI ([g.k,g.a,g.r,g.g,g.b].map ratD) k=some (ratD q))(c:RB m p)(hq:RB n q)(i:xs.length<=10)(l:m+n<=10000000)
  (h:Q (.nx [some (fmD f,false),some (fmD g,false),some (.lst (xs++[ratD (p+f.k*q)]),true),some (.int k,false)])) :
  EvP (evSs G56 zPp [some (fmD f,false),some (fmD g,false),some (.lst xs,true),some (.int k,false)]) Q:=by
 unfold zPp;refine zAH (zDa rfl (by omega) ?_);(walk_at "e");refine zDJ d ?_;(walk_at "e");refine fm_k ?_;(walk_at "e");refine zDJ b ?_;(walk_at "e");refine h53 f.k q m n _ a.k hq (by omega) ?_;(walk_at "e");refine h51 _ _ m (m+n) _ c (zAi a.k hq) (by omega) ?_;(walk_at "e");refine zBQ ?_;exact h
def h56 (f g:Fm)(m n:Nat)(Q:R->Prop)(a:FB m f)(b:FB n g)(l:m+n<=10000000)(h:Q (fmD (jn f g),.cl)):EvP (F56 [fmD f,fmD g]) Q:=by
 (walk_at "d");unfold b56;(walk_at "st");refine zAH ?_;(walk_at "e");refine fm_k ?_;(walk_at "e");refine fm_k ?_;(walk_at "e");refine h53 f.k g.k m n _ a.k b.k (by omega) ?_;(walk_at "e");refine zAH ?_;(walk_at "e");refine⟨_,_,rfl,rfl,by decide,?_⟩;show EvP (forD (tg1 3) (evSs G56 zPp) [.int 1,.int 2,.int 3,.int 4] [some (fmD f,false),some (fmD g,false),some (.lst [ratD (f.k*g.k)],true),none]) _;refine zBb rfl (zDY a (p:=f.a) (q:=g.a) rfl rfl a.a b.a (zzb rfl) l ?_);refine zFx (zBb rfl (zDY a (p:=f.r) (q:=g.r) rfl rfl a.r b.r (zzb rfl) l ?_));refine zFx (zBb rfl (zDY a (p:=f.g) (q:=g.g) rfl rfl a.g b.g (zzb rfl) l ?_));refine zFx (zBb rfl (zDY a (p:=f.b) (q:=g.b) rfl rfl a.b b.b (zzb rfl) l ?_));refine zFx (zGj (k_nx ?_));refine zAH (zBH (zEe ?_));(walk_at "w");refine zJU ?_;(walk_at "w");unfold jn at h;rw[Rat.mul_comm g.a,Rat.mul_comm g.r,Rat.mul_comm g.g,Rat.mul_comm g.b] at h;exact h
def h57 (f:Fm)(t:Rat)(m n:Nat)(Q:R->Prop)(b:FB m f)(a:RB n t)(l:m+n<=10000000)(h:Q (fmD (mx f t),.cl)):EvP (F57 [fmD f,ratD t]) Q:=by
 (walk_at "d");unfold b57;(walk_at "st");refine zAH ?_;(walk_at "e");refine h52 1 t 1 n _ zB0 a (by omega) ?_;(walk_at "e");refine fm_k ?_;(walk_at "e");refine h53 t f.k n m _ a b.k (by omega) ?_;(walk_at "e");refine h51 _ _ (1+n+1) (n+m) _ (zCZ zB0 a) (zAi a b.k) (by omega) ?_;(walk_at "e");refine zAH (zDL (zG6 (zEd rfl ?_)));refine w_tu (ds:=[ratD f.a,ratD f.r,ratD f.g,ratD f.b]) ?_;refine zBb rfl ?_;(walk_at "s");refine zAH (zDa rfl (by exact zzb rfl) ?_);(walk_at "e");refine h53 t f.a n m _ a b.a (by omega) ?_;(walk_at "e");refine zBQ (zFx (zBb rfl ?_));(walk_at "s");refine zAH (zDa rfl (by exact zzb rfl) ?_);(walk_at "e");refine h53 t f.r n m _ a b.r (by omega) ?_;(walk_at "e");refine zBQ (zFx (zBb rfl ?_));(walk_at "s");refine zAH (zDa rfl (by exact zzb rfl) ?_);(walk_at "e");refine h53 t f.g n m _ a b.g (by omega) ?_;(walk_at "e");refine zBQ (zFx (zBb rfl ?_));(walk_at "s");refine zAH (zDa rfl (by exact zzb rfl) ?_);(walk_at "e");refine h53 t f.b n m _ a b.b (by omega) ?_;(walk_at "e");refine zBQ (zFx (zGj (k_nx ?_)));refine zAH (zBH (zEe ?_));(walk_at "w");refine zJU ?_;(walk_at "w");have e:mx f t=⟨1 - t+t*f.k,t*f.a,t*f.r,t*f.g,t*f.b⟩:=by
  unfold mx;rw[Rat.mul_comm f.a,Rat.mul_comm f.r,Rat.mul_comm f.g,Rat.mul_comm f.b]
 rw[e] at h;exact h
def h58 (f:Fm)(t:Rat)(m n:Nat)(Q:R->Prop)(a:FB m f)(b:RB n t)(l:m+n<=10000000)(h:Q (fmD (al f t),.cl)):EvP (F58 [fmD f,ratD t]) Q:=by
 (walk_at "d");unfold b58;(walk_at "st");refine zAH (zF5 (zCS (zG6 (zEd rfl ?_))));refine w_tu (ds:=[ratD f.a,ratD f.r,ratD f.g,ratD f.b]) ?_;refine⟨zzb rfl,?_⟩;refine zBu ?_;simp only[mask,cons_append,nil_append,List.set_cons_zero,List.set_cons_succ];(walk_at "e");refine h53 t f.a n m _ b a.a (by omega) ?_;(walk_at "e");refine zBu ?_;(walk_at "s");(walk_at "e");refine h53 t f.r n m _ b a.r (by omega) ?_;(walk_at "e");refine zBu ?_;(walk_at "s");(walk_at "e");refine h53 t f.g n m _ b a.g (by omega) ?_;(walk_at "e");refine zBu ?_;(walk_at "s");(walk_at "e");refine h53 t f.b n m _ b a.b (by omega) ?_;(walk_at "e");refine zLm ?_;(walk_at "e");refine⟨true,rfl,k_nx ?_⟩;refine zAH (zBH (zEe ?_));(walk_at "e");refine h52 1 _ 1 (n+m) _ zB0 (zAi b a.a) (by omega) ?_;(walk_at "e");refine zLv (zzb rfl) ?_;(walk_at "e");refine zJU ?_;(walk_at "w");have e:al f t=⟨1 - t*f.a,t*f.a,t*f.r,t*f.g,t*f.b⟩:=by
  unfold al;rw[Rat.mul_comm f.a,Rat.mul_comm f.r,Rat.mul_comm f.g,Rat.mul_comm f.b]
 rw[e] at h;exact h
def crng {n:Nat}(P:Nat->Mem->List W->Prop)(l:EvP (evM J U a ⟨O,G⟩) λr=>r=(.dat (.int (n:Int)),G))(m:(mask none ms O).length=N)(A:n<=100)(h0:P 0 G [])(h:∀ j G' d,P j G' d->d.length=j)
  (step:∀ j G' d,j < n->P j G' d->EvP (evM J U el ⟨mask none ms O++[some (.dat (.int (j:Int)))],G'⟩) λr=>P (j+1) r.2 (d++[r.1])) (v:∀ G' d,P n G' d->Q (.loc G'.length,G'++[d])):EvP (evM J U (.comp N ms nm (.rng a) el) ⟨O,G⟩) Q:=by
 obtain⟨r,u,rfl⟩:=l;refine zES (zBa ⟨_,u,_,rfl,by omega,?_⟩);dsimp only;rw[toNat_natCast];obtain⟨y,B,M,x,⟨o,f⟩,p4⟩:=zEj (t:=tgM N) (e:=evM J U el) (src:=.items ((rngL 0 n).map .dat)) (s:=⟨mask none ms O++[none],G⟩) ((rngL 0 n).map .dat) (λj s d=>∃ o:Option W,s.O=mask none ms O++[o]/\P j s.G d) (λ_ _ _ _=>rfl) (λj w s d z b=>by
   obtain⟨o,q,g⟩:=b;obtain⟨rfl,p⟩:=idx z;obtain⟨r,i,k⟩:=step j s.G d p g;refine⟨by rw[h j _ _ g];omega,⟨mask none ms O++[some (.dat (.int (j:Int)))],s.G⟩,r,?_,i,_,rfl,k⟩;unfold tgM;rw[q,set_append_right _ _ (by omega),m,sub_self]
   rfl) ⟨none,rfl,h0⟩
 rw[nrng] at f;obtain⟨_,c⟩:=f;refine⟨y,M,x,by rw[h n _ _ c];omega,?_⟩;rw[<- p4];exact v _ _ c
abbrev rT (w:Nat) (K:Nat->Nat->Fm) (j:Nat):List D:=(List.range w).map λi=>fmD (K j i)
abbrev mT (w h:Nat) (K:Nat->Nat->Fm):List (List D):=(List.range h).map (rT w K)
structure TB (n w h:Nat)(K:Nat->Nat->Fm):Prop where
 b:∀ j i,j < h->i < w->FB n (K j i)
def TB.mono (t:TB m w h K)(l:m<=n):TB n w h K:=⟨λj i a b=>(t.b j i a b).mono l⟩
def zMV (a:i < w):atI (rT w K j) (i:Int)=some (fmD (K j i)):=zAx (by rw[getElem?_map,getElem?_range a];rfl)
def zKc (a:j < h):atI ((mT w h K).map D.lst) (j:Int)=some (.lst (rT w K j)):=zAx (by rw[getElem?_map,getElem?_map,getElem?_range a];rfl)
def rrow {n:Nat}(f:EvP (evM J U a ⟨O,G⟩) λr=>r=(.dat (.int (n:Int)),G))(i:(mask none ms O).length=N)(c:n<=100)
  (k:∀ j,j < n->EvP (evM J U el ⟨mask none ms O++[some (.dat (.int (j:Int)))],G⟩) λr=>r=(.dat (v j),G)) (g:Q (.loc G.length,G++[((List.range n).map v).map .dat])):EvP (evM J U (.comp N ms nm (.rng a) el) ⟨O,G⟩) Q:=by
 refine crng (λj b d=>b=G/\d=((List.range j).map v).map .dat) f i c ⟨rfl,rfl⟩ (λj b d h=>by rw[h.2];simp) (λj b d l h=>?_) λG' d h=>by rw[h.1,h.2];exact g
 obtain⟨rfl,rfl⟩:=h;obtain⟨r,e,rfl⟩:=k j l;exact⟨_,e,rfl,by rw[range_succ,xJ,xJ];rfl⟩
def zFi (G:Mem)(b:Nat)(v:Nat->List D)(j:Nat)(G':Mem):Prop:=Kq G G'/\∃ l,Rw G' b G.length l ((List.range j).map v)
def zFi.snoc (h:zFi G b v j G'):∃ l:Lp,G'[b]?=some (l.map λp=>W.loc p.1)/\l.length=j/\zFi G b v (j+1) ((G'++[(v j).map W.dat]).set b (l.map (λp=>W.loc p.1)++[W.loc G'.length])):=by
 obtain⟨k,l,R⟩:=h;have lt:=R.lt;refine⟨l,R.ll.top,by rw[R.len];simp,k.app.set R.top,l++[(G'.length,v j)],⟨zKk (R.keep zBG).ll zAU (by omega),λp a=>?_,R.top,?_⟩⟩
 .rcases mem_append.mp a with z | z
  .exact R.lo p z
  .rw [mem_singleton.mp z];exact k.le
 .rw [xJ,R.snd,range_succ,xJ];rfl
def zFi.nil :zFi G G.length v 0 (G++[[]]):=⟨zBG,[],⟨zAU,λp a=>absurd a (by simp)⟩,λp a=>absurd a (by simp),le_refl _,rfl⟩
abbrev flK (F:MF) (ob:W) (w h:Nat) (G:Mem) (K:Nat->Nat->Fm):Prop:=∀ Q:MR->Prop,(∀ (G':Mem) (m:Nat) (l:Lp),Kq G G'->Rw G' m G.length l (mT w h K)->Q (.loc m,G'))->EvP (F [ob,.dat (.int (w:Int)),.dat (.int (h:Int))] G) Q
noncomputable def jT (K r:Nat->Nat->Fm):Nat->Nat->Fm:=λj i=>jn (K j i) (r j i)
def TB.jn (a:TB m w h K)(b:TB n w h r):TB (m+(n+m)+1) w h (jT K r):=⟨λj i c d=>zUn (a.b j i c d) (b.b j i c d)⟩
def m42 {b1 b2:Nat}(u:Rw G n1 b1 l1 (mT w h K))(R2:Rw G n2 b2 l2 (mT w h r))(z:TB p w h K)(g:TB q w h r)(l:p+q<=10000000)(B:w<=10)(D:h<=10)
  (x:∀ (G':Mem) (m:Nat) (l:Lp),Kq G G'->Rw G' m G.length l (mT w h (jT K r))->Q (.loc m,G')):EvP (FM42 [.loc n1,.loc n2,.dat (.fn 18 "joined")] G) Q:=by
 refine zC2 rfl (by decide) ?_;unfold mb42;show EvP (evSs' GL3 D4 _ ⟨[some (.loc n1),some (.loc n2),some (.dat (.fn 18 "joined")),none,none],G⟩) _;refine zAB (zAn (zDk (zAY ⟨zero_le _,zAP ?_⟩)));(walk_at "s");have a:∀ {G'},Kq G G'->drW G' (.loc n1)=some (.lst ((mT w h K).map .lst)):=λk=>(u.keep k).dr
 have d:∀ {G'},Kq G G'->drW G' (.loc n2)=some (.lst ((mT w h r).map .lst)):=λk=>(R2.keep k).dr
 refine zAB (zBR (zBa (zAa rfl (zBt (zAI (zAF rfl (a zBG)) (zEu (zAf rfl ⟨_,rfl,?_,?_⟩)))))))
 .rw [qy,qy,length_range];omega
 rw[qy,qy,length_range,toNat_natCast];refine zCG (s:=⟨_,_⟩) ((rngL 0 h).map .dat) (λj s=>∃ (e:Option W) (G':Mem),s=⟨[some (.loc n1),some (.loc n2),some (.dat (.fn 18 "joined")),some (.loc G.length),e],G'⟩/\zFi G G.length (rT w (jT K r)) j G') (λ_ _ _=>rfl) ?_ ?_ ⟨none,_,rfl,zFi.nil⟩
 .rintro j y s t ⟨e,G',rfl,I⟩;obtain⟨rfl,b⟩:=idx t;refine⟨_,rfl,?_⟩;dsimp only;(walk_at "s");obtain⟨o,A,C,f⟩:=I.snoc;have k:=I.1;refine zAB (zCA (zAM rfl (rrow (n:=w) (v:=λi=>fmD (jT K r j i)) ?_ rfl (by omega) (λi c=>?_) ⟨_,_,rfl,zAR A,by rw[qy];omega,zAP (zAq ?_)⟩)))
  .refine zAa rfl (zBt (zBA (zAI (zAF rfl (a k)) (zAI (zAF rfl zAL) (zAw (zKc b) (zEu (zAf rfl ?_)))))));rw[qy,length_range]
  .show EvP (evM GL3 D4 _ ⟨[some (.loc n1),some (.loc n2),some (.dat (.fn 18 "joined")),some (.loc G.length),some (.dat (.int (j:Int))),some (.dat (.int (i:Int)))],G'⟩) _;refine zAa rfl (zNQ (F:=F18) (zAF rfl zAL) rfl (zAC (zBA (zBA (zAI (zAF rfl (a k)) (zAI (zAF rfl zAL) (zAw (zKc b) (zAI (zAF rfl zAL) (zAw (zMV c) (n_cl (zAC (zBA (zBA (zAI (zAF rfl (d k)) (zAI (zAF rfl zAL) (zAw (zKc b) (zAI (zAF rfl zAL) (zAw (zMV c) (n_cl (zAT ?_))))))))))))))))))));exact h18 _ _ p q _ (z.b j i b c) (g.b j i b c) l (n_cl (zAf rfl rfl))
  .dsimp only;exact⟨_,_,rfl,f⟩
 .rintro s ⟨e,G',rfl,k,o,R⟩;rw[nrng] at R;exact zAP (zAB (zBo (zAM rfl (zDp (x _ _ _ k R)))))
structure Tat (G:Mem)(a h:Nat)(v:Nat->List D):Prop where
 top:G[a+h]?=some (news a h)
 row:∀ j,j < h->G[a+j]?=some ((v j).map .dat)
theorem Tat.rw (t:Tat G a h v):∃ l,Rw G (a+h) a l ((List.range h).map v):=by
 refine zO3 (by rw[qy,length_range];exact t.top) (λi ds e=>?_) (by omega) (le_refl _);rw[getElem?_map] at e;obtain⟨x,ex,rfl⟩:=x9.mp e;obtain⟨hi,rfl⟩:=zzg ex;rw[List.getElem_range];exact t.row i (by simpa using hi)
def Tat.keep {μ2:Mem}(t:Tat G a h v)(k:Kq G μ2):Tat μ2 a h v:=⟨k.get t.top,λj b=>k.get (t.row j b)⟩
def tgo {n:Nat}(p:EvP (evM J U a ⟨O,G⟩) λr=>r=(.dat (.int (n:Int)),G))(q:(mask none ms O).length=N)(m:n<=100)
  (l:∀ j G',j < n->EvP (evM J U el ⟨mask none ms O++[some (.dat (.int (j:Int)))],G'⟩) λr=>r=(.loc G'.length,G'++[(v j).map .dat])) (o:∀ (G':Mem),Kq G G'->Tat G' G.length n v->Q (.loc (G.length+n),G')):EvP (evM J U (.comp N ms nm (.rng a) el) ⟨O,G⟩) Q:=by
 refine crng (λj G' d=>Kq G G'/\G'.length=G.length+j/\d=news G.length j/\∀ i,i < j->G'[G.length+i]?=some ((v i).map .dat)) p q m ⟨zIB,rfl,rfl,λi c=>absurd c (by omega)⟩ (λj G' d h=>by rw[h.2.2.1,zBi]) (λj G' d g h=>?_) λG' d h=>?_
 .obtain ⟨k,b,rfl,f⟩:=h;obtain⟨r,e,rfl⟩:=l j G' g;refine⟨_,e,k.app,by rw[qQ,b];rfl,by rw[zDX,b],λi c=>?_⟩;by_cases z:i < j
  .exact zAR (f i z)
  .obtain rfl:i=j:=by omega
   rw[<- b];exact zAU
 .obtain ⟨k,b,rfl,f⟩:=h;rw[b];exact o _ k.app ⟨by rw[<- b];exact zAU,λi c=>zAR (f i c)⟩
def m45 (c:w<=10)(d:h<=10)(a:∀ (G':Mem) (m:Nat) (l:Lp),Kq G G'->Rw G' m G.length l (mT w h λ_ _=>clr)->Q (.loc m,G')):EvP (FM45 [.dat (.int (w:Int)),.dat (.int (h:Int))] G) Q:=by
 refine zC2 rfl (by decide) ?_;unfold mb45;show EvP (evSs' GL3 D7 _ ⟨[some (.dat (.int (w:Int))),some (.dat (.int (h:Int)))],G⟩) _;refine zAB (zBo (tgo (n:=h) (v:=rT w λ_ _=>clr) (zAM rfl rfl) rfl (by omega) (λj G' b=>?_) λG' k T=>by obtain⟨l,R⟩:=T.rw;exact zDp (a _ _ _ k R)));refine rrow (n:=w) (v:=λ_=>fmD clr) (zAM rfl rfl) rfl (by omega) (λi e=>?_) rfl;exact zAa rfl (zAK (F:=F12) rfl (zAT ((zNn (n1:=2) (n0:=0) rfl rfl) _ (n_cl (zAf rfl rfl)))))
noncomputable def mbJ (ix:List (Str×Nat)):MT:=.cons (.set 3 (.call 7 "clear_films" (.cons (.var 0) (.cons (.var 1) .nil)))) (.cons (.for1 4 (.it (.var 2)) (.cons (.set 3 (.call 4 "put_together" (.cons (.mth ix "films" (.var 4) (.cons (.var 0) (.cons (.var 1) .nil))) (.cons (.var 3) (.cons (.pur (.glob 4 "joined")) .nil))))) .nil)) (.cons (.ret (.var 3)) .nil))
noncomputable def aT (K:Nat->Nat->Nat->Fm):Nat->Nat->Nat->Fm
 | 0=>λ_ _=>clr
 | k+1=>jT (K k) (aT K k)
theorem aT_b (hb:∀ k,k < N->TB m w h (K k)):∀ k,k<=N->TB (1+k*(2*m+1)) w h (aT K k)
 | 0,_=>⟨λ_ _ _ _=>zTJ.mono (Nat.le_add_right _ _)⟩
 | k+1,l=>((hb k l).jn (aT_b hb k (by omega))).mono (by have e:(k+1)*(2*m+1)=k*(2*m+1)+(2*m+1):=Nat.succ_mul k _;omega)
def Disp (U:Dm)(ix:List (Str×Nat))(o:W)(w h:Nat)(G:Mem)(K:Nat->Nat->Fm):Prop:=∃ c n y F,clsW "films" o=some c/\ix.lookup c=some n/\U[n]?=some (y,F)/\spec.lookup y=some (.mth c "films")/\flK F o w h G K
def zSW {a:List W}(C:U[7]?=some (("clear_films":Str),FM45))(N:U[4]?=some (("put_together":Str),FM42))(u:G[nl]?=some a)(B:∀ k o,a[k]?=some o->∀ G',Kq G G'->Disp U ix o w h G' (K k))(p:∀ k,k < a.length->TB m w h (K k))
  (l:m+(1+a.length*(2*m+1))<=10000000) (g:w<=10) (i:h<=10) (L:∀ (G':Mem) (n:Nat) (l:Lp),Kq G G'->Rw G' n G.length l (mT w h (aT K a.length))->Q (.loc n,G')):EvP (zA6 3 5 (evSs' GL3 U (mbJ ix)) [.dat (.int (w:Int)),.dat (.int (h:Int)),.loc nl] G) Q:=by
 refine zC2 rfl (by decide) ?_;unfold mbJ;show EvP (evSs' GL3 U _ ⟨[some (.dat (.int (w:Int))),some (.dat (.int (h:Int))),some (.loc nl),none,none],G⟩) _;refine zAB (zAn (zBM C (zAD (zAM rfl (zAD (zAM rfl (zAY ?_)))))));refine(show EvP (FM45 [.dat (.int (w:Int)),.dat (.int (h:Int))] G) _ from ?_);refine m45 g i λO5 I q k1 z=>zAP ?_
 (walk_at "s");refine zAB (zBR (zBn (zAM rfl ⟨nl,rfl,?_⟩)));refine zCG (s:=⟨_,_⟩) a (λj s=>∃ (f:Option W) (G':Mem) (n:Nat) (l:Lp),s=⟨[some (.dat (.int (w:Int))),some (.dat (.int (h:Int))),some (.loc nl),some (.loc n),f],G'⟩/\Kq G G'/\Rw G' n G.length l (mT w h (aT K j))) (λj s x=>?_) ?_ ?_ ⟨none,O5,I,q,rfl,k1,z⟩
 .obtain ⟨_,G',_,_,rfl,k,_⟩:=x;exact k.get u
 .rintro j o s b ⟨f,G',n,D,rfl,k,R⟩;refine⟨_,rfl,?_⟩;dsimp only;(walk_at "s");obtain⟨c,E,y,F,d1,A,J,t,v⟩:=B j o b G' k;have e:j < a.length:=(zzg b).1;refine zAB (zAn (zBM N (zAD (zPj (zAM rfl ⟨c,E,y,F,d1,A,J,t,zAD (zAM rfl (zAD (zAM rfl (zAY ?_))))⟩)))));refine v _ fun μ2 n2 l2 k2 R2=>?_
  refine zAD (zAM rfl (zAD (zAa rfl (zCk (d:=.fn 18 "joined") rfl (zAf rfl (zAY ?_))))));refine(show EvP (FM42 [.loc n2,.loc n,.dat (.fn 18 "joined")] μ2) _ from ?_);have:=mul_le_mul_right (2*m+1) (Nat.le_of_lt e);refine m42 R2 (R.keep k2) (p j e) (aT_b p j (Nat.le_of_lt e)) (by omega) g i λO7 M r H O=>zAP (zAq ?_)
  exact⟨_,_,M,r,rfl,(k.trans k2).trans H,O.below (k.trans k2).le⟩
 .rintro s ⟨f,G',n,D,rfl,k,R⟩;exact zAP (zAB (zBo (zAM rfl (zDp (L _ _ _ k R)))))
noncomputable def meJ (n:Nat):ME:=.call n "joined_films" (.cons (.var 1) (.cons (.var 2) (.cons (.fld (.var 0) "layers") .nil)))
abbrev objW (c:Str) (nl:Nat) (t:Rat):W:=.obj c ["layers","strength"] [.loc nl,.dat (ratD t)]
def zSV {g:Fm->Fm}(o:U[n]?=some (("joined_films":Str),FJ))(b:(c,("layers":Str),(none:Option Bool))∈GL3.ob)(p:GL3.lm[J]?=some (L,FL))(s:∀ j i,j < h->i < w->∀ Q:R->Prop,Q (fmD (g (r j i)),.cl)->EvP (FL [fmD (r j i),.obj c ["strength"] [ratD t]]) Q)
  (B:w<=10) (y:h<=10) (x:∀ Q:MR->Prop,(∀ (G':Mem) (n:Nat) (l:Lp),Kq G G'->Rw G' n G.length l (mT w h r)->Q (.loc n,G'))->EvP (FJ [.dat (.int (w:Int)),.dat (.int (h:Int)),.loc nl] G) Q):flK (lamM FM41 J L [0] 3 3 (zEA GL3 U .nil) (evM GL3 U (meJ n))) (objW c nl t) w h G (λj i=>g (r j i)):=λQ q=>by
 refine zKm rfl (by decide) ⟨_,rfl,_,rfl,?_⟩;show EvP (evM GL3 U (meJ n) ⟨[some (objW c nl t),some (.dat (.int (w:Int))),some (.dat (.int (h:Int)))],G⟩) _;refine zBM o (zAD (zAM rfl (zAD (zAM rfl (zAD (zKb (zAM rfl ⟨_,_,_,_,rfl,b,rfl,zAY ?_⟩)))))));refine x _ λO5 A C k1 a=>⟨[.obj c ["strength"] [ratD t]],rfl,rfl,?_⟩
 have e:∀ u:Fm->D,((List.range h).map λj=>(List.range w).map λi=>r j i).map (List.map u)=(List.range h).map λj=>(List.range w).map λi=>u (r j i):=λu=>by rw[map_map];exact map_congr_left λj _=>map_map
 rw[show mT w h r=_ from (e fmD).symm] at a;refine m41 (f:=.lam J L [.obj c ["strength"] [ratD t]]) rfl (u:=fmD) (v:=λf=>fmD (g f)) a (by rw[qy,length_range];omega) (λqs hq=>?_) λP z R2=>?_
 .obtain ⟨j,d,rfl⟩:=mem_map.mp hq;refine⟨by rw[qy,length_range];omega,λq m=>?_⟩;obtain⟨i,k,rfl⟩:=mem_map.mp m;exact⟨zLl p (s j i (mem_range.mp d) (mem_range.mp k)),rfl⟩
 .rw [e λf=>fmD (g f)] at R2;exact q _ _ _ k1.app (R2.below k1.le)
def gJ (b:FB m f)(a:RB 80 t)(l:m+80<=10000000)(q:Q (fmD (mx f t),.cl)):EvP (FL2 [fmD f,.obj "Join" ["strength"] [ratD t]]) Q:=by
 refine zIA rfl rfl ?_;show EvP (evE GL1 lb2 [some (fmD f,false),some (.obj "Join" ["strength"] [ratD t],false)]) _;unfold lb2;refine zAK rfl (zAC (zAI rfl (n_cl (zAC (zLO (zAI rfl ⟨_,_,_,_,rfl,by decide,rfl,n_cl (zAT ?_)⟩))))));exact (zSA (np:=2) (nr:=13) (nt:=4) (nm:=14) rfl rfl rfl rfl h2 h13 h4 h14) f t m 80 _ b a l (n_cl q)
def gG (a:FB m f)(b:RB 80 t)(l:m+80<=10000000)(q:Q (fmD (al f t),.cl)):EvP (FL3 [fmD f,.obj "Group" ["strength"] [ratD t]]) Q:=by
 refine zIA rfl rfl ?_;show EvP (evE GL2 lb3 [some (fmD f,false),some (.obj "Group" ["strength"] [ratD t],false)]) _;unfold lb3;refine zAK rfl (zAC (zAI rfl (n_cl (zAC (zLO (zAI rfl ⟨_,_,_,_,rfl,by decide,rfl,n_cl (zAT ?_)⟩))))));exact (zNt (nm:=14) (nr:=13) rfl rfl h14 h13) f t m 80 _ a b l (n_cl q)
def zSJ (e:G[n]?=some ws)(b:StO o t)(a:Q (objW "Join" G.length t,G++[ws])):EvP (zBm [.loc n,.dat o] G) Q:=by
 refine zF0 rfl rfl ?_;show EvP (zD9 [("layers",evM GL3 D10 (.lcp (.var 1))),("strength",evM GL3 D10 (.pur (.call 40 "strength_or_one" (.cons (.var 2) .nil))))] ⟨[none,some (.loc n),some (.dat o)],G⟩) _;refine zCQ (zPk (zAM rfl ⟨n,ws,rfl,e,?_⟩));refine zCQ (zAa rfl (zAK rfl (zAC (zAI (zAF rfl zAL) (n_cl (zAT ?_))))));exact zHu b (n_cl (zAf rfl (zIC a)))
def zOS (e:G[n]?=some ws)(a:StO o t)(b:Q (objW "Group" G.length t,G++[ws])):EvP (zBV [.loc n,.dat o] G) Q:=by
 refine zF0 rfl rfl ?_;show EvP (zD9 [("layers",evM GL3 D11 (.lcp (.var 1))),("strength",evM GL3 D11 (.pur (.call 40 "strength_or_one" (.cons (.var 2) .nil))))] ⟨[none,some (.loc n),some (.dat o)],G⟩) _;refine zCQ (zPk (zAM rfl ⟨n,ws,rfl,e,?_⟩));refine zCQ (zAa rfl (zAK rfl (zAC (zAI (zAF rfl zAL) (n_cl (zAT ?_))))));exact zHu a (n_cl (zAf rfl (zIC b)))
abbrev qT (w h:Nat) (rs:List (List Pt)) (j i:Nat):Rat:=cov (((tabR w h rs).getD j []).getD i 0)
def zJX (f:Fl w h rs)(b:j < h):((tabR w h rs).getD j []).length=w/\∀ q∈(tabR w h rs).getD j [],RB 220900 q:=by
 obtain⟨⟨c,a⟩,_⟩:=zFc f;rw[getD_eq_getElem?_getD,getElem?_eq_getElem (by omega)];exact a _ (List.getElem_mem (by omega))
def zN3 (f:Fl w h rs)(g:Rat->Fm):(tabR w h rs).map (List.map λq=>fmD (g (cov q)))=mT w h λj i=>g (qT w h rs j i):=by
 rw[zHQ (zDN f)];exact map_congr_left λj m=>zHQ (zJX f (mem_range.mp m)).1
def zRY (f:Fl w h rs)(a:j < h)(b:i < w):RB 220900 (qT w h rs j i):=by
 obtain⟨e,r⟩:=zJX f a;refine zIT ?_ (by decide);rw[getD_eq_getElem?_getD,getElem?_eq_getElem (by omega)];exact r _ (List.getElem_mem (by omega))
abbrev zQW (w h:Nat) (rs:List (List Pt)) (t:Rat) (r g b:Int) (j i:Nat):Fm:=zI6 (qT w h rs j i*t) r g b
abbrev rubT (w h:Nat) (rs:List (List Pt)) (t:Rat) (j i:Nat):Fm:=⟨1 - qT w h rs j i*t,0,0,0,0⟩
def zTG (f:Fl w h rs)(c:RB 80 t)(h1:I255 r)(h2:I255 g)(h3:I255 b):TB 221000 w h (zQW w h rs t r g b):=⟨λj i d a=>(zTI (zAi (zRY f d a) c) h1 h2 h3).mono (by decide)⟩
def zUQ (f:Fl w h rs)(c:RB 80 t)(h1:I255 r)(h2:I255 g)(h3:I255 b)(dr:drW G (.loc a)=some (zBp rs)):flK zBO (zJE a (inkD r g b) t) w h G (zQW w h rs t r g b):=λQ q=>by
 refine zUp f c h1 h2 h3 dr Q λP m l R=>q _ _ l zBG ?_
 rw[zN3 f λq=>zI6 (q*t) r g b] at R;exact R
def kRub (f:Fl w h rs)(b:RB 80 t)(dr:drW G (.loc a)=some (zBp rs)):flK zBZ (rubW a t) w h G (rubT w h rs t):=λQ q=>by
 refine fRub f b dr Q λP m l R=>q _ _ l zBG ?_
 rw[zN3 f λq=>⟨1 - q*t,0,0,0,0⟩] at R;exact R
def zOC (h:∀ i,i < w->K j i=r j i):rT w K j=rT w r j:=map_congr_left λi a=>by rw[h i (mem_range.mp a)]
def Tat.ext (t:Tat G a h (rT w K))(e:∀ j i,j < h->i < w->K j i=r j i):Tat G a h (rT w r):=⟨t.top,λj b=>by rw[<- zOC λi c=>e j i b c];exact t.row j b⟩
def Tat.dr (t:Tat G a h v):drW G (.loc (a+h))=some (.lst (((List.range h).map v).map .lst)):=by
 obtain⟨l,R⟩:=t.rw;exact R.dr
structure Fs (G:Mem)(na N w h:Nat)(K:Nat->Nat->Nat->Fm):Prop where
 top:∃ ls:List Nat,G[na]?=some (ls.map .loc)/\ls.length=N/\∀ k n,ls[k]?=some n->∃ b l,Rw G n b l (mT w h (K k))
def Fs.keep {μ2:Mem}(f:Fs G na N w h K)(k:Kq G μ2):Fs μ2 na N w h K:=by
 obtain⟨d,c,g,a⟩:=f.top;exact⟨d,k.get c,g,λi n e=>by obtain⟨b,l,R⟩:=a i n e;exact⟨b,l,R.keep k⟩⟩
noncomputable def pT (A B:Nat->Nat->Fm)(j i:Nat):Nat->Nat->Fm:=λy x=>if y < j\/y=j/\x < i then A y x else B y x
def zPH (h:(y < j\/y=j/\x < i)<->(y < j'\/y=j'/\x < i')):pT A B j i y x=pT A B j' i' y x:=by unfold pT;simp only[h]
def m64 (F:Fs G na N w h K)(E:∀ k,k < N->TB m w h (K k))(l:m+(1+N*(2*m+1))<=10000000)(hw:w<=10)(Y:h<=10)
  (V:∀ (G':Mem),Kq G G'->Tat G' G.length h (rT w (aT K N))->Q (.loc (G.length+h),G')):EvP (FM64 [.loc na,.dat (.int (w:Int)),.dat (.int (h:Int))] G) Q:=by
 refine zC2 rfl (by decide) ?_;unfold mb64;show EvP (evSs' GL3 D21 _ ⟨[some (.loc na),some (.dat (.int (w:Int))),some (.dat (.int (h:Int))),none,none,none,none,none],G⟩) _;refine zAB (zAn (zAa rfl ?_));(walk_at "w");refine zAf rfl (zAP ?_);(walk_at "s");refine zAB (zFe (tgo (n:=h) (v:=rT w λ_ _=>clr) (zAM rfl rfl) rfl (by omega) (λj G' c=>?_) λO5 k1 T1=>zAP ?_))
 .refine rrow (n:=w) (v:=λ_=>fmD clr) (zAM rfl rfl) rfl (by omega) (λi f=>?_) rfl;refine zAa rfl (zD2 (zAC ?_));(walk_at "w");exact zAf rfl rfl
 (walk_at "s");obtain⟨U,O,H,S⟩:=F.top;refine zAB (zBR (zBn (zAM rfl ⟨na,rfl,?_⟩)));refine zCG (s:=⟨_,_⟩) (U.map .loc) (λk s=>∃ (C e a:Option W) (G':Mem),s=⟨[some (.loc na),some (.dat (.int (w:Int))),some (.dat (.int (h:Int))),some (.dat (.tup [.int 0,.int 1])),some (.loc (G.length+h)),C,e,a],G'⟩/\Kq G G'/\Tat G' G.length h (rT w (aT K k))) (λk s T=>?_) ?_ ?_ ⟨none,none,none,O5,rfl,k1,T1⟩
 .obtain ⟨_,_,_,G',rfl,k,_⟩:=T;exact k.get O
 .rintro k y s g ⟨C,e,a,J,rfl,u,T2⟩;rw[getElem?_map] at g;obtain⟨n,D,rfl⟩:=x9.mp g;have B:k < N:=by rw[<- H];exact(zzg D).1
  obtain⟨b,l',R⟩:=S k n D;refine⟨_,rfl,?_⟩;dsimp only;(walk_at "s");refine zAB (zBR (zBa (zAM rfl ⟨_,rfl,by omega,?_⟩)));rw[toNat_natCast];refine zCG (s:=⟨_,_⟩) ((rngL 0 h).map .dat) (λj s=>∃ (e a:Option W) (G':Mem),s=⟨[some (.loc na),some (.dat (.int (w:Int))),some (.dat (.int (h:Int))),some (.dat (.tup [.int 0,.int 1])),some (.loc (G.length+h)),some (.loc n),e,a],G'⟩/\Kq G G'/\Tat G' G.length h (rT w (pT (aT K (k+1)) (aT K k) j 0))) (λ_ _ _=>rfl) ?_ ?_ ⟨e,a,J,rfl,u,T2.ext λj i c f=>(if_neg (by omega)).symm⟩
  .rintro j y s g ⟨e,a,I,rfl,A,p⟩;obtain⟨rfl,c⟩:=idx g;refine⟨_,rfl,?_⟩;dsimp only;(walk_at "s");refine zAB (zBR (zBa (zAM rfl ⟨_,rfl,by omega,?_⟩)));rw[toNat_natCast];refine zCG (s:=⟨_,_⟩) ((rngL 0 w).map .dat) (λi s=>∃ (a:Option W) (G':Mem),s=⟨[some (.loc na),some (.dat (.int (w:Int))),some (.dat (.int (h:Int))),some (.dat (.tup [.int 0,.int 1])),some (.loc (G.length+h)),some (.loc n),some (.dat (.int (j:Int))),a],G'⟩/\Kq G G'/\Tat G' G.length h (rT w (pT (aT K (k+1)) (aT K k) j i))) (λ_ _ _=>rfl) ?_ ?_ ⟨a,I,rfl,A,p⟩
   .rintro i y s g ⟨a,P,rfl,t,d⟩;obtain⟨rfl,f⟩:=idx g;refine⟨_,rfl,?_⟩;dsimp only;(walk_at "s");have M:=(aT_b E k (Nat.le_of_lt B)).b j i c f;have Z:=mul_le_mul_right (2*m+1) (Nat.le_of_lt B);have L:pT (aT K (k+1)) (aT K k) j i j i=aT K k j i:=if_neg (by omega);refine zAB (zN7 (zAa rfl (zAK (F:=F56) rfl (zAC (zBA (zBA (zAI (zAF rfl (R.keep t).dr) (zAI (zAF rfl zAL) (zAw (zKc c) (zAI (zAF rfl zAL) (zAw (zMV f) (n_cl (zAC (zBA (zBA (zAI (zAF rfl d.dr) (zAI (zAF rfl zAL) (zAw (zKc c) (zAI (zAF rfl zAL) (zAw (zMV f) (n_cl (zAT ?_))))))))))))))))))))));rw[L];refine h56 _ _ m (1+k*(2*m+1)) _ ((E k B).b j i c f) M (by omega) (n_cl (zAf rfl ?_));refine m_ix (zAM rfl (zAM rfl (zC9 d.top (zAx (zFu c)) (zAM rfl ⟨_,_,_,i,rfl,rfl,d.row j c,?_,zAP (zAq ?_)⟩))))
    .rw [qy,qy,length_range];unfold ixN;rw[if_pos (by omega),if_pos (by omega),toNat_natCast]
    dsimp only;refine⟨_,_,rfl,t.set (by omega),?_,λy q=>?_⟩
    .rw [getElem?_set_ne (by omega)];exact d.top
    .by_cases z:y=j
     .subst z;have lt:=(zzg (d.row y c)).1;rw[getElem?_set_self lt];congr 1;refine ext_getElem? λx=>?_
      by_cases zx:x=i
      .subst zx;rw[getElem?_set_self (by rw[qy,qy,length_range];exact f),getElem?_map,getElem?_map,getElem?_range f];show _=some (W.dat (fmD (pT _ _ _ _ _ _)));rw[show pT (aT K (k+1)) (aT K k) y (x+1) y x=aT K (k+1) y x from if_pos (.inr ⟨rfl,by omega⟩)]
       rfl
      .rw [getElem?_set_ne (Ne.symm zx),getElem?_map,getElem?_map,getElem?_map,getElem?_map];by_cases o:x < w
       .rw [getElem?_range o];show some (W.dat (fmD (pT _ _ _ _ _ _)))=some (W.dat (fmD (pT _ _ _ _ _ _)));rw[show pT (aT K (k+1)) (aT K k) y i y x=pT (aT K (k+1)) (aT K k) y (i+1) y x from zPH (by omega)]
       .rw [getElem?_eq_none (by simpa using o)];rfl
     .rw [getElem?_set_ne (by omega),zOC (r:=pT (aT K (k+1)) (aT K k) j i) λx o=>?_]
      .exact d.row y q
      .exact zPH (by omega)
   .rintro s ⟨a,P,rfl,t,d⟩;rw[nrng] at d;exact zAP (zAq ⟨_,_,_,rfl,t,d.ext λy x q o=>zPH (by omega)⟩)
  .rintro s ⟨e,a,I,rfl,A,p⟩;rw[nrng] at p;exact zAP (zAq ⟨_,_,_,_,rfl,A,p.ext λy x q o=>if_pos (.inl q)⟩)
 .rintro s ⟨C,e,a,J,rfl,u,T2⟩;rw[qy,H] at T2;exact zAP (zAB (zBo (zAM rfl (zDp (V _ u T2)))))
noncomputable def gX (b:Bool)(t:Rat)(f:Fm):Fm:=if b then al f t else mx f t
def m65 (T:Tat G a h (rT w r))(o:TB m w h r)(g:RB 80 t)(l:m+80<=10000000)(D:w<=10)(H:h<=10)
  (C:∀ (G':Mem) (n:Nat) (l:Lp),Kq G G'->Rw G' n G.length l (mT w h λj i=>gX x t (r j i))->Q (.loc n,G')):EvP (FM65 [.loc (a+h),.dat (ratD t),.dat (.bl x)] G) Q:=by
 refine zC2 rfl (by decide) ?_;unfold mb65;show EvP (evSs' GL3 D22 _ ⟨[some (.loc (a+h)),some (.dat (ratD t)),some (.dat (.bl x)),none,none],G⟩) _;refine zAB (zAn (zDk (zAY ⟨zero_le _,zAP ?_⟩)));(walk_at "s");refine zAB (zBR (zBn (zAM rfl ⟨a+h,rfl,?_⟩)));refine zCG (s:=⟨_,_⟩) (news a h) (λj s=>∃ (e:Option W) (G':Mem),s=⟨[some (.loc (a+h)),some (.dat (ratD t)),some (.dat (.bl x)),some (.loc G.length),e],G'⟩/\zFi G G.length (rT w λj i=>gX x t (r j i)) j G') (λj s z=>?_) ?_ ?_ ⟨none,_,rfl,zFi.nil⟩
 .obtain ⟨_,G',rfl,I⟩:=z;exact I.1.get T.top
 .rintro j y s c ⟨e,G',rfl,I⟩;have b:j < h:=by have:=(zzg c).1;rwa [zBi] at this
  rw[zFu b] at c;cases c;refine⟨_,rfl,?_⟩;dsimp only;(walk_at "s");obtain⟨B,q,E,f⟩:=I.snoc;have p:G'[a+j]?=some (((List.range w).map λi=>fmD (r j i)).map W.dat):=I.1.get (T.row j b);refine zAB (zC4 (zEr rfl (zAI (zAF rfl zAL) ⟨x,rfl,?_⟩)));refine⟨λhx=>?_,λhx=>?_⟩
  .obtain rfl:x=true:=hx;refine zAB (zCA (zAM rfl (zJq (as:=List.range w) (u:=λi=>fmD (r j i)) (v:=λi=>fmD (gX true t (r j i))) (zBn (zAM rfl ⟨a+j,rfl,rfl⟩)) p rfl (by rw[length_range];omega) (λi d=>?_) ⟨_,_,rfl,zAR q,by rw[qy];omega,zAP (zAq (zAP (zAq ?_)))⟩)))
   .refine zAa rfl (zAK (F:=F58) rfl (zAC (zAI (zAF rfl zAL) (n_cl (zAC (zAI (zAF rfl zAL) (n_cl (zAT ?_))))))));exact h58 _ t m 80 _ (o.b j i b (mem_range.mp d)) g l (n_cl (zAf rfl rfl))
   .exact ⟨_,_,rfl,f⟩
  .obtain rfl:x=false:=hx;refine zAB (zCA (zAM rfl (zJq (as:=List.range w) (u:=λi=>fmD (r j i)) (v:=λi=>fmD (gX false t (r j i))) (zBn (zAM rfl ⟨a+j,rfl,rfl⟩)) p rfl (by rw[length_range];omega) (λi d=>?_) ⟨_,_,rfl,zAR q,by rw[qy];omega,zAP (zAq (zAP (zAq ?_)))⟩)))
   .refine zAa rfl (zAK (F:=F57) rfl (zAC (zAI (zAF rfl zAL) (n_cl (zAC (zAI (zAF rfl zAL) (n_cl (zAT ?_))))))));exact h57 _ t m 80 _ (o.b j i b (mem_range.mp d)) g l (n_cl (zAf rfl rfl))
   .exact ⟨_,_,rfl,f⟩
 .rintro s ⟨e,G',rfl,k,B,R⟩;rw[zBi] at R;exact zAP (zAB (zBo (zAM rfl (zDp (C _ _ _ k R)))))
def Rw.range {μ2:Mem}(e:Rw G n b l rows)(k:∀ x,b<=x->x < G.length->μ2[x]?=G[x]?):Rw μ2 n b l rows :=
 ⟨e.ll.keep (k n e.top e.lt) λp a=>k p.1 (e.lo p a) (e.ll.lt.2 p a),e.lo,e.top,e.snd⟩
def zRP (h:EvP (evM J U t s) λx=>∃ n,x.1=.loc n/\n < x.2.length/\Q (.nx ⟨s.O,x.2.set n []⟩)):EvP (evS' J U (.clr t) s) Q:=by
 obtain⟨⟨x,m⟩,e,n,rfl,h1,q⟩:=h;refine⟨_,?_,q⟩;show clrM (evM J U t) s=_;unfold clrM;rw[e,qx];show (if n < m.length then _ else _)=_;rw[if_pos h1]
def zUH (e:U[n]?=some (y,F))(d:spec.lookup y=some (.mk c kw))(h:EvP (evMs J U es s) λws=>EvP (evM J U a ⟨s.O,ws.2⟩) λw=>EvP (F (ws.1++[w.1]) w.2) Q):EvP (evM J U (.mkk n c kw es a) s) Q:=by
 obtain⟨ws,b,w,g,r,f,q⟩:=h;refine⟨r,?_,q⟩;show mkkM U n c kw (evMs J U es) (evM J U a) s=_;unfold mkkM;rw[e,qx];show (if spec.lookup y=some (.mk c kw) then _ else _)=_;rw[if_pos d,b,qx,g];exact f
structure Made (G:Mem)(m:Nat)(ws:List W)(t:Rat):Prop where
 a:∃ a b,G[m]?=some [objW "Join" a t,objW "Group" b t]/\G[a]?=some ws/\G[b]?=some ws
def m66 (e:G[n]?=some ws)(E:ws.length<=100)(w:StO o t)(r:∀ (G':Mem) (m:Nat),Kq G G'->Made G' m ws t->Q (.loc m,G')):EvP (FM66 [.loc n,.dat o] G) Q:=by
 refine zC2 rfl (by decide) ?_;unfold mb66;show EvP (evSs' GL3 D23 _ ⟨[some (.loc n),some (.dat o),none,none],G⟩) _;refine zAB (zAn (zPk (zAM rfl ⟨n,ws,rfl,e,zAP ?_⟩)));(walk_at "s");have a:EvP (evSs' GL3 D23 (.cons (.rev (.var 2)) (.cons (.app (.var 2) (.mk 9 "Rub" "strength" true (.cons (.lst .nil) .nil))) (.cons (.ret (.var 3)) .nil))) ⟨[some (.loc n),some (.dat o),some (.loc G.length),some (.loc (G++[ws]++[ws]++[ws]).length)],G++[ws]++[ws]++[ws]++[[objW "Join" (G++[ws]).length t,objW "Group" (G++[ws]++[ws]).length t]]⟩) (KFM Q):=by
  have C:(G++[ws]).length=G.length+1:=by rw[qQ];rfl
  have B:(G++[ws]++[ws]).length=G.length+2:=by rw[qQ,C];rfl
  have h:(G++[ws]++[ws]++[ws]).length=G.length+3:=by rw[qQ,B];rfl
  have f:(G++[ws]++[ws]++[ws]++[[objW "Join" (G++[ws]).length t,objW "Group" (G++[ws]++[ws]).length t]])[G.length]?=some ws:=zAR (zAR (zAR zAU));have p:(G++[ws]++[ws]++[ws]++[[objW "Join" (G++[ws]).length t,objW "Group" (G++[ws]++[ws]).length t]])[G.length+3]?=some [objW "Join" (G++[ws]).length t,objW "Group" (G++[ws]++[ws]).length t]:=by rw[<- h];exact zAU
  have k:(G++[ws]++[ws]++[ws]++[[objW "Join" (G++[ws]).length t,objW "Group" (G++[ws]++[ws]).length t]])[(G++[ws]).length]?=some ws:=zAR (zAR zAU);have l:(G++[ws]++[ws]++[ws]++[[objW "Join" (G++[ws]).length t,objW "Group" (G++[ws]++[ws]).length t]])[(G++[ws]++[ws]).length]?=some ws:=zAR zAU;have i:Kq (G++[ws]) (G++[ws]++[ws]++[ws]++[[objW "Join" (G++[ws]).length t,objW "Group" (G++[ws]++[ws]).length t]]):=zBG.app.app;rw[h];generalize G++[ws]++[ws]++[ws]++[[objW "Join" (G++[ws]).length t,objW "Group" (G++[ws]++[ws]).length t]]=g at f p k l i;have v:Kq G g:=zBG.trans i;refine zAB (zRO (zAM rfl ⟨_,ws,rfl,f,zAP ?_⟩));refine zAB (zCA (zAM rfl (m_mk (F:=zCJ) (y := "Rub()") rfl (by decide +kernel) (zAD (zDk (zAY ⟨zero_le _,zAY ?_⟩))))));refine(show EvP (zCJ [.loc (g.set G.length ws.reverse).length,.dat .non] (g.set G.length ws.reverse++[[]])) _ from ?_);have u:Rw (g.set G.length ws.reverse++[[]]) (g.set G.length ws.reverse).length 0 [] []:=⟨⟨zAU,λp b=>absurd b (by simp)⟩,λp b=>absurd b (by simp),zero_le _,rfl⟩;refine mRub (t:=1) u (by decide) (λds D=>absurd D (by simp)) (.inl ⟨rfl,rfl⟩) λP m H _=>?_
  have lt:G.length < g.length:=(zzg f).1;refine⟨_,ws.reverse,rfl,zAR (zAR (getElem?_set_self lt)),by rw[List.length_reverse];omega,zAP ?_⟩;refine zAB (zBo (zAM rfl (zDp (r _ _ (((v.set (le_refl _)).app.app).set (le_refl _)) ?_))));have d:∀ {x:Nat} {c us:List W} {j:List W},x≠G.length->g[x]?=some c->((g.set G.length us++[[]]++P).set G.length j)[x]?=some c:=λ{x c us j} q A=>by
   rw[getElem?_set_ne (Ne.symm q)];exact zAR (zAR (by rw[getElem?_set_ne (Ne.symm q)];exact A))
  exact⟨_,_,d (by omega) p,d (by omega) k,d (by omega) l⟩
 rcases w with ⟨rfl,rfl⟩ | rfl
 .refine zAB (zC4 (zEr rfl (zBg (zAI (zAF rfl zAL) (zDZ ⟨(.bl true,.cl),rfl,true,rfl,?_⟩)))));refine⟨λ_=>?_,λz=>nomatch z⟩;refine zAB (zAn (zDk (zAD (m_mk (F:=zBm) (y := "Join()") rfl (by decide +kernel) (zAD (zAM rfl (zAY ?_)))))));refine(show EvP (zBm [.loc G.length,.dat .non] (G++[ws])) _ from zSJ zAU (.inl ⟨rfl,rfl⟩) ?_);refine zAD (m_mk (F:=zBV) (y := "Group()") rfl (by decide +kernel) (zAD (zAM rfl (zAY ?_))));refine(show EvP (zBV [.loc G.length,.dat .non] (G++[ws]++[ws])) _ from zOS (zAR zAU) (.inl ⟨rfl,rfl⟩) ?_);refine zAY ⟨by show 2<=10000;decide,zAP (zAq (zAP ?_))⟩;exact a
 .refine zAB (zC4 (zEr rfl (zBg (zAI (zAF rfl zAL) (zDZ ⟨(.bl false,.cl),rfl,false,rfl,?_⟩)))));refine⟨(λz=>nomatch z),λ_=>?_⟩;refine zAB (zAn (zDk (zAD (m_mk (F:=zBm) (y := "Join()") rfl (by decide +kernel) (zAD (zAM rfl (zAD (zAM rfl (zAY ?_)))))))));refine(show EvP (zBm [.loc G.length,.dat (ratD t)] (G++[ws])) _ from zSJ zAU (.inr rfl) ?_);refine zAD (zUH (F:=zBV) (y := "Group()") rfl (by decide +kernel) (zAD (zAM rfl (zAY (zAM rfl ?_)))));refine(show EvP (zBV [.loc G.length,.dat (ratD t)] (G++[ws]++[ws])) _ from zOS (zAR zAU) (.inr rfl) ?_);refine zAY ⟨by show 2<=10000;decide,zAP (zAq (zAP ?_))⟩;exact a
noncomputable def mtl:Nat->MT->MT
 | 0,s=>s
 | n+1,.cons _ b=>mtl n b
 | _+1,s=>s
abbrev ixL:List (Str×Nat):=[("Fill",12),("Rub",13),("Join",18),("Group",19)]
def zUK :D.lst ((mT w h K).map .lst)=fsD ((List.range h).map λj=>(List.range w).map λi=>[(K j i).k,(K j i).a,(K j i).r,(K j i).g,(K j i).b]):=by
 rw[map_map,fsD,map_map];congr 1;exact map_congr_left λj _=>by show D.lst _=D.lst _;rw[map_map];rfl
def m_tx (e:O[i]?=some (some (.dat (.tup ds))))(a:atI ds k=some d)(h:Q (.dat d,G)):EvP (evM J U (.ix (.var i) (.pur (.int k))) ⟨O,G⟩) Q:=m_ix (zAM e (zAa rfl (zAO (zAf rfl (zKo a h)))))
def zQB (c:w<=10)(b:h<=10)(q:Q (.bl true,.cl)):EvP (F62 [.lst ((mT w h K).map .lst),.lst ((mT w h K).map .lst)]) Q:=by
 rw[zUK];refine h62 _ _ (by rw[qy,length_range];omega) (λr a=>?_) q;obtain⟨j,_,rfl⟩:=mem_map.mp a;rw[qy,length_range];omega
def DueI (G:Mem)(nd w h:Nat)(b:Nat->Nat->Nat->Fm)(j:Nat):Prop:=∃ ds:List Nat,G[nd]?=some (ds.map .loc)/\ds.length=j/\∀ k d,ds[k]?=some d->∃ l,Rw G d (nd+1) l (mT w h (b k))
def m67 (F:Fs G na N w h K)(hb:∀ k,k < N->TB m w h (K k))(l:m+(1+N*(2*m+1))+100<=10000000)(ht:RB 80 t)(ho:StO o t)(em:G[nm]?=some [oJ,oG])
  (dJ:∀ G',Kq G G'->Disp D24 ixL oJ w h G' λj i=>gX false t (aT K N j i)) (dG:∀ G',Kq G G'->Disp D24 ixL oG w h G' λj i=>gX true t (aT K N j i)) (w1:1<=w) (h1:1<=h) (hw:w<=10) (O:h<=10)
  (hQ:∀ (G':Mem) (nd:Nat),Kq G G'->DueI G' nd w h (λk j i=>gX (decide (k=1)) t (aT K N j i)) 2->Q (.loc nd,G')):EvP (FM67 [.loc nm,.loc na,.dat o,.dat (.tup [.int (w:Int),.int (h:Int)])] G) Q:=by
 refine zC2 rfl (by decide) ?_;unfold mb67;show EvP (evSs' GL3 D24 _ ⟨[some (.loc nm),some (.loc na),some (.dat o),some (.dat (.tup [.int (w:Int),.int (h:Int)])),none,none,none,none,none],G⟩) _;refine zAB (zAn (zBM (F:=FM64) rfl (zAD (zAM rfl (zAD (m_tx rfl rfl (zAD (m_tx rfl rfl (zAY ?_)))))))));refine(show EvP (FM64 [.loc na,.dat (.int (w:Int)),.dat (.int (h:Int))] G) _ from ?_);refine m64 F hb (by omega) hw O λO5 k1 T1=>zAP ?_
 (walk_at "s");have bA:TB (1+N*(2*m+1)) w h (aT K N):=aT_b hb N (le_refl _);have rest:EvP (evSs' GL3 D24 (mtl 2 mb67) ⟨[some (.loc nm),some (.loc na),some (.dat (ratD t)),some (.dat (.tup [.int (w:Int),.int (h:Int)])),some (.loc (G.length+h)),none,none,none,none],O5⟩) (KFM Q):=by
  unfold mb67;simp only[mtl];refine zAB (zAn (zDk (zAY ⟨zero_le _,zAP ?_⟩)));(walk_at "s");refine zAB (zBR (zBa (zAa rfl (zAO (zAf rfl ⟨_,rfl,by decide,?_⟩)))));refine zCG (s:=⟨_,_⟩) ((rngL 0 2).map .dat) (λj s=>∃ (U S R:Option W) (G':Mem),s=⟨[some (.loc nm),some (.loc na),some (.dat (ratD t)),some (.dat (.tup [.int (w:Int),.int (h:Int)])),some (.loc (G.length+h)),some (.loc O5.length),U,S,R],G'⟩/\Kq O5 G'/\DueI G' O5.length w h (λk j i=>gX (decide (k=1)) t (aT K N j i)) j) (λ_ _ _=>rfl) ?_ ?_ ⟨none,none,none,_,rfl,zBG,[],zAU,rfl,λk d e=>by simp at e⟩
  .rintro j y s ey ⟨U,S,R,T,rfl,J,E,e1,e2,e3⟩;obtain⟨rfl,hj⟩:=idx ey;refine⟨_,rfl,?_⟩;dsimp only;(walk_at "s");have d7:O5.length < T.length:=(zzg e1).1;refine zAB (zAn (zBM (F:=FM65) rfl (zAD (zAM rfl (zAD (zAM rfl (zAD (zAa rfl (zBg (zAI (zAF rfl zAL) (zAO (zNq (zAf rfl (zAY ?_))))))))))))));rw[show decide ((j:Int)=1)=decide (j=1) from decide_eq_decide.mpr (by omega)];refine(show EvP (FM65 [.loc (G.length+h),.dat (ratD t),.dat (.bl (decide (j=1)))] T) _ from ?_);refine m65 (T1.keep J) bA ht (by omega) hw O λO7 d l3 B R3=>zAP ?_
   (walk_at "s");have r:=J.trans B;obtain⟨ob,L,Z⟩:∃ ob,atI [oJ,oG] (j:Int)=some ob/\Disp D24 ixL ob w h O7 λy i=>gX (decide (j=1)) t (aT K N y i):=by
    have:j=0\/j=1:=by omega
    rcases this with rfl | rfl
    .exact ⟨oJ,rfl,dJ _ (k1.trans r)⟩
    .exact ⟨oG,rfl,dG _ (k1.trans r)⟩
   obtain⟨c,nF,y,Fo,d1,d2,d3,d4,d5⟩:=Z;refine zAB (zAn (zPj (m_ix (zAM rfl (zAM rfl (zC9 ((k1.trans r).get em) L ⟨c,nF,y,Fo,d1,d2,d3,d4,zAD (m_tx rfl rfl (zAD (m_tx rfl rfl (zAY ?_))))⟩))))));refine d5 _ λY9 f q A n=>zAP ?_
   (walk_at "s");refine zAB (zC4 (zEr rfl (zGl (zAK (F:=F62) rfl (zAC (zAI (zAF rfl n.dr) (n_cl (zAC (zAI (zAF rfl (R3.keep A).dr) (n_cl (zAT ?_)))))))))));refine zQB hw O (n_cl ⟨true,rfl,_,rfl,(λz=>nomatch z),λ_=>zAq (zAP ?_)⟩);have lr:q.length=h:=by rw[n.len,qy,length_range]
   have l0:0 < q.length:=by omega
   have P:q[0]?=some q[0]:=getElem?_eq_getElem l0;have H:=mem_of_getElem? P;have e5:=n.lo _ H;have c1:=n.ll.lt.2 _ H;have d9:=zH7 n.ll _ H;have a9:=n.top;have V:=n.lt;have Y:=n.ll.row _ H;have X:q[0].2.length=w:=by
    have a:=n.snd;have b:(q.map λp=>p.2)[0]?=some q[0].2:=by rw[getElem?_map,P];rfl
    rw[a,getElem?_map,getElem?_range (by omega)] at b;rw[<- xj b,qy,length_range]
   refine zAB (zN7 (zAa rfl (zDZ (zAf rfl (m_ix (zAM rfl (zAa rfl (zAO (zAf rfl (zC9 n.ll.top (w:=.loc q[0].1) (zAx (j:=0) (by rw[getElem?_map,P];rfl)) (zAa rfl (zAO (zAf rfl ⟨_,_,_,0,rfl,rfl,Y,?_,zAP ?_⟩)))))))))))))
   .rw [qy,X];unfold ixN;rw[if_pos (by decide),if_pos (by omega)]
    rfl
   dsimp only;refine zAB (zRP (zAM rfl ⟨f,rfl,by rw[length_set];exact V,zAP ?_⟩));have gd:∀ {us C:List W},((Y9.set q[0].1 us).set f C)[O5.length]?=some (E.map .loc):=λ{us C}=>by
    have:=B.le;rw[getElem?_set_ne (by omega),getElem?_set_ne (by omega),(B.trans A).get e1]
   refine zAB (zCA (zAM rfl (zAM rfl ⟨_,_,rfl,gd,by rw[qy,e2];omega,zAP (zAq ?_)⟩)));dsimp only;have c6:=B.le;have d6:=A.le;have same:∀ {us C ys:List W} (x:Nat),O5.length+1<=x->x < O7.length->(((Y9.set q[0].1 us).set f C).set O5.length ys)[x]?=O7[x]?:=λ{us C ys} x D g=>by
    rw[getElem?_set_ne (by omega),getElem?_set_ne (by omega),getElem?_set_ne (by omega),A.kp x g]
   refine⟨_,_,_,_,rfl,(((r.trans A).set (by omega)).set (by omega)).set (le_refl _),E++[d],?_,by rw[qQ,e2];rfl,λk d' v=>?_⟩
   .rw [getElem?_set_self (by rw[length_set,length_set];omega),xJ];rfl
   .by_cases z:k < E.length
    .rw [getElem?_append_left z] at v;obtain⟨l',R'⟩:=e3 k d' v;exact⟨l',(R'.keep B).range λx D g=>same x D g⟩
    .have M:k=j/\d'=d:=by
      rw[getElem?_append_right (by omega)] at v;have:=(zzg v).1;have hk:k - E.length=0:=by simpa using this
      rw[hk] at v;exact⟨by omega,by simpa using v.symm⟩
     obtain⟨rfl,rfl⟩:=M;exact⟨l3,(R3.below (by omega)).range λx D g=>same x D g⟩
  .rintro s ⟨U,S,R,T,rfl,J,I⟩;exact zAP (zAB (zBo (zAM rfl (zDp (hQ _ _ (k1.trans J) I)))))
 rcases ho with ⟨rfl,rfl⟩ | rfl
 .refine zAB (zC4 (zEr rfl (zBg (zAI (zAF rfl zAL) (zDZ ⟨(.bl true,.cl),rfl,true,rfl,?_⟩)))));refine⟨λ_=>?_,(λz=>nomatch z)⟩;refine zAB (zAn (zAa rfl ?_));(walk_at "w");exact zAf rfl (zAP (zAq (zAP rest)))
 .refine zAB (zC4 (zEr rfl (zBg (zAI (zAF rfl zAL) (zDZ ⟨(.bl false,.cl),rfl,false,rfl,?_⟩)))));exact⟨(λz=>nomatch z),λ_=>zAq (zAP rest)⟩
def zTy (h:EvP (evT J U a s) λr=>r.1=false/\EvP (evT J U b ⟨s.O,r.2⟩) Q):EvP (evT J U (.orl (.cons a (.cons b .nil))) s) Q:=by
 obtain⟨_,d,e,z,c,q⟩:=h;refine⟨z,?_,q⟩;show orB _ (evT J U b) s=_;unfold orB;grind
def zIR {n:Nat}(h:n<=ws.length):cutW ws none (some (n:Int))=ws.take n:=by
 unfold cutW;rw[HT.zFh,HT.zHD,Nat.min_eq_left h]
 rfl
def DueI.dr (i:DueI G nd w h b j):∃ d,drW G (.loc nd)=some (.lst d):=by
 obtain⟨c,f,_,o⟩:=i;have e:∀ d∈c,∃ x,drN G 5 d=some x:=λd e=>by
  obtain⟨k,g⟩:=List.mem_iff_getElem?.mp e;obtain⟨l,R⟩:=o k d g;exact⟨_,zEg R.ll.top (zDg (λp:Nat×List D=>p.1) (λp=>.lst p.2) l λp n=>zHf (R.ll.row p n))⟩
 exact⟨c.map λd=>(drN G 5 d).getD .non,by
  unfold drW;rw[sbW];exact zEg f (zDg (λd:Nat=>d) (λd=>(drN G 5 d).getD .non) c λd a=>by obtain⟨x,m⟩:=e d a;rw[m];rfl)⟩
def Sz (w h:Nat):Prop:=1<=w/\w<=4/\1<=h/\h<=4
def K1 (G μ2:Mem):Prop:=G.length<=μ2.length/\∀ x,1<=x->x < G.length->μ2[x]?=G[x]?
def Kq.k1 {μ2:Mem}(k:Kq G μ2):K1 G μ2:=⟨k.le,λx _ a=>k.kp x a⟩
def K1.trans {μ2:Mem}(a:K1 G μ2)(b:K1 μ2 O7):K1 G O7:=⟨le_trans a.1 b.1,λx h c=>(b.2 x h (xQ c a.1)).trans (a.2 x h c)⟩
def K1.set {μ2:Mem}(k:K1 G μ2):K1 G (μ2.set 0 ws):=⟨by rw[length_set];exact k.1,λx h a=>(getElem?_set_ne (by omega)).trans (k.2 x h a)⟩
def LD (o:W)(w h:Nat)(G:Mem)(K:Nat->Nat->Fm):Prop:=clsW "films" o=some "Fill"/\flK zBO o w h G K\/clsW "films" o=some "Rub"/\flK zBZ o w h G K
structure Lf (G:Mem)(o:W)(K:Nat->Nat->Nat->Nat->Fm):Prop where
 b:∀ w h,Sz w h->TB 221000 w h (K w h)
 f:∀ G',K1 G G'->∀ w h,Sz w h->LD o w h G' (K w h)
def Lf.keep {μ2:Mem}(f:Lf G o K)(k:K1 G μ2):Lf μ2 o K:=⟨f.b,λG' a=>f.f G' (k.trans a)⟩
structure ShOk (rs:List (List Pt)):Prop where
 l:rs.length<=1
 s:∀ ps∈rs,Six ps
def ShOk.fl (s:ShOk rs)(z:Sz w h):Fl w h rs:=⟨z.1,z.2.1,z.2.2.1,z.2.2.2,s.l,s.s⟩
def zSM (s:ShOk rs)(R:Rw G a b l (rs.map λps=>ps.map ptD))(f:1<=b)(d:RB 80 t)(h1:I255 r)(h2:I255 g)(h3:I255 c):Lf G (zJE a (inkD r g c) t) λw h=>zQW w h rs t r g c :=
 ⟨λw h z=>zTG (s.fl z) d h1 h2 h3,λG' k w h z=>.inl ⟨rfl,zUQ (s.fl z) d h1 h2 h3 (Rw.shape (R.range λx e=>k.2 x (by omega)))⟩⟩
def zUM (s:ShOk rs)(R:Rw G a b l (rs.map λps=>ps.map ptD))(g:1<=b)(c:RB 80 t):Lf G (rubW a t) λw h=>rubT w h rs t :=
 ⟨λw h z=>⟨λj i d e=>⟨(zCZ zB0 (zAi (zRY (s.fl z) d e) c)).mono (by decide),zBK.mono (by decide),zBK.mono (by decide),zBK.mono (by decide),zBK.mono (by decide)⟩⟩,λG' k w h z=>.inr ⟨rfl,kRub (s.fl z) c (Rw.shape (R.range λx f=>k.2 x (by omega)))⟩⟩
abbrev ix0:List (Str×Nat):=[("Fill",12),("Rub",13)]
abbrev ix1:List (Str×Nat):=[("Fill",12),("Rub",13),("Join",15),("Group",16)]
def LD.disp (d:LD o w h G K)(c:ix.lookup ("Fill":Str)=some 12)(e:ix.lookup ("Rub":Str)=some 13)(d1:U[12]?=some (("Fill.films":Str),zBO))(f:U[13]?=some (("Rub.films":Str),zBZ)):Disp U ix o w h G K:=by
 rcases d with ⟨a,b⟩ | ⟨a,b⟩
 .exact ⟨_,_,_,_,a,c,d1,by decide +kernel,b⟩
 .exact ⟨_,_,_,_,a,e,f,by decide +kernel,b⟩
section
variable {w h a m:Nat}{ws:List W}{t:Rat}{G:Mem}{K:Nat->Nat->Nat->Fm}
def jgd (k:TB m w h (aT K ws.length))(d:RB 80 t)(l:m+80<=10000000)(p:w<=10)(f:h<=10)(e:U[n]?=some (("joined_films":Str),FJ))(o:∀ Q:MR->Prop,(∀ (G':Mem) (n:Nat) (l:Lp),Kq G G'->Rw G' n G.length l (mT w h (aT K ws.length))->Q (.loc n,G'))->EvP (FJ [.dat (.int (w:Int)),.dat (.int (h:Int)),.loc a] G) Q) :
  flK (lamM FM41 2 L2 [0] 3 3 (zEA GL3 U .nil) (evM GL3 U (meJ n))) (objW "Join" a t) w h G (λj i=>gX false t (aT K ws.length j i))/\flK (lamM FM41 3 L3 [0] 3 3 (zEA GL3 U .nil) (evM GL3 U (meJ n))) (objW "Group" a t) w h G (λj i=>gX true t (aT K ws.length j i)) :=
 ⟨zSV (g:=gX false t) e (by decide +kernel) (FL:=FL2) rfl (λj i b c Q q=>gJ (k.b j i b c) d l q) p f o,zSV (g:=gX true t) e (by decide +kernel) (FL:=FL3) rfl (λj i b c Q q=>gG (k.b j i b c) d l q) p f o⟩
def d0 (p:G[a]?=some ws)(d:∀ k,k < ws.length->TB m w h (K k))(r:∀ k o,ws[k]?=some o->∀ G',Kq G G'->LD o w h G' (K k))(f:RB 80 t)(l:m+(1+ws.length*(2*m+1))+100<=10000000)(b:w<=10)(c:h<=10) :
  Disp D17 ix1 (objW "Join" a t) w h G (λj i=>gX false t (aT K ws.length j i))/\Disp D17 ix1 (objW "Group" a t) w h G (λj i=>gX true t (aT K ws.length j i)):=by
 have q:=jgd (U:=D15) (n:=14) (FJ:=FM46) (a:=a) (G:=G) (ws:=ws) (aT_b d _ (le_refl _)) f (by omega) b c rfl λQ q=>zSW (U:=D14) (ix:=ix0) rfl rfl p (λk o e G' g=>(r k o e G' g).disp rfl rfl rfl rfl) d (by omega) b c q
 exact⟨⟨_,15,_,zDe,rfl,rfl,rfl,by decide +kernel,q.1⟩,⟨_,16,_,zDB,rfl,rfl,rfl,by decide +kernel,q.2⟩⟩
def d1 (e:G[a]?=some ws)(b:∀ k,k < ws.length->TB m w h (K k))(g:∀ k o,ws[k]?=some o->∀ G',Kq G G'->Disp D17 ix1 o w h G' (K k))(f:RB 80 t)(l:m+(1+ws.length*(2*m+1))+100<=10000000)(c:w<=10)(d:h<=10) :
  Disp D24 ixL (objW "Join" a t) w h G (λj i=>gX false t (aT K ws.length j i))/\Disp D24 ixL (objW "Group" a t) w h G (λj i=>gX true t (aT K ws.length j i)):=by
 have q:=jgd (U:=D18) (n:=17) (FJ:=zOo) (a:=a) (G:=G) (ws:=ws) (aT_b b _ (le_refl _)) f (by omega) c d rfl λQ q=>zSW (U:=D17) (ix:=ix1) rfl rfl e g b (by omega) c d q
 exact⟨⟨_,18,_,zCt,rfl,rfl,rfl,by decide +kernel,q.1⟩,⟨_,19,_,zCc,rfl,rfl,rfl,by decide +kernel,q.2⟩⟩
end
def gX_b (b:TB m w h r)(d:RB 80 t):TB (m+163) w h λj i=>gX x t (r j i):=⟨λj i a c=>by
 unfold gX;cases x
 .exact (zUm (b.b j i a c) d).mono (by omega)
 .exact (zUo (b.b j i a c) d).mono (by omega)⟩
def flP (G:Mem)(O:List (Option W))(w h:Nat)(K:Nat->Nat->Nat->Fm)(j:Nat)(s:Mst)(d:List W):Prop:=∃ (o:Option W) (ls:List Nat),s.O=O++[o]/\Kq G s.G/\d=ls.map .loc/\ls.length=j/\∀ k n,ls[k]?=some n->∃ b l,Rw s.G n b l (mT w h (K k))
def zNP {f:List W}{K:Nat->Nat->Nat->Fm}(L:O.length=14)(e3:O[3]?=some (some (.loc n)))(p:O[11]?=some (some (.dat (.tup [.int (w:Int),.int (h:Int)]))))(T:G[n]?=some f)(ho:f.length<=100)(Z:∀ k o,f[k]?=some o->∀ G',Kq G G'->Disp D25 ixL o w h G' (K k))
  (hQ:∀ (G':Mem) (na:Nat) (ls:List Nat),Kq G G'->G'[na]?=some (ls.map .loc)->ls.length=f.length->(∀ k n,ls[k]?=some n->∃ b l,Rw G' n b l (mT w h (K k)))->Q (.loc na,G')):EvP (evM GL3 D25 (.comp 14 [] "_law_layer" (.it (.var 3)) (.mth ixL "films" (.var 14) (.cons (.ix (.var 11) (.pur (.int 0))) (.cons (.ix (.var 11) (.pur (.int 1))) .nil)))) ⟨O,G⟩) Q:=by
 refine zES (zBn (zAM e3 ⟨n,rfl,?_⟩));rw[zMn];have step:∀ j x (s:Mst) (d:List W),f[j]?=some x->flP G O w h K j s d->d.length<=10000/\∃ s1 r,tgM 14 x s=some s1/\evM GL3 D25 (.mth ixL "films" (.var 14) (.cons (.ix (.var 11) (.pur (.int 0))) (.cons (.ix (.var 11) (.pur (.int 1))) .nil))) s1=some r/\flP G O w h K (j+1) ⟨s1.O,r.2⟩ (d++[r.1]):=λj x s d J C=>by
  obtain⟨o,ls,H,A,rfl,u,D⟩:=C;have hj:=(zzg J).1;obtain⟨c,nF,yy,F,d1,X,d3,P,U⟩:=Z j x J _ A;obtain⟨r,er,q⟩:EvP (evM GL3 D25 (.mth ixL "films" (.var 14) (.cons (.ix (.var 11) (.pur (.int 0))) (.cons (.ix (.var 11) (.pur (.int 1))) .nil))) ⟨O++[some x],s.G⟩) λr=>∃ m l,r.1=.loc m/\Kq s.G r.2/\Rw r.2 m s.G.length l (mT w h (K j)):=by
   have g:∀ {i:Nat} {v:W},i < 14->O[i]?=some (some v)->(O++[some x])[i]?=some (some v):=λ{i v} hi e=>by rw[getElem?_append_left (by omega)];exact e
   refine zPj (zAM (by rw[getElem?_append_right (by omega),L];rfl) ⟨c,nF,yy,F,d1,X,d3,P,zAD (m_tx (g (by decide) p) rfl (zAD (m_tx (g (by decide) p) rfl (zAY ?_))))⟩);exact U _ λG' m l k R=>⟨m,l,rfl,k,R⟩
  obtain⟨m,l,e1,k,R⟩:=q;refine⟨by rw[qy,u];omega,⟨O++[some x],s.G⟩,r,?_,er,some x,ls++[m],rfl,A.trans k,by rw[xJ,e1];rfl,by rw[qQ,u];rfl,λk' N a=>?_⟩
  .unfold tgM;rw[H,set_append_right _ _ (by omega),L,sub_self]
   rfl
  .by_cases z:k' < ls.length
   .rw [getElem?_append_left z] at a;obtain⟨b,l',Y⟩:=D k' N a;exact⟨b,l',Y.keep k⟩
   .have E:k'=j/\N=m:=by
     rw[getElem?_append_right (by omega)] at a;have:=(zzg a).1;have V:k' - ls.length=0:=by simpa using this
     rw[V] at a;exact⟨by omega,by simpa using a.symm⟩
    obtain⟨rfl,rfl⟩:=E;exact⟨_,l,R⟩
 obtain⟨y,s',M,S,⟨o,ls,H,A,I,u,D⟩,p6⟩:=zEj (t:=tgM 14) (src:=.live n) (s:=⟨O++[none],G⟩) (e:=evM GL3 D25 (.mth ixL "films" (.var 14) (.cons (.ix (.var 11) (.pur (.int 0))) (.cons (.ix (.var 11) (.pur (.int 1))) .nil)))) f
  (flP G O w h K) (λj s d C=>by obtain⟨_,_,_,k,_⟩:=C;exact k.get T) step ⟨none,[],rfl,zIB,rfl,rfl,λk n e=>by simp at e⟩
 refine⟨y,M,S,by rw[I,qy,u];omega,?_⟩;rw[<- p6,I];refine hQ _ _ ls A.app zAU u λk n e=>?_
 obtain⟨b,l,R⟩:=D k n e;exact⟨b,l,R.keep zBG⟩
abbrev szD (w h:Nat):D:=.tup [.int (w:Int),.int (h:Int)]
structure St (G:Mem)(os:List W)(K:Nat->Nat->Nat->Nat->Nat->Fm)(n m9 m10 a b:Nat)(o3:W)(t:Rat):Prop where
 e0:G[0]?=some os
 lo:os.length=4
 lf:∀ k o,os[k]?=some o->Lf G o (K k)
 e3:os[3]?=some o3
 n3:n<=3
 one:G[m9]?=some [objW "Join" a t,objW "Group" b t]
 ea:G[a]?=some (os.take n)
 eb:G[b]?=some (os.take n)
 oth:Made G m10 [objW "Join" a t,objW "Group" b t,o3] t
def St.keep {μ2:Mem}{c:List W}(s:St G c K n m9 m10 a b o3 t)(k:Kq G μ2):St μ2 c K n m9 m10 a b o3 t :=
 ⟨k.get s.e0,s.lo,λi o e=>(s.lf i o e).keep k.k1,s.e3,s.n3,k.get s.one,k.get s.ea,k.get s.eb,by obtain⟨x,y,h1,h2,h3⟩:=s.oth.a;exact⟨x,y,k.get h1,k.get h2,k.get h3⟩⟩
noncomputable def zOv:MT:=match mtl 9 mb68 with
 | .cons (.for1 _ _ b) _=>b
 | _=>.nil
def turn {E:List W}(S:St G E K n m9 m10 a b o3 t)(z:Sz w h)(ho:StO o t)(D:RB 80 t)
  (hQ:∀ (G':Mem) (o12 o13:Option W),Kq G G'->Q (.nx ⟨[x0,x1,x2,some (.loc 0),x4,x5,x6,some (.dat o),some (.dat (.int (n:Int))),some (.loc m9),some (.loc m10),some (.dat (szD w h)),o12,o13],G'⟩)) :
  EvP (evSs' GL3 D25 zOv ⟨[x0,x1,x2,some (.loc 0),x4,x5,x6,some (.dat o),some (.dat (.int (n:Int))),some (.loc m9),some (.loc m10),some (.dat (szD w h)),o12,o13],G⟩) Q:=by
 obtain⟨z1,z2,z3,z4⟩:=id z;have hb:∀ k,k < E.length->TB 221000 w h (K k w h):=λk J=>(S.lf k _ (getElem?_eq_getElem J)).b w h z
 have q:(E.take n).length=n:=by rw[length_take,S.lo];have:=S.n3;omega
 have n3:=S.n3;have lo:=S.lo;have bd:221000+(1+n*(2*221000+1))+100<=10000000:=by omega
 have tk:∀ k o,(E.take n)[k]?=some o->E[k]?=some o:=λk o e=>by
  rw[List.getElem?_take] at e;split at e
  .exact e
  .cases e
 unfold zOv mb68;simp only[mtl];refine zAB (zFe ?_);refine zNP (w:=w) (h:=h) (K:=λk=>K k w h) rfl rfl rfl S.e0 (by omega) (λk o e G' y=>((S.lf k o e).f G' y.k1 w h z).disp rfl rfl rfl rfl) λO5 na u k1 f1 f2 f3=>zAP ?_
 (walk_at "s");refine zAB (zAn (zBM (F:=FM67) rfl (zAD (zAM rfl (zAD (zSH (zAM rfl (zAM rfl ⟨na,(n:Int),_,rfl,rfl,f1,?_⟩))))))));rw[if_pos rfl,if_pos rfl,zIR (by rw[qy,f2];omega),<- List.map_take];refine zAD (zAM rfl (zAD (zAM rfl (zAY ?_))));have H:=S.keep (k1.app (P:=[(u.take n).map W.loc]));have F2:Fs (O5++[(u.take n).map W.loc]) O5.length n w h (λk=>K k w h):=⟨u.take n,zAU,by rw[length_take,f2];omega,λk m e=>by
  rw[List.getElem?_take] at e;split at e
  .obtain ⟨Z,L,R⟩:=f3 k m e;exact⟨Z,L,R.keep zBG⟩
  .cases e⟩
 have fz:(O5++[(u.take n).map W.loc])[na]?=some (u.map .loc):=zAR f1;have f4:∀ k m,u[k]?=some m->∃ b l,Rw (O5++[(u.take n).map W.loc]) m b l (mT w h (K k w h)):=λk m e=>by obtain⟨Z,L,R⟩:=f3 k m e;exact⟨Z,L,R.keep zBG⟩
 have k2:Kq G (O5++[(u.take n).map W.loc]):=k1.app;refine(show EvP (FM67 [.loc m9,.loc O5.length,.dat o,.dat (szD w h)] (O5++[(u.take n).map W.loc])) _ from ?_);generalize O5++[(u.take n).map W.loc]=μ2 at H F2 fz f4 k2;have v:∀ k,k < (E.take n).length->TB 221000 w h (K k w h):=λk J=>hb k (by omega)
 have lf:∀ {g:Mem},Kq μ2 g->∀ k o,E[k]?=some o->∀ r,Kq g r->LD o w h r (K k w h):=λkv k o e r y=>(H.lf k o e).f r (kv.trans y).k1 w h z
 have q1:∀ {g:Mem},Kq μ2 g->Disp D24 ixL (objW "Join" a t) w h g (λj i=>gX false t (aT (λk=>K k w h) n j i))/\Disp D24 ixL (objW "Group" b t) w h g (λj i=>gX true t (aT (λk=>K k w h) n j i)):=λ{g} kv=>by
  have A:=d1 (w:=w) (h:=h) (t:=t) (K:=λk=>K k w h) (kv.get H.ea) v (λk o e r y=>(lf kv k o (tk k o e) r y).disp rfl rfl rfl rfl) D (by rw[q];exact bd) (by omega) (by omega);have B:=d1 (w:=w) (h:=h) (t:=t) (K:=λk=>K k w h) (kv.get H.eb) v (λk o e r y=>(lf kv k o (tk k o e) r y).disp rfl rfl rfl rfl) D (by rw[q];exact bd) (by omega) (by omega);rw[q] at A B;exact⟨A.1,B.2⟩
 refine m67 F2 (λk J=>hb k (by omega)) bd D ho H.one (λg kv=>(q1 kv).1) (λg kv=>(q1 kv).2) z1 z3 (by omega) (by omega) λO7 nd k3 I=>zAP ?_
 (walk_at "s");obtain⟨dd,a8⟩:=I.dr;refine zAB (zC4 (zTy (zEr rfl (zBg (zAI (zAF rfl a8) (zDZ ⟨(.bl false,.cl),rfl,false,rfl,rfl,?_⟩))))));obtain⟨x,i1,i2,i3⟩:=I;obtain⟨f,Y⟩:∃ f,u[3]?=some f:=⟨_,getElem?_eq_getElem (by omega)⟩;refine zTz (zUJ (zBM (F:=FM67) rfl (zAD (zAM rfl (zAD (zSI (zAM rfl (zDk (zAD (m_ix (zAM rfl (zAa rfl (zAO (zAf rfl (zC9 (k3.get fz) (w:=.loc f) (zAx (j:=3) (by rw[getElem?_map,Y];rfl)) (zAY ⟨by show 1<=10000;decide,?_⟩))))))))))))))));refine⟨nd,O7.length,x.map .loc,[.loc f],rfl,rfl,zAR i1,zAU,by rw[qy,i2];exact zzb rfl,?_⟩;refine zAD (zAM rfl (zAD (zAM rfl (zAY ?_))));have S3:=H.keep ((k3.app (P:=[[W.loc f]])).app (P:=[x.map W.loc++[W.loc f]]));have k4:Kq μ2 (O7++[[W.loc f]]++[x.map W.loc++[W.loc f]]):=k3.app.app;have F3:Fs (O7++[[W.loc f]]++[x.map W.loc++[W.loc f]]) (O7++[[W.loc f]]).length 3 w h (λk=>if k < 2 then λj i=>gX (decide (k=1)) t (aT (λk=>K k w h) n j i) else K 3 w h):=by
  refine⟨x++[f],by rw[xJ];exact zAU,by rw[qQ,i2];rfl,λk m e=>?_⟩;by_cases J:k < 2
  .rw [getElem?_append_left (by omega)] at e;obtain⟨L,R⟩:=i3 k m e;rw[if_pos J];exact⟨_,L,R.keep zBG.app⟩
  .rw [getElem?_append_right (by omega)] at e;have a5:k - x.length=0:=by have:=(zzg e).1;simpa using this
   rw[a5] at e;obtain rfl:f=m:=by simpa using e
   obtain⟨Z,L,R⟩:=f4 3 f Y;rw[if_neg J];exact⟨Z,L,R.keep k4⟩
 refine(show EvP (FM67 [.loc m10,.loc (O7++[[W.loc f]]).length,.dat o,.dat (szD w h)] (O7++[[W.loc f]]++[x.map W.loc++[W.loc f]])) _ from ?_);have k5:Kq G (O7++[[W.loc f]]++[x.map W.loc++[W.loc f]]):=k2.trans k4;generalize O7++[[W.loc f]]++[x.map W.loc++[W.loc f]]=Y9 at S3 F3 k4 k5;have U:∀ k,k < 3->TB 1326200 w h ((λk=>if k < 2 then λj i=>gX (decide (k=1)) t (aT (λk=>K k w h) n j i) else K 3 w h) k):=λk J=>by
  dsimp only;split
  .exact (gX_b (aT_b (N:=E.length) hb n (by omega)) D).mono (by omega)
  .exact (hb 3 (by omega)).mono (by decide)
 obtain⟨c,d,g1,g2,g3⟩:=S3.oth.a;have q2:∀ {g:Mem},Kq Y9 g->Disp D24 ixL (objW "Join" c t) w h g (λj i=>gX false t (aT (λk=>if k < 2 then λj i=>gX (decide (k=1)) t (aT (λk=>K k w h) n j i) else K 3 w h) 3 j i))/\Disp D24 ixL (objW "Group" d t) w h g (λj i=>gX true t (aT (λk=>if k < 2 then λj i=>gX (decide (k=1)) t (aT (λk=>K k w h) n j i) else K 3 w h) 3 j i)):=λ{g} kv=>by
  have hd:∀ k o,[objW "Join" a t,objW "Group" b t,o3][k]?=some o->∀ r,Kq g r->Disp D17 ix1 o w h r ((λk=>if k < 2 then λj i=>gX (decide (k=1)) t (aT (λk=>K k w h) n j i) else K 3 w h) k):=λk o e r y=>by
   have V:=(k4.trans kv).trans y;have C:=d0 (w:=w) (h:=h) (t:=t) (K:=λk=>K k w h) (V.get H.ea) v (λk o e Z6 O=>lf V k o (tk k o e) Z6 O) D (by rw[q];exact bd) (by omega) (by omega);have D':=d0 (w:=w) (h:=h) (t:=t) (K:=λk=>K k w h) (V.get H.eb) v (λk o e Z6 O=>lf V k o (tk k o e) Z6 O) D (by rw[q];exact bd) (by omega) (by omega);rw[q] at C D'
   match k,e with
   | 0,e=>cases e;exact C.1
   | 1,e=>cases e;exact D'.2
   | 2,e=>cases e;exact(lf V 3 _ S.e3 _ zIB).disp rfl rfl rfl rfl
   | k+3,e=>cases e
  have l3:1326200+(1+[objW "Join" a t,objW "Group" b t,o3].length*(2*1326200+1))+100<=10000000:=by simp only[xY,List.length_nil];omega
  exact⟨(d1 (w:=w) (h:=h) (t:=t) (m:=1326200) (ws:=[objW "Join" a t,objW "Group" b t,o3]) (kv.get g2) U hd D l3 (by omega) (by omega)).1,(d1 (w:=w) (h:=h) (t:=t) (m:=1326200) (ws:=[objW "Join" a t,objW "Group" b t,o3]) (kv.get g3) U hd D l3 (by omega) (by omega)).2⟩
 refine m67 F3 U (by decide) D ho g1 (λg kv=>(q2 kv).1) (λg kv=>(q2 kv).2) z1 z3 (by omega) (by omega) λC1 d2 k6 I'=>?_
 obtain⟨c8,X⟩:=I'.dr;refine zAa rfl (zDZ (zAf rfl ⟨_,_,X,zAL,⟨(.bl false,.cl),rfl,zAf rfl ⟨false,rfl,(λz=>nomatch z),λ_=>zAq (zAP (zAq (hQ _ _ _ (k5.trans k6))))⟩⟩⟩))
def zKl {a:List W}{K:Nat->Nat->Nat->Nat->Nat->Fm}(h:∀ k o,a[k]?=some o->Lf G o (K k))(k:K1 G G')(n:Lf G' o r):∀ i x,(a++[o])[i]?=some x->Lf G' x ((λi=>if i=a.length then r else K i) i):=λi x e=>by
 by_cases z:i < a.length
 .rw [getElem?_append_left z] at e;dsimp only;rw[if_neg (by omega)];exact(h i x e).keep k
 .rw [getElem?_append_right (by omega)] at e;have b:i - a.length=0:=by have:=(zzg e).1;simpa using this
  rw[b] at e;obtain rfl:o=x:=by simpa using e
  dsimp only;rw[if_pos (by omega)];exact n
def zSN (ns:List Int)(hn:ns.length<=63):EvP (FM68 [.dat (scr ns)] []) λx=>x.1=.dat (.bl true):=by
 refine zC2 rfl (by decide) ?_;show EvP (evSs' GL3 D25 mb68 ⟨[some (.dat (scr ns)),none,none,none,none,none,none,none,none,none,none,none,none,none],[]⟩) _;unfold mb68;refine zAB (zAn (zAa rfl (zAZ (zAO (zAZ (zAK rfl (zAC (zAI (zAF rfl zAL) (n_cl (zAC (zAO (n_cl (zAT ?_)))))))))))));refine h47 ns 0 _ (by decide) ?_;refine n_cl (zAO (zA7 (by decide) (zEo (zAf rfl (zAP ?_)))));(walk_at "s");refine zAB (zAn (zAa rfl (zAZ (zAO (zAZ (zAK rfl (zAC (zAI (zAF rfl zAL) (n_cl (zAC (zAO (n_cl (zAT ?_)))))))))))));refine h47 ns 1 _ (by decide) ?_;refine n_cl (zAO (zA7 (by decide) (zEo (zAf rfl (zAP ?_)))));(walk_at "s");have a1:=xX (cel ns 0) (show (0:Int) < 3 by decide);have a2:=fmod_lt_of_pos (cel ns 0) (show (0:Int) < 3 by decide);have a3:=xX (cel ns 1) (show (0:Int) < 2 by decide);have a4:=fmod_lt_of_pos (cel ns 1) (show (0:Int) < 2 by decide);obtain⟨w,ew⟩:∃ w:Nat,1+(cel ns 0).fmod 3=(w:Int):=⟨(1+(cel ns 0).fmod 3).toNat,by omega⟩;obtain⟨h,eh⟩:∃ h:Nat,1+(cel ns 1).fmod 2=(h:Int):=⟨(1+(cel ns 1).fmod 2).toNat,by omega⟩;rw[ew,eh];have X:1<=w:=by omega
 have w2:w<=3:=by omega
 have h1:1<=h:=by omega
 have h2:h<=2:=by omega
 clear a1 a2 a3 a4 ew eh;refine zAB (zAn (zDk (zAY ⟨zero_le _,zAP ?_⟩)));(walk_at "s");refine zAB (zBR (zBa (zAa rfl (zAO (zAf rfl ⟨_,rfl,by decide,?_⟩)))));refine zCG (s:=⟨_,_⟩) ((rngL 0 4).map .dat) (λj s=>∃ (I M L Y:Option W) (d:List W) (K:Nat->Nat->Nat->Nat->Nat->Fm) (p:Mem),s=⟨[some (.dat (scr ns)),some (.dat (.int (w:Int))),some (.dat (.int (h:Int))),some (.loc 0),I,M,L,Y,none,none,none,none,none,none],p⟩/\p[0]?=some d/\d.length=j/\∀ k o,d[k]?=some o->Lf p o (K k)) (λ_ _ _=>rfl) ?_ ?_ ⟨none,none,none,none,[],λ_ _ _ _ _=>clr,_,rfl,rfl,rfl,λk o e=>by simp at e⟩
 .rintro j y s c ⟨I,M,L,Y,d,K,G,rfl,A,J,O⟩;obtain⟨rfl,hj⟩:=idx c;refine⟨_,rfl,?_⟩;dsimp only;(walk_at "s");have d4:=(zzg A).1;refine zAB (zAn (zAa rfl (zAK rfl (zAC (zAK rfl (zAC (zAI (zAF rfl zAL) (n_cl (zAC (zAZ (zAO (zAI (zAF rfl zAL) (zEo (n_cl (zAT ?_)))))))))))))));refine h47 ns (2+(j:Int)) _ (by omega) ?_;refine n_cl (n_cl (zAC (zAI (zAF rfl zAL) (n_cl (zAT ?_)))));refine h49 _ (j:Int) _ (by omega) (by omega) λx=>?_
  refine n_cl (zAf rfl (zAP ?_));(walk_at "s");refine zAB (zAn (zBM (F:=FM61) rfl (zAD (zAa rfl (zAZ (zAI (zAF rfl zAL) (zAO (zCH (zBU (by decide) (by decide)) (zAf rfl (zAD (zAM rfl (zAD (zAM rfl (zAY ?_))))))))))))));refine m61 _ w h (by omega) (by omega) G _ λO5 n l rs H Z hl hs=>zAP ?_
  (walk_at "s");refine zAB (zAn (zAa rfl (zAK rfl (zAC (zAK rfl (zAC (zAK rfl (zAC (zAI (zAF rfl zAL) (n_cl (zAC (zAZ (zAO (zAI (zAF rfl zAL) (zEo (n_cl (zAT ?_)))))))))))))))));refine h47 ns (7+(j:Int)) _ (by omega) ?_;refine n_cl (n_cl (zAC (zAI (zAF rfl zAL) (n_cl (zAT ?_)))));refine h49 _ (j:Int) _ (by omega) (by omega) λx2=>?_
  refine n_cl (n_cl (zAT ?_));refine h55 x2 _ λt rt=>?_
  refine n_cl (zAf rfl (zAP ?_));(walk_at "s");have so:ShOk rs:=⟨hl,hs⟩;have v:(rs.map λps=>ps.map ptD).length<=100:=by rw[qy];omega
  have b1:=H.le;refine zAB (zC4 (zEr rfl (zBg (zAZ (zAI (zAF rfl zAL) (zAO (zA7 (by decide) (zAO (zNq ?_)))))))));refine⟨_,rfl,λ_=>?_,λ_=>?_⟩
  .refine zAB (zCA (zAM rfl (m_mk (F:=zCJ) (y := "Rub()") rfl (by decide +kernel) (zAD (zAM rfl (zAD (zAM rfl (zAY ?_))))))));refine(show EvP (zCJ [.loc n,.dat (ratD t)] O5) _ from ?_);refine mRub Z v zIH (.inr rfl) λP m l' T=>⟨_,_,rfl,zAR (H.get A),by omega,zAP (zAq (zAP (zAq ?_)))⟩
   refine⟨_,_,_,_,d++[rubW m t],_,_,rfl,getElem?_set_self (by rw[qQ];omega),by rw[qQ,J];rfl,zKl O (K1.set (H.trans zBG).k1) (zUM so (T.range (μ2:=(O5++P).set 0 _) λx hx _=>getElem?_set_ne (by omega)) (by omega) rt)⟩
  .refine zAB (zCA (zAM rfl (m_mk (F:=zC1) (y := "Fill()") rfl (by decide +kernel) (zAD (zAM rfl (zAD (zAa rfl (zAK rfl (zAC (zAZ (zAI (zAF rfl zAL) (zAO (zCH (zBU (by decide) (by decide)) (n_cl (zAT ?_)))))))))))))));refine h63 _ _ λr g b i1 i2 i3=>n_cl (zAf rfl (zAD (zAM rfl (zAY ?_))))
   refine(show EvP (zC1 [.loc n,.dat (inkD r g b),.dat (ratD t)] O5) _ from ?_);refine zUL Z v zIH (.inr rfl) λP m l' T=>⟨_,_,rfl,zAR (H.get A),by omega,zAP (zAq (zAP (zAq ?_)))⟩
   refine⟨_,_,_,_,d++[zJE m (inkD r g b) t],_,_,rfl,getElem?_set_self (by rw[qQ];omega),by rw[qQ,J];rfl,zKl O (K1.set (H.trans zBG).k1) (zSM so (T.range (μ2:=(O5++P).set 0 _) λx hx _=>getElem?_set_ne (by omega)) (by omega) rt i1 i2 i3)⟩
 .rintro s ⟨I,M,L,Y,d,K,G,rfl,A,J,O⟩;rw[nrng] at J;refine zAP ?_;refine zAB (zAn (zAa rfl (zAZ (zAK rfl (zAC (zAI (zAF rfl zAL) (n_cl (zAC (zAO (n_cl (zAT ?_)))))))))));refine h47 ns 6 _ (by decide) ?_;refine n_cl (zAO (zA7 (by decide) (zAf rfl (zAP ?_))));(walk_at "s");have c1:=xX (cel ns 6) (show (0:Int) < 4 by decide);have c2:=fmod_lt_of_pos (cel ns 6) (show (0:Int) < 4 by decide);obtain⟨n,en⟩:∃ n:Nat,(cel ns 6).fmod 4=(n:Int):=⟨((cel ns 6).fmod 4).toNat,by omega⟩;rw[en];have n3:n<=3:=by omega
  clear c1 c2 en;refine zAB (zAn (zAa rfl (zDZ (zAf rfl (zAP ?_)))));(walk_at "s");have go:∀ (o:D) (t:Rat),StO o t->RB 80 t->EvP (evSs' GL3 D25 (mtl 7 mb68) ⟨[some (.dat (scr ns)),some (.dat (.int (w:Int))),some (.dat (.int (h:Int))),some (.loc 0),I,M,L,some (.dat o),some (.dat (.int (n:Int))),none,none,none,none,none],G⟩) (KFM λx=>x.1=.dat (.bl true)):=λo t Q ht=>by
   unfold mb68;simp only[mtl];obtain⟨B,N⟩:∃ B,d[3]?=some B:=⟨_,getElem?_eq_getElem (by omega)⟩;refine zAB (zAn (zBM (F:=FM66) rfl (zAD (zSH (zAM rfl (zAM rfl ⟨0,(n:Int),d,rfl,rfl,A,?_⟩))))));rw[if_pos rfl,if_pos rfl,zIR (by omega)];refine zAD (zAM rfl (zAY ?_));refine(show EvP (FM66 [.loc G.length,.dat o] (G++[d.take n])) _ from ?_);refine m66 zAU (by rw[length_take];omega) Q λO5 U k1 M1=>zAP ?_
   (walk_at "s");obtain⟨a,b,g1,g2,g3⟩:=M1.a;have E:Kq G O5:=zBG.trans k1;refine zAB (zAn (zBM (F:=FM66) rfl (zAD (zSI (zAM rfl (zDk (zAD (m_ix (zAM rfl (zAa rfl (zAO (zAf rfl (zC9 (E.get A) (w:=B) (zAx (j:=3) N) (zAY ⟨by show 1<=10000;decide,?_⟩))))))))))))));refine⟨U,O5.length,_,_,rfl,rfl,zAR g1,zAU,by show 3<=10000;decide,zAD (zAM rfl (zAY ?_))⟩;refine(show EvP (FM66 [.loc (O5++[[B]]).length,.dat o] (O5++[[B]]++[[objW "Join" a t,objW "Group" b t]++[B]])) _ from ?_);refine m66 zAU (by show 3<=100;decide) Q fun μ2 m10 k2 M2=>zAP ?_
   (walk_at "s");have f:Kq O5 μ2:=(zBG.app).trans k2;have S:St μ2 d K n U m10 a b B t:=⟨(E.trans f).get A,J,λk o e=>(O k o e).keep (E.trans f).k1,N,n3,f.get g1,f.get g2,f.get g3,M2⟩;refine zAB (zBR (zBn (zDk (zAD (zAa rfl (zD2 (zAC (zAI (zAF rfl zAL) (n_cl (zAC (zAI (zAF rfl zAL) (n_cl (zAT ⟨by show 2<=10000;decide,zAf rfl ?_⟩)))))))))))));refine zAD (zAa rfl (zD2 (zAC (zAZ (zAI (zAF rfl zAL) (zAO (zEo (n_cl (zAC (zAI (zAF rfl zAL) (n_cl (zAT ⟨by show 2<=10000;decide,zAf rfl ?_⟩))))))))))));refine zAD (zAa rfl (zD2 (zAC (zAI (zAF rfl zAL) (n_cl (zAC (zAI (zAF rfl zAL) (n_cl (zAT ⟨by show 2<=10000;decide,zAf rfl (zAY ⟨by show 3<=10000;decide,μ2.length,rfl,?_⟩)⟩)))))))));have S2:=S.keep (zBG (P:=[[W.dat (szD w h),.dat (szD (h+1) w),.dat (szD w h)]]));have top:(μ2++[[W.dat (szD w h),.dat (szD (h+1) w),.dat (szD w h)]])[μ2.length]?=some [W.dat (szD w h),.dat (szD (h+1) w),.dat (szD w h)]:=zAU;refine(show EvP (zEv _ _ _ 0 ⟨_,μ2++[[W.dat (szD w h),.dat (szD (h+1) w),.dat (szD w h)]]⟩) _ from ?_);generalize μ2++[[W.dat (szD w h),.dat (szD (h+1) w),.dat (szD w h)]]=O7 at S2 top;refine zCG (s:=⟨_,_⟩) [W.dat (szD w h),.dat (szD (h+1) w),.dat (szD w h)] (λj s=>∃ (C i q:Option W) (p:Mem),s=⟨[some (.dat (scr ns)),some (.dat (.int (w:Int))),some (.dat (.int (h:Int))),some (.loc 0),I,M,L,some (.dat o),some (.dat (.int (n:Int))),some (.loc U),some (.loc m10),C,i,q],p⟩/\Kq O7 p) (λj s zz=>?_) ?_ ?_ ⟨none,none,none,O7,rfl,zIB⟩
   .obtain ⟨_,_,_,p,rfl,k⟩:=zz;exact k.get top
   .rintro j y s c ⟨C,i,q,p,rfl,k⟩;obtain⟨V,R,rfl,z⟩:∃ V R,y=.dat (szD V R)/\Sz V R:=by
     match j,c with
     | 0,c=>exact⟨w,h,(xj c).symm,X,by omega,h1,by omega⟩
     | 1,c=>exact⟨h+1,w,(xj c).symm,by omega,by omega,X,by omega⟩
     | 2,c=>exact⟨w,h,(xj c).symm,X,by omega,h1,by omega⟩
     | _+3,c=>cases c
    refine⟨_,rfl,?_⟩;dsimp only;(walk_at "s");exact turn (S2.keep k) z Q ht λY9 i q k4=>⟨_,_,_,_,rfl,k.trans k4⟩
   .rintro s ⟨C,i,q,p,rfl,k⟩;exact zAP (zAB (zBo (zAa rfl (zTN (zAf rfl (zDp rfl))))))
  refine zAB (zC4 (zEr rfl (zBg (zAZ (zAZ (zAK rfl (zAC (zAI (zAF rfl zAL) (n_cl (zAC (zAO (n_cl (zAT ?_)))))))))))));refine h47 ns 6 _ (by decide) ?_;refine n_cl (zAO (zCH (zBU (by decide) (by decide)) (zAO (zA7 (by decide) (zAO (c_gt ?_))))));refine⟨_,rfl,λ_=>?_,λ_=>zAq (zAP (go .non 1 (.inl ⟨rfl,rfl⟩) (zB0.mono (by decide))))⟩;refine zAB (zAn (zAa rfl (zAK rfl (zAC (zAK rfl (zAC (zAK rfl (zAC (zAI (zAF rfl zAL) (n_cl (zAC (zAO (n_cl (zAT ?_))))))))))))));refine h47 ns 11 _ (by decide) ?_;refine n_cl (n_cl (zAC (zAO (n_cl (zAT ?_)))));refine h49 _ 11 _ (by decide) (by decide) λx2=>?_
  refine n_cl (n_cl (zAT ?_));refine h55 x2 _ λt rt=>?_
  refine n_cl (zAf rfl (zAP (zAq (zAP ?_))));(walk_at "s");exact go (ratD t) t (.inr rfl) rt
def law_true (ns:List Int)(a:ns.length<=63):∃ G,FM68 [.dat (.lst (ns.map D.int))] []=some (.dat (.bl true),G):=by
 obtain⟨⟨w,G⟩,e,q⟩:=zSN ns a;cases q;exact⟨G,e⟩
end Q
end
namespace PySem.W.Fast
def tw10027400017684657299:=0
def tw10060807051851803786:=0
def tw10195214518139587834:=0
def tw10206405185224598439:=0
def tw10212738409338068189:=0
def tw10225175745593250504:=0
def tw10258305343500685913:=0
def tw10260107300335320772:=0
def tw1032812235609790245:=0
def tw10367386244687447854:=0
def tw10396183601777623598:=0
def tw10432063716047164500:=0
def tw10447297934598591311:=0
def tw10462868328992905809:=0
def tw10478993410161785423:=0
def tw10483991906101285784:=0
def tw10521707936342137404:=0
def tw10539460864869460170:=0
def tw10542081426057664656:=0
def tw10580072542539083569:=0
def tw10581123266324579706:=0
def tw10609005739843324855:=0
def tw10629796368501710237:=0
def tw10643490164197874332:=0
def tw10700623850061314675:=0
def tw10707724308453492248:=0
def tw10725594304578601280:=0
def tw1073126114754256231:=0
def tw10733625889986936026:=0
def tw10822192262170642667:=0
def tw10827725559233089326:=0
def tw10936848920965845274:=0
def tw10949882946194626861:=0
def tw10950689095282534344:=0
def tw11006336535876312341:=0
def tw11028305743832083191:=0
def tw11129859282637820222:=0
def tw11132539512225283337:=0
def tw11170402300252930200:=0
def tw11175650116110196771:=0
def tw1124398856548168349:=0
def tw11244515539634932533:=0
def tw11246980580363437743:=0
def tw112524968044743406:=0
def tw11260588371403089934:=0
def tw11295096189596000958:=0
def tw11300103995705491966:=0
def tw11324224903079462484:=0
def tw11348627677863289043:=0
def tw11374813619800738260:=0
def tw11404094225177488775:=0
def tw11405272634562626951:=0
def tw11563100290955519270:=0
def tw1159095015787684227:=0
def tw11621444737980193632:=0
def tw11657245101813552310:=0
def tw11662604061846416710:=0
def tw11776978420282783122:=0
def tw11844071497962723154:=0
def tw11844379746127470225:=0
def tw11883242724970805957:=0
def tw1192379834585840694:=0
def tw1195069088245973838:=0
def tw11996967605689913276:=0
def tw12025597071810755130:=0
def tw12051339127467401502:=0
def tw12084864443387257340:=0
def tw12092230855639259709:=0
def tw12097906897701597899:=0
def tw12106808662045747312:=0
def tw12177215277278928731:=0
def tw12181626389574969264:=0
def tw12185615072663783349:=0
def tw12196457086273189855:=0
def tw12253147214766700715:=0
def tw12332207615389447053:=0
def tw12357064784732886773:=0
def tw12362455494152160647:=0
def tw12387319944022622982:=0
def tw12387389076378354607:=0
def tw12388455931022822995:=0
def tw12392418092240962719:=0
def tw12419386398945328262:=0
def tw12444847014708318775:=0
def tw12458727546698444504:=0
def tw12476976954969882447:=0
def tw12485272791525691927:=0
def tw12496822880092653816:=0
def tw12574509823944273154:=0
def tw12600687990924032674:=0
def tw12615313248069316416:=0
def tw12677880958350095802:=0
def tw12686246471892589201:=0
def tw12686423340357350401:=0
def tw12740068368060492097:=0
def tw12791486491625358359:=0
def tw12834784520222354107:=0
def tw12874309531615396646:=0
def tw12952254599606963520:=0
def tw12985121994576719321:=0
def tw1302442192184151526:=0
def tw13027054149098520404:=0
def tw1303225852151107747:=0
def tw13037950535731506509:=0
def tw13082825497693806734:=0
def tw13097686428507725720:=0
def tw1312325434549348415:=0
def tw13136689797952832830:=0
def tw13233075608671862204:=0
def tw13249947199228277240:=0
def tw13282285006123750211:=0
def tw13303068957919398735:=0
def tw13341729736221430351:=0
def tw13365079803307718823:=0
def tw13367891897411533889:=0
def tw13378901869981024515:=0
def tw13413066540874757256:=0
def tw13436589154275828810:=0
def tw13478368281953492610:=0
def tw13495031683447073749:=0
def tw13499109470477945606:=0
def tw13524881742789347055:=0
def tw13529506225785211884:=0
def tw13531661555325418642:=0
def tw13554842289209428398:=0
def tw135603373919708575:=0
def tw13579707552180307096:=0
def tw13583321152131912389:=0
def tw13585912262341284029:=0
def tw13596403757251659289:=0
def tw13629541719878539765:=0
def tw13635009133691389079:=0
def tw13662072447161269142:=0
def tw1368286129670499062:=0
def tw13707251085579616618:=0
def tw13725256718181203892:=0
def tw13725512392163734052:=0
def tw13776237791003646752:=0
def tw13779191950844845165:=0
def tw13801721124892281558:=0
def tw138235592524798055:=0
def tw13843227869458245668:=0
def tw13872518251913384220:=0
def tw13874080728448986913:=0
def tw13874406226694007240:=0
def tw13880747489470768754:=0
def tw13891417476142780610:=0
def tw13901411873090081507:=0
def tw14052416886732798043:=0
def tw14082024944450147893:=0
def tw14125279437078177183:=0
def tw1414834795052080357:=0
def tw14154447221906729272:=0
def tw1420485054164447161:=0
def tw14220667216647586343:=0
def tw14230047646041101289:=0
def tw14234800505150239925:=0
def tw14286846393961114508:=0
def tw14357594611202254498:=0
def tw14364661284444003321:=0
def tw14381656952150390630:=0
def tw14410429595626222396:=0
def tw14420338766715966824:=0
def tw14481327289864579188:=0
def tw14487636993450230918:=0
def tw14527876919079897792:=0
def tw14531027272032682214:=0
def tw1455532708348415107:=0
def tw14577070849141487965:=0
def tw14596684993054567860:=0
def tw14635868608602469332:=0
def tw1471099451969265030:=0
def tw14742416298554717874:=0
def tw14753475880777183082:=0
def tw14828377590723949596:=0
def tw14828613141559655930:=0
def tw14835397995389590012:=0
def tw14880400260359335632:=0
def tw14886350190323490567:=0
def tw14894994382597733227:=0
def tw14898073041234176125:=0
def tw14915034601311067354:=0
def tw14986380621469432924:=0
def tw15018719685934245635:=0
def tw15019347482500603226:=0
def tw15022471108768242019:=0
def tw15024680987123871314:=0
def tw15090375495131642007:=0
def tw15114095608485704167:=0
def tw1514985139806218730:=0
def tw15156023024634995911:=0
def tw1516041257024297507:=0
def tw15178128217764058900:=0
def tw15190812139468608628:=0
def tw15229312074069567989:=0
def tw15264091694387551016:=0
def tw15334617861054980763:=0
def tw15354611414646675666:=0
def tw15361206629096301208:=0
def tw15407661257193191066:=0
def tw15417870410607191363:=0
def tw15476184382142021762:=0
def tw15491498551011263234:=0
def tw1560808905083729804:=0
def tw15643226046326075316:=0
def tw15655177409359877689:=0
def tw156638608553429634:=0
def tw15695244280184635910:=0
def tw15726990757940688580:=0
def tw15766381466004556273:=0
def tw1577493908894037401:=0
def tw15790984116451598119:=0
def tw15808852321311459238:=0
def tw15812775335089866634:=0
def tw15813277696008568070:=0
def tw15856204344653051674:=0
def tw15879248405283178317:=0
def tw15903229419929465785:=0
def tw15943748418400176234:=0
def tw15951462047615343552:=0
def tw1603907451978214294:=0
def tw16067263843345448147:=0
def tw16076219749890768560:=0
def tw16086245492080318783:=0
def tw16086748439610784968:=0
def tw16142388467354802339:=0
def tw16153542546230610353:=0
def tw16209608683216258387:=0
def tw1623881149808764072:=0
def tw16263680122155048426:=0
def tw16279486041494135406:=0
def tw16422178071562397110:=0
def tw16441788901637933714:=0
def tw16449698831408570122:=0
def tw16490643791325456586:=0
def tw16501969932510812168:=0
def tw16553240922857194990:=0
def tw16561172784083217467:=0
def tw16563567353717405645:=0
def tw16587143885602878488:=0
def tw16653636028218845114:=0
def tw16685640307597529305:=0
def tw16752393350165190275:=0
def tw16796192128075350920:=0
def tw16809098850653186124:=0
def tw16822308403860299217:=0
def tw16846478733696770808:=0
def tw16849046955383029893:=0
def tw16911293948815391261:=0
def tw16929059641529152205:=0
def tw16957700206039654037:=0
def tw16970461946363108899:=0
def tw16979724710015824297:=0
def tw17077061777315619520:=0
def tw17114816935256332399:=0
def tw17155544582269174112:=0
def tw17201021186234786366:=0
def tw17208262683150649925:=0
def tw17222481198934887599:=0
def tw17240524370981454798:=0
def tw17264412354090938456:=0
def tw17266860765333698806:=0
def tw17279796921428104937:=0
def tw1733624562661919243:=0
def tw1735879640239921264:=0
def tw17386467041710499659:=0
def tw17389210773171535524:=0
def tw17406678967144976113:=0
def tw1741644936065857999:=0
def tw17419280002661531160:=0
def tw17422147284378167387:=0
def tw17451058103093428751:=0
def tw17476374648148801158:=0
def tw17518053303476300717:=0
def tw17520061242345286706:=0
def tw17534286410021104720:=0
def tw17540560902899247070:=0
def tw17547544752490335535:=0
def tw1755018947275358807:=0
def tw17660525975181645232:=0
def tw177490098320727549:=0
def tw17768446750908201871:=0
def tw17779657550206261160:=0
def tw17798474440773721364:=0
def tw17838480159590557221:=0
def tw17860362772773356320:=0
def tw17939877200564714478:=0
def tw17957695266732237631:=0
def tw1805022353043054532:=0
def tw18051241685207799164:=0
def tw18059719391138687905:=0
def tw18075537864523501857:=0
def tw18078979195141314378:=0
def tw18098823819403312242:=0
def tw18131547515676617976:=0
def tw18140312446184558546:=0
def tw18187114229438272051:=0
def tw18202193905012176041:=0
def tw18236122751064524586:=0
def tw18290139716379354418:=0
def tw18303943404914142600:=0
def tw18338870150913326692:=0
def tw18343330415459324564:=0
def tw18344388102575613668:=0
def tw18347188156186253097:=0
def tw18443881919347686264:=0
def tw1868766575808346153:=0
def tw187230450124845817:=0
def tw1873346297312780703:=0
def tw187682418854945099:=0
def tw1886486385660537340:=0
def tw1942128508436600405:=0
def tw1943099400563088668:=0
def tw1973681573360021585:=0
def tw1988296688257775584:=0
def tw2040656532612766001:=0
def tw2092128664176591225:=0
def tw2093411576553384068:=0
def tw2118482065309318078:=0
def tw216254633189022533:=0
def tw2188465906318663226:=0
def tw2214530360943038895:=0
def tw2221170647800709035:=0
def tw2244202997120882745:=0
def tw2267543499152100376:=0
def tw2279218245520830526:=0
def tw2284990525692587226:=0
def tw2320151417983000106:=0
def tw2355427664035639889:=0
def tw2411607397257675758:=0
def tw2419594911893814510:=0
def tw2428913437591737916:=0
def tw2432462635101310210:=0
def tw2445133597700552918:=0
def tw2448704531337492094:=0
def tw2468452118278756654:=0
def tw2472747207041865003:=0
def tw2489737523573062566:=0
def tw2494814979951384458:=0
def tw2573393105685544655:=0
def tw260207418806914978:=0
def tw2628925714028250450:=0
def tw2651028781491712922:=0
def tw2670408850063376971:=0
def tw2678702042492556097:=0
def tw2740415276535913691:=0
def tw2780512986867032859:=0
def tw2792667958513408570:=0
def tw2800426290263189594:=0
def tw281320941722376666:=0
def tw2848172248558585591:=0
def tw2895483690754351485:=0
def tw2914522176324252259:=0
def tw2948719830179749513:=0
def tw2966271422038368698:=0
def tw2966814778412776233:=0
def tw29828194063246425:=0
def tw3005070958326583936:=0
def tw300570123647278946:=0
def tw3011858309174484598:=0
def tw304579765291073817:=0
def tw3051025227481027674:=0
def tw308843277937193043:=0
def tw3100615050302548308:=0
def tw3118625451116299323:=0
def tw3154174889829749235:=0
def tw316536470318237924:=0
def tw3299250822621707547:=0
def tw3313805458880744330:=0
def tw3473777263163945866:=0
def tw3771451408467182633:=0
def tw3816918402126900279:=0
def tw3849453185081396558:=0
def tw3859489024462368258:=0
def tw392666625299042200:=0
def tw3949663422462071014:=0
def tw3951123103769166411:=0
def tw3963359463924158284:=0
def tw3990612117871964523:=0
def tw4056804259810390366:=0
def tw4089854818200705556:=0
def tw4104788437873911974:=0
def tw4154502503105965702:=0
def tw4170370279511588169:=0
def tw4215437392296817286:=0
def tw432942886579824697:=0
def tw4382095784307480669:=0
def tw4428831193902283680:=0
def tw4477159439641505082:=0
def tw4484581475876719181:=0
def tw4519338013779449814:=0
def tw4528489747173906909:=0
def tw4550908037463866014:=0
def tw4576685407389826372:=0
def tw4648176099387820280:=0
def tw4668075465541769844:=0
def tw4673067321436141631:=0
def tw4686348767670135484:=0
def tw4694388655276019856:=0
def tw4738463790936359661:=0
def tw4756207260694383229:=0
def tw4759788676297561436:=0
def tw4774654333131031464:=0
def tw4864001599108478554:=0
def tw4874298153328916703:=0
def tw490304019356953113:=0
def tw493971075517872211:=0
def tw496709258858326558:=0
def tw4992986955923124399:=0
def tw5035198266805961675:=0
def tw5061998723774782483:=0
def tw5062021461356539835:=0
def tw506592013975067003:=0
def tw5068431324696941120:=0
def tw5073845506812584293:=0
def tw5081980708557151005:=0
def tw5082657203827676533:=0
def tw5088535131200701028:=0
def tw5092824375111760225:=0
def tw5096030418033968239:=0
def tw5102343424839649039:=0
def tw5111884003344775343:=0
def tw5140868918840394703:=0
def tw5185327102050326654:=0
def tw5186001880372294559:=0
def tw5205762191734924249:=0
def tw522203253558707464:=0
def tw5264637372146877993:=0
def tw5267479359912496099:=0
def tw5293481831200789536:=0
def tw5308571948311183220:=0
def tw5364505867523027705:=0
def tw5395522127391869135:=0
def tw5436400122427226112:=0
def tw547953069796379930:=0
def tw5521814465336465897:=0
def tw5540787110987068286:=0
def tw5566849394545179018:=0
def tw5637118237754185614:=0
def tw5658005941461647500:=0
def tw5676661536770424531:=0
def tw5791701553976809419:=0
def tw5815883466395409494:=0
def tw5839510945535963414:=0
def tw5874971774198021682:=0
def tw5918098212110415762:=0
def tw592327070412274705:=0
def tw5924186931764967569:=0
def tw5939021964213898500:=0
def tw5943766097385740783:=0
def tw5953912409390034422:=0
def tw596876231308778383:=0
def tw5980374733252587072:=0
def tw5983574475153282434:=0
def tw599584041651965691:=0
def tw6042755357105005096:=0
def tw605759344391238814:=0
def tw6070344914837793188:=0
def tw6087904671785757435:=0
def tw6156720867447424521:=0
def tw6163827194649528895:=0
def tw6198713655827921646:=0
def tw6227590152259056489:=0
def tw623416382975086132:=0
def tw6249969120771834670:=0
def tw6287988614953884706:=0
def tw6321372867656263150:=0
def tw6331773180813273501:=0
def tw6392293087151400959:=0
def tw6438854894488647611:=0
def tw647395719678488888:=0
def tw6496537981299302484:=0
def tw6509399138577236941:=0
def tw6533764961933739095:=0
def tw6560499121086838777:=0
def tw6619971744874101001:=0
def tw6696181623303100814:=0
def tw6701343273704946154:=0
def tw674383344498874704:=0
def tw6786871800369547587:=0
def tw6811324643303708810:=0
def tw6813597122801532167:=0
def tw6859694541731857054:=0
def tw695389643285431247:=0
def tw7015466920976880782:=0
def tw707129761615851165:=0
def tw708869398311478877:=0
def tw7153664180614202858:=0
def tw7174243277293822953:=0
def tw718387056614755645:=0
def tw7197162856896901539:=0
def tw7200194556633607079:=0
def tw7225572207213568215:=0
def tw7311237539123737912:=0
def tw7316761796138583705:=0
def tw7331363245105798518:=0
def tw7368083462663112585:=0
def tw7435608995149708033:=0
def tw7443221401876794729:=0
def tw7471314441074180922:=0
def tw7579275054201702936:=0
def tw7582481841323393265:=0
def tw7613539451894420432:=0
def tw7640564752377029580:=0
def tw7661773308681937069:=0
def tw7686449383664716183:=0
def tw7696164456301104041:=0
def tw777554938215312173:=0
def tw7882393100760194269:=0
def tw7944426303909242350:=0
def tw8056432198367560151:=0
def tw8061105199566801215:=0
def tw809720087621024688:=0
def tw813008540095494173:=0
def tw8153079691611342735:=0
def tw8160376545073983168:=0
def tw8203575242321734180:=0
def tw8228840834631725488:=0
def tw8297936001857048416:=0
def tw833934045489448357:=0
def tw8353156932950453554:=0
def tw8415602990652577611:=0
def tw8463396270483772071:=0
def tw8509651649965158351:=0
def tw8550829742819970804:=0
def tw8630670795928383675:=0
def tw8649360591889704759:=0
def tw8652037794324169079:=0
def tw865974285974955530:=0
def tw8665668189663740373:=0
def tw8665855879025782599:=0
def tw8706113757181379720:=0
def tw8717916725996725900:=0
def tw872033837587720273:=0
def tw8728650694167988590:=0
def tw8731375535945975084:=0
def tw8744514215767945917:=0
def tw8780580422727873485:=0
def tw878462760425082999:=0
def tw8785092579907706308:=0
def tw8827333311885977370:=0
def tw8828215686301077335:=0
def tw8907353964068784099:=0
def tw8915473952920947443:=0
def tw8926745880569364601:=0
def tw8948688905575682710:=0
def tw8965008810027263798:=0
def tw900285495743631977:=0
def tw9012495982418581088:=0
def tw9039657159864180735:=0
def tw9045577995319747287:=0
def tw9081425776058404224:=0
def tw9135789010509675006:=0
def tw9191501469643036003:=0
def tw9282465656540458489:=0
def tw9329236709590825957:=0
def tw9381742583144620627:=0
def tw942708016644889553:=0
def tw9459225189845377834:=0
def tw9462693101637364938:=0
def tw9481046233375543183:=0
def tw9499631626890413679:=0
def tw9518907075436232443:=0
def tw9537217351193386865:=0
def tw9604577175910674607:=0
def tw9605942055088226047:=0
def tw962862307765071813:=0
def tw9653053006998529784:=0
def tw9660145086638448427:=0
def tw9679341744552387543:=0
def tw9709530091422696972:=0
def tw9747081857302241605:=0
def tw9749075332533601724:=0
def tw9776168849856513897:=0
def tw9781094417173259147:=0
def tw9809842020830358491:=0
def tw9842016179490401294:=0
def tw9881535564345642092:=0
def tw9899357120439289786:=0
def tw9943670033400880445:=0
def tw9967446473808329406:=0
end PySem.W.Fast
open PySem PySem.W PyProof.Rows
set_option maxRecDepth 100000 in
set_option maxHeartbeats 0 in
theorem PySem.Challenge.cw_coverfill_k33_joins_and_groups_holds : PySem.Challenge.rw_coverfill_k33_joins_and_groups.Holds := by
  w_on; o_law; k_head; (case hw => w_witness2)
  k_fill
  refine DL.walkM (k := 90) (F := Q.FM68) (l := PySem.Challenge.rw_coverfill_k33_joins_and_groups) rfl rfl (by decide +kernel) (λ_ => rfl) ⟨rfl, by decide, by decide⟩ [(("thinned_covers" : PySem.Str), 335, 331), (("Fill.films" : PySem.Str), 397, 393), (("Join.films" : PySem.Str), 451, 447), (("Group.films" : PySem.Str), 478, 474)] ?hrec ?htl ?htk ?hnd ?hnt (λw h Y => PySem.W.km_in_of Y) ?F Q.law_true
  case hrec =>
    intro w h Y t ht
    simp only[List.mem_cons, List.not_mem_nil, or_false] at ht
    rcases ht with rfl | rfl | rfl | rfl
    · exact⟨PySem.W.codeHd_of_K (PySem.W.km_in_of Y) (by kernel_rfl), PySem.W.km_tabs_of Y _ (by decide)⟩
    · exact⟨PySem.W.codeHd_of_K (PySem.W.km_in_of Y) (by kernel_rfl), PySem.W.km_tabs_of Y _ (by decide)⟩
    · exact⟨PySem.W.codeHd_of_K (PySem.W.km_in_of Y) (by kernel_rfl), PySem.W.km_tabs_of Y _ (by decide)⟩
    · exact⟨PySem.W.codeHd_of_K (PySem.W.km_in_of Y) (by kernel_rfl), PySem.W.km_tabs_of Y _ (by decide)⟩
  case htl => exact λ_ => DL.tabs_of (by kernel_rfl) (by kernel_rfl) (by kernel_rfl) (by kernel_rfl)
  case htk => exact by decide
  case hnd => exact by decide
  case hnt => exact λ_ => by kernel_rfl
  case F =>
    intro w mg fa h KX G hmg
    refine' Q.all_mk KX G hmg (lc0 := 335) (lp0 := 331) (by kernel_rfl) (lc1 := 397) (lp1 := 393) (by kernel_rfl) (lc2 := 451) (lp2 := 447) (by kernel_rfl) (lc3 := 478) (lp3 := 474) (by kernel_rfl) (DL.ft ?_ ?_ ?_ ?_) (DL.ft ?_ ?_ ?_ ?_) (DL.ft ?_ ?_ ?_ ?_) (DL.ft ?_ ?_ ?_ ?_) (DL.ft ?_ ?_ ?_ ?_) (DL.ft ?_ ?_ ?_ ?_) (DL.ft ?_ ?_ ?_ ?_) (DL.ft ?_ ?_ ?_ ?_) (DL.ft ?_ ?_ ?_ ?_) (DL.ft ?_ ?_ ?_ ?_) (DL.ft ?_ ?_ ?_ ?_) (DL.ft ?_ ?_ ?_ ?_) (DL.ft ?_ ?_ ?_ ?_) (DL.ft ?_ ?_ ?_ ?_) (DL.ft ?_ ?_ ?_ ?_) (DL.ft ?_ ?_ ?_ ?_) (DL.ft ?_ ?_ ?_ ?_) (DL.ft ?_ ?_ ?_ ?_) (DL.ft ?_ ?_ ?_ ?_) (DL.ft ?_ ?_ ?_ ?_) (DL.ft ?_ ?_ ?_ ?_) (DL.ft ?_ ?_ ?_ ?_) (DL.ft ?_ ?_ ?_ ?_) (DL.ft ?_ ?_ ?_ ?_) (DL.ft ?_ ?_ ?_ ?_) (DL.ft ?_ ?_ ?_ ?_) (DL.ft ?_ ?_ ?_ ?_) (DL.ft ?_ ?_ ?_ ?_) (DL.ft ?_ ?_ ?_ ?_) (DL.ft ?_ ?_ ?_ ?_) (DL.ft ?_ ?_ ?_ ?_) (DL.ft ?_ ?_ ?_ ?_) (DL.ft ?_ ?_ ?_ ?_) (DL.ft ?_ ?_ ?_ ?_) (DL.ft ?_ ?_ ?_ ?_) (DL.ft ?_ ?_ ?_ ?_) (DL.ft ?_ ?_ ?_ ?_) (DL.ft ?_ ?_ ?_ ?_) (DL.ft ?_ ?_ ?_ ?_) (DL.ft ?_ ?_ ?_ ?_) (DL.ft ?_ ?_ ?_ ?_) (DL.ft ?_ ?_ ?_ ?_) (DL.ft ?_ ?_ ?_ ?_) (DL.ft ?_ ?_ ?_ ?_) (DL.ft ?_ ?_ ?_ ?_) (DL.ft ?_ ?_ ?_ ?_) (DL.ft ?_ ?_ ?_ ?_) (DL.ft ?_ ?_ ?_ ?_) (DL.ft ?_ ?_ ?_ ?_) (DL.ft ?_ ?_ ?_ ?_) (DL.ft ?_ ?_ ?_ ?_) (DL.ft ?_ ?_ ?_ ?_) (DL.ft ?_ ?_ ?_ ?_) (DL.ft ?_ ?_ ?_ ?_) (DL.ft ?_ ?_ ?_ ?_) (DL.ft ?_ ?_ ?_ ?_) (DL.ft ?_ ?_ ?_ ?_) (DL.ft ?_ ?_ ?_ ?_) (DL.ft ?_ ?_ ?_ ?_) (DL.ft ?_ ?_ ?_ ?_) (DL.ft ?_ ?_ ?_ ?_) (DL.ft ?_ ?_ ?_ ?_) (DL.ft ?_ ?_ ?_ ?_) (DL.ft ?_ ?_ ?_ ?_) (DL.ft ?_ ?_ ?_ ?_) (DL.ft ?_ ?_ ?_ ?_) (DL.ft ?_ ?_ ?_ ?_) (DL.ft ?_ ?_ ?_ ?_) ?a68 ?l68 ?c68 ?k68 ?z0 ?z1 ?z2 ?z3 ?z4 ?z5 ?z6 ?z7 ?z8 ?z9 ?z10 ?ca0 ?cl0 ?cv0 ?ca1 ?cl1 ?cv1 ?ca2 ?cl2 ?cv2 (DL.uc ?_ ?_ ?_ ?_ ?_ ?_ ?_ (DL.nfc ?_ (DL.nfc ?_ (DL.nfc ?_ DL.nf0)))) (DL.uc ?_ ?_ ?_ ?_ ?_ ?_ ?_ (DL.nfc ?_ (DL.nfc ?_ DL.nf0))) (DL.uc ?_ ?_ ?_ ?_ ?_ ?_ ?_ (DL.nfc ?_ (DL.nfc ?_ DL.nf0))) (DL.uc ?_ ?_ ?_ ?_ ?_ ?_ ?_ (DL.nfc ?_ (DL.nfc ?_ DL.nf0))) ?m_q0 ?i_q0 ?l_q0 ?c_q0 ?k_q0 ?lT_q0 (DL.fq ?_ ?_ ?_ ?_ ?_) ?m_q2 ?i_q2 ?l_q2 ?c_q2 ?k_q2 ?lT_q2 (DL.fq ?_ ?_ ?_ ?_ ?_) ?m_q4 ?i_q4 ?l_q4 ?c_q4 ?k_q4 ?lT_q4 (DL.fq ?_ ?_ ?_ ?_ ?_) ?m_q6 ?i_q6 ?l_q6 ?c_q6 ?k_q6 ?lT_q6 (DL.fq ?_ ?_ ?_ ?_ ?_)
    all_goals try k_is
    all_goals try k_is
    all_goals first | rfl | decide +kernel | k_exc | kit_is | kts_exm
