import PyProof.Rows.All
import Wide.All
import OpenK.AllK
import Wide.FinOn
import Lean
import PyProof.EqAt
import PyProof.EqKinds
import PyProof.TupleCall
import PySem.Challenge.RW_neverbelow_k58_no_text
set_option Elab.async false
set_option linter.all false
set_option maxRecDepth 100000
abbrev aD:= @if_pos
abbrev aK:= @if_neg
abbrev a9:= @decide_eq_false
abbrev bQ:= @List.length_append
abbrev bR:= @decide_eq_true
abbrev cr:= @Nat.le_refl
abbrev cZ:= @List.length_map
abbrev c5:= @List.length_cons
abbrev dP:= @List.mem_cons_self
abbrev eA:= @List.cons.inj
abbrev eU:= @List.mem_cons_of_mem
abbrev eV:= @List.mem_append
abbrev fq:= @List.mem_cons
abbrev gj:= @List.map_cons
abbrev gk:= @List.getElem?_eq_getElem
abbrev gG:= @Nat.lt_of_lt_of_le
abbrev gR:= @List.size_toArray
abbrev gS:= @List.mem_singleton
abbrev iV:= @Nat.le_trans
abbrev iW:= @List.getElem?_set_ne
abbrev iX:= @List.length_take
abbrev i8:= @PySem.boot_len
abbrev j8:= @Nat.ne_of_lt
abbrev j9:= @List.mem_append_right
abbrev ka:= @List.append_nil
abbrev ke:= @List.length_drop
abbrev kJ:= @List.length_singleton
abbrev kK:= @Int.natAbs_natCast
abbrev kL:= @List.cons_append
abbrev lm:= @List.mem_of_getElem?
abbrev lq:= @List.append_assoc
abbrev lr:= @List.nil_append
abbrev mj:= @List.map_append
abbrev mS:= @List.cons.injEq
abbrev mT:= @List.flatMap_cons
abbrev ow:= @Option.some.inj
abbrev ox:= @List.length_set
abbrev oy:= @of_decide_eq_true
abbrev oz:= @List.map_map
abbrev oM:= @Ne.symm
abbrev oN:= @List.getElem?_set_self
abbrev oO:= @List.getElem?_append_right
abbrev oP:= @List.getElem?_append_left
abbrev oQ:= @List.getElem?_map
abbrev oR:= @List.length_pos_iff
abbrev qr:= @Bool.false_ne_true
abbrev qt:= @Nat.lt_trans
abbrev qu:= @List.all_eq_true
abbrev rK:= @List.length_replicate
abbrev rL:= @List.replicate_succ
abbrev rM:= @Nat.pow_le_pow_right
abbrev rN:= @List.mem_map
abbrev rO:= @List.drop_zero
abbrev uk:= @PySem.mem_of_lookup
abbrev ul:= @Bool.and_eq_true
abbrev um:= @List.take_of_length_le
abbrev vw:= @Nat.zero_le
abbrev vx:= @List.length_nil
abbrev vy:= @List.drop_eq_getElem_cons
abbrev xY:= @Nat.lt_irrefl
abbrev xZ:= @List.getElem?_eq_some_iff
abbrev x8:= @List.flatten_cons
abbrev x9:= @PySem.F.plainAttrs_str
abbrev ya:= @List.getElem_mem
abbrev yb:= @List.drop_succ_cons
abbrev yc:= @List.mem_of_mem_take
abbrev yd:= @List.take_append_drop
abbrev zZ:= @List.mem_append_left
abbrev z7:= @List.nodup_cons
abbrev z8:= @Int.gcd_comm
abbrev z9:= @Nat.lt_of_le_of_lt
abbrev Ac:= @Bool.eq_false_iff
abbrev Ad:= @PySem.F.slot_str_split
abbrev Ae:= @List.drop_length
abbrev Af:= @Nat.sub_self
abbrev Ag:= @PyProof.Rows.boot_str
abbrev Ah:= @Array.toList_extract
abbrev Ai:= @List.extract_eq_take_drop
abbrev Ak:= @List.length_eq_zero_iff
abbrev Al:= @List.mem_of_mem_drop
abbrev Dn:= @Array.length_toList
abbrev Do:= @List.of_mem_zip
abbrev Dp:= @List.length_range
abbrev Dq:= @List.getElem?_eq_none
abbrev Dr:= @PySem.F.plainAttrs_list
abbrev Ds:= @List.getD_eq_getElem?_getD
abbrev Dt:= @List.replicate_succ'
abbrev Du:= @List.all_toArray
abbrev Dv:= @Array.toList_inj
abbrev Dw:= @Nat.sub_zero
abbrev Dx:= @List.append_eq_nil_iff
abbrev Dy:= @List.dropLast_concat_getLast
abbrev Dz:= @List.drop_drop
abbrev FF:= @List.filterMap_cons
abbrev FG:= @List.mem_filterMap
abbrev FH:= @List.getElem?_replicate
abbrev FI:= @Bool.or_false
abbrev FJ:= @List.foldl_cons
abbrev FK:= @Rat.num_divInt
abbrev FL:= @Int.sign_eq_one_of_pos
abbrev FM:= @Rat.den_divInt
abbrev FN:= @Int.natAbs_mul
abbrev FO:= @Nat.div_le_self
abbrev FP:= @Array.getElem?_eq_some_iff
abbrev FQ:= @Bool.not_eq_true'
abbrev FR:= @List.forIn_cons
abbrev FS:= @PySem.F.entry_str_split
abbrev FT:= @PySem.F.args_str_split_2
abbrev FU:= @List.any_cons
abbrev FV:= @PySem.F.slot_list_append
abbrev FW:= @PySem.F.type_list_append
abbrev FX:= @Int.emod_nonneg
abbrev FY:= @Int.emod_lt_of_pos
abbrev FZ:= @Rat.num_eq_zero
abbrev F0:= @List.take_succ
abbrev F1:= @List.take_length
abbrev F2:= @List.map_eq_nil_iff
abbrev F3:= @List.flatMap_append
abbrev F4:= @List.mem_flatMap
abbrev F5:= @List.foldl_append
abbrev F6:= @Rat.num_divInt_den
abbrev F7:= @List.not_mem_nil
namespace L2
open PySem PySem.Spec PyProof.Rows
abbrev eh:=Sum Int Str
def pN:eh->Value->Bool
 | .inl k,v=>Value.isInt k v
 | .inr x,v=>Value.isStrOf x v
def J8(w:World):eh->Int
 | .inl k=>hashInt k
 | .inr x=>hashStr w x
theorem ee: ∀{k:eh} {v:Value},pN k v=true->(∃i t,k=Sum.inl i/\v=Value.int i t)\/(∃x t,k=Sum.inr x/\v=Value.str x t)
 | .inl i,v,h=>by
  obtain⟨t,e⟩:=Value.isInt_shape (k:=i) (v:=v) h;exact .inl ⟨i,t,rfl,e⟩
 | .inr x,v,h=>by
  obtain⟨t,e⟩:=Value.isStrOf_shape (x:=x) (v:=v) h;exact .inr ⟨x,t,rfl,e⟩
theorem Am(i:Int)(t:Tok):pN (.inl i) (.int i t)=true:=by simp[pN,Value.isInt]
theorem An(x:Str)(t:Tok):pN (.inr x) (.str x t)=true:=by simp[pN,Value.isStrOf]
theorem F8(a b:Int):decide ((Sum.inl a:eh)=Sum.inl b)=(a == b):=by
 by_cases e:a=b
 ·subst e;simp
 ·have h: ¬(Sum.inl a:eh)=Sum.inl b:=λq=>e (Sum.inl.inj q)
  rw[a9 h];exact(beq_eq_false_iff_ne.mpr e).symm
theorem F9(a b:Str):decide ((Sum.inr a:eh)=Sum.inr b)=decide (a=b):=by
 by_cases e:a=b
 ·subst e;simp
 ·have h: ¬(Sum.inr a:eh)=Sum.inr b:=λq=>e (Sum.inr.inj q)
  rw[a9 h,a9 e]
theorem F'(a:Int)(b:Str):decide ((Sum.inl a:eh)=Sum.inr b)=false:=a9 (λq=>nomatch q)
theorem Ga(a:Str)(b:Int):decide ((Sum.inr a:eh)=Sum.inl b)=false:=a9 (λq=>nomatch q)
def fz(prog:Program)(w:World):PySem.KeyKind prog w eh where
 is:=pN
 hash:=J8 w
 inj:=λv a b ha hb=>by
  rcases ee ha with⟨i,t,rfl,rfl⟩ | ⟨x,t,rfl,rfl⟩
  ·rcases ee hb with⟨j,u,rfl,e⟩ | ⟨y,u,rfl,e⟩
   ·injection e with e1 _;rw[e1]
   ·exact nomatch e
  ·rcases ee hb with⟨j,u,rfl,e⟩ | ⟨y,u,rfl,e⟩
   ·exact nomatch e
   ·injection e with e1 _;rw[e1]
 byValue:=λk v h=>by
  rcases ee h with⟨i,t,rfl,rfl⟩ | ⟨x,t,rfl,rfl⟩<;>rfl
 pyHash:=λhv h=>by
  rcases ee hv with⟨i,t,rfl,rfl⟩ | ⟨x,t,rfl,rfl⟩
  ·exact wpAny_pyHash_int h
  ·exact wpAny_pyHash_str h
 eqBool:=λhu hv h=>by
  rcases ee hu with⟨i,t,rfl,rfl⟩ | ⟨x,t,rfl,rfl⟩
  ·rcases ee hv with⟨j,u,rfl,rfl⟩ | ⟨y,u,rfl,rfl⟩
   ·rw[F8] at h;exact wpAny_eqBool_int h
   ·rw[F'] at h;exact SeqAt.EqAt.int_str i t y u _ _ _ _ h
  ·rcases ee hv with⟨j,u,rfl,rfl⟩ | ⟨y,u,rfl,rfl⟩
   ·rw[Ga] at h;exact SeqAt.EqAt.str_int x t j u _ _ _ _ h
   ·rw[F9] at h;exact wpAny_eqBool_str h
 «strs» :=λk x t v h=>by
  rcases ee h with⟨i,u,rfl,e⟩ | ⟨y,u,rfl,e⟩
  ·exact nomatch e
  ·injection e with e1 _
   subst e1;cases v<;>rfl
theorem xx(prog:Program)(w:World)(i:Int)(t:Tok):(fz prog w).is (.inl i) (.int i t)=true:=Am i t
theorem xy(prog:Program)(w:World)(x:Str)(t:Tok):(fz prog w).is (.inr x) (.str x t)=true:=An x t
inductive V where
 |non |bl (b:Bool) |int (i:Int) |str (x:Str) |byt (b:Array UInt8) |flt (b:UInt64) |ref (a:Addr) |ty (n:String)
 deriving DecidableEq
def bG:V->Value->Prop
 | .non,u=>u=Value.none
 | .bl b,u=>u=Value.bool b
 | .int i,u=>∃t,u=Value.int i t
 | .str x,u=>∃t,u=Value.str x t
 | .byt b,u=>∃t,u=Value.bytes b t
 | .flt b,u=>∃t,u=Value.float b t
 | .ref a,u=>u=Value.ref a
 | .ty n,u=>u=Value.type n
abbrev aZ:List V->List Value->Prop:=Paired bG
theorem aZ.length{xs:List V}{us:List Value}(r:aZ xs us):xs.length=us.length:=Paired.length r
theorem aZ.get: ∀{xs:List V} {us:List Value} {i:Nat} {x:V},aZ xs us->xs[i]?= some x->∃u,us[i]?= some u/\bG x u
 |_,_,_,_,.nil,e=>by simp at e
 |_,_,0,_,.cons r _,e=>by simp at e;subst e;exact⟨_,rfl,r⟩
 |_,_,i+1,x,.cons _ t,e=>by
  obtain⟨u,h1,h2⟩:=aZ.get (i:=i) (x:=x) t (by simpa using e);exact⟨u,by simpa using h1,h2⟩
theorem aZ.set{x:V}{u:Value}(r:bG x u): ∀{xs:List V} {us:List Value} (i:Nat),aZ xs us->aZ (xs.set i x) (us.set i u)
 |_,_,_,.nil=> .nil
 |_,_,0,.cons _ t=> .cons r t
 |_,_,i+1,.cons q t=> .cons q (aZ.set r i t)
theorem aZ.append: ∀{xs ys:List V} {us ws:List Value},aZ xs us->aZ ys ws->aZ (xs++ys) (us++ws)
 |_,_,_,_,.nil,s=>s
 |_,_,_,_,.cons r t,s=> .cons r (aZ.append t s)
theorem aZ.take: ∀{xs:List V} {us:List Value} (n:Nat),aZ xs us->aZ (xs.take n) (us.take n)
 |_,_,0,_=> .nil
 |_,_,_+1,.nil=> .nil
 |_,_,n+1,.cons r t=> .cons r (aZ.take n t)
theorem aZ.drop: ∀{xs:List V} {us:List Value} (n:Nat),aZ xs us->aZ (xs.drop n) (us.drop n)
 |_,_,0,r=>r
 |_,_,_+1,.nil=> .nil
 |_,_,n+1,.cons _ t=>aZ.drop n t
def Gb:Option V->Option Value->Prop
 |some v,some u=>bG v u
 |none,none=>True
 |_,_=>False
def KV{κ:Type}:List (κ×V)->List (κ×Value)->Prop:=Paired λ(p:κ×V) (q:κ×Value)=>p.1=q.1/\bG p.2 q.2
def kV:eh->V
 | .inl i=> .int i
 | .inr x=> .str x
inductive HO where
  |lst (xs:List V)
  |tup (xs:List V)
  |dK (kvs:List (eh×V)) |dT (kvs:List (List eh×V))
  |set (S:Int->Bool) (n:Nat)
  |ins (C dx:Addr) (fs:List (Str×V))
  |own (x:Addr)
  |xd (fs:List (Str×V))
  |met (f x:Addr)
  |rng (lo hi:Int)
  |frz (o:Obj) (u:HO)
  |tbl (ps:Array Value)
  |ext (φ:Heap->Prop)
abbrev Hp:=Addr->Option HO
def bf(H:Hp)(a:Addr)(o:HO):Hp:=λb=>if b=a then some o else H b
theorem bF{H:Hp}{a:Addr}{o:HO}:bf H a o a=some o:=by unfold bf;rw[aD rfl]
theorem aY{H:Hp}{a b:Addr}{o:HO}(h:b≠a):bf H a o b=H b:=by unfold bf;rw[aK h]
theorem Eg{H:Hp}{a:Addr}{o u:HO}:bf (bf H a o) a u=bf H a u:=by
 funext b;unfold bf;split<;>rfl
theorem gm{H:Hp}{a b:Addr}{o:HO}(h:H a=some o)(h':H b=none):a≠b:=by
 intro e;subst e;rw[h] at h';cases h'
section
variable(P:Program)(w:World)
def eT(H:Hp)(h:Heap)(a:Addr):HO->Prop
 | .lst xs=>xs.length<=sizeLine/\∃(its:List Value) (n:Nat),aZ xs its/\h.get? a=some {cls:= .type "list",data:= .seq its.toArray n}
 | .tup xs=>xs.length<=sizeLine/\∃its:List Value,aZ xs its/\IsTup h a its.toArray
 | .dK kvs=>kvs.length<=sizeLine/\(a == sysModules)=false/\∃vs,KV kvs vs/\h.DictOf (fz P w) a vs
 | .dT kvs=>kvs.length<=sizeLine/\(a == sysModules)=false/\∃xs:List (List eh×Addr×Value),
   Paired (λ(p:List eh×V) (q:List eh×Addr×Value)=>p.1=q.1/\H q.2.1=some (.tup (p.1.map kV))/\bG p.2 q.2.2) kvs xs/\
   ∃o es ep,h.get? a=some o/\o.ExactDict/\o.data= .dict es ep/\es.toList=xs.map (entryOfKey (tupleKind (fz P w)))/\(xs.map (·.1)).Nodup
 | .set S n=>h.SetOf (intKind P w) a S n
 | .ins C dx fs=>H dx=some (.own a)/\fs.length<=1000/\dx≠a/\h.get? a=some (W.instObj C dx)/\
   ∃mA,h.Ns1 dx mA/\(∀f,Gb (fs.lookup f) (mA f))/\PySem.Within mA (fs.map (·.1))
 | .own _=>∃o,h.get? a=some o
 | .xd fs=>∃mA,h.Ns1 a mA/\∀f,Gb (fs.lookup f) (mA f)
 | .rng lo hi=>∃t u v,h.get? a=some {cls:= .type "range",data:= .fields #[.int lo t,.int hi u,.int 1 v]}
 | .frz o u=>h.get? a=some o/\eT H h a u
 | .tbl ps=>h.get? a=some {cls:= .none,data:= .fields ps}
 | .met f x=>h.get? a=some (W.methodObj (.ref f) (.ref x))
 | .ext φ=>φ h/\(∃o,h.get? a=some o)/\∀h1 h2:Heap,φ h1->(∀o,h1.get? a=some o->h2.get? a=some o)->φ h2
def eW(H:Hp)(h:Heap):Prop:=∀a o,H a=some o->eT P w H h a o
end
section
variable{P:Program}{w:World}{H H':Hp}{h h':Heap}{a:Addr}{o:HO}
theorem eT.lt(x:eT P w H h a o):a<h.objs.size:=by
 cases o with
 |lst xs=>obtain⟨_,_,_,_,e⟩:=x;exact Heap.lt_size e
 |tup xs=>obtain⟨_,_,_,p⟩:=x;exact p.lt
 |dK kvs=>obtain⟨_,_,_,_,o,_,_,e,_⟩:=x;exact Heap.lt_size e
 |dT kvs=>obtain⟨_,_,_,_,o,_,_,e,_⟩:=x;exact Heap.lt_size e
 |set S n=>obtain⟨o,_,_,_,e,_⟩:=x;exact Heap.lt_size e
 |ins C dx fs=>obtain⟨_,_,_,e,_⟩:=x;exact Heap.lt_size e
 |own y=>obtain⟨_,e⟩:=x;exact Heap.lt_size e
 |xd fs=>obtain⟨_,⟨_,_,_,e,_⟩,_⟩:=x;exact Heap.lt_size e
 |rng lo hi=>obtain⟨_,_,_,e⟩:=x;exact Heap.lt_size e
 |frz ob u=>obtain⟨e,_⟩:=x;exact Heap.lt_size e
 |tbl ps=>exact Heap.lt_size (show h.get? a=some _ from x)
 |met f y=>exact Heap.lt_size (show h.get? a=some _ from x)
 |ext φ=>obtain⟨_,⟨_,e⟩,_⟩:=x;exact Heap.lt_size e
theorem Paired.mapP{α β:Type}{F G:α->β->Prop}: ∀{l₁:List α} {l₂:List β},Paired F l₁ l₂->(∀a b,F a b->G a b)->Paired G l₁ l₂
 |_,_,.nil,_=> .nil
 |_,_,.cons r t,f=> .cons (f _ _ r) (Paired.mapP t f)
theorem eT.stay(x:eT P w H h a o)(k: ∀b u,(b=a\/H b=some (.own a))->h.get? b=some u->h'.get? b=some u)
  (ho: ∀b,H b=some (.own a)->H' b=some (.own a)) (ht: ∀b xs,H b=some (.tup xs)->H' b=some (.tup xs)):eT P w H' h' a o:=by
 induction o with
 |lst xs=>obtain⟨z,its,n,r,e⟩:=x;exact⟨z,its,n,r,k _ _ (.inl rfl) e⟩
 |tup xs=>obtain⟨z,its,r,ob,e,c⟩:=x;exact⟨z,its,r,ob,k _ _ (.inl rfl) e,c⟩
 |dK kvs=>obtain⟨z,y,vs,r,ob,es,ep,e,c⟩:=x;exact⟨z,y,vs,r,ob,es,ep,k _ _ (.inl rfl) e,c⟩
 |dT kvs=>
  obtain⟨z,y,xs,r,ob,es,ep,e,c⟩:=x;exact⟨z,y,xs,Paired.mapP r λp q z=>⟨z.1,ht _ _ z.2.1,z.2.2⟩,ob,es,ep,k _ _ (.inl rfl) e,c⟩
 |set S n=>obtain⟨ob,es,ep,t,e,c⟩:=x;exact⟨ob,es,ep,t,k _ _ (.inl rfl) e,c⟩
 |ins C dx fs=>
  obtain⟨d,z,ne,e,mA,⟨od,es,ep,e2,c⟩,r⟩:=x;exact⟨ho _ d,z,ne,k _ _ (.inl rfl) e,mA,⟨od,es,ep,k _ _ (.inr d) e2,c⟩,r⟩
 |own y=>obtain⟨ob,e⟩:=x;exact⟨ob,k _ _ (.inl rfl) e⟩
 |xd fs=>obtain⟨mA,⟨od,es,ep,e,c⟩,r⟩:=x;exact⟨mA,⟨od,es,ep,k _ _ (.inl rfl) e,c⟩,r⟩
 |rng lo hi=>obtain⟨t,u,v,e⟩:=x;exact⟨t,u,v,k _ _ (.inl rfl) e⟩
 |frz ob u ih=>obtain⟨e,q⟩:=x;exact⟨k _ _ (.inl rfl) e,ih q⟩
 |tbl ps=>
  have e:h.get? a=some {cls:= .none,data:= .fields ps}:=x;show h'.get? a=some {cls:= .none,data:= .fields ps};exact k a _ (.inl rfl) e
 |met f y=>
  have e:h.get? a=some (W.methodObj (.ref f) (.ref y)):=x;show h'.get? a=some (W.methodObj (.ref f) (.ref y));exact k a _ (.inl rfl) e
 |ext φ=>obtain⟨p,⟨o,e⟩,st⟩:=x;exact⟨st _ _ p λo q=>k _ _ (.inl rfl) q,⟨o,k _ _ (.inl rfl) e⟩,st⟩
theorem eW.lt(x:eW P w H h)(e:H a=some o):a<h.objs.size:=(x a o e).lt
theorem eW.fresh(x:eW P w H h)(e:h.objs.size<=a):H a=none:=by
 cases q:H a with
 |none=>rfl
 |some u=>exact absurd (gG (x.lt q) e) (xY _)
theorem eW.kept(x:eW P w H h)(k: ∀b u,h.get? b=some u->h'.get? b=some u):eW P w H h':=λa o e=>
 (x a o e).stay (λb u _ q=>k b u q) (λ_ q=>q) λ_ _ q=>q
theorem eW.laid(x:eW P w H h)(k: ∀b u,h.get? b=some u->h'.get? b=some u)(hp:h.objs.size<=a)(new:eT P w (bf H a o) h' a o):eW P w (bf H a o) h':=λb u e=>by
 have hn:=x.fresh hp
 by_cases hb:b=a
 ·subst hb;rw[bF] at e;cases e;exact new
 ·rw[aY hb] at e
  exact(x b u e).stay (λc v _ q=>k c v q) (λc q=>by rw[aY (gm q hn)];exact q) λc xs q=>by rw[aY (gm q hn)];exact q
end
def Rd(H:Hp)(a:Addr)(u:HO):Prop:=H a=some u\/∃o,H a=some (.frz o u)
theorem Rd.ok{P:Program}{w:World}{H:Hp}{h:Heap}{a:Addr}{u:HO}(r:Rd H a u)(x:eW P w H h):eT P w H h a u:=by
 rcases r with r | ⟨o,r⟩
 ·exact x a u r
 ·obtain⟨_,q⟩:=x a _ r
  exact q
def Ao:Option HO->Prop
 |some (.lst _)=>True
 |some (.dK _)=>True
 |some (.dT _)=>True
 |some (.set _ _)=>True
 |some (.ins _ _ _)=>True
 |some (.ext _)=>True
 |_=>False
section
variable{P:Program}{w:World}{H:Hp}{h h':Heap}{x e:Addr}{o':HO}
theorem eW.write(ok:eW P w H h)(mu:Ao (H x))(he:e=x\/H e=some (.own x))(k: ∀b u,b≠e->h.get? b=some u->h'.get? b=some u)(heo: ∃u,h'.get? e=some u)
  (new:eT P w (bf H x o') h' x o'):eW P w (bf H x o') h':=λb u q=>by
 have nown: ∀c y,H c=some (.own y)->c≠x:=λc y r z=>by subst z;rw[r] at mu;exact mu
 have ntup: ∀c xs,H c=some (.tup xs)->c≠x:=λc xs r z=>by subst z;rw[r] at mu;exact mu
 by_cases hb:b=x
 ·subst hb;rw[bF] at q;cases q;exact new
 ·rw[aY hb] at q
  by_cases hbe:b=e
  ·have q':H b=some (.own x):=by
    rcases he with z |z
    ·exact absurd (hbe.trans z) hb
    ·rw[hbe];exact z
   rw[q] at q';cases q'
   obtain⟨v,hv⟩:=heo;exact⟨v,by rw[hbe];exact hv⟩
  ·refine(ok b u q).stay (λc v hc r=>k c v ?_ r) (λc r=>by rw[aY (nown c b r)];exact r) λc xs r=>by rw[aY (ntup c xs r)];exact r
   rcases hc with rfl |hc
   ·exact hbe
   ·rintro rfl
    rcases he with z |z
    ·exact nown c b hc z
    ·rw[hc] at z;cases z;exact hb rfl
end
structure Un (fs ex:List Addr) (H H':Hp) (h h':Heap):Prop where
 keep: ∀b o,h.get? b=some o->H b=none->b∉fs->b∉ex->h'.get? b=some o
 slot: ∀b o,h.get? b=some o->H b=none->b∈fs->b∉ex->∃sl,h'.get? b=some {o with slots:=sl}
 free: ∀b o,h.get? b=some o->H b=none->b∉ex->H' b=none
 there: ∀b o,h.get? b=some o->b∉ex->∃o',h'.get? b=some o'
 tups: ∀b xs,H b=some (.tup xs)->H' b=some (.tup xs)
 frzs: ∀b o u,H b=some (.frz o u)->H' b=some (.frz o u)
 tbls: ∀b ps,H b=some (.tbl ps)->∃more,H' b=some (.tbl (ps++more))
section
variable{fs fs' ex ex':List Addr}{H H1 H2:Hp}{h h1 h2 h':Heap}{a x e:Addr}{o:HO}
theorem Un.any(u:Un fs ex H H1 h h1){b:Addr}{ob:Obj}(q:h.get? b=some ob)(n:H b=none)(hx:b∉ex): ∃sl,h1.get? b=some {ob with slots:=sl}:=by
 by_cases hb:b∈fs
 ·exact u.slot b ob q n hb hx
 ·exact⟨ob.slots,u.keep b ob q n hb hx⟩
theorem Un.kept(k: ∀b u,h.get? b=some u->h'.get? b=some u):Un fs ex H H h h':=
 ⟨λb ob q _ _ _=>k b ob q,λb ob q _ _ _=>⟨ob.slots,k b ob q⟩,λ_ _ _ n _=>n,λb ob q _=>⟨ob,k b ob q⟩,λ_ _ q=>q,λ_ _ _ q=>q,λ_ ps q=>⟨#[],by rw[q];simp⟩⟩
theorem Un.refl:Un fs ex H H h h:=Un.kept λ_ _ q=>q
theorem Un.laid(k: ∀b u,h.get? b=some u->h'.get? b=some u)(hp:h.objs.size<=a)(hn:H a=none):Un fs ex H (bf H a o) h h' where
 keep:=λb u q _ _ _=>k b u q
 slot:=λb u q _ _ _=>⟨u.slots,k b u q⟩
 free:=λb u q n _=>by rw[aY (j8 (gG (Heap.lt_size q) hp))];exact n
 there:=λb u q _=>⟨u,k b u q⟩
 tups:=λb xs q=>by rw[aY (gm q hn)];exact q
 frzs:=λb u xs q=>by rw[aY (gm q hn)];exact q
 tbls:=λb ps q=>⟨#[],by rw[aY (gm q hn),q];simp⟩
theorem Un.write(mu:Ao (H x))(he:e=x\/H e=some (.own x))(k: ∀b u,b≠e->h.get? b=some u->h'.get? b=some u)(heo: ∃u,h'.get? e=some u):Un fs ex H (bf H x o) h h':=by
 have hx: ∀b,H b=none->b≠x:=λb n z=>by subst z;rw[n] at mu;exact mu
 have hb: ∀b,H b=none->b≠e:=λb n z=>by
  subst z
  rcases he with r |r
  ·exact hx b n r
  ·rw[n] at r;cases r
 have hm: ∀b u,H b=some u->¬Ao (some u)->b≠x:=λb u q nm z=>by subst z;rw[q] at mu;exact nm mu
 refine⟨λb u q n _ _=>k b u (hb b n) q,λb u q n _ _=>⟨u.slots,k b u (hb b n) q⟩,λb u q n _=>by rw[aY (hx b n)];exact n,λb u q _=>?_,
  λb xs q=>by rw[aY (hm b _ q λz=>z)];exact q,λb u xs q=>by rw[aY (hm b _ q λz=>z)];exact q,λb ps q=>⟨#[],by rw[aY (hm b _ q λz=>z),q];simp⟩⟩
 by_cases hbe:b=e
 ·subst hbe;exact heo
 ·exact⟨u,k b u hbe q⟩
end
def DB(h:Heap)(H:Hp):List Addr:=(List.range h.objs.size).filter λa=>(H a).isSome
def nt(h:Heap)(H:Hp):Heap:=W.hideAll h (DB h H)
theorem Aq(h:Heap)(H:Hp):(nt h H).objs.size=h.objs.size:=W.hideAll_size _ _
theorem Cd{h:Heap}{H:Hp}{b:Addr}{o:Obj}(e:h.get? b=some o)(n:H b=none):(nt h H).get? b=some o:=
 W.hideAll_get _ e λhm=>by
  have q:(H b).isSome=true:=(List.mem_filter.mp hm).2;rw[n] at q;simp at q
theorem Eh{h:Heap}{H:Hp}{b:Addr}{o:Obj}(e:(nt h H).get? b=some o):h.get? b=some o/\H b=none:=by
 have e':h.get? b=some o:=W.of_hideAll (DB h H) e;refine⟨e',?_⟩;cases q:H b with
 |none=>rfl
 |some x=>
  have hm:b∈DB h H:=List.mem_filter.mpr ⟨List.mem_range.mpr (Heap.lt_size e'),by simp[q]⟩;have z:(nt h H).get? b=none:=W.hideAll_none (DB h H) hm;rw[z] at e;cases e
def Ei(g h:Heap)(L:Addr):List (Addr×Obj):=(List.range h.objs.size).filterMap λa=>if a=L\/(g.get? a).isSome=true then none else(h.get? a).map λo=>(a,o)
def bD(g h:Heap)(L d:Addr):List (Addr×Obj):=(Ei g h L).filter λp=>decide (p.1≠d)
structure Mod (K:W.Frag) (mg:Str->Option Value) (base:Heap):Prop where
 kin:K.In base
 glob:base.Ns mainGlobals mg
 blt: ∃mb,base.Ns builtinsNs mb/\∀x:Str,x≠ "__name__" ->mb x=bootBuiltins x
 nolimit:base.NoLimit
structure Cx where
 prog:Program
 w:World
 K:W.Frag
 mg:Str->Option Value
 base:Heap
 A:Around
 N:List Str
 s₀:Shared
 H₀:Hp
 env:Env
 outer:List Env
 stack:List Env
 ex:List Addr
 fn:Str->Bool
 calm:Bool
 pn:List (Addr×Obj)
 xe:Value->Shared->Prop
def frs(l:List Env):List Addr:=l.filterMap (·.frame)
abbrev Cx.fs(X:Cx):List Addr:=frs X.outer
def mU(sc:Scope)(x:Str):Prop:=sc.names.lookup x=some .local\/sc.names.lookup x=some .cell\/sc.names.lookup x=some .free
def aW(sc:Scope)(x:Str):Prop:=sc.names.lookup x=some .local\/sc.names.lookup x=some .cell
def Gc(env:Env)(h:Heap)(m:Str->Option Value)(x:Str)(u:Value):Prop:=
 (env.kindOf x=some .local/\m x=some u)\/((env.kindOf x=some .cell\/env.kindOf x=some .free)/\∃c,env.cells.lookup x=some c/\h.IsCell c (some u))
structure Cx.Ok (X:Cx):Prop where
 mod:Mod X.K X.mg X.base
 kind:X.env.scope.kind= .function
 glob:X.env.globals=mainGlobals
 blt:X.env.builtins=builtinsNs
 above:X.s₀.heap.objs.size<=X.env.locals
 inj: ∀x y c,X.env.cells.lookup x=some c->X.env.cells.lookup y=some c->x=y
 has: ∀x,(X.env.kindOf x=some .cell\/X.env.kindOf x=some .free)->∃c,X.env.cells.lookup x=some c
 cab: ∀x c,X.fn x=true->X.env.cells.lookup x=some c->X.s₀.heap.objs.size<=c
 hd:X.calm=true->X.A.handled=none
 frames:X.A.frames=some X.stack
 stk:X.stack=X.outer\/(X.stack=X.env::X.outer/\X.env.frame=some X.env.locals)
 exf: ∀b∈X.ex,b≠X.env.locals/\∀x c,X.env.cells.lookup x=some c->c≠b
 bs: ∀b o,X.base.get? b=some o->X.s₀.heap.get? b=some o/\X.H₀ b=none
 bsz:X.base.objs.size<=X.s₀.heap.objs.size
 noex: ∀b o,X.base.get? b=some o->b∉X.ex
 exfs: ∀b∈X.ex,b∉X.fs
 funs:X.s₀.heap.FunFrames X.base X.outer
 frf: ∀b∈X.fs,X.H₀ b=none
structure ay (X:Cx) (pins:List (Addr×Obj)) (σ:List (Option V)) (H:Hp) (s:Shared):Prop where
 ok:X.Ok
 os:s.os=X.s₀.os
 bare:AllBare s.gens
 base:Un X.fs X.ex X.H₀ H X.s₀.heap s.heap
 loc: ∃m,s.heap.Ns X.env.locals m/\∀(i:Nat) (x:Str) (v:V),X.N[i]?= some x->σ[i]?= some (some v)->mU X.env.scope x->∃u,bG v u/\Gc X.env s.heap m x u
 cell: ∀x c,X.env.cells.lookup x=some c->∃v,s.heap.IsCell c v
 free:H X.env.locals=none
 freeC: ∀x c,X.env.cells.lookup x=some c->H c=none
 pin: ∀p∈X.pn++pins,s.heap.get? p.1=some p.2/\H p.1=none/\p.1≠X.env.locals/\p.1∉X.fs/\∀v,p.2.data≠ .cell v
 hok:eW X.prog X.w H s.heap
 len:σ.length=X.N.length
section
variable{X:Cx}{pins:List (Addr×Obj)}{σ:List (Option V)}{H H':Hp}{s:Shared}{h':Heap}
theorem Cx.Ok.nofr(ok:X.Ok){b:Addr}{o:Obj}(e:X.base.get? b=some o):b∉X.fs:=λhb=>by
 have:=(ok.funs.mem hb).1;rw[e] at this;cases this
theorem ay.bs(I:ay X pins σ H s): ∀b o,X.base.get? b=some o->s.heap.get? b=some o/\H b=none:=λb o e=>
 ⟨I.base.keep b o (I.ok.bs b o e).1 (I.ok.bs b o e).2 (I.ok.nofr e) (I.ok.noex b o e),I.base.free b o (I.ok.bs b o e).1 (I.ok.bs b o e).2 (I.ok.noex b o e)⟩
theorem ay.bk(I:ay X pins σ H s): ∀b o,X.base.get? b=some o->s.heap.get? b=some o:=λb o e=>(I.bs b o e).1
theorem ay.mod(I:ay X pins σ H s):Mod X.K X.mg X.base:=I.ok.mod
theorem ay.kIn(I:ay X pins σ H s):X.K.In s.heap:=I.ok.mod.kin.keeps I.bk
theorem ay.lt(I:ay X pins σ H s):X.env.locals<s.heap.objs.size:=let⟨_,hn,_⟩:=I.loc;hn.lt
theorem ay.sz(I:ay X pins σ H s):X.s₀.heap.objs.size<=s.heap.objs.size:=iV I.ok.above (Nat.le_of_lt I.lt)
theorem ay.nofs(I:ay X pins σ H s){a:Addr}(h:s.heap.objs.size<=a):a∉X.fs:=λhb=>by
 obtain⟨_,o,ho,_⟩:=I.ok.funs.mem hb;exact absurd (gG (Heap.lt_size ho) (iV I.sz h)) (xY _)
theorem ay.cne(I:ay X pins σ H s): ∀x c,X.env.cells.lookup x=some c->c≠X.env.locals:=λx c e z=>by
 obtain⟨v,o,ho,hd⟩:=I.cell x c e;obtain⟨m,⟨o',es,ep,ho',hd',_⟩,_⟩:=I.loc;rw[z,ho'] at ho;cases ho;rw[hd'] at hd;cases hd
theorem ay.funs(I:ay X pins σ H s):s.heap.FunFrames X.base X.outer:=by
 have all: ∀(l:List Env),(∀b∈frs l,b∈X.fs)->X.s₀.heap.FunFrames X.base l->s.heap.FunFrames X.base l:=by
  intro l
  induction l with
  |nil=>intro _ _;trivial
  |cons env r ih=>
   intro hs hl;obtain⟨hk,⟨L,o,hf,hn,ho,hd⟩,hr⟩:=hl;have hL:L∈X.fs:=hs L (by unfold frs;rw[FF,hf];exact dP);obtain⟨sl,e⟩:=I.base.slot L o ho (I.ok.frf L hL) hL λz=>I.ok.exfs L z hL
   exact⟨hk,⟨L,_,hf,hn,e,hd⟩,ih (λb hb=>hs b (by unfold frs;rw[FF,hf];exact eU _ hb)) hr⟩
 exact all X.outer (λ_ hb=>hb) I.ok.funs
theorem ay.stack(I:ay X pins σ H s):s.heap.FunFrames X.base X.stack:=by
 rcases I.ok.stk with e | ⟨e,hf⟩
 ·rw[e];exact I.funs
 ·rw[e]
  obtain⟨m,hn,_⟩:=I.loc;refine .cons (by rw[I.ok.kind];decide) hf hn ?_ I.funs;exact Heap.get?_none_of_le (iV I.ok.bsz I.ok.above)
theorem ay.stkSub(I:ay X pins σ H s): ∀b∈frs X.stack,b∈X.env.locals::X.fs:=λb hb=>by
 rcases I.ok.stk with e | ⟨e,hf⟩
 ·rw[e] at hb;exact eU _ hb
 ·rw[e] at hb
  unfold frs at hb;rw[FF,hf] at hb;exact hb
theorem ay.stkFree(I:ay X pins σ H s): ∀b∈frs X.stack,H b=none:=λb hb=>by
 rcases fq.mp (I.stkSub b hb) with e |hb
 ·rw[e];exact I.free
 ·obtain⟨_,o,ho,_⟩:=I.ok.funs.mem hb
  exact I.base.free b o ho (I.ok.frf b hb) λz=>I.ok.exfs b z hb
theorem ay.step{g':Array GenState}{t':Nat}{d':Drawn}{ch:List Addr}(I:ay X pins σ H s)
  (hch: ∀b∈ch,(b∈X.ex\/X.s₀.heap.objs.size<=b)/\b≠X.env.locals/\(∀x c,X.env.cells.lookup x=some c->c≠b)/\∀p∈X.pn++pins,p.1≠b)
  (keep: ∀b o,b≠X.env.locals->b∉X.fs->b∉ch->s.heap.get? b=some o->H b=none->h'.get? b=some o)
  (slot: ∀b o,b≠X.env.locals->b∈X.fs->b∉ch->s.heap.get? b=some o->H b=none->∃sl,h'.get? b=some {o with slots:=sl}) (free: ∀b o,b∉ch->s.heap.get? b=some o->H b=none->H' b=none)
  (there: ∀b o,b∉ch->s.heap.get? b=some o->∃o',h'.get? b=some o')
  (tups: ∀b xs,H b=some (.tup xs)->H' b=some (.tup xs)) (frzs: ∀b o u,H b=some (.frz o u)->H' b=some (.frz o u)) (tbls: ∀b ps,H b=some (.tbl ps)->∃more,H' b=some (.tbl (ps++more)))
  (ns: ∀m,s.heap.Ns X.env.locals m->h'.Ns X.env.locals m) (hok:eW X.prog X.w H' h') (hg:AllBare g') :
  ay X pins σ H' {s with heap:=h',gens:=g',drawn:=d',toks:=t'}:=by
 have neL: ∀b o,X.s₀.heap.get? b=some o->b≠X.env.locals:=λb o e=>j8 (gG (Heap.lt_size e) I.ok.above)
 have neC: ∀b o,X.s₀.heap.get? b=some o->b∉X.ex->b∉ch:=λb o e hx hb=>by
  rcases(hch b hb).1 with z |z
  ·exact hx z
  ·exact absurd (gG (Heap.lt_size e) z) (xY _)
 have cellK: ∀x c,X.env.cells.lookup x=some c->∀v,s.heap.IsCell c v->h'.IsCell c v:=λx c e v ⟨o,ho,hd⟩=>by
  have nch:c∉ch:=λz=>(hch c z).2.2.1 x c e rfl
  by_cases hc:c∈X.fs
  ·obtain⟨sl,q⟩:=slot c o (I.cne x c e) hc nch ho (I.freeC x c e)
   exact⟨_,q,hd⟩
  ·exact⟨o,keep c o (I.cne x c e) hc nch ho (I.freeC x c e),hd⟩
 refine⟨I.ok,I.os,hg,⟨λb o e n hb hx=>?_,λb o e n hb hx=>?_,λb o e n hx=>?_,λb o e hx=>?_,λb xs e=>tups b xs (I.base.tups b xs e),λb o xs e=>frzs b o xs (I.base.frzs b o xs e),λb ps e=>?_⟩,?_,λx c e=>?_,?_,λx c e=>?_,λp hp=>?_,hok,I.len⟩
 ·exact keep b o (neL b o e) hb (neC b o e hx) (I.base.keep b o e n hb hx) (I.base.free b o e n hx)
 ·obtain⟨sl,e1⟩:=I.base.slot b o e n hb hx
  obtain⟨sl',e2⟩:=slot b _ (neL b o e) hb (neC b o e hx) e1 (I.base.free b o e n hx);exact⟨sl',e2⟩
 ·obtain⟨o',e1⟩:=I.base.there b o e hx
  exact free b o' (neC b o e hx) e1 (I.base.free b o e n hx)
 ·obtain⟨o',e1⟩:=I.base.there b o e hx
  exact there b o' (neC b o e hx) e1
 ·obtain⟨m1,e1⟩:=I.base.tbls b ps e
  obtain⟨m2,e2⟩:=tbls b _ e1;exact⟨m1++m2,by rw[e2,Array.append_assoc]⟩
 ·obtain⟨m,hn,hl⟩:=I.loc
  refine⟨m,ns m hn,λi x v e1 e2 e3=>?_⟩;obtain⟨u,r,l⟩:=hl i x v e1 e2 e3;refine⟨u,r,?_⟩
  rcases l with l | ⟨k,c,e,z⟩
  ·exact .inl l
  ·exact .inr ⟨k,c,e,cellK x c e _ z⟩
 ·obtain⟨v,z⟩:=I.cell x c e
  exact⟨v,cellK x c e v z⟩
 ·obtain⟨m,⟨o,_,_,ho,_⟩,_⟩:=I.loc
  exact free _ o (λz=>(hch _ z).2.1 rfl) ho I.free
 ·obtain⟨v,o,ho,hd⟩:=I.cell x c e
  exact free c o (λz=>(hch c z).2.2.1 x c e rfl) ho (I.freeC x c e)
 ·obtain⟨e,n,ne,nf,d⟩:=I.pin p hp
  have nch:p.1∉ch:=λz=>(hch p.1 z).2.2.2 p hp rfl
  exact⟨keep p.1 p.2 ne nf nch e n,free p.1 p.2 nch e n,ne,nf,d⟩
theorem ay.un{t':Nat}(I:ay X pins σ H s)(u:Un X.fs [] H H' s.heap h')(hok:eW X.prog X.w H' h'):ay X pins σ H' {s with heap:=h',toks:=t'}:=by
 obtain⟨m,⟨o,es,ep,ho,r⟩,_⟩:=id I.loc;obtain⟨sl,hL⟩:=u.any ho I.free (by simp);exact I.step (g':=s.gens) (d':=s.drawn) (ch:=[]) (λ_ z=>nomatch z) (λb o _ hb _ e n=>u.keep b o e n hb (by simp)) (λb o _ hb _ e n=>u.slot b o e n hb (by simp)) (λb o _ e n=>u.free b o e n (by simp)) (λb o _ e=>u.there b o e (by simp)) u.tups u.frzs u.tbls (λm' hm=>by
  obtain⟨o',es',ep',ho',r'⟩:=hm;rw[ho] at ho';cases ho'
  exact⟨_,es',ep',hL,r'⟩) hok I.bare
theorem ay.call{g':Array GenState}{t':Nat}{d':Drawn}{ch:List Addr}(I:ay X pins σ H s)(u:Un (frs X.stack) ch H H' s.heap h')(hok:eW X.prog X.w H' h')(hg:AllBare g')
  (hch: ∀b∈ch,(b∈X.ex\/X.s₀.heap.objs.size<=b)/\b≠X.env.locals/\(∀x c,X.env.cells.lookup x=some c->c≠b)/\∀p∈X.pn++pins,p.1≠b) :
  ay X pins σ H' {s with heap:=h',gens:=g',drawn:=d',toks:=t'}:=by
 obtain⟨m,⟨o,es,ep,ho,r⟩,_⟩:=id I.loc;obtain⟨sl,hL⟩:=u.any ho I.free λz=>(hch _ z).2.1 rfl
 exact I.step (ch:=ch) hch (λb o hL hb hc e n=>u.keep b o e n (λz=>(fq.mp (I.stkSub b z)).elim hL hb) hc) (λb o _ _ hc e n=>u.any e n hc) (λb o hc e n=>u.free b o e n hc) (λb o hc e=>u.there b o e hc) u.tups u.frzs u.tbls (λm' hm=>by
  obtain⟨o',es',ep',ho',r'⟩:=hm;rw[ho] at ho';cases ho'
  exact⟨_,es',ep',hL,r'⟩) hok hg
theorem ay.turned{t':Nat}{it:Addr}(I:ay X pins σ H s)(k: ∀b o,b≠it->s.heap.get? b=some o->h'.get? b=some o)(hn:H it=none)(hL:it≠X.env.locals)
  (h1:it∈X.ex\/X.s₀.heap.objs.size<=it) (h2: ∀x c,X.env.cells.lookup x=some c->c≠it) (h3: ∀p∈X.pn++pins,p.1≠it):ay X pins σ H {s with heap:=h',toks:=t'}:=by
 have nit: ∀b u,H b=some u->b≠it:=λb u e z=>by rw[z,hn] at e;cases e
 refine I.step (g':=s.gens) (d':=s.drawn) (ch:=[it]) (λb hb=>?_) (λb o _ _ hc e _=>k b o (λz=>hc (by simp[z])) e) (λb o _ _ hc e _=>⟨o.slots,k b o (λz=>hc (by simp[z])) e⟩) (λ_ _ _ _ n=>n)
  (λb o hc e=>⟨o,k b o (λz=>hc (by simp[z])) e⟩) (λ_ _ e=>e) (λ_ _ _ e=>e) (λb ps e=>⟨#[],by rw[e];simp⟩) (λm hm=>?_) (λb u e=>?_) I.bare
 ·have e:b=it:=by simpa using hb
  subst e;exact⟨h1,hL,h2,h3⟩
 ·obtain⟨o,es,ep,ho,r⟩:=hm
  exact⟨o,es,ep,k _ o (oM hL) ho,r⟩
 ·refine(I.hok b u e).stay (λc v hc q=>k c v ?_ q) (λ_ q=>q) λ_ _ q=>q
  rcases hc with z |z
  ·rw[z];exact nit b u e
  ·exact nit c _ z
theorem ay.tok(I:ay X pins σ H s)(t:Nat):ay X pins σ H {s with toks:=t}:=I.un (h':=s.heap) (t':=t) Un.refl I.hok
theorem ay.kept{t':Nat}(I:ay X pins σ H s)(k: ∀b u,s.heap.get? b=some u->h'.get? b=some u):ay X pins σ H {s with heap:=h',toks:=t'}:=I.un (Un.kept k) (I.hok.kept k)
theorem ay.laid{a:Addr}{o:HO}{t':Nat}(I:ay X pins σ H s)(k: ∀b u,s.heap.get? b=some u->h'.get? b=some u)(hp:s.heap.objs.size<=a)(new:eT X.prog X.w (bf H a o) h' a o) :
  ay X pins σ (bf H a o) {s with heap:=h',toks:=t'}:=I.un (Un.laid k hp (I.hok.fresh hp)) (I.hok.laid k hp new)
theorem ay.write{x e:Addr}{o:HO}{t':Nat}(I:ay X pins σ H s)(mu:Ao (H x))(he:e=x\/H e=some (.own x))(k: ∀b u,b≠e->s.heap.get? b=some u->h'.get? b=some u)(heo: ∃u,h'.get? e=some u)
  (new:eT X.prog X.w (bf H x o) h' x o):ay X pins σ (bf H x o) {s with heap:=h',toks:=t'}:=I.un (Un.write mu he k heo) (I.hok.write mu he k heo new)
theorem ay.pins_of{pins':List (Addr×Obj)}(I:ay X pins σ H s)(h: ∀p∈pins',s.heap.get? p.1=some p.2/\H p.1=none/\p.1≠X.env.locals/\p.1∉X.fs/\∀v,p.2.data≠ .cell v):ay X pins' σ H s:=
 ⟨I.ok,I.os,I.bare,I.base,I.loc,I.cell,I.free,I.freeC,λp hp=>(eV.mp hp).elim (λz=>I.pin p (zZ _ z)) (h p),I.hok,I.len⟩
theorem qC{N:List Str}(hN:N.Nodup){i j:Nat}{x:Str}(a:N[i]?= some x)(b:N[j]?= some x):i=j:=by
 obtain⟨h1,e1⟩:=xZ.mp a;obtain⟨h2,e2⟩:=xZ.mp b;exact(List.getElem_inj hN).mp (e1.trans e2.symm)
theorem Ar{M:Model}{A:Around}{E:Value->Shared->Prop}{i:Nat}{x:Str}{v:V}{u:Value}{Q:Unit->Shared->Prop}(I:ay X pins σ H s)(hN:X.N.Nodup)(hi:X.N[i]?= some x)(hx:aW X.env.scope x)(r:bG v u)
  (h: ∀s',ay X pins (σ.set i (some v)) H s'->(∃a,Heap.SameBut a s.heap s'.heap/\(a=X.env.locals\/X.env.cells.lookup x=some a))->Q () s') (hf:X.fn x=true\/X.env.scope.names.lookup x=some .local:=by first |exact .inl rfl |exact .inr rfl |assumption):wpAny M A (storeName X.env x u) Q E s:=by
 obtain⟨m,hn,hl⟩:=id I.loc;have hcls:(X.env.scope.kind == .class || (X.env.scope.kind == .module&&X.env.locals != X.env.globals))=false:=by rw[I.ok.kind];rfl
 have hiσ:i<σ.length:=by rw[I.len];exact(xZ.mp hi).1
 have cne:=I.cne;have tracked: ∀{a:Addr} {h':Heap},(∃o,s.heap.get? a=some o/\H a=none)->Heap.SameBut a s.heap h'->eW X.prog X.w H h':=λ{a h'} ha hs b ob e=>by
  obtain⟨_,_,hfree⟩:=ha;refine(I.hok b ob e).stay (λc w' hc q=>(hs.2 c ?_).trans q) (λ_ q=>q) λ_ _ q=>q
  rintro rfl
  rcases hc with rfl |hc
  ·rw[hfree] at e;cases e
  ·rw[hfree] at hc;cases hc
 rcases hx with hk |hk
 ·refine wpAny_storeName_local hk hn (λh' hn' hs=>?_) hcls
  obtain⟨oL,_,_,hoL,_⟩:=id hn;refine h _ ⟨I.ok,I.os,I.bare,⟨λb o e n hb hx=>?_,λb o e n hb hx=>?_,I.base.free,λb o e hx=>?_,I.base.tups,I.base.frzs,I.base.tbls⟩,⟨_,hn',λj y v' e1 e2 e3=>?_⟩,λy c e=>?_,I.free,I.freeC,λp hp=>?_,tracked ⟨oL,hoL,I.free⟩ hs,by simpa using I.len⟩ ⟨_,hs,.inl rfl⟩
  ·exact(hs.2 b (j8 (gG (Heap.lt_size e) I.ok.above))).trans (I.base.keep b o e n hb hx)
  ·obtain⟨sl,e1⟩:=I.base.slot b o e n hb hx
   exact⟨sl,(hs.2 b (j8 (gG (Heap.lt_size e) I.ok.above))).trans e1⟩
  ·obtain⟨o',e1⟩:=I.base.there b o e hx
   exact⟨o',(hs.2 b (j8 (gG (Heap.lt_size e) I.ok.above))).trans e1⟩
  ·by_cases hj:j=i
   ·subst hj
    rw[hi] at e1;cases e1
    rw[oN hiσ] at e2;cases e2
    exact⟨u,r,.inl ⟨hk,by simp⟩⟩
   ·rw[iW (oM hj)] at e2
    obtain⟨u',r',q⟩:=hl j y v' e1 e2 e3;refine⟨u',r',?_⟩
    rcases q with⟨k,e⟩ | ⟨k,c,e,z⟩
    ·refine .inl ⟨k,?_⟩
     have:y≠x:=λe=>hj (qC hN e1 (e▸hi))
     simp[this,e]
    ·exact .inr ⟨k,c,e,z.sameBut hs (cne y c e)⟩
  ·obtain⟨w',z⟩:=I.cell y c e
   exact⟨w',z.sameBut hs (cne y c e)⟩
  ·obtain⟨e,n,ne,nf,d⟩:=I.pin p hp
   exact⟨(hs.2 p.1 ne).trans e,n,ne,nf,d⟩
 ·have hfn:X.fn x=true:=by
   rcases hf with z |z
   ·exact z
   ·rw[z] at hk;cases hk
  obtain⟨c,hc⟩:=I.ok.has x (.inl hk);obtain⟨w',z⟩:=I.cell x c hc;refine wpAny_storeName_cell I.ok.kind hk hc z (λh' hc' hs=>?_);obtain⟨oc,hoc,hocd⟩:=id z;refine h {s with heap:=h'} ⟨I.ok,I.os,I.bare,⟨λb o e n hb hx=>?_,λb o e n hb hx=>?_,I.base.free,λb o e hx=>?_,I.base.tups,I.base.frzs,I.base.tbls⟩,⟨m,hn.sameBut hs (oM (cne x c hc)),λj y v' e1 e2 e3=>?_⟩,λy c' e=>?_,I.free,I.freeC,λp hp=>?_,tracked ⟨oc,hoc,I.freeC x c hc⟩ hs,by simpa using I.len⟩ ⟨c,hs,.inr hc⟩
  ·exact(hs.2 b (j8 (gG (Heap.lt_size e) (I.ok.cab x c hfn hc)))).trans (I.base.keep b o e n hb hx)
  ·obtain⟨sl,e1⟩:=I.base.slot b o e n hb hx
   exact⟨sl,(hs.2 b (j8 (gG (Heap.lt_size e) (I.ok.cab x c hfn hc)))).trans e1⟩
  ·obtain⟨o',e1⟩:=I.base.there b o e hx
   exact⟨o',(hs.2 b (j8 (gG (Heap.lt_size e) (I.ok.cab x c hfn hc)))).trans e1⟩
  ·by_cases hj:j=i
   ·subst hj
    rw[hi] at e1;cases e1
    rw[oN hiσ] at e2;cases e2
    exact⟨u,r,.inr ⟨.inl hk,c,hc,hc'⟩⟩
   ·rw[iW (oM hj)] at e2
    obtain⟨u',r',q⟩:=hl j y v' e1 e2 e3;refine⟨u',r',?_⟩
    rcases q with q | ⟨k,c',e,z'⟩
    ·exact .inl q
    ·refine .inr ⟨k,c',e,z'.sameBut hs ?_⟩
     rintro rfl;exact hj (qC hN e1 (I.ok.inj _ _ _ e hc▸hi))
  ·by_cases hcc:c'=c
   ·subst hcc;exact⟨_,hc'⟩
   ·obtain⟨w2,z2⟩:=I.cell y c' e
    exact⟨w2,z2.sameBut hs hcc⟩
  ·obtain⟨e,n,ne,nf,d⟩:=I.pin p hp
   refine⟨(hs.2 p.1 ?_).trans e,n,ne,nf,d⟩;intro q;rw[q,hoc] at e
   have q':oc=p.2:=ow e;exact d w' (by rw[<-q'];exact hocd)
theorem iN{M:Model}{A:Around}{E:Value->Shared->Prop}{i:Nat}{x:Str}{v:V}{u:Value}{Q:Unit->Shared->Prop}(I:ay X pins σ H s)(hN:X.N.Nodup)(hi:X.N[i]?= some x)(hx:aW X.env.scope x)(r:bG v u)
  (h: ∀s',ay X pins (σ.set i (some v)) H s'->Q () s') (hf:X.fn x=true\/X.env.scope.names.lookup x=some .local:=by first |exact .inl rfl |exact .inr rfl |assumption):wpAny M A (storeName X.env x u) Q E s:=
 Ar I hN hi hx r (λs' I' _=>h s' I') hf
theorem ay.call'{s':Shared}{ch:List Addr}(I:ay X pins σ H s)(ho:s'.os=s.os)(u:Un (frs X.stack) ch H H' s.heap s'.heap)(hok:eW X.prog X.w H' s'.heap)(hg:AllBare s'.gens)
  (hch: ∀b∈ch,(b∈X.ex\/X.s₀.heap.objs.size<=b)/\b≠X.env.locals/\(∀x c,X.env.cells.lookup x=some c->c≠b)/\∀p∈X.pn++pins,p.1≠b):ay X pins σ H' s':=by
 obtain⟨h',g',d',t',o'⟩:=s';have e:o'=s.os:=ho;subst e;exact I.call (g':=g') (t':=t') (d':=d') u hok hg hch
end
abbrev XK:=Value->Option Addr->Hp->Prop
abbrev St:=List (Option V)
abbrev VK:=V->Hp->Prop
abbrev TE:=St->Hp->VK->Prop
abbrev TT:=St->Hp->(Bool->Hp->Prop)->Prop
abbrev TA:=St->Hp->(List V->Hp->Prop)->Prop
structure iO where
 nx:St->Hp->Prop
 rt:VK
 bk:St->Hp->Prop:=λ_ _=>False
 ct:St->Hp->Prop:=λ_ _=>False
abbrev TS:=iO->St->Hp->Prop
def EP(X:Cx)(pins:List (Addr×Obj))(σ:St)(Q:VK)(u:Value)(s':Shared):Prop:=∃v H',ay X pins σ H' s'/\bG v u/\Q v H'
def TP(X:Cx)(pins:List (Addr×Obj))(σ:St)(Q:Bool->Hp->Prop)(b:Bool)(s':Shared):Prop:=∃H',ay X pins σ H' s'/\Q b H'
def AP(X:Cx)(pins:List (Addr×Obj))(σ:St)(Q:List V->Hp->Prop)(us:List Value)(s':Shared):Prop:=∃vs H',ay X pins σ H' s'/\aZ vs us/\Q vs H'
def SP(X:Cx)(pins:List (Addr×Obj))(D:iO)(f:Flow)(s':Shared):Prop:=
 match f with
 | .next=>∃σ' H',ay X pins σ' H' s'/\D.nx σ' H'
 | .brk=>∃σ' H',ay X pins σ' H' s'/\D.bk σ' H'
 | .cont=>∃σ' H',ay X pins σ' H' s'/\D.ct σ' H'
 | .ret u=>∃v σ' H',ay X pins σ' H' s'/\bG v u/\D.rt v H'
def PE(X:Cx)(e:Expr)(t:TE):Prop:=
 ∀(pins:List (Addr×Obj)) (s:Shared) (σ:St) (H:Hp) (Q:VK),ay X pins σ H s->t σ H Q->wpAny (model X.prog X.w) X.A (eval e X.env) (EP X pins σ Q) X.xe s
def PT(X:Cx)(e:Expr)(t:TT):Prop:=
 ∀(pins:List (Addr×Obj)) (s:Shared) (σ:St) (H:Hp) (Q:Bool->Hp->Prop),ay X pins σ H s->t σ H Q->wpAny (model X.prog X.w) X.A (isTrue e X.env (eval e X.env)) (TP X pins σ Q) X.xe s
def PW(X:Cx)(e:Expr)(t:TT):Prop:=
 ∀(whole:Sem Value) (pins:List (Addr×Obj)) (s:Shared) (σ:St) (H:Hp) (Q:Bool->Hp->Prop),ay X pins σ H s->t σ H Q->wpAny (model X.prog X.w) X.A (isTrue e X.env whole) (TP X pins σ Q) X.xe s
theorem PW.pt{X:Cx}{e:Expr}{t:TT}(h:PW X e t):PT X e t:=h _
def PA(X:Cx)(es:List Expr)(t:TA):Prop:=
 ∀(pos:Pos) (pins:List (Addr×Obj)) (s:Shared) (σ:St) (H:Hp) (Q:List V->Hp->Prop),ay X pins σ H s->t σ H Q->wpAny (model X.prog X.w) X.A (spliced (backTo pos (starEach es X.env))) (AP X pins σ Q) X.xe s
def PS(X:Cx)(st:Stmt)(t:TS):Prop:=
 ∀(pins:List (Addr×Obj)) (s:Shared) (σ:St) (H:Hp) (D:iO),ay X pins σ H s->t D σ H->wpAny (model X.prog X.w) X.A (exec st X.env) (SP X pins D) X.xe s
def jI(X:Cx)(st:List Stmt)(t:TS):Prop:=
 ∀(pins:List (Addr×Obj)) (s:Shared) (σ:St) (H:Hp) (D:iO),ay X pins σ H s->t D σ H->wpAny (model X.prog X.w) X.A (execs st X.env) (SP X pins D) X.xe s
theorem bn{α:Type}{t:Sem α}{Q Q':α->Shared->Prop}{M:Model}{A:Around}{E:Value->Shared->Prop}{s:Shared}(h:wpAny M A t Q E s)(hQ: ∀a s,Q a s->Q' a s):wpAny M A t Q' E s:=wpAny_mono h hQ λ_ _ x=>x
section
variable{X:Cx}
def Ge(i:Nat):TE:=λ σ H Q=>∃v,σ[i]?= some (some v)/\Q v H
def tC(v:V):TE:=λ_ H Q=>Q v H
theorem i9{i:Nat}{x:Str}{pos:Pos}(hN:X.N[i]?= some x)(hv:mU X.env.scope x)(hd:(x ==("__debug__" :Str))=false:=by decide)(hcd:(x ==("__classdict__" :Str))=false:=by decide):PE X (.Name x pos) (Ge i):=by
 intro pins s σ H Q I h;obtain⟨v,e,h⟩:=h;obtain⟨m,hn,hl⟩:=I.loc;obtain⟨u,r,l⟩:=hl i x v hN e hv;have fin:EP X pins σ Q u s:=⟨v,H,I,r,h⟩
 rcases l with⟨hk,hm⟩ | ⟨hk,c,hc,K3⟩
 ·exact wpAny_Name (wpAny_loadName_local I.ok.kind hk hn hm fin) hd
 ·rcases hk with hk |hk
  ·exact wpAny_Name (wpAny_loadName_cell I.ok.kind hk hc K3 fin) hd
  ·exact wpAny_Name (wpAny_loadName_free I.ok.kind hk hc K3 fin hcd) hd
theorem vz{i j pos}:PE X (.Constant (.int i) j pos) (tC (.int i)):=λ_ _ _ H _ I h=>wpAny_Constant_int ⟨.int i,H,I.tok _,⟨_,rfl⟩,h⟩
theorem IL{b j pos}:PE X (.Constant (.bool b) j pos) (tC (.bl b)):=λ_ _ _ H _ I h=>Constant_bool ⟨.bl b,H,I,rfl,h⟩
theorem Gf{j pos}:PE X (.Constant .none j pos) (tC .non):=λ_ _ _ H _ I h=>Constant_none ⟨.non,H,I,rfl,h⟩
theorem ls{x j pos}:PE X (.Constant (.str x) j pos) (tC (.str x)):=λ_ _ _ H _ I h=>Calls.Constant_str ⟨.str x,H,I.tok _,⟨_,rfl⟩,h⟩
def Gl(X:Cx)(x:Str):Prop:=X.env.kindOf x=some .globalImplicit
theorem k8{E:Value->Shared->Prop}{pins:List (Addr×Obj)}{s:Shared}{σ:St}{H:Hp}{x:Str}{u:Value}{pos:Pos}{Q:Value->Shared->Prop}(I:ay X pins σ H s)(hg:Gl X x)(hm:X.mg x=some u)(h:Q u s)
  (hd:(x ==("__debug__" :Str))=false:=by decide):wpAny (model X.prog X.w) X.A (eval (.Name x pos) X.env) Q E s:=
 Calls.Name_function_global I.ok.kind hg (Calls.loadGlobal_global (by rw[I.ok.glob];exact I.mod.glob.keeps I.bk) hm h) hd
theorem rP{E:Value->Shared->Prop}{pins:List (Addr×Obj)}{s:Shared}{σ:St}{H:Hp}{x:Str}{u:Value}{pos:Pos}{Q:Value->Shared->Prop}(I:ay X pins σ H s)(hg:Gl X x)(hm:X.mg x=none)(hv:bootBuiltins x=some u)(h:Q u s)
  (hn:x≠ "__name__" :=by decide) (hd:(x ==("__debug__" :Str))=false:=by decide):wpAny (model X.prog X.w) X.A (eval (.Name x pos) X.env) Q E s:=by
 obtain⟨mb,h1,h2⟩:=I.mod.blt;exact Calls.Name_function_global I.ok.kind hg (Calls.loadGlobal_builtin (by rw[I.ok.glob];exact I.mod.glob.keeps I.bk) hm (by rw[I.ok.blt];exact h1.keeps I.bk) ((h2 x hn).trans hv) h) hd
theorem gK{x:Str}{v:V}{u:Value}{pos:Pos}(hg:Gl X x)(hm:X.mg x=some u)(r:bG v u)(hd:(x ==("__debug__" :Str))=false:=by decide):PE X (.Name x pos) (tC v):=
 λ_ _ _ H _ I h=>k8 I hg hm ⟨v,H,I,r,h⟩ hd
theorem sV{x:Str}{v:V}{u:Value}{pos:Pos}(hg:Gl X x)(hm:X.mg x=none)(hv:bootBuiltins x=some u)(r:bG v u)(hn:x≠ "__name__" :=by decide)(hd:(x ==("__debug__" :Str))=false:=by decide):PE X (.Name x pos) (tC v):=
 λ_ _ _ H _ I h=>rP I hg hm hv ⟨v,H,I,r,h⟩ hn hd
variable{a b:Expr}{ta tb:TE}{pos:Pos}
def tB(t:TE):TT:=λ σ H Q=>t σ H λx H1=>∃c,x= .bl c/\Q c H1
theorem Gg{e:Expr}{t:TE}(h:PE X e t)(he: ∀whole,isTrue e X.env whole=(do let v <-whole;standAt e.pos;holding [v] (truthy v)):=by intro _;rfl):PT X e (tB t):=by
 intro pins s σ H Q I hw;refine isTrue_plain (bn (h pins s σ H _ I hw) λv s1 ⟨x,H1,I1,r1,q1⟩=>?_) (he _);obtain⟨d,rfl,q⟩:=q1;cases r1;exact wpAny_truthy_bool ⟨H1,I1,q⟩
variable{tA tB':TT}{bD:List Expr}
def Gh(t u:TT):TT:=λ σ H Q=>t σ H λc H1=>if c=true then u σ H1 Q else Q false H1
def JS(t u:TT):TT:=λ σ H Q=>t σ H λc H1=>if c=true then Q true H1 else u σ H1 Q
def Gi(t:TT):TT:=λ σ H Q=>t σ H λc H1=>Q (!c) H1
theorem Ej(ha:PT X a tA):PW X (.BoolOp .And [a] pos) tA:=by
 intro wh pins s σ H Q I h;refine isTrue_and (bn (ha pins s σ H Q I h) λc s1 e=>?_);cases c with
 |true=>exact isTrue_and_nil e
 |false=>exact e
theorem Gj(ha:PT X a tA):PW X (.BoolOp .Or [a] pos) tA:=by
 intro wh pins s σ H Q I h;refine isTrue_or (bn (ha pins s σ H Q I h) λc s1 e=>?_);cases c with
 |false=>exact isTrue_or_nil e
 |true=>exact e
theorem Gk(ha:PT X a tA)(hb:PW X (.BoolOp .And (b::bD) pos) tB'):PW X (.BoolOp .And (a::b::bD) pos) (Gh tA tB'):=by
 intro wh pins s σ H Q I h;refine isTrue_and (bn (ha pins s σ H _ I h) λc s1 ⟨H1,I1,q1⟩=>?_);cases c with
 |true=>exact hb wh pins s1 σ H1 Q I1 q1
 |false=>exact⟨H1,I1,q1⟩
theorem IM(ha:PT X a tA)(hb:PW X (.BoolOp .Or (b::bD) pos) tB'):PW X (.BoolOp .Or (a::b::bD) pos) (JS tA tB'):=by
 intro wh pins s σ H Q I h;refine isTrue_or (bn (ha pins s σ H _ I h) λc s1 ⟨H1,I1,q1⟩=>?_);cases c with
 |true=>exact⟨H1,I1,q1⟩
 |false=>exact hb wh pins s1 σ H1 Q I1 q1
theorem Gm(ha:PT X a tA):PT X (.UnaryOp .Not a pos) (Gi tA):=by
 intro pins s σ H Q I h;exact isTrue_not (ha pins s σ H (λc H1=>Q (!c) H1) I h)
def IN(ta tb:TE):TE:=λ σ H Q=>ta σ H λx H1=>∃c,x= .bl c/\if c=true then tb σ H1 Q else Q (.bl false) H1
theorem Gn{op}{t:TE}(h:PE X a t):PE X (.BoolOp op [a] pos) t:=λpins s σ H Q I hw=>BoolOp_one (h pins s σ H Q I hw)
theorem Go(ha:PE X a ta)(hb:PE X (.BoolOp .And (b::bD) pos) tb):PE X (.BoolOp .And (a::b::bD) pos) (IN ta tb):=by
 intro pins s σ H Q I h;refine BoolOp_and (bn (ha pins s σ H _ I h) λv s1 ⟨x,H1,I1,r1,q1⟩=>?_);obtain⟨c,rfl,q1⟩:=q1;cases r1;refine wpAny_truthy_bool ?_;cases c with
 |true=>exact hb pins s1 σ H1 Q I1 q1
 |false=>exact⟨.bl false,H1,I1,rfl,q1⟩
def Kx(t:TT)(ta tb:TE):TE:=λ σ H Q=>t σ H λc H1=>if c=true then ta σ H1 Q else tb σ H1 Q
theorem Ce{c:Expr}(hc:PT X c tA)(ha:PE X a ta)(hb:PE X b tb):PE X (.IfExp c a b pos) (Kx tA ta tb):=by
 intro pins s σ H Q I h;refine wpAny_IfExp (bn (hc pins s σ H _ I h) λd s1 ⟨H1,I1,q1⟩=>?_);cases d with
 |true=>exact ha pins s1 σ H1 Q I1 q1
 |false=>exact hb pins s1 σ H1 Q I1 q1
end
def cw(K:W.Frag)(H:Hp)(a:Addr)(xs:List V):Prop:=
 Rd H a (.lst xs)\/
  ∃(o:Obj) (its:Array Value) (n:Nat),K.lookup a=some o/\o.cls= .type "list" /\o.dict=none/\o.data= .seq its n/\its.size<=sizeLine/\aZ xs its.toList
def gH(K:W.Frag)(H:Hp)(a:Addr)(xs:List V):Prop:=
 Rd H a (.tup xs)\/
  ∃(o:Obj) (its:Array Value) (n:Nat),K.lookup a=some o/\o.cls= .type "tuple" /\o.data= .seq its n/\its.size<=sizeLine/\aZ xs its.toList
def J':Value->Option V
 | .none=>some .non
 | .bool b=>some (.bl b)
 | .int i _=>some (.int i)
 | .str x _=>some (.str x)
 | .bytes b _=>some (.byt b)
 | .float b _=>some (.flt b)
 | .ref a=>some (.ref a)
 | .type n=>some (.ty n)
 |_=>none
theorem bG.abs{x:V}{u:Value}(r:bG x u):J' u=some x:=by
 cases x with
 |non=>cases r;rfl
 |bl _=>cases r;rfl
 |int _=>obtain⟨t,rfl⟩:=r;rfl
 |str _=>obtain⟨t,rfl⟩:=r;rfl
 |byt _=>obtain⟨t,rfl⟩:=r;rfl
 |flt _=>obtain⟨t,rfl⟩:=r;rfl
 |ref _=>cases r;rfl
 |ty _=>cases r;rfl
theorem bG.inj{x y:V}{u:Value}(r:bG x u)(q:bG y u):x=y:=ow (r.abs.symm.trans q.abs)
theorem aZ.inj: ∀{xs ys:List V} {us:List Value},aZ xs us->aZ ys us->xs=ys
 |_,_,_,.nil,.nil=>rfl
 |_,_,_,.cons r t,.cons r' t'=>by rw[r.inj r',aZ.inj t t']
section
variable{X:Cx}{pins:List (Addr×Obj)}{σ:St}{H:Hp}{s:Shared}{a:Addr}{xs ys:List V}
theorem cw.of{K:W.Frag}(h:H a=some (.lst xs)):cw K H a xs:= .inl (.inl h)
theorem gH.of{K:W.Frag}(h:H a=some (.tup xs)):gH K H a xs:= .inl (.inl h)
theorem ay.list(I:ay X pins σ H s)(h:cw X.K H a xs): ∃its:List Value,aZ xs its/\PlainL s.heap a its.toArray/\xs.length<=sizeLine:=by
 rcases h with h | ⟨o,its,n,hk,hc,hd,hs,hz,r⟩
 ·obtain⟨z,its,n,r,e⟩:=h.ok I.hok
  exact⟨its,r,⟨_,n,e,rfl,rfl,rfl⟩,z⟩
 ·refine⟨its.toList,r,⟨o,n,I.kIn a o hk,hc,hd,by simpa using hs⟩,?_⟩
  have e:=r.length;simp only[Dn] at e
  omega
theorem ay.tuple(I:ay X pins σ H s)(h:gH X.K H a xs): ∃its:List Value,aZ xs its/\IsTup s.heap a its.toArray/\xs.length<=sizeLine:=by
 rcases h with h | ⟨o,its,n,hk,hc,hs,hz,r⟩
 ·obtain⟨z,its,r,p⟩:=h.ok I.hok
  exact⟨its,r,p,z⟩
 ·refine⟨its.toList,r,⟨o,I.kIn a o hk,hc,n,by simpa using hs⟩,?_⟩
  have e:=r.length;simp only[Dn] at e
  omega
theorem ay.list_inj(I:ay X pins σ H s)(h:cw X.K H a xs)(h':cw X.K H a ys):xs=ys:=by
 obtain⟨its,r,⟨o,n,e,_,_,d⟩,_⟩:=I.list h;obtain⟨its',r',⟨o',n',e',_,_,d'⟩,_⟩:=I.list h';rw[e] at e';cases e'
 rw[d] at d'
 injection d' with d1 _
 have:its=its':=by simpa using congrArg Array.toList d1
 subst this;exact r.inj r'
end
abbrev Cx.wish(X:Cx)(E:Value->Shared->Prop):Cx:={X with xe:=E}
abbrev Cx.nox(X:Cx):Cx:=X.wish λ_ _=>False
theorem Cx.Ok.wish{X:Cx}(ok:X.Ok)(E:Value->Shared->Prop):(X.wish E).Ok:=
 ⟨ok.mod,ok.kind,ok.glob,ok.blt,ok.above,ok.inj,ok.has,ok.cab,ok.hd,ok.frames,ok.stk,ok.exf,ok.bs,ok.bsz,ok.noex,ok.exfs,ok.funs,ok.frf⟩
theorem Cx.Ok.unwish{X:Cx}{E:Value->Shared->Prop}(ok:(X.wish E).Ok):X.Ok:=
 ⟨ok.mod,ok.kind,ok.glob,ok.blt,ok.above,ok.inj,ok.has,ok.cab,ok.hd,ok.frames,ok.stk,ok.exf,ok.bs,ok.bsz,ok.noex,ok.exfs,ok.funs,ok.frf⟩
section
variable{X:Cx}{pins:List (Addr×Obj)}{σ:St}{H:Hp}{s:Shared}{E:Value->Shared->Prop}
theorem ay.wish(I:ay X pins σ H s)(E:Value->Shared->Prop):ay (X.wish E) pins σ H s:=⟨I.ok.wish E,I.os,I.bare,I.base,I.loc,I.cell,I.free,I.freeC,I.pin,I.hok,I.len⟩
theorem ay.unwish(I:ay (X.wish E) pins σ H s):ay X pins σ H s:=⟨I.ok.unwish,I.os,I.bare,I.base,I.loc,I.cell,I.free,I.freeC,I.pin,I.hok,I.len⟩
end
section
variable{X:Cx}{st:Stmt}{bD:List Stmt}{t u:TS}{e:Expr}{te:TE}{pos:Pos}
def IP:TS:=λD σ H=>D.nx σ H
def sW(t u:TS):TS:=λD σ H=>t {D with nx:=u D} σ H
theorem El:jI X [] IP:=λ_ _ σ H _ I h=>wpAny_execs_nil ⟨σ,H,I,h⟩
theorem qD(h1:PS X st t)(h2:jI X bD u):jI X (st::bD) (sW t u):=by
 intro pins s σ H D I h;refine wpAny_execs_cons (bn (h1 pins s σ H {D with nx:=u D} I h) λf s1 q=>?_);cases f with
 |next=>
  obtain⟨σ',H',I',q⟩:=q;exact h2 pins s1 σ' H' D I' q
 |ret v=>exact q
 |brk=>exact q
 |cont=>exact q
theorem mV(h1:PS X st t):jI X [st] t:=by
 intro pins s σ H D I h;refine wpAny_execs_cons (bn (h1 pins s σ H D I h) λf s1 q=>?_);cases f with
 |next=>exact wpAny_execs_nil q
 |ret v=>exact q
 |brk=>exact q
 |cont=>exact q
def IQ:TS:=λD σ H=>D.ct σ H
theorem xz:PS X (.Continue pos) IQ:=λ_ _ σ H _ I h=>wpAny_Continue ⟨σ,H,I,h⟩
theorem ay.quiet{pins:List (Addr×Obj)}{σ:St}{H:Hp}{s:Shared}(I:ay X pins σ H s):interactive X.env=false:=by simp[interactive,I.ok.kind]
def IR(te:TE):TS:=λD σ H=>te σ H λ_ H1=>D.nx σ H1
theorem mW(he:PE X e te)(hs:swapsWith e none pos.line X.env=pure false:=by rfl):PS X (.Expr e pos) (IR te):=by
 intro pins s σ H D I h;exact wpAny_Expr_any (bn (he pins s σ H _ I h) λv s1 ⟨x,H1,I1,r1,q1⟩=>⟨σ,H1,I1,q1⟩) I.quiet hs
def Kb(te:TE):TS:=λD σ H=>te σ H D.rt
theorem Au(he:PE X e te):PS X (.Return (some e) pos) (Kb te):=by
 intro pins s σ H D I h;exact wpAny_Return_some (bn (he pins s σ H _ I h) λv s1 ⟨x,H1,I1,r1,q1⟩=>⟨x,σ,H1,I1,r1,q1⟩)
def Kc(c:TT)(t u:TS):TS:=λD σ H=>c σ H λb H1=>if b=true then t D σ H1 else u D σ H1
theorem DC{c:Expr}{a b:List Stmt}{tc:TT}(hc:PT X c tc)(ha:jI X a t)(hb:jI X b u):PS X (.If c a b pos) (Kc tc t u):=by
 intro pins s σ H D I h;refine wpAny_If (bn (hc pins s σ H _ I h) λd s1 ⟨H1,I1,q1⟩=>?_);cases d with
 |true=>exact ha pins s1 σ H1 D I1 q1
 |false=>exact hb pins s1 σ H1 D I1 q1
end
abbrev TG:=V->St->Hp->(St->Hp->Prop)->Prop
abbrev uo:=List V->St->Hp->(St->Hp->Prop)->Prop
def PG(X:Cx)(target:Expr)(t:TG):Prop:=
 ∀(pins:List (Addr×Obj)) (s:Shared) (σ:St) (H:Hp) (v:V) (u:Value) (Q:St->Hp->Prop),ay X pins σ H s->bG v u->t v σ H Q->
  wpAny (model X.prog X.w) X.A (assign target X.env u) (λ_ s'=>∃σ' H',ay X pins σ' H' s'/\Q σ' H') X.xe s
def Ax(X:Cx)(ts:List Expr)(t:uo):Prop:=
 ∀(pins:List (Addr×Obj)) (s:Shared) (σ:St) (H:Hp) (vs:List V) (us:List Value) (Q:St->Hp->Prop),ay X pins σ H s->aZ vs us->t vs σ H Q->
  wpAny (model X.prog X.w) X.A (assignInOrder ((assignEach ts X.env).map (·.2)) us) (λ_ s'=>∃σ' H',ay X pins σ' H' s'/\Q σ' H') X.xe s
abbrev Cf:=V->V->V->Hp->(Hp->Prop)->Prop
def Gp(X:Cx)(t:Cf):Prop:=
 ∀(pins:List (Addr×Obj)) (s:Shared) (σ:St) (H:Hp) (o i v:V) (ov iv u:Value) (Q:Hp->Prop),ay X pins σ H s->bG o ov->bG i iv->bG v u->t o i v H Q->
  wpAny (model X.prog X.w) X.A (setItem ov iv u) (λ_ s'=>∃H',ay X pins σ H' s'/\Q H') X.xe s
section
variable{X:Cx}{pos:Pos}
def rQ(i:Nat):TG:=λv σ H Q=>Q (σ.set i (some v)) H
theorem sX{i:Nat}{x:Str}(hN:X.N.Nodup)(hi:X.N[i]?= some x)(hx:aW X.env.scope x)(hf:X.fn x=true\/X.env.scope.names.lookup x=some .local:=by first |exact .inl rfl |exact .inr rfl |assumption):PG X (.Name x pos) (rQ i):=by
 intro pins s σ H v u Q I r h;exact wpAny_assign_Name (iN I hN hi hx r (λs' I'=>⟨_,H,I',h⟩) hf)
def Kd:uo:=λvs σ H Q=>vs=[]/\Q σ H
def IS(t:TG)(u:uo):uo:=λvs σ H Q=>∃v r,vs=v::r/\t v σ H λ σ' H'=>u r σ' H' Q
theorem Em:Ax X [] Kd:=by
 intro pins s σ H vs us Q I r h;obtain⟨e,h⟩:=h;subst e;cases r;exact assignInOrder_nil ⟨σ,H,I,h⟩
theorem Cg{e:Expr}{es:List Expr}{t:TG}{u:uo}(h1:PG X e t)(h2:Ax X es u)
  (hs:(assignEach (e::es) X.env).map (·.2)=assign e X.env::(assignEach es X.env).map (·.2):=by rfl):Ax X (e::es) (IS t u):=by
 intro pins s σ H vs us Q I r h;obtain⟨v,vr,e1,h⟩:=h;subst e1;cases r with
 |cons r rr=>
  rw[hs];refine assignInOrder_cons (bn (h1 pins s σ H _ _ _ I r h) λ_ s1 ⟨σ1,H1,I1,q1⟩=>?_);exact h2 pins s1 σ1 H1 _ _ Q I1 rr q1
def bV(K:W.Frag)(n:Nat)(t:uo):TG:=λv σ H Q=>∃a xs,v= .ref a/\gH K H a xs/\xs.length=n/\t xs σ H Q
theorem Gq{es:List Expr}{k:Nat}{t:uo}{n:Nat}(hc:X.calm=true)(h:Ax X es t)
  (hn:(assignEach es X.env).length=n:=by rfl) (hst:(assignEach es X.env).findIdx? (·.1)=none:=by rfl):PG X (.Tuple es k pos) (bV X.K n t):=by
 intro pins s σ H v u Q I r hw;obtain⟨a,xs,e1,hq,hl,hw⟩:=hw;subst e1;cases r;obtain⟨its,rv,ht,hz⟩:=I.tuple hq;refine assign_Tuple_tuple (I.ok.hd hc) ht (by simp[hn,<-hl,rv.length]) hst λh' hx=>?_
 have I1:ay X pins σ H {s with heap:=h'}:=I.kept (t':=s.toks) λb o e=>hx b o (j8 (Heap.lt_size e)) e
 exact h pins _ σ H xs _ Q I1 (by simpa using rv) hw
def kD(to ti:TE)(t:Cf):TG:=λv σ H Q=>to σ H λo H1=>ti σ H1 λi H2=>t o i v H2 λH3=>Q σ H3
theorem Gr{o i:Expr}{to ti:TE}{t:Cf}(ho:PE X o to)(hi:PE X i ti)(hs:Gp X t)
  (ha: ∀v,assign (.Subscript o i pos) X.env v=(do
   let ov <-holding [v] (eval o X.env)
   let iv <-holding [v,ov] (eval i X.env)
   standAt pos
   holding [v,ov,iv] (setItem ov iv v)
   release [v,ov,iv] []):=by intro _;rfl):PG X (.Subscript o i pos) (kD to ti t):=by
 intro pins s σ H v u Q I r h;rw[ha];refine wpAny_bind (wpAny_holding (bn (ho pins s σ H _ I h) λov s1 ⟨x,H1,I1,r1,q1⟩=>?_));refine wpAny_bind (wpAny_holding (bn (hi pins s1 σ H1 _ I1 q1) λiv s2 ⟨y,H2,I2,r2,q2⟩=>?_));refine wpAny_bind (wpAny_standAt (wpAny_bind (wpAny_holding (bn (hs pins s2 σ H2 x y v ov iv u _ I2 r1 r2 r q2) λ_ s3 ⟨H3,I3,q3⟩=>?_))));exact wpAny_release ⟨σ,H3,I3,q3⟩
def yX(te:TE)(g:TG):TS:=λD σ H=>te σ H λx H1=>g x σ H1 D.nx
theorem Ay{tg e:Expr}{te:TE}{g:TG}(he:PE X e te)(hg:PG X tg g)(hs:swapsWithSole [tg] e pos.line X.env=pure false:=by rfl)(hw:swappedStores [tg] e X.env=pure none:=by rfl)
  (h1:(assignEach [tg] X.env).map (·.2)=[assign tg X.env]:=by rfl):PS X (.Assign [tg] e pos) (yX te g):=by
 intro pins s σ H D I h;refine wpAny_Assign_stores (bn (he pins s σ H _ I h) λv s1 ⟨x,H1,I1,r1,q1⟩=>?_) hs hw;rw[h1];exact bn (hg pins s1 σ H1 x v _ I1 r1 q1) λ_ s2 q=>q
theorem Az{i:Nat}{x:Str}{e:Expr}{te:TE}{pos':Pos}(hN:X.N.Nodup)(hi:X.N[i]?= some x)(hx:aW X.env.scope x)(he:PE X e te)(hs:swapsWith e (some (.Name x pos')) pos.line X.env=pure false:=by rfl)(hf:X.fn x=true\/X.env.scope.names.lookup x=some .local:=by first |exact .inl rfl |exact .inr rfl |assumption) :
  PS X (.Assign [.Name x pos'] e pos) (yX te (rQ i)):=by
 intro pins s σ H D I h;refine wpAny_Assign_Name (bn (he pins s σ H _ I h) λv s1 ⟨y,H1,I1,r1,q1⟩=>?_) hs;exact iN I1 hN hi hx r1 (λs2 I2=>⟨_,H1,I2,q1⟩) hf
def Gs(i j:Nat)(ta:TA):TS:=λD σ H=>ta σ H λvs H1=>∃v w,vs=[v,w]/\D.nx ((σ.set i (some v)).set j (some w)) H1
theorem Gu{i j:Nat}{x y:Str}{a b:Expr}{ta:TA}{px py pt:Pos}{kt k2 pt2}(hc:X.calm=true)(hN:X.N.Nodup)(hi:X.N[i]?= some x)(hj:X.N[j]?= some y)(hij:i≠j)
  (hx:X.env.scope.names.lookup x=some .local) (hy:X.env.scope.names.lookup y=some .local) (ha:PA X [a,b] ta)
  (hw:swappedStores [.Tuple [.Name x px,.Name y py] kt pt] (.Tuple [a,b] k2 pt2) X.env=pure (some [x,y]))
  (hs:swapsWithSole [.Tuple [.Name x px,.Name y py] kt pt] (.Tuple [a,b] k2 pt2) pos.line X.env=pure false:=by rfl) :
  PS X (.Assign [.Tuple [.Name x px,.Name y py] kt pt] (.Tuple [a,b] k2 pt2) pos) (Gs i j ta):=by
 intro pins s σ H D I h;rw[exec_Assign_arm];refine wpAny_bind (wpAny_standAt ?_);rw[hs];refine wpAny_bind (wpAny_pure ?_);rw[aK (by decide)];refine wpAny_bind (Tuple_ (bn (ha _ pins s σ H _ I h) λus s1 ⟨vs,H1,I1,r1,q1⟩=>?_));obtain⟨v,w,e1,q1⟩:=q1;subst e1;obtain⟨u1,u2,rfl,rv,rw'⟩ : ∃u1 u2,us=[u1,u2]/\bG v u1/\bG w u2:=by
  cases r1 with
  |cons p q=>
   cases q with
   |cons p' q'=>
    cases q';exact⟨_,_,rfl,p,p'⟩
 refine wpAny_newObj_type ?_ (by show 2<=sizeLine;decide);have I2:ay X pins σ H1 {s1 with heap:=s1.heap.push {cls:= .type "tuple",data:= .seq [u1,u2].toArray}}:=I1.kept (t':=s1.toks) λb o e=>Heap.get?_push_of_some _ e
 rw[hw];refine wpAny_bind (wpAny_pure ?_);show wpAny (model X.prog X.w) X.A (do rule "assign.swapped-stores";let items <-unpackItems (.ref s1.heap.objs.size) 2 none;assignInOrder [λv=>bindName X.env y v,λv=>bindName X.env x v] items.reverse;pure Flow.next) _ _ _;refine wpAny_bind (wpAny_rule (wpAny_bind (unpackItems_tuple (items:= #[u1,u2]) (I.ok.hd hc) (IsTup.new s1.heap _) λh' hx'=>?_)))
 have I3:=I2.kept (h':=h') (t':=s1.toks) λb o e=>hx' b o (j8 (Heap.lt_size e)) e
 show wpAny _ _ (assignInOrder [λv=>bindName X.env y v,λv=>bindName X.env x v] [u2,u1] >>= λ_=>pure Flow.next) _ _ _;refine wpAny_bind (assignInOrder_cons (wpAny_bindName (iN I3 hN hj (.inl hy) rw' (λs2 I4=>?_) (.inr hy))));refine assignInOrder_cons (wpAny_bindName (iN I4 hN hi (.inl hx) rv (λs3 I5=>assignInOrder_nil (wpAny_pure ?_)) (.inr hx)));rw[List.set_comm _ _ (oM hij)] at I5
 exact⟨_,H1,I5,q1⟩
def Gv(c:TT)(tb:TS):TS:=λD σ H=>∃W:Nat->St->Hp->Prop,(∃m,W m σ H)/\∀m σ H,W m σ H->
 c σ H λb H1=>if b=true then ∃N:St->Hp->Prop,(∀σ' H',N σ' H'->∃m',m'<m/\W m' σ' H')/\tb {D with nx:=N,ct:=N,bk:=D.nx} σ H1 else D.nx σ H1
theorem Ch{c:Expr}{body:List Stmt}{tc:TT}{tb:TS}(hp:PassesOwn (model X.prog X.w) X.A X.env X.xe)(hc:PT X c tc)(hb:jI X body tb):PS X (.While c body [] pos) (Gv tc tb):=by
 intro pins s σ H D I h;obtain⟨W,⟨m0,w0⟩,l9⟩:=h;refine wpAny_While (codeAny_whileLoop (λn s'=>∃σ' H',ay X pins σ' H' s'/\W n σ' H') ?_ m0 ⟨σ,H,I,w0⟩);rintro n s1 ⟨σ1,H1,I1,w1⟩;refine wpAny_passesOwn hp (bn (hc pins s1 σ1 H1 _ I1 (l9 n σ1 H1 w1)) λb s2 ⟨H2,I2,q2⟩=>?_);cases b with
 |true=>
  obtain⟨N,hN,q2⟩:=q2;rw[aD rfl];refine wpAny_passesOwn hp (bn (hb pins s2 σ1 H2 _ I2 q2) λf s3 q3=>?_);cases f with
  |next=>
   obtain⟨σ3,H3,I3,n3⟩:=q3;obtain⟨m',hm,w3⟩:=hN σ3 H3 n3;exact⟨m',hm,σ3,H3,I3,w3⟩
  |cont=>
   obtain⟨σ3,H3,I3,n3⟩:=q3;obtain⟨m',hm,w3⟩:=hN σ3 H3 n3;exact⟨m',hm,σ3,H3,I3,w3⟩
  |brk=>exact q3
  |ret v=>exact q3
 |false=>
  rw[aK qr];exact wpAny_execs_nil ⟨σ1,H2,I2,q2⟩
end
structure It where
 go:Nat->Hp->Prop
 yld:Nat->Hp->V->Hp->Prop
 stop:Nat->Hp->Prop
def mz(X:Cx)(pins:List (Addr×Obj))(H:Hp)(b:Addr):Prop:=
 H b=none/\b≠X.env.locals/\b∉X.fs/\(b∈X.ex\/X.s₀.heap.objs.size<=b)/\(∀x c,X.env.cells.lookup x=some c->c≠b)/\∀p∈X.pn++pins,p.1≠b
theorem ay.fpOk{X:Cx}{pins:List (Addr×Obj)}{σ:St}{H H':Hp}{s:Shared}{b:Addr}(I:ay X pins σ H s)(hb:s.heap.objs.size<=b)(hn:H' b=none):mz X pins H' b:=by
 refine⟨hn,Nat.ne_of_gt (gG I.lt hb),I.nofs hb,.inr (iV I.sz hb),λx c e z=>?_,λp hp z=>?_⟩
 ·obtain⟨v,q⟩:=I.cell x c e
  exact absurd (gG q.lt (by rw[z];exact hb)) (xY _)
 ·exact absurd (gG (Heap.lt_size (I.pin p hp).1) (by rw[z];exact hb)) (xY _)
structure yY (P:Program) (w:World) (K:W.Frag) (tg:Expr) (J:It) (fp:List Addr) (it:Addr) (tn:Nat->Heap->Prop):Prop where
 mem:it∈fp
 obj: ∀i h,tn i h->∀b∈fp,∃o,h.get? b=some o/\∀v,o.data≠ .cell v
 keep: ∀i h h',tn i h->(∀b∈fp,∀o,h.get? b=some o->h'.get? b=some o)->tn i h'
 item: ∀(X:Cx),X.prog=P->X.w=w->X.K=K->X.calm=true->∀(i:Nat) (pins:List (Addr×Obj)) (s:Shared) (σ:St) (H:Hp) (E:Value->Shared->Prop),ay X pins σ H s->(∀b∈fp,mz X pins H b)->tn i s.heap->J.go i H->
  wpAny (model P w) X.A (pyNext (.ref it)) (λr s1=>∃u,r=some u/\
   wpAny (model P w) X.A (letOwnedTupleGo tg (.ref it) u) (λ_ s2=>∃x H',ay X pins σ H' s2/\bG x u/\J.yld i H x H'/\tn (i+1) s2.heap/\∀b∈fp,H' b=none) E s1) E s
 done: ∀(X:Cx),X.prog=P->X.w=w->X.K=K->X.calm=true->∀(i:Nat) (pins:List (Addr×Obj)) (s:Shared) (σ:St) (H:Hp) (E:Value->Shared->Prop),ay X pins σ H s->(∀b∈fp,mz X pins H b)->tn i s.heap->J.stop i H->
  wpAny (model P w) X.A (pyNext (.ref it)) (λr s1=>r=none/\ay X pins σ H s1) E s
 self: ∀(A:Around) (i:Nat) (s:Shared) (Q:Value->Shared->Prop) (E:Value->Shared->Prop),tn i s.heap->Q (.ref it) s->wpAny (model P w) A (pyIter (.ref it)) Q E s
abbrev TI:=St->Hp->(It->Hp->Prop)->Prop
def Gw(X:Cx)(pins:List (Addr×Obj))(σ:St)(tg:Expr)(R:It->Hp->Prop)(itv:Value)(s2:Shared):Prop:=
 ∃(it:Addr) (fp:List Addr) (tn:Nat->Heap->Prop) (J:It) (H':Hp),itv= .ref it/\ay X pins σ H' s2/\yY X.prog X.w X.K tg J fp it tn/\tn 0 s2.heap/\(∀b∈fp,mz X pins H' b)/\R J H'
def PI(X:Cx)(tg iter:Expr)(wi:TI):Prop:=
 ∀(pins:List (Addr×Obj)) (s:Shared) (σ:St) (H:Hp) (R:It->Hp->Prop),ay X pins σ H s->wi σ H R->
  wpAny (model X.prog X.w) X.A (eval iter X.env) (λv s1=>wpAny (model X.prog X.w) X.A (pyIter v) (Gw X pins σ tg R) X.xe s1) X.xe s
theorem yZ{M:Model}{A:Around}{E:Value->Shared->Prop}{s:Shared}{tg:Expr}{it:Addr}{u:Value}{o:Obj}{n:String}{vs:Array Value}{Q:Unit->Shared->Prop}(ho:s.heap.get? it=some o)(hc:o.cls= .type n)(hd:o.data= .fields vs)
  (hn:["enumerate","zip","dict_itemiterator","dict_reverseitemiterator","odict_iterator","itertools.zip_longest","itertools.pairwise"].contains n=false) (hQ:Q () s):wpAny M A (letOwnedTupleGo tg (.ref it) u) Q E s:=by
 unfold letOwnedTupleGo;cases tg<;>first
  |exact wpAny_pure hQ
  | (cases u<;>first
    |exact wpAny_pure hQ
    | (refine wpAny_bind (wpAny_load ho ?_);rw[hc,hd];show wpAny M A (if(["enumerate","zip","dict_itemiterator","dict_reverseitemiterator","odict_iterator","itertools.zip_longest","itertools.pairwise"].contains n&&vs[0]? == some (rawInt _))=true then _ else _) Q E s;rw[aK (by intro h;rw[hn,Bool.false_and] at h;cases h)];exact wpAny_pure hQ))
def Gx(K:W.Frag)(a:Addr):It:=
 ⟨λi H=>∃xs x,cw K H a xs/\xs[i]?= some x,λi H x H'=>H'=H/\∀xs,cw K H a xs->xs[i]?= some x,λi H=>∃xs,cw K H a xs/\xs.length<=i⟩
def DD(lo:Int)(n:Nat):It:=⟨λi _=>i<n,λi H x H'=>H'=H/\x= .int (lo+i),λi _=>n<=i⟩
theorem uq{P:Program}{w:World}{K:W.Frag}{tg:Expr}(a it:Addr):yY P w K tg (Gx K a) [it] it (λi h=>h.IsListIter it a i) where
 mem:=by simp
 obj:=λi h st b hb=>by
  have e:b=it:=by simpa using hb
  subst e;obtain⟨o,e,c,d⟩:=st;exact⟨o,e,λv z=>by rw[d] at z;cases z⟩
 keep:=λi h h' st k=>st.at λo e=>k it (by simp) o e
 item:=by
  intro X hP hw hK hc i pins s σ H E I hf st hg;subst hP hw hK;obtain⟨xs,x,hq,hx⟩:=hg;obtain⟨its,rv,p,hz⟩:=I.list hq;obtain⟨u,hu,ru⟩:=rv.get hx;obtain⟨f0,f1,f2,f3,f4,f5⟩:=hf it (by simp);refine wpAny_pyNext_list_item st p.isList (x:=u) (by simpa using hu) λh' st' sb=>?_
  have I1:ay X pins σ H {s with heap:=h'}:=I.turned (t':=s.toks) (λb o hb e=>(sb.2 b hb).trans e) f0 f1 f3 f4 f5;obtain⟨o,e,c,d⟩:=id st';exact⟨u,rfl,yZ (s:={s with heap:=h'}) e c d (by decide) ⟨x,H,I1,ru,⟨rfl,λys hy=>by rw[I.list_inj hy hq];exact hx⟩,st',λb hb=>(hf b hb).1⟩⟩
 done:=by
  intro X hP hw hK hc i pins s σ H E I hf st hg;subst hP hw hK;obtain⟨xs,hq,hx⟩:=hg;obtain⟨its,rv,p,hz⟩:=I.list hq;obtain⟨f0,f1,f2,f3,f4,f5⟩:=hf it (by simp);have hl:=rv.length;exact wpAny_pyNext_list_end (I.ok.hd hc) st p.isList (by simp;omega) λh' eb=>⟨rfl,I.turned (t':=s.toks) (λb o hb e=>eb b o hb e) f0 f1 f3 f4 f5⟩
 self:=λ_ _ _ _ _ st h=>wpAny_pyIter_listiter st h
theorem y6{P:Program}{w:World}{K:W.Frag}{tg:Expr}(it:Addr)(lo:Int)(n:Nat):yY P w K tg (DD lo n) [it] it (λi h=>IsRangeIter h it (lo+(i:Nat)*1) ((n:Int)- (i:Nat)) 1) where
 mem:=by simp
 obj:=λi h st b hb=>by
  have e:b=it:=by simpa using hb
  subst e;exact⟨_,st,λv z=>by
   have z':Data.fields _=Data.cell v:=z;cases z'⟩
 keep:=λi h h' st k=>k it (by simp) _ st
 item:=by
  intro X hP hw hK hc i pins s σ H E I hf st hg;subst hP hw hK;obtain⟨f0,f1,f2,f3,f4,f5⟩:=hf it (by simp);have W:=Walks.range (prog:=X.prog) (w:=X.w) (I.ok.hd hc) it lo 1 n;refine W.item i s _ _ hg st λv h' tk hv st' kk=>?_
  obtain⟨t,rfl⟩:=hv;have I1:ay X pins σ H {s with heap:=h',toks:=tk}:=I.turned (λb o hb e=>kk b o (by simpa using hb) e) f0 f1 f3 f4 f5;refine⟨_,rfl,yZ (s:={s with heap:=h',toks:=tk}) (n:= "range_iterator") st' rfl rfl (by decide) ⟨.int (lo+i),H,I1,⟨t,?_⟩,⟨rfl,rfl⟩,st',λb hb=>(hf b hb).1⟩⟩;rw[Int.mul_one]
 done:=by
  intro X hP hw hK hc i pins s σ H E I hf st hg;subst hP hw hK;obtain⟨f0,f1,f2,f3,f4,f5⟩:=hf it (by simp);exact wpAny_pyNext_range_end (I.ok.hd hc) st (by have:n<=i:=hg;omega) λh' eb=>⟨rfl,I.turned (t':=s.toks) (λb o hb e=>eb b o hb e) f0 f1 f3 f4 f5⟩
 self:=λ_ _ _ _ _ st h=>wpAny_pyIter_rangeiter st h
section
variable{X:Cx}{tg:Expr}
def DF(K:W.Frag)(tl:TE):TI:=λ σ H R=>tl σ H λx H1=>∃a,x= .ref a/\(∃xs,cw K H1 a xs)/\R (Gx K a) H1
theorem En{l:Expr}{tl:TE}(hl:PE X l tl):PI X tg l (DF X.K tl):=by
 intro pins s σ H R I h;refine bn (hl pins s σ H _ I h) λv s1 ⟨x,H1,I1,r1,q1⟩=>?_
 obtain⟨a,e,⟨xs,hq⟩,q⟩:=q1;subst e;cases r1;obtain⟨its,rv,p,hz⟩:=I1.list hq;refine wpAny_pyIter_list p.isList ?_;refine⟨s1.heap.objs.size,[s1.heap.objs.size],_,_,H1,rfl,I1.kept (t':=s1.toks) λb o e=>Heap.get?_push_of_some _ e,uq a _,⟨_,Heap.get?_push_size _ rfl,rfl,rfl⟩,λb hb=>?_,q⟩;have e:b=s1.heap.objs.size:=by simpa using hb
 subst e;exact I1.fpOk (cr _) (I1.hok.fresh (cr _))
theorem Ci{pins:List (Addr×Obj)}{σ:St}{H:Hp}{s:Shared}{R:It->Hp->Prop}{E:Value->Shared->Prop}{lo hi:Int}{t u v:Tok}{tk:Nat}(I:ay X pins σ H s)(h1: -(2^62)<=lo)(h2:lo<2^62)(h3: -(2^62)<=hi)(h4:hi<2^62)
  (q:R (DD lo (hi-lo).toNat) H):wpAny (model X.prog X.w) X.A (pyIter (.ref s.heap.objs.size)) (Gw X pins σ tg R) E {s with heap:=s.heap.push {cls:= .type "range",data:= .fields #[.int lo t,.int hi u,.int 1 v]},toks:=tk}:=by
 refine wpAny_pyIter_range (IsRange.new ..) (small_one h1 h2 h3 h4) ?_;have I1:ay X pins σ H {s with heap:=s.heap.push {cls:= .type "range",data:= .fields #[.int lo t,.int hi u,.int 1 v]},toks:=tk}:=I.kept λb o e=>Heap.get?_push_of_some _ e
 refine⟨(s.heap.push {cls:= .type "range",data:= .fields #[.int lo t,.int hi u,.int 1 v]}).objs.size,[(s.heap.push {cls:= .type "range",data:= .fields #[.int lo t,.int hi u,.int 1 v]}).objs.size],_,_,H,rfl,
  I1.kept (t':=tk) λb o e=>Heap.get?_push_of_some _ e,y6 _ lo (hi-lo).toNat,?_,λb hb=>?_,q⟩
 ·have e1:lo+((0:Nat):Int)*1=lo:=by simp
  have e2:(((hi-lo).toNat:Nat):Int)- ((0:Nat):Int)=Builtin.Range.rangeSize lo hi 1:=by rw[rangeSize_one];split<;>omega
  show IsRangeIter _ _ (lo+((0:Nat):Int)*1) ((((hi-lo).toNat:Nat):Int)- ((0:Nat):Int)) 1;rw[e1,e2];exact Heap.get?_push_size _ rfl
 ·have e:b=(s.heap.push {cls:= .type "range",data:= .fields #[.int lo t,.int hi u,.int 1 v]}).objs.size:=by simpa using hb
  subst e;exact I1.fpOk (cr _) (I1.hok.fresh (cr _))
def IT(ta:TA):TI:=λ σ H R=>ta σ H λvs H1=>∃j:Int,vs=[.int j]/\ -(2^62)<=j/\j<2^62/\R (DD 0 j.toNat) H1
theorem AB{a:Expr}{ta:TA}{p pos:Pos}(hg:Gl X "range")(hm:X.mg "range" =none)(ha:PA X [a] ta)(hs:starEach [a] X.env=[(false,eval a X.env)]:=by rfl):PI X tg (.Call (.Name "range" p) [a] [] pos) (IT ta):=by
 intro pins s σ H R I h;refine Call_ (rP I hg hm boot_range (PyProof.Rows.callWith_type1 (bn (ha pos pins s σ H _ I h) λus s1 ⟨vs,H1,I1,r1,q1⟩=>?_) hs rfl));obtain⟨j,e,q1,q2,q⟩:=q1;subst e;cases r1 with
 |cons r rr=>
  cases rr;obtain⟨t,rfl⟩:=r;exact call_range_1 (Ci I1 (by omega) (by omega) q1 q2 (by simpa using q))
def Gy(wi:TI)(g:TG)(tb:TS):TS:=λD σ H=>wi σ H λJ H1=>∃W:Nat->Nat->St->Hp->Prop,(∃m,W 0 m σ H1)/\∀i m σ H,W i m σ H->
 (J.stop i H/\D.nx σ H)\/(J.go i H/\∃N:St->Hp->Prop,(∀σ' H',N σ' H'->∃m',m'<m/\W (i+1) m' σ' H')/\∀x H',J.yld i H x H'->g x σ H' λ σ2 H2=>tb {D with nx:=N,ct:=N,bk:=D.nx} σ2 H2)
def mX(fp:List Addr)(h:Heap):List (Addr×Obj):=fp.filterMap λb=>(h.get? b).map λo=>(b,o)
theorem ir{fp:List Addr}{h:Heap}{b:Addr}{o:Obj}(hb:b∈fp)(e:h.get? b=some o):(b,o)∈mX fp h:=FG.mpr ⟨b,hb,by rw[e];rfl⟩
theorem AC{fp:List Addr}{h:Heap}{p:Addr×Obj}(hp:p∈mX fp h):p.1∈fp/\h.get? p.1=some p.2:=by
 obtain⟨b,hb,e⟩:=FG.mp hp;cases q:h.get? b with
 |none=>rw[q] at e;cases e
 |some o=>
  rw[q] at e;have e':(b,o)=p:=ow e
  subst e';exact⟨hb,q⟩
theorem ay.pinned{pins:List (Addr×Obj)}{σ:St}{H:Hp}{s:Shared}{fp:List Addr}(I:ay X pins σ H s)(hf: ∀b∈fp,mz X pins H b)(ho: ∀b∈fp,∃o,s.heap.get? b=some o/\∀v,o.data≠ .cell v):ay X (pins++mX fp s.heap) σ H s:=
 I.pins_of λp hp=>(eV.mp hp).elim (λz=>I.pin p (j9 _ z)) λz=>by
  obtain⟨hb,e⟩:=AC z;obtain⟨f0,f1,f2,_⟩:=hf p.1 hb;obtain⟨o,e',d⟩:=ho p.1 hb;rw[e] at e';cases e'
  exact⟨e,f0,f1,f2,d⟩
theorem ay.unpinned{pins pl:List (Addr×Obj)}{σ:St}{H:Hp}{s:Shared}(I:ay X (pins++pl) σ H s):ay X pins σ H s:=I.pins_of λp hp=>I.pin p (j9 _ (zZ _ hp))
theorem AD{iter:Expr}{body:List Stmt}{wi:TI}{g:TG}{tb:TS}{pos:Pos}(hp:PassesOwn (model X.prog X.w) X.A X.env X.xe)(hc:X.calm=true)(hi:PI X tg iter wi)(hg:PG X tg g)(hb:jI X body tb)
  (hs: ∀x,foldedSetIterable iter X.env x=pure x:=by intro _;rfl):PS X (.For tg iter body [] pos) (Gy wi g tb):=by
 intro pins s σ H D I h;refine wpAny_For (bn (hi pins s σ H _ I h) λv s1 h1=>bn h1 λitv s2 h2=>?_) hs;obtain⟨it,fp,tn,J,H2,e,I2,T,st2,f2,W,⟨m0,w0⟩,l9⟩:=h2;subst e;have stat: ∀{H':Hp},(∀b∈fp,H' b=none)->∀b∈fp,mz X pins H' b:=λhn b hb=>⟨hn b hb,(f2 b hb).2⟩
 refine codeAny_forLoop_any (λn s'=>∃i σ' H',ay X pins σ' H' s'/\tn i s'.heap/\(∀b∈fp,H' b=none)/\W i n σ' H') ?_ m0 ⟨0,σ,H2,I2,st2,λb hb=>(f2 b hb).1,w0⟩;rintro n s3 ⟨i,σ3,H3,I3,st3,fr3,w3⟩
 rcases l9 i n σ3 H3 w3 with⟨stop,qn⟩ | ⟨go,N,hN,step⟩
 ·refine wpAny_passesOwn hp (bn (T.done X rfl rfl rfl hc i pins s3 σ3 H3 X.xe I3 (stat fr3) st3 stop) λr s4 ⟨hr,I4⟩=>?_)
  subst hr;exact wpAny_execs_nil ⟨σ3,H3,I4,qn⟩
 ·refine wpAny_passesOwn hp (bn (T.item X rfl rfl rfl hc i pins s3 σ3 H3 X.xe I3 (stat fr3) st3 go) λr s4 ⟨u,hr,h4⟩=>?_)
  subst hr;refine wpAny_passesOwn hp (bn h4 λ_ s5 ⟨x,H5,I5,r5,y5,st5,fr5⟩=>?_);have I5':=I5.pinned (stat fr5) (T.obj _ _ st5);refine wpAny_passesOwn hp (bn (hg _ s5 σ3 H5 x u _ I5' r5 (step x H5 y5)) λ_ s6 ⟨σ6,H6,I6,q6⟩=>?_);refine wpAny_passesOwn hp (bn (hb _ s6 σ6 H6 _ I6 q6) λf s7 q7=>?_);have again: ∀{σ7:St} {H7:Hp},ay X (pins++mX fp s5.heap) σ7 H7 s7->N σ7 H7->∃m,m<n/\∃i σ' H',ay X pins σ' H' s7/\tn i s7.heap/\(∀b∈fp,H' b=none)/\W i m σ' H':=λ{σ7 H7} I7 n7=>by
   obtain⟨m',hm,w7⟩:=hN σ7 H7 n7;refine⟨m',hm,i+1,σ7,H7,I7.unpinned,T.keep _ _ _ st5 λb hb o e=>(I7.pin (b,o) (j9 _ (j9 _ (ir hb e)))).1,λb hb=>?_,w7⟩;obtain⟨o,e,d⟩:=T.obj _ _ st5 b hb;exact(I7.pin (b,o) (j9 _ (j9 _ (ir hb e)))).2.1
  cases f with
  |next=>obtain⟨σ7,H7,I7,n7⟩:=q7;exact again I7 n7
  |cont=>obtain⟨σ7,H7,I7,n7⟩:=q7;exact again I7 n7
  |brk=>obtain⟨σ7,H7,I7,q7⟩:=q7;exact⟨σ7,H7,I7.unpinned,q7⟩
  |ret v=>obtain⟨x7,σ7,H7,I7,r7,q7⟩:=q7;exact⟨x7,σ7,H7,I7.unpinned,r7,q7⟩
end
abbrev R2:=V->V->Hp->VK->Prop
def fS(X:Cx)(f:Value->Value->Sem Value)(r:R2):Prop:=
 ∀(pins:List (Addr×Obj)) (s:Shared) (σ:St) (H:Hp) (x y:V) (v u:Value) (Q:VK),ay X pins σ H s->bG x v->bG y u->r x y H Q->
  wpAny (model X.prog X.w) X.A (f v u) (EP X pins σ Q) X.xe s
def Gz(X:Cx)(f:Value->Sem Value)(r:V->Hp->VK->Prop):Prop:=
 ∀(pins:List (Addr×Obj)) (s:Shared) (σ:St) (H:Hp) (x:V) (v:Value) (Q:VK),ay X pins σ H s->bG x v->r x H Q->
  wpAny (model X.prog X.w) X.A (f v) (EP X pins σ Q) X.xe s
def gT(X:Cx)(f:Value)(r:List V->Hp->VK->Prop):Prop:=
 ∀(pins:List (Addr×Obj)) (s:Shared) (σ:St) (H:Hp) (xs:List V) (us:List Value) (Q:VK),ay X pins σ H s->aZ xs us->r xs H Q->
  wpAny (model X.prog X.w) X.A (call f us) (EP X pins σ Q) X.xe s
def AE(r:R2)(ta tb:TE):TE:=λ σ H Q=>ta σ H λx H1=>tb σ H1 λy H2=>r x y H2 Q
def JT(r:V->Hp->VK->Prop)(ta:TE):TE:=λ σ H Q=>ta σ H λx H1=>r x H1 Q
def rI(C:Int->Int->Prop)(g:Int->Int->V):R2:=λx y H Q=>∃i j,x= .int i/\y= .int j/\C i j/\Q (g i j) H
def lu(g:Int->Int->V):R2:=λx y H Q=>∃i j,x= .int i/\y= .int j/\Q (g i j) H
def rU(g:Int->V):V->Hp->VK->Prop:=λx H Q=>∃i,x= .int i/\Q (g i) H
section
variable{X:Cx}{a b c:Expr}{ta tb tc:TE}{pos:Pos}
theorem Cj(ha:PE X a ta)(hb:PE X b tb){pins:List (Addr×Obj)}{s:Shared}{σ:St}{H:Hp}{R:V->V->Hp->Prop}(I:ay X pins σ H s)
  (h:ta σ H λx H1=>tb σ H1 λy H2=>R x y H2) {Q:Value->Shared->Prop} {f:Value->Value->Sem Value}
  (hf: ∀v u s2 x y H2,ay X pins σ H2 s2->bG x v->bG y u->R x y H2->wpAny (model X.prog X.w) X.A (f v u) Q X.xe s2) :
  wpAny (model X.prog X.w) X.A (eval a X.env) (λv s₁=>wpAny (model X.prog X.w) X.A (eval b X.env) (λu s₂=>wpAny (model X.prog X.w) X.A (f v u) Q X.xe s₂) X.xe s₁) X.xe s:=by
 refine bn (ha pins s σ H _ I h) λv s1 ⟨x,H1,I1,r1,q1⟩=>?_
 refine bn (hb pins s1 σ H1 _ I1 q1) λu s2 ⟨y,H2,I2,r2,q2⟩=>?_
 exact hf v u s2 x y H2 I2 r1 r2 q2
theorem IU{op:Operator}{r:R2}(ho:fS X (binaryOp op) r)(ha:PE X a ta)(hb:PE X b tb):PE X (.BinOp a op b pos) (AE r ta tb):=by
 intro pins s σ H Q I h;exact wpAny_BinOp (Cj ha hb I h λv u s2 x y H2 I2 rx ry q=>ho pins s2 σ H2 x y v u Q I2 rx ry q)
theorem DH{op:UnaryOp}{r:V->Hp->VK->Prop}(ho:Gz X (unaryOp op) r)(ha:PE X a ta):PE X (.UnaryOp op a pos) (JT r ta):=by
 intro pins s σ H Q I h;exact UnaryOp_ (bn (ha pins s σ H _ I h) λv s1 ⟨x,H1,I1,r1,q1⟩=>ho pins s1 σ H1 x v Q I1 r1 q1)
theorem GA{f:Value->Value->Sem Value}{C:Int->Int->Prop}{g:Int->Int->Int}
  (rule: ∀(i j:Int) (t u:Tok) (s:Shared) (Q:Value->Shared->Prop) (E:Value->Shared->Prop),C i j->Q (.int (g i j) s.toks) {s with toks:=s.toks+1}->wpAny (model X.prog X.w) X.A (f (.int i t) (.int j u)) Q E s) :
  fS X f (rI C λi j=> .int (g i j)):=by
 intro pins s σ H x y v u Q I rx ry h;obtain⟨i,j,rfl,rfl,hc,q⟩:=h;obtain⟨t,rfl⟩:=rx;obtain⟨t',rfl⟩:=ry;exact rule i j t t' s _ _ hc ⟨.int (g i j),H,I.tok _,⟨_,rfl⟩,q⟩
theorem GB{f:Value->Value->Sem Value}{g:Int->Int->Int}
  (rule: ∀(i j:Int) (t u:Tok) (s:Shared) (Q:Value->Shared->Prop) (E:Value->Shared->Prop),Q (.int (g i j) s.toks) {s with toks:=s.toks+1}->wpAny (model X.prog X.w) X.A (f (.int i t) (.int j u)) Q E s) :
  fS X f (lu λi j=> .int (g i j)):=by
 intro pins s σ H x y v u Q I rx ry h;obtain⟨i,j,rfl,rfl,q⟩:=h;obtain⟨t,rfl⟩:=rx;obtain⟨t',rfl⟩:=ry;exact rule i j t t' s _ _ ⟨.int (g i j),H,I.tok _,⟨_,rfl⟩,q⟩
theorem y8{f:Value->Value->Sem Value}{g:Int->Int->Bool}
  (rule: ∀(i j:Int) (t u:Tok) (s:Shared) (Q:Value->Shared->Prop) (E:Value->Shared->Prop),Q (.bool (g i j)) s->wpAny (model X.prog X.w) X.A (f (.int i t) (.int j u)) Q E s) :
  fS X f (lu λi j=> .bl (g i j)):=by
 intro pins s σ H x y v u Q I rx ry h;obtain⟨i,j,rfl,rfl,q⟩:=h;obtain⟨t,rfl⟩:=rx;obtain⟨t',rfl⟩:=ry;exact rule i j t t' s _ _ ⟨.bl (g i j),H,I,rfl,q⟩
theorem gY:fS X (binaryOp .Add) (lu λi j=> .int (i+j)):=GB λ_ _ _ _ _ _ _ q=>add_int q
theorem rR:fS X (binaryOp .Sub) (lu λi j=> .int (i-j)):=GB λ_ _ _ _ _ _ _ q=>sub_int q
theorem cM:fS X (binaryOp .Mod) (rI (λ_ j=>j≠0) λi j=> .int (i.fmod j)):=GA λ_ _ _ _ _ _ _ hc q=>mod_int' hc q
theorem Ky{f:Value->Sem Value}{g:Int->Int}
  (rule: ∀(i:Int) (t:Tok) (s:Shared) (Q:Value->Shared->Prop) (E:Value->Shared->Prop),Q (.int (g i) s.toks) {s with toks:=s.toks+1}->wpAny (model X.prog X.w) X.A (f (.int i t)) Q E s) :
  Gz X f (rU λi=> .int (g i)):=by
 intro pins s σ H x v Q I rx h;obtain⟨i,rfl,q⟩:=h;obtain⟨t,rfl⟩:=rx;exact rule i t s _ _ ⟨.int (g i),H,I.tok _,⟨_,rfl⟩,q⟩
theorem vA:Gz X (unaryOp .USub) (rU λi=> .int (-i)):=Ky λ_ _ _ _ _ q=>neg_int q
theorem vB{pins:List (Addr×Obj)}{σ:St}{H:Hp}{s:Shared}{Q:VK}{k k':Bool}(I:ay X pins σ H s)(q:Q (.bl k) H)(e:k=k'):EP X pins σ Q (.bool k') s:=by
 subst e;exact⟨.bl k,H,I,rfl,q⟩
theorem pO:fS X (compareOp .Lt) (lu λi j=> .bl (decide (i<j))):=y8 λ_ _ _ _ _ _ _ q=>lt_int q
theorem IV:fS X (compareOp .LtE) (lu λi j=> .bl (decide (i<=j))):=y8 λ_ _ _ _ _ _ _ q=>le_int q
theorem ml:fS X (compareOp .Gt) (lu λi j=> .bl (decide (j<i))):=y8 λ_ _ _ _ _ _ _ q=>gt_int q
theorem IW:fS X (compareOp .GtE) (lu λi j=> .bl (decide (j<=i))):=y8 λ_ _ _ _ _ _ _ q=>ge_int q
theorem ur:fS X (compareOp .In) (λx y H Q=>∃i j,x= .str i/\y= .str j/\Q (.bl (!(Builtin.Str.occurrences j i 0 j.length 1).isEmpty)) H):=by
 intro pins s σ H x y v u Q I rx ry h;obtain⟨i,j,rfl,rfl,q⟩:=h;obtain⟨t,rfl⟩:=rx;obtain⟨t',rfl⟩:=ry;exact in_str (vB I q rfl)
theorem ja:fS X (compareOp .Is) (λx y H Q=>y= .non/\Q (.bl (decide (x= .non))) H):=by
 intro pins s σ H x y v u Q I rx ry h;obtain⟨rfl,q⟩:=h;cases ry;refine is_none_gen (vB I q ?_);cases x<;>first
  | (cases rx;rfl)
  | (obtain⟨t,rfl⟩:=rx;rfl)
theorem vC:fS X (compareOp .NotIn) (λx y H Q=>∃i j,x= .str i/\y= .str j/\Q (.bl (!(!(Builtin.Str.occurrences j i 0 j.length 1).isEmpty))) H):=by
 intro pins s σ H x y v u Q I rx ry h;obtain⟨i,j,rfl,rfl,q⟩:=h;obtain⟨t,rfl⟩:=rx;obtain⟨t',rfl⟩:=ry;exact notIn_str (vB I q rfl)
theorem AF(b:Expr){op:CmpOp}(h:op≠ .In:=by decide)(h2:op≠ .NotIn:=by decide):behindInMarks op b=false:=by
 have e1:(op == CmpOp.In)=false:=by cases op<;>first |rfl |exact absurd rfl h
 have e2:(op == CmpOp.NotIn)=false:=by cases op<;>first |rfl |exact absurd rfl h2
 cases b<;>simp[behindInMarks,e1,e2]
theorem Eo{op:CmpOp}{r:R2}(ho:fS X (compareOp op) r)(ha:PE X a ta)(hb:PE X b tb)(hm:behindInMarks op b=false):PE X (.Compare a [op] [b] pos) (AE r ta tb):=by
 intro pins s σ H Q I h;exact wpAny_Compare1 (Cj ha hb I h λv u s2 x y H2 I2 rx ry q=>ho pins s2 σ H2 x y v u Q I2 rx ry q) hm
def IX(t:TE):TT:=λ σ H Q=>t σ H λx H'=>∃k,x= .bl k/\Q k H'
theorem Ep{op:CmpOp}{r:R2}(ho:fS X (compareOp op) r)(ha:PE X a ta)(hb:PE X b tb)(hm:behindInMarks op b=false):PT X (.Compare a [op] [b] pos) (IX (AE r ta tb)):=by
 intro pins s σ H Q I h;refine wpAny_isTrue_Compare1 (bn (ha pins s σ H _ I h) λv s1 ⟨x,H1,I1,r1,q1⟩=>bn (hb pins s1 σ H1 _ I1 q1) λu s2 ⟨y,H2,I2,r2,q2⟩=>
  bn (ho pins s2 σ H2 x y v u _ I2 r1 r2 q2) λc s3 ⟨z,H3,I3,r3,k,e,q3⟩=>?_) hm
 subst e;cases r3;exact wpAny_truthy_bool ⟨H3,I3,q3⟩
theorem mY:(sizeLine:Nat)<2^63:=by rw[sizeLine_eq];decide
theorem dh:fS X (binaryOp .Add) (λx y H Q=>∃i j,x= .str i/\y= .str j/\i.length+j.length<=sizeLine/\Q (.str (i++j)) H):=by
 intro pins s σ H x y v u Q I rx ry h;obtain⟨i,j,rfl,rfl,hz,q⟩:=h;obtain⟨t,rfl⟩:=rx;obtain⟨t',rfl⟩:=ry;exact add_str (λt' tk=>⟨.str (i++j),H,I.tok _,⟨_,rfl⟩,q⟩) hz
theorem kO{x:V}{us:List Value}(r:aZ [x] us): ∃u,us=[u]/\bG x u:=by
 cases r with
 |cons r1 r2=>cases r2;exact⟨_,rfl,r1⟩
theorem vD:gT X (.builtin "abs") (λxs H Q=>∃i,xs=[.int i]/\Q (.int (if i<0 then -i else i)) H):=by
 intro pins s σ H xs us Q I r h;obtain⟨i,rfl,q⟩:=h;obtain⟨u,rfl,t,rfl⟩:=kO r;exact call_abs_int λu tk=>⟨.int (if i<0 then -i else i),H,I.tok _,⟨_,rfl⟩,q⟩
theorem ut:gT X (.type "int") (λxs H Q=>(∃i,xs=[.int i]/\Q (.int i) H)\/∃k,xs=[.bl k]/\Q (.int (if k then 1 else 0)) H):=by
 intro pins s σ H xs us Q I r h
 rcases h with⟨i,rfl,q⟩ | ⟨k,rfl,q⟩
 ·obtain⟨u,rfl,t,rfl⟩:=kO r
  exact call_int_int ⟨.int i,H,I,⟨_,rfl⟩,q⟩
 ·obtain⟨u,rfl,r1⟩:=kO r
  cases r1;exact call_int_bool ⟨.int (if k then 1 else 0),H,I.tok _,⟨_,rfl⟩,q⟩
theorem jb:gT X (.type "str") (λxs H Q=>∃i,xs=[.int i]/\i.natAbs.log2<1920/\Q (.str (toString i)) H):=by
 intro pins s σ H xs us Q I r h;obtain⟨i,rfl,hz,q⟩:=h;obtain⟨u,rfl,t,rfl⟩:=kO r;exact PySem.P.str_of_int hz ⟨.str _,H,I.tok _,⟨_,rfl⟩,q⟩
end
section
variable{prog:Program}{w:World}{A:Around}{E:Value->Shared->Prop}{s:Shared}{K:W.Frag}{x dx C f:Addr}{mA:Str->Option Value}{name:Str}{v:Value}
end
section
variable{P:Program}{w:World}{H H':Hp}{h h':Heap}{a C dx:Addr}{fs fs':List (Str×V)}
end
section
variable{X:Cx}{pins:List (Addr×Obj)}{σ:St}{H:Hp}{s:Shared}{a C dx:Addr}{fs:List (Str×V)}{f:Str}{v:V}{A:Around}{E:Value->Shared->Prop}
end
section
variable{X:Cx}{o e value:Expr}{f:Str}{pos pos' tpos:Pos}{ta tv:TE}
end
section
variable{X:Cx}{pins:List (Addr×Obj)}{σ:St}{H:Hp}{s:Shared}{A:Around}{E:Value->Shared->Prop}{Q:Value->Shared->Prop}{c:Value}{b:Bool}
end
structure Room (k:Nat) (A:Around):Prop where
 hd:A.handled=none
 dp:A.depth+3*k+5<recursionLimit
 un:A.units+16*k+200<cLine
theorem Room.mono{j k:Nat}{A:Around}(r:Room k A)(h:j<=k):Room j A:=⟨r.hd,by have:=r.dp;omega,by have:=r.un;omega⟩
theorem Room.deeper{k:Nat}{A:Around}(r:Room (k+1) A)(env:Env):Room k (A.deeper env):=
 ⟨r.hd,by have:=r.dp;show A.depth+1+3*k+5<_;omega,by have:=r.un;show A.units+3+16*k+200<_;omega⟩
theorem Room.depth{k:Nat}{A:Around}(r:Room k A):A.depth<recursionLimit:=by have:=r.dp;omega
theorem Room.units{k:Nat}{A:Around}(r:Room k A):A.units+64<cLine:=by have:=r.un;omega
def GC:TA:=λ_ H Q=>Q [] H
def DJ(ta:TE)(tr:TA):TA:=λ σ H Q=>ta σ H λx H1=>tr σ H1 λxs H2=>Q (x::xs) H2
section
variable{X:Cx}{e:Expr}{es:List Expr}{te:TE}{t:TA}{pos:Pos}
theorem eZ:PA X [] GC:=λ_ _ _ _ H Q I h=>Calls.spliced_nil ⟨[],H,I,.nil,h⟩
theorem cg(ha:PE X e te)(hr:PA X es t)(hs:starEach (e::es) X.env=(false,eval e X.env)::starEach es X.env:=by rfl):PA X (e::es) (DJ te t):=by
 intro pos pins s σ H Q I h;rw[hs];show wpAny _ _ (spliced ((false,eval e X.env)::backTo pos (starEach es X.env))) _ _ s;refine Calls.spliced_cons (bn (ha pins s σ H _ I h) λu s1 ⟨x,H1,I1,r1,q1⟩=>?_);exact bn (hr pos pins s1 σ H1 _ I1 q1) λus s2 ⟨xs,H2,I2,r2,q2⟩=>⟨x::xs,H2,I2,.cons r1 r2,q2⟩
def Ke(t:TA):TE:=λ σ H Q=>t σ H λxs H1=>xs.length<=sizeLine/\∀p,H1 p=none->Q (.ref p) (bf H1 p (.tup xs))
def Kf(t:TA):TE:=λ σ H Q=>t σ H λxs H1=>xs.length<=sizeLine/\∀p,H1 p=none->Q (.ref p) (bf H1 p (.lst xs))
theorem AG{x1}(h:PA X es t):PE X (.Tuple es x1 pos) (Ke t):=by
 intro pins s σ H Q I hq;refine wpAny_Tuple_spliced (bn (h pos pins s σ H _ I hq) λus s1 ⟨xs,H1,I1,r,z,q⟩=>⟨by rw[<-r.length];exact z,?_⟩);have hf:H1 s1.heap.objs.size=none:=I1.hok.fresh (cr _);refine⟨.ref s1.heap.objs.size,bf H1 s1.heap.objs.size (.tup xs),I1.laid (t':=s1.toks) (λb u e=>Heap.get?_push_of_some _ e) (cr _) ?_,rfl,q _ hf⟩;exact⟨z,us,r,⟨_,Heap.get?_push_size _ rfl,rfl,_,rfl⟩⟩
theorem rS(h:PA X es t):PE X (.List es pos) (Kf t):=by
 intro pins s σ H Q I hq;refine wpAny_List_spliced (bn (h pos pins s σ H _ I hq) λus s1 ⟨xs,H1,I1,r,z,q⟩=>⟨by rw[<-r.length];exact z,?_⟩);have hf:H1 s1.heap.objs.size=none:=I1.hok.fresh (cr _);refine⟨.ref s1.heap.objs.size,bf H1 s1.heap.objs.size (.lst xs),I1.laid (t':=s1.toks) (λb u e=>Heap.get?_push_of_some _ e) (cr _) ?_,rfl,q _ hf⟩;exact⟨z,us,0,r,Heap.get?_push_size _ rfl⟩
end
abbrev Sp:=List V->Hp->VK->XK->Prop
abbrev lv:=List Env->Hp->Shared->XK->Value->Shared->Prop
structure vE (P:Program) (w:World) (K:W.Frag) (mg:Str->Option Value) (base:Heap) (A:Around) (outer:List Env) (s:Shared) (H:Hp):Prop where
 frames:A.frames=some outer
 mod:Mod K mg base
 bs: ∀b o,base.get? b=some o->s.heap.get? b=some o/\H b=none
 bsz:base.objs.size<=s.heap.objs.size
 funs:s.heap.FunFrames base outer
 frf: ∀b∈frs outer,H b=none
 hok:eW P w H s.heap
 bare:AllBare s.gens
def CE(outer:List Env)(P:Program)(w:World)(H:Hp)(s:Shared)(Q:VK)(u:Value)(s':Shared):Prop:=
 ∃v H',s'.os=s.os/\AllBare s'.gens/\Un (frs outer) [] H H' s.heap s'.heap/\eW P w H' s'.heap/\bG v u/\Q v H'
def CR(CX:lv)(outer:List Env)(P:Program)(w:World)(H:Hp)(s:Shared)(Q:VK)(E:XK)(r:Result)(s':Shared):Prop:=
 match r with
 | .ok (.ret u)=>CE outer P w H s Q u s'
 | .ok _=>False
 | .error e=>CX outer H s E e s'
structure b5 (P:Program) (w:World) (K:W.Frag) (mg:Str->Option Value) (base:Heap) (CX:lv) (k:Nat) (f:Addr) (fd:FuncData) (ps:List Str) (sp:Sp):Prop where
 len: ∀vs H Q E,sp vs H Q E->vs.length=ps.length
 run: ∀(A:Around) (outer:List Env) (s:Shared) (H:Hp) (args:Args) (us:List Value) (vs:List V) (Q:VK) (E:XK),Room k A->vE P w K mg base A outer s H->BindsTo s fd args (ps.zip us)->aZ vs us->sp vs H Q E->
  codeAny (model P w) A (.call (.ref f) args) (CR CX outer P w H s Q E) s
section
variable{X:Cx}{pins:List (Addr×Obj)}{σ:St}{H:Hp}{s s':Shared}
theorem ay.env0(I:ay X pins σ H s):vE X.prog X.w X.K X.mg X.base X.A X.stack s H:=
 ⟨I.ok.frames,I.ok.mod,I.bs,iV I.ok.bsz I.sz,I.stack,I.stkFree,I.hok,I.bare⟩
theorem ay.after{Q:VK}{u:Value}(I:ay X pins σ H s)(h:CE X.stack X.prog X.w H s Q u s'):EP X pins σ Q u s':=by
 obtain⟨v,H',os,bare,un,hok,r,q⟩:=h;obtain⟨hh,g,d,t,os'⟩:=s';obtain rfl:os'=s.os:=os;exact⟨v,H',I.call (h':=hh) (g':=g) (d':=d) (t':=t) (ch:=[]) un hok bare (λb z=>absurd z (by simp)),r,q⟩
end
def DK(sp:Sp)(dvs:List V)(E:XK)(t:TA):TE:=λ σ H Q=>t σ H λvs H1=>sp (vs++dvs) H1 Q E
def nu(K:W.Frag)(fd:FuncData)(ps:List Str)(ds:List Value):Prop:=
 ∀(s:Shared) (us:List Value),K.In s.heap->(us++ds).length=ps.length->BindsTo s fd ⟨us,[]⟩ (ps.zip (us++ds))
theorem nu.all{K:W.Frag}{fd:FuncData}{ps:List Str}(h: ∀us:List Value,us.length=ps.length->bindArgs fd ⟨us,[]⟩ =pure (ps.zip us)):nu K fd ps []:=λs us _ hl=>by
 rw[ka] at hl⊢;exact .of_eq (h us hl)
def oS(CX:lv)(X:Cx)(E:XK):Prop:=∀(pins:List (Addr×Obj)) (σ:St) (H:Hp) (s:Shared) (e:Value) (s':Shared),ay X pins σ H s->CX X.stack H s E e s'->X.xe e s'
section
variable{X:Cx}{CX:lv}{k:Nat}{f C:Addr}{fd:FuncData}{ps:List Str}{sp:Sp}{dvs:List V}{ds:List Value}{E:XK}{x m:Str}{p pos apos:Pos}{e o:Expr}{es:List Expr}{ta:TE}{t:TA}
theorem GD{pins:List (Addr×Obj)}{σ:St}{H:Hp}{s:Shared}{Q:VK}{us:List Value}{vs:List V}(F:b5 X.prog X.w X.K X.mg X.base CX k f fd ps sp)(hr:Room k X.A)(hb:nu X.K fd ps ds)(hd:aZ dvs ds)(hx:oS CX X E)
  (I:ay X pins σ H s) (r:aZ vs us) (h:sp (vs++dvs) H Q E):wpAny (model X.prog X.w) X.A (call (.ref f) us) (EP X pins σ Q) X.xe s:=by
 have r2:aZ (vs++dvs) (us++ds):=r.append hd;have hl:(us++ds).length=ps.length:=by rw[<-r2.length];exact F.len _ _ _ _ h
 refine wpAny_call (codeAny_mono (F.run X.A X.stack s H ⟨us,[]⟩ (us++ds) (vs++dvs) Q E hr I.env0 (hb s us I.kIn hl) r2 h) λr s' hq=>?_);cases r with
 |error e=>exact hx pins σ H s e s' I hq
 |ok fl=>
  cases fl with
  |ret u=>exact I.after hq
  |next=>exact False.elim hq
  |brk=>exact False.elim hq
  |cont=>exact False.elim hq
theorem Er(F:b5 X.prog X.w X.K X.mg X.base CX k f fd ps sp)(hr:Room k X.A)(hg:Gl X x)(hm:X.mg x=some (.ref f))(hk:W.keepIn X.K (.ref f)=true)(hb:nu X.K fd ps ds)(hd:aZ dvs ds)(hx:oS CX X E)
  (ha:PA X (e::es) t) (hdb:(x ==("__debug__" :Str))=false:=by decide) (he:starEach (e::es) X.env=(false,eval e X.env)::starEach es X.env:=by rfl) (hpl:(backTo pos (starEach es X.env)).any (·.1)=false:=by rfl) :
  PE X (.Call (.Name x p) (e::es) [] pos) (DK sp dvs E t):=by
 intro pins s σ H Q I h;refine wpAny_Call_Name_kw (k8 I hg hm ?_ hdb);refine W.callWith_K (h₀:=X.base) I.ok.mod.kin hk (bn (ha pos pins s σ H _ I h) λus s1 ⟨vs,H1,I1,r,q⟩=>⟨I1.kIn,?_⟩) he hpl;exact GD F hr hb hd hx I1 r q
end
section
variable{X:Cx}{CX:lv}{k:Nat}{f C:Addr}{fd:FuncData}{ps ks:List Str}{sp:Sp}{E:XK}{x m:Str}{p pos apos kpos:Pos}{e o:Expr}{es:List Expr}{kws:List Keyword}{te ta:TE}{t tk:TA}{nm:Option Str}
variable{g:List Value->List Value->List Value}{gV:List V->List V->List V}
end
structure bg (N P:List Str) (sc:Scope):Prop where
 kind:sc.kind= .function
 co:sc.isCoroutine=false
 gen:sc.isGenerator=false
 nd:N.Nodup
 pre:N.take P.length=P
 par: ∀x∈P,sc.names.lookup x=some .local\/sc.names.lookup x=some .cell
 nofree: ∀y∈sc.names,y.2≠ .free
theorem uu{kindOf:Str->Option NameKind}{x:Str}: ∀{binds:List (Str×Value)} {m:Str->Option Value},(∀v,(x,v)∉binds)->bindL kindOf binds m x=m x
 | [],_,_=>rfl
 | (n,v)::r,m,h=>by
  unfold bindL;rw[uu λw hw=>h w (eU _ hw)];split
  ·have:x≠n:=by rintro rfl;exact h v dP
   simp[this]
  ·rfl
theorem uv{kindOf:Str->Option NameKind}{x:Str}: ∀{binds:List (Str×Value)} {m:Str->Option Value},(∀v,(x,v)∉binds)->bindC kindOf binds m x=m x
 | [],_,_=>rfl
 | (n,v)::r,m,h=>by
  unfold bindC;rw[uv λw hw=>h w (eU _ hw)];split
  ·rfl
  ·have:x≠n:=by rintro rfl;exact h v dP
   simp[this]
theorem uw{kindOf:Str->Option NameKind}{x:Str}{v:Value}: ∀{P:List Str} {vs:List Value} {i:Nat} {m:Str->Option Value},P.Nodup->P[i]?= some x->vs[i]?= some v->kindOf x=some .local->
  bindL kindOf (P.zip vs) m x=some v
 | [],_,_,_,_,h,_,_=>by simp at h
 |_::_,[],_,_,_,_,h,_=>by simp at h
 |p::P,w::vs,0,m,nd,h1,h2,hk=>by
  simp at h1 h2;subst h1;subst h2
  show bindL kindOf ((p,w)::P.zip vs) m p=_;unfold bindL;rw[uu λv hv=>(z7.mp nd).1 (Do hv).1,aD hk];simp
 |p::P,w::vs,i+1,m,nd,h1,h2,hk=>by
  show bindL kindOf ((p,w)::P.zip vs) m x=_;unfold bindL;exact uw (i:=i) (z7.mp nd).2 (by simpa using h1) (by simpa using h2) hk
theorem ux{kindOf:Str->Option NameKind}{x:Str}{v:Value}: ∀{P:List Str} {vs:List Value} {i:Nat} {m:Str->Option Value},P.Nodup->P[i]?= some x->vs[i]?= some v->kindOf x≠some .local->
  bindC kindOf (P.zip vs) m x=some v
 | [],_,_,_,_,h,_,_=>by simp at h
 |_::_,[],_,_,_,_,h,_=>by simp at h
 |p::P,w::vs,0,m,nd,h1,h2,hk=>by
  simp at h1 h2;subst h1;subst h2
  show bindC kindOf ((p,w)::P.zip vs) m p=_;unfold bindC;rw[uv λv hv=>(z7.mp nd).1 (Do hv).1,aK hk];simp
 |p::P,w::vs,i+1,m,nd,h1,h2,hk=>by
  show bindC kindOf ((p,w)::P.zip vs) m x=_;unfold bindC;exact ux (i:=i) (z7.mp nd).2 (by simpa using h1) (by simpa using h2) hk
def a6(N:List Str)(vs:List V):St:=vs.map some++List.replicate (N.length-vs.length) none
def jL(CX:lv)(P:Program)(w:World)(K:W.Frag)(mg:Str->Option Value)(base:Heap)(N:List Str)(qual:Str)(scope:Scope)(f:Addr)(cd:Value)(A:Around)(outer:List Env)(s:Shared)(H:Hp)(E:XK):Cx where
 prog:=P
 w:=w
 K:=K
 mg:=mg
 base:=base
 A:=A.deeper (envOfC qual scope s.heap.objs.size f cd)
 N:=N
 s₀:=s
 H₀:=H
 env:=envOfC qual scope s.heap.objs.size f cd
 outer:=outer
 stack:=envOfC qual scope s.heap.objs.size f cd::outer
 ex:=[]
 calm:=true
 fn:=λ_=>true
 pn:=[]
 xe:=λe s'=>wpAny (model P w) (A.deeper (envOfC qual scope s.heap.objs.size f cd)) (leaving (envOfC qual scope s.heap.objs.size f cd) e) (λ_ s''=>CX outer H s E e s'') (λe' s''=>CX outer H s E e' s'') s'
theorem qE{sc:Scope}{n:Nat}{x:Str}(h:sc.names.lookup x=some .cell): ∃c,(cellsFrom n sc.names []).lookup x=some c:=by
 have q:=W.cellsFrom_some sc.names n [] (.inl h);exact Option.isSome_iff_exists.mp q
theorem uy{CX:lv}{P:Program}{w:World}{K:W.Frag}{mg:Str->Option Value}{base:Heap}{N ps:List Str}{qual:Str}{scope:Scope}{f:Addr}{cd:Value}{A:Around}{outer:List Env}{s s1:Shared}{H:Hp}{E:XK}{us:List Value}{vs:List V}
  (S:bg N ps scope) (hd:A.handled=none) (e0:vE P w K mg base A outer s H) (hl:vs.length=ps.length) (r:aZ vs us)
  (x:InCallC s s.heap.objs.size (bindL (envOfC qual scope s.heap.objs.size f cd).kindOf (ps.zip us) λ_=>none) (cellsFrom (s.heap.objs.size+1) scope.names []) (bindC (envOfC qual scope s.heap.objs.size f cd).kindOf (ps.zip us) λ_=>none) s1) :
  ay (jL CX P w K mg base N qual scope f cd A outer s H E) [] (a6 N vs) H s1:=by
 have hpl:ps.length<=N.length:=by have:=congrArg List.length S.pre;rw[iX] at this;omega
 obtain⟨h1,tk,rfl,hk⟩:=x.done;have noA: ∀b:Addr,b∉(jL CX P w K mg base N qual scope f cd A outer s H E).ex:=λb z=>absurd (show b∈([]:List Addr) from z) (by simp)
 refine⟨⟨e0.mod,S.kind,rfl,rfl,cr _,λy z c h1 h2=>?_,λy hy=>?_,λy c _ h=>?_,λ_=>hd,Around.frames_deeper e0.frames,.inr ⟨rfl,rfl⟩,λb z=>absurd z (noA b),e0.bs,e0.bsz,λb _ _=>noA b,λb z=>absurd z (noA b),e0.funs,e0.frf⟩,
  rfl,e0.bare,Un.kept hk,⟨_,x.toInCall.ns,λi y v h1 h2 h3=>?_⟩,λy c h=>⟨_,x.cell y c h⟩,e0.hok.fresh (cr _),λy c h=>?_,λp hp=>absurd (show p∈([]:List (Addr×Obj)) from hp) (by simp),e0.hok.kept hk,?_⟩
 ·exact name_of_addr x.apart (uk h1) (uk h2)
 ·have hy:scope.names.lookup y=some .cell\/scope.names.lookup y=some .free:=hy
  rcases hy with hy |hy
  ·exact qE hy
  ·exact absurd rfl (S.nofree _ (uk hy))
 ·exact Nat.le_of_lt (x.above y c (uk h))
 ·have hi:i<vs.length:=by
   unfold a6 at h2
   by_cases hi:i<vs.length
   ·exact hi
   ·rw[oO (by simpa using hi)] at h2
    rw[FH] at h2;split at h2<;>cases h2
  have ha:vs[i]?= some v:=by
   unfold a6 at h2;rw[oP (by simpa using hi),oQ] at h2;cases e:vs[i]? with
   |none=>rw[e] at h2;cases h2
   |some a=>rw[e] at h2;cases h2;rfl
  obtain⟨u,hu,rv⟩:=r.get ha;have hp:ps[i]?= some y:=by
   rw[<-S.pre,List.getElem?_take_of_lt (by omega)];exact h1
  have ndP:ps.Nodup:=by rw[<-S.pre];exact S.nd.sublist (List.take_sublist _ _)
  refine⟨u,rv,?_⟩
  rcases S.par y (lm hp) with k |k
  ·exact .inl ⟨k,uw ndP hp hu k⟩
  ·obtain⟨c,e⟩:=qE (n:=s.heap.objs.size+1) k
   refine .inr ⟨.inl k,c,e,?_⟩;have q:=x.cell y c e;rw[ux ndP hp hu (by show scope.names.lookup y≠_;rw[k];decide)] at q
   exact q
 ·exact e0.hok.fresh (Nat.le_of_lt (x.above y c (uk h)))
 ·unfold a6
  show _=N.length;rw[bQ,cZ,rK];omega
theorem IY{CX:lv}{P:Program}{w:World}{K:W.Frag}{mg:Str->Option Value}{base:Heap}{k:Nat}{f:Addr}{name qual:Str}{params:Arguments}{body:List Stmt}{scope:Scope}{dV kV doc pm cdv ct oc:Value}{an od:Option Addr}
  {osl:Array (Option Value)} {N ps:List Str} {sp:Sp} (lk:K.lookup f=some ⟨oc,od,.func (W.fnOf name qual params body scope dV kV doc pm an cdv ct),osl⟩) (hcd:W.codeIn K cdv qual=true) (S:bg N ps scope)
  (len: ∀vs H Q E,sp vs H Q E->vs.length=ps.length)
  (hbody: ∀(A:Around) (outer:List Env) (s:Shared) (H:Hp) (vs:List V) (Q:VK) (E:XK),Room k (A.deeper (envOfC qual scope s.heap.objs.size f cdv))->sp vs H Q E->
   ∃t,jI (jL CX P w K mg base N qual scope f cdv A outer s H E) body t/\t {nx:=λ_ H'=>Q .non H',rt:=Q} (a6 N vs) H) :
  b5 P w K mg base CX (k+1) f (W.fnOf name qual params body scope dV kV doc pm an cdv ct) ps sp:=by
 refine⟨len,λA outer s H args us vs Q E hr e0 hb r hsp=>?_⟩;have hl:=len _ _ _ _ hsp;have KX:K.In s.heap:=e0.mod.kin.keeps λb o e=>(e0.bs b o e).1
 have lim:s.heap.NoLimit:=e0.mod.nolimit.keeps λb o e=>(e0.bs b o e).1
 have hkind: ∀y∈ps.zip us,scope.names.lookup y.1=some .local\/(scope.names.lookup y.1=some .cell/\((cellsFrom (s.heap.objs.size+1) scope.names []).lookup y.1).isSome=true):=λ⟨n,v⟩ hy=>by
  rcases S.par n (Do hy).1 with q |q
  ·exact .inl q
  ·exact .inr ⟨q,W.cellsFrom_some _ _ _ (.inl q)⟩
 refine codeAny_call_function hr.depth (KX _ _ lk) rfl S.co S.gen rfl (W.codeRec_of KX hcd) (hb _ _ _ _ ?_);refine wpAny_newFunctionEnv_cells S.kind hkind λenv he s1 x=>?_
 subst he;refine⟨lim.keeps x.toInCall.keep,codeAny_func ?_⟩;obtain⟨t,ht,hq⟩:=hbody A outer s H vs Q E (hr.deeper _) hsp;have I:ay (jL CX P w K mg base N qual scope f cdv A outer s H E) [] (a6 N vs) H s1:=uy S hr.hd e0 hl r x;refine wpAny_mono (ht [] s1 (a6 N vs) H _ I hq) (λfl s' hs=>?_) λe s' hs=>hs
 have fin: ∀{σ':St} {H':Hp} {v:V} {u:Value},ay (jL CX P w K mg base N qual scope f cdv A outer s H E) [] σ' H' s'->bG v u->Q v H'->CE outer P w H s Q u s':=
  λ{σ' H' v u} J rv q=>⟨v,H',J.os,J.bare,J.base,J.hok,rv,q⟩
 cases fl with
 |ret u=>
  obtain⟨v,σ',H',J,rv,q⟩:=hs;exact fin J rv q
 |next=>
  obtain⟨σ',H',J,q⟩:=hs;exact fin (v:=V.non) (u:=Value.none) J rfl q
 |brk=>
  obtain⟨_,_,_,q⟩:=hs;exact False.elim q
 |cont=>
  obtain⟨_,_,_,q⟩:=hs;exact False.elim q
section
variable{X:Cx}{x:Str}{p pos:Pos}{e:Expr}{es:List Expr}{t:TA}{id T:String}{r:List V->Hp->VK->Prop}
def JU(r:List V->Hp->VK->Prop)(t:TA):TE:=λ σ H Q=>t σ H λvs H1=>r vs H1 Q
theorem qF(hc:gT X (.builtin id) r)(hg:Gl X x)(hm:X.mg x=none)(hv:bootBuiltins x=some (.builtin id))(ha:PA X (e::es) t)(hn:x≠ "__name__" :=by decide)(hdb:(x ==("__debug__" :Str))=false:=by decide)
  (he:starEach (e::es) X.env=(false,eval e X.env)::starEach es X.env:=by rfl) (hpl:(backTo pos (starEach es X.env)).any (·.1)=false:=by rfl):PE X (.Call (.Name x p) (e::es) [] pos) (JU r t):=by
 intro pins s σ H Q I h;refine wpAny_Call_Name_kw (rP I hg hm hv ?_ hn hdb);exact PyProof.Rows.callWith_builtin1 (bn (ha pos pins s σ H _ I h) λus s1 ⟨vs,H1,I1,r1,q1⟩=>hc pins s1 σ H1 vs us Q I1 r1 q1) he hpl
theorem AH(hc:gT X (.type T) r)(hg:Gl X x)(hm:X.mg x=none)(hv:bootBuiltins x=some (.type T))(ha:PA X (e::es) t)(hn:x≠ "__name__" :=by decide)(hdb:(x ==("__debug__" :Str))=false:=by decide)
  (he:starEach (e::es) X.env=(false,eval e X.env)::starEach es X.env:=by rfl) (hpl:(backTo pos (starEach es X.env)).any (·.1)=false:=by rfl):PE X (.Call (.Name x p) (e::es) [] pos) (JU r t):=by
 intro pins s σ H Q I h;refine wpAny_Call_Name_kw (rP I hg hm hv ?_ hn hdb);exact PyProof.Rows.callWith_type1 (bn (ha pos pins s σ H _ I h) λus s1 ⟨vs,H1,I1,r1,q1⟩=>hc pins s1 σ H1 vs us Q I1 r1 q1) he hpl
end
end L2
namespace HT
open PySem PyProof.Rows
section
open PySem.SeqAt
open PySem.AutoSeq1 (wpAny_loadPart')
open PySem.MeetsSeq PySem.MeetsSeq2 PySem.MeetsSeq3
end
section
variable{prog:Program}{w:World}{A:Around}{E:Value->Shared->Prop}{s:Shared}
def gU(n d:Nat):Option Int->Nat
 |none=>d
 |some v=>if v<0 then(v+(n:Int)).toNat else min v.toNat n
theorem Ck(n d:Nat):gU n d none=d:=rfl
theorem Es(n d k:Nat):gU n d (some (k:Int))=min k n:=by
 show(if(k:Int)<0 then((k:Int)+(n:Int)).toNat else min (k:Int).toNat n)=min k n;rw[aK (by omega),Int.toNat_natCast]
end
end HT
namespace L2
open PySem PySem.Spec PyProof.Rows
abbrev TO:=St->Hp->(Option Int->Hp->Prop)->Prop
def PO(X:Cx)(e:Option Expr)(t:TO):Prop:=
 ∀(pins:List (Addr×Obj)) (s:Shared) (σ:St) (H:Hp) (Q:Option Int->Hp->Prop),ay X pins σ H s->t σ H Q->
  wpAny (model X.prog X.w) X.A (evalPart e X.env) (λu s'=>∃o H',ay X pins σ H' s'/\IsPart u o/\Q o H') X.xe s
def Et:TO:=λ_ H Q=>Q none H
def IZ(t:TE):TO:=λ σ H Q=>t σ H λx H1=>∃i,x= .int i/\Q (some i) H1
section
variable{X:Cx}{e:Expr}{te:TE}{lo hi:Option Expr}{tl th:TO}{pos p2:Pos}
theorem Eu:PO X none Et:=by
 intro pins s σ H Q I h;rw[evalPart_none];exact wpAny_pure ⟨none,H,I,.none,h⟩
theorem Ev(h:PE X e te):PO X (some e) (IZ te):=by
 intro pins s σ H Q I hw;rw[evalPart_some];refine bn (h pins s σ H _ I hw) λu s1 ⟨x,H1,I1,r1,q1⟩=>?_
 obtain⟨i,rfl,q⟩:=q1;obtain⟨t,rfl⟩:=r1;exact⟨some i,H1,I1,.int i t,q⟩
def AI(X:Cx)(r:V->Option Int->Option Int->Hp->VK->Prop):Prop:=
 ∀(pins:List (Addr×Obj)) (s:Shared) (σ:St) (H:Hp) (x:V) (v vl vu:Value) (lo hi:Option Int) (sl:Addr) (Q:VK),ay X pins σ H s->bG x v->s.heap.IsSliceOf sl vl vu .none->IsPart vl lo->IsPart vu hi->r x lo hi H Q->
  ∃T id,typeLookup (.type T) "__getitem__" =pure (some (.builtin id))/\s.TypeIs v T/\wpAny (model X.prog X.w) X.A (getItem v (.ref sl)) (EP X pins σ Q) X.xe s
def Kz(r:V->Option Int->Option Int->Hp->VK->Prop)(te:TE)(tl th:TO):TE:=λ σ H Q=>te σ H λx H1=>tl σ H1 λl H2=>th σ H2 λu H3=>r x l u H3 Q
theorem Cl{r:V->Option Int->Option Int->Hp->VK->Prop}(hr:AI X r)(he:PE X e te)(hl:PO X lo tl)(hu:PO X hi th):PE X (.Subscript e (.Slice lo hi none p2) pos) (Kz r te tl th):=by
 intro pins s σ H Q I h;refine Subscript_ (bn (he pins s σ H _ I h) λv s1 ⟨x,H1,I1,r1,q1⟩=>?_);refine wpAny_Slice (bn (hl pins s1 σ H1 _ I1 q1) λvl s2 ⟨l,H2,I2,pl,q2⟩=>bn (hu pins s2 σ H2 _ I2 q2) λvu s3 ⟨u,H3,I3,pu,q3⟩=>?_);rw[evalPart_none];refine wpAny_pure ?_;have I4:ay X pins σ H3 {s3 with heap:=s3.heap.push {cls:= .type "slice",data:= .fields #[vl,vu,.none]}}:=I3.kept (t':=s3.toks) λb ob q=>Heap.get?_push_of_some _ q
 obtain⟨T,id,hT,ht,hg⟩:=hr pins {s3 with heap:=s3.heap.push {cls:= .type "slice",data:= .fields #[vl,vu,.none]}} σ H3 x v vl vu l u s3.heap.objs.size Q I4 r1 (Heap.IsSliceOf.new ..) pl pu q3;show wpAny (model X.prog X.w) X.A (subscriptTail e (.Slice lo hi none p2) v (.ref s3.heap.objs.size)) (EP X pins σ Q) X.xe {s3 with heap:=s3.heap.push {cls:= .type "slice",data:= .fields #[vl,vu,.none]}};exact tail_any (ops:=[.ref s3.heap.objs.size,v]) ht hT hg (by with_unfolding_all rfl)
def sY(xs:List V)(lo hi:Option Int):List V:=(xs.drop (HT.gU xs.length 0 lo)).take (HT.gU xs.length xs.length hi-HT.gU xs.length 0 lo)
theorem xA(xs:List V)(lo hi:Option Int):(sY xs lo hi).length<=xs.length:=by
 unfold sY;rw[iX,ke];omega
end
def lw(n:Nat)(i:Int):Option Nat:=if 0<=i then(if i<n then some i.toNat else none) else if -(n:Int)<=i then some (i+n).toNat else none
def atI{α:Type}(xs:List α)(i:Int):Option α:=(lw xs.length i).bind λj=>xs[j]?
theorem ye{n:Nat}{i:Int}{j:Nat}(h:lw n i=some j):seqIndex? i n=some j/\j<n/\ -(n:Int)<=i/\i<n:=by
 unfold lw at h
 by_cases h0:0<=i
 ·rw[aD h0] at h
  by_cases h1:i<n
  ·rw[aD h1] at h
   have e:i.toNat=j:=ow h;exact⟨by rw[seqIndex_of h0 h1,e],by omega,by omega,h1⟩
  ·rw[aK h1] at h;cases h
 ·rw[aK h0] at h
  by_cases h1: -(n:Int)<=i
  ·rw[aD h1] at h
   have e:(i+n).toNat=j:=ow h;exact⟨by rw[seqIndex_neg (by omega) h1,e],by omega,h1,by omega⟩
  ·rw[aK h1] at h;cases h
theorem sZ{α:Type}{xs:List α}{i:Int}{v:α}(h:atI xs i=some v): ∃j,seqIndex? i xs.length=some j/\xs[j]?= some v/\j<xs.length/\ -(xs.length:Int)<=i/\i<xs.length:=by
 unfold atI at h;cases e:lw xs.length i with
 |none=>rw[e] at h;cases h
 |some j=>
  rw[e] at h;obtain⟨h1,h2,h3,h4⟩:=ye e
  exact⟨j,h1,h,h2,h3,h4⟩
theorem tf{α:Type}{xs:List α}{j:Nat}{v:α}(h:xs[j]?= some v):atI xs (j:Int)=some v:=by
 have hj:j<xs.length:=(xZ.mp h).1;have e:lw xs.length (j:Int)=some j:=by
  unfold lw;rw[aD (by omega),aD (by omega)];simp
 unfold atI;rw[e];exact h
def tu(b:Expr):Prop:=∀o i,subscripted b false o i=operate [o,i] (getItem o i)
def rT(X:Cx)(r:R2):Prop:=
 ∀(value slice:Expr) (pins:List (Addr×Obj)) (s:Shared) (σ:St) (H:Hp) (x y:V) (v u:Value) (Q:VK),ay X pins σ H s->bG x v->bG y u->r x y H Q->
  subscripted slice false v u=operate [v,u] (getItem v u)->wpAny (model X.prog X.w) X.A (subscriptTail value slice v u) (EP X pins σ Q) X.xe s
def vF(X:Cx)(id:String)(r:V->List V->Hp->VK->Prop):Prop:=
 ∀(pins:List (Addr×Obj)) (s:Shared) (σ:St) (H:Hp) (x:V) (xs:List V) (v:Value) (us:List Value) (Q:VK),ay X pins σ H s->bG x v->aZ xs us->r x xs H Q->
  wpAny (model X.prog X.w) X.A (call (.builtin id) (v::us)) (EP X pins σ Q) X.xe s
section
variable{X:Cx}{a b:Expr}{ta tb:TE}{pos:Pos}
theorem rT.or{r r':R2}(h:rT X r)(h':rT X r'):rT X (λx y H Q=>r x y H Q\/r' x y H Q):=by
 intro value slice pins s σ H x y v u Q I rx ry q hs
 rcases q with q |q
 ·exact h value slice pins s σ H x y v u Q I rx ry q hs
 ·exact h' value slice pins s σ H x y v u Q I rx ry q hs
theorem y9{r:R2}(hr:rT X r)(ha:PE X a ta)(hb:PE X b tb)(hs:tu b):PE X (.Subscript a b pos) (AE r ta tb):=by
 intro pins s σ H Q I h;exact Subscript_ (Cj ha hb I h λv u s2 x y H2 I2 rx ry q=>hr a b pins s2 σ H2 x y v u Q I2 rx ry q (hs _ _))
def GE(K:W.Frag):R2:=λx y H Q=>∃p xs i v,x= .ref p/\y= .int i/\cw K H p xs/\atI xs i=some v/\Q v H
def GF(K:W.Frag):R2:=λx y H Q=>∃p xs i v,x= .ref p/\y= .int i/\gH K H p xs/\atI xs i=some v/\Q v H
def GG:R2:=λx y H Q=>∃z i c,x= .str z/\y= .int i/\z.length<=sizeLine/\atI z.cps.toList i=some c/\Q (.str ⟨#[c]⟩) H
theorem Ew:rT X (GE X.K):=by
 intro value slice pins s σ H x y v u Q I rx ry h hs;obtain⟨p,xs,i,z,rfl,rfl,hq,he,q⟩:=h;cases rx;obtain⟨t,rfl⟩:=ry;obtain⟨its,r,pl,hz⟩:=I.list hq;obtain⟨j,h1,h2,h3,h4,h5⟩:=sZ he;obtain⟨w,ew,rw'⟩:=r.get h2;have hl:=r.length;have hn:=mY;have fin:EP X pins σ Q w s:=⟨z,H,I,rw',q⟩
 by_cases h0:0<=i
 ·have hj:i.toNat=j:=by
   rw[seqIndex_of h0 h5] at h1;exact ow h1
  exact item_listR pl.isList h0 (by omega) (by rw[hj];simpa using ew) fin hs
 ·have hj:(i+(its.toArray.size:Int)).toNat=j:=by
   rw[seqIndex_neg (by omega) h4] at h1;rw[gR,<-hl]
   exact ow h1
  exact subscriptTail_builtinR (x:=w) pl.isList.typeIs slot_list_getitem.lookup
   (wpAny_getItem_list_neg (Q:=λr s'=>r=w/\EP X pins σ Q r s') pl.isList (by omega) (by rw[gR]<;>omega) (by omega) (by rw[hj];simpa using ew) ⟨rfl,fin⟩) hs
theorem iD:rT X (GF X.K):=by
 intro value slice pins s σ H x y v u Q I rx ry h hs;obtain⟨p,xs,i,z,rfl,rfl,hq,he,q⟩:=h;cases rx;obtain⟨t,rfl⟩:=ry;obtain⟨its,r,pl,hz⟩:=I.tuple hq;obtain⟨j,h1,h2,h3,h4,h5⟩:=sZ he;obtain⟨w,ew,rw'⟩:=r.get h2;have hl:=r.length;have hn:=mY;have fin:EP X pins σ Q w s:=⟨z,H,I,rw',q⟩
 exact subscriptTail_builtinR (x:=w) pl.typeIs slot_tuple_getitem.lookup
  (getItem_tuple (j:=j) (Q:=λr s'=>r=w/\EP X pins σ Q r s') pl (by omega) (by omega) (by rw[gR,<-hl];exact h1) (by simpa using ew) ⟨rfl,fin⟩) hs
theorem GH:rT X GG:=by
 intro value slice pins s σ H x y v u Q I rx ry h hs;obtain⟨z,i,c,rfl,rfl,hz,he,q⟩:=h;obtain⟨t,rfl⟩:=rx;obtain⟨t',rfl⟩:=ry;obtain⟨j,h1,h2,h3,h4,h5⟩:=sZ he;have hl:z.cps.toList.length=z.length:=by simp[Str.length]
 rw[hl] at h1 h4 h5;have hn:=mY
 exact tail_any (typeIs_str s z t) slot_str_getitem.lookup (getItem_str (c:=c) (by
  have e1:decide (i< -(2^63:Int))=false:=a9 (by omega);have e2:decide (i>=2^63)=false:=a9 (by omega);rw[e1,e2,FI]) (by rw[h1];simpa using h2) ⟨.str ⟨#[c]⟩,H,I.tok _,⟨_,rfl⟩,q⟩) hs
def GI(K:W.Frag):R2:=λx y H Q=>GE K x y H Q\/GF K x y H Q\/GG x y H Q
theorem vG:rT X (GI X.K):=Ew.or (iD.or GH)
theorem y'(its:List Value)(n j:Nat)(u:Value):Obj.mapSeq (·.setIfInBounds j u) {cls:= .type "list",data:= .seq its.toArray n}={cls:= .type "list",data:= .seq (its.set j u).toArray n}:=by
 simp[Obj.mapSeq]
theorem ay.lst{pins:List (Addr×Obj)}{σ:St}{H:Hp}{s:Shared}{p:Addr}{xs:List V}(I:ay X pins σ H s)(h:H p=some (.lst xs)) :
  ∃(its:List Value) (n:Nat),aZ xs its/\s.heap.get? p=some {cls:= .type "list",data:= .seq its.toArray n}/\xs.length<=sizeLine:=by
 obtain⟨z,its,n,r,e⟩:=I.hok p _ h;exact⟨its,n,r,e,z⟩
theorem ay.lstUpd{pins:List (Addr×Obj)}{σ:St}{H:Hp}{s:Shared}{p:Addr}{xs ys:List V}{its its':List Value}{n n':Nat}{f:Obj->Obj}(I:ay X pins σ H s)(h:H p=some (.lst xs))
  (ho:s.heap.get? p=some {cls:= .type "list",data:= .seq its.toArray n}) (hf:f {cls:= .type "list",data:= .seq its.toArray n}={cls:= .type "list",data:= .seq its'.toArray n'}) (r:aZ ys its') (hz:ys.length<=sizeLine) (t:Nat) :
  ay X pins σ (bf H p (.lst ys)) {s with heap:=s.heap.update p f,toks:=t}:=by
 have e:(s.heap.update p f).get? p=some {cls:= .type "list",data:= .seq its'.toArray n'}:=by
  rw[Heap.get?_update_self f ho (by rw[hf]<;>rfl),hf]
 refine I.write (x:=p) (e:=p) (by rw[h];trivial) (.inl rfl) (λb u hb q=>(Heap.get?_update_other _ _ (oM hb)).trans q) ⟨_,e⟩ ?_;exact⟨hz,its',n',r,e⟩
def I0:V->V->V->Hp->(Hp->Prop)->Prop:=λo i v H Q=>∃p xs k j,o= .ref p/\i= .int k/\H p=some (.lst xs)/\lw xs.length k=some j/\Q (bf H p (.lst (xs.set j v)))
theorem Cm:Gp X I0:=by
 intro pins s σ H o i v ov iv u Q I ro ri rv h;obtain⟨p,xs,k,j,rfl,rfl,hp,hj,q⟩:=h;cases ro;obtain⟨t,rfl⟩:=ri;obtain⟨its,n,r,ho,hz⟩:=I.lst hp;obtain⟨h1,h2,h3,h4⟩:=ye hj;have hl:=r.length;have hn:=mY;have I':ay X pins σ (bf H p (.lst (xs.set j v))) {s with heap:=s.heap.update p (Obj.mapSeq (·.setIfInBounds j u))}:=
  I.lstUpd hp ho (y' its n j u) (r.set rv j) (by rw[ox];exact hz) s.toks
 by_cases h0:0<=k
 ·have hk:k.toNat=j:=by
   rw[seqIndex_of h0 h4] at h1;exact ow h1
  exact W.ki_setAt ho h0 (by omega) (by rw[gR,<-hl];exact h4) (by rw[hk];exact⟨_,I',q⟩)
 ·have hk:(k+(its.toArray.size:Int)).toNat=j:=by
   rw[seqIndex_neg (by omega) h3] at h1;rw[gR,<-hl]
   exact ow h1
  exact W.ki_setBack ho (by omega) (by rw[gR,<-hl];exact h3) (by omega) (by rw[hk];exact⟨_,I',q⟩)
theorem vH(lo hi:Option Int)(n:Nat):(sliceBounds lo hi none n).1=((HT.gU n 0 lo:Nat):Int)/\(sliceBounds lo hi none n).2.1=((HT.gU n n hi:Nat):Int)/\(sliceBounds lo hi none n).2.2=1:=by
 refine⟨?_,?_,rfl⟩
 ·cases lo with
  |none=>simp[sliceBounds,HT.gU]
  |some i=>
   simp only[sliceBounds,HT.gU,Option.getD_none,show(1:Int)>0 by decide,if_true]
   by_cases h:i<0
   ·simp only[h,if_true]<;>omega
   ·simp only[h,if_false]<;>omega
 ·cases hi with
  |none=>simp[sliceBounds,HT.gU]
  |some i=>
   simp only[sliceBounds,HT.gU,Option.getD_none,show(1:Int)>0 by decide,if_true]
   by_cases h:i<0
   ·simp only[h,if_true]<;>omega
   ·simp only[h,if_false]<;>omega
theorem uO(its:List Value)(lo hi:Option Int):slicePick its.toArray lo hi none=((its.drop (HT.gU its.length 0 lo)).take (HT.gU its.length its.length hi-HT.gU its.length 0 lo)).toArray:=by
 obtain⟨h1,h2,h3⟩:=vH lo hi its.toArray.size;unfold slicePick;rw[h1,h2,h3];simp only[sliceRange_one,pick_run,gR]<;>rfl
def GJ(K:W.Frag):V->Option Int->Option Int->Hp->VK->Prop:=λx lo hi H Q=>∃a xs,x= .ref a/\cw K H a xs/\∀p,H p=none->Q (.ref p) (bf H p (.lst (sY xs lo hi)))
theorem k9:AI X (GJ X.K):=by
 intro pins s σ H x v vl vu lo hi sl Q I rx hs pl pu h;obtain⟨a,xs,rfl,hx,q⟩:=h;cases rx;obtain⟨its,r,ht,hz⟩:=I.list hx;have hlen:=r.length;refine⟨"list",_,slot_list_getitem.lookup,ht.isList.typeIs,?_⟩;refine wpAny_getItem_list_slice ht.isList hs pl pu .none (by simp) ?_ (by rw[gR]<;>omega);rw[uO,<-hlen];refine⟨.ref s.heap.objs.size,_,I.laid (t':=s.toks) (o:= .lst (sY xs lo hi)) (λb ob q=>Heap.get?_push_of_some _ q) (cr _) ?_,rfl,q _ (I.hok.fresh (cr _))⟩
 exact⟨iV (xA xs lo hi) hz,_,0,(r.drop (HT.gU xs.length 0 lo)).take (HT.gU xs.length xs.length hi-HT.gU xs.length 0 lo),Heap.get?_push_size _ rfl⟩
theorem cz:gT X (.builtin "len") (λxs H Q=>∃p ys,xs=[.ref p]/\(cw X.K H p ys\/gH X.K H p ys)/\Q (.int ys.length) H):=by
 intro pins s σ H xs us Q I r h;obtain⟨p,ys,rfl,hq,q⟩:=h;obtain⟨u,rfl,rx⟩:=kO r;cases rx;have hn:=mY
 rcases hq with hq |hq
 ·obtain⟨its,r',pl,hz⟩:=I.list hq
  have hlen:=r'.length;exact Calls.call_len_list pl.isList (by simp only[gR]<;>omega) ⟨.int ys.length,H,I.tok _,⟨s.toks+1,by rw[gR,hlen]⟩,q⟩
 ·obtain⟨its,r',pl,hz⟩:=I.tuple hq
  have hlen:=r'.length;exact len_tuple pl (by simp only[gR]<;>omega) ⟨.int ys.length,H,I.tok _,⟨s.toks+1,by rw[gR,hlen]⟩,q⟩
theorem fW:gT X (.builtin "len") (λxs H Q=>∃z,xs=[.str z]/\z.length<=sizeLine/\Q (.int z.length) H):=by
 intro pins s σ H xs us Q I r h;obtain⟨z,rfl,hz,q⟩:=h;obtain⟨u,rfl,t,rfl⟩:=kO r;have hn:=mY;exact len_str (by omega) ⟨.int z.length,H,I.tok _,⟨_,rfl⟩,q⟩
theorem oA:gT X (.type "tuple") (λxs H Q=>∃p ys,xs=[.ref p]/\((cw X.K H p ys/\∀l,H l=none->Q (.ref l) (bf H l (.tup ys)))\/(gH X.K H p ys/\Q (.ref p) H))):=by
 intro pins s σ H xs us Q I r h;obtain⟨p,ys,rfl,h⟩:=h;obtain⟨u,rfl,rx⟩:=kO r;cases rx
 rcases h with⟨hq,q⟩ | ⟨hq,q⟩
 ·obtain⟨its,r',pl,hz⟩:=I.list hq
  have hlen:=r'.length;refine call_tuple_list pl.isList (λh' kp=>?_) (by simp only[gR]<;>omega);have I1:ay X pins σ H {s with heap:=h'}:=I.kept (t':=s.toks) kp;have I2:ay X pins σ (bf H h'.objs.size (.tup ys)) {s with heap:=h'.push {cls:= .type "tuple",data:= .seq its.toArray}}:=
   I1.laid (t':=s.toks) (λb o e=>Heap.get?_push_of_some _ e) (cr _) (show eT X.prog X.w _ _ _ (.tup ys) from⟨hz,its,r',IsTup.new _ _⟩)
  exact⟨.ref h'.objs.size,_,I2,rfl,q _ (I1.hok.fresh (cr _))⟩
 ·obtain⟨its,r',pl,hz⟩:=I.tuple hq
  exact call_tuple_same pl ⟨.ref p,H,I,rfl,q⟩
def DL(K:W.Frag)(T:String)(x:V)(H:Hp):Prop:=match x with
 | .str _=>T= "str"
 | .int _=>T= "int"
 | .ref p=>(T= "list" /\∃xs,cw K H p xs)\/(T= "tuple" /\∃o,K.lookup p=some o/\o.cls= .type "tuple" /\o.dict=none)\/
   (T= "dict" /\((∃kvs,H p=some (.dK kvs))\/∃kvs,H p=some (.dT kvs)))\/(T= "set" /\∃S n,H p=some (.set S n))
 |_=>False
theorem rV{pins:List (Addr×Obj)}{σ:St}{H:Hp}{s:Shared}{T:String}{x:V}{v:Value}(I:ay X pins σ H s)(r:bG x v)(ty:DL X.K T x H) :
  s.TypeIs v T/\∀a,v= .ref a->∃ob,s.heap.get? a=some ob/\ob.dict=none:=by
 cases x with
 |str z=>
  obtain⟨t,rfl⟩:=r;cases (show T= "str" from ty);exact⟨typeIs_str s z t,λ_ e=>nomatch e⟩
 |int i=>
  obtain⟨t,rfl⟩:=r;cases (show T= "int" from ty);exact⟨typeIs_int s i t,λ_ e=>nomatch e⟩
 |ref p=>
  cases r
  rcases ty with⟨rfl,xs,hq⟩ | ⟨rfl,o,hk,hc,hd⟩ | ⟨rfl,hk⟩ | ⟨rfl,S,n,hk⟩
  ·obtain⟨its,_,pl,_⟩:=I.list hq
   refine⟨pl.isList.typeIs,λa e=>?_⟩;cases e;obtain⟨o,n,e,c,hd,_⟩:=pl;exact⟨o,e,hd⟩
  ·refine⟨⟨o,I.kIn p o hk,hc⟩,λa e=>?_⟩
   cases e;exact⟨o,I.kIn _ o hk,hd⟩
  ·have z: ∃o,s.heap.get? p=some o/\o.ExactDict:=by
    rcases hk with⟨kvs,hk⟩ | ⟨kvs,hk⟩
    ·obtain⟨_,_,_,_,o,_,_,e,ex,_⟩:=I.hok p _ hk
     exact⟨o,e,ex⟩
    ·obtain⟨_,_,_,_,o,_,_,e,ex,_⟩:=I.hok p _ hk
     exact⟨o,e,ex⟩
   obtain⟨o,e,ex⟩:=z;refine⟨⟨o,e,ex.1⟩,λa e2=>?_⟩;cases e2;exact⟨o,e,ex.2.1⟩
  ·obtain⟨o,_,_,_,e,ex,_⟩:=I.hok p _ hk
   refine⟨⟨o,e,ex.1⟩,λa e2=>?_⟩;cases e2;exact⟨o,e,ex.2.1⟩
 |_=>exact False.elim ty
def Kg(K:W.Frag)(T:String)(r:V->List V->Hp->VK->Prop)(to:TE):TE:=λ σ H Q=>to σ H λx H1=>DL K T x H1/\r x [] H1 Q
def JV(K:W.Frag)(T:String)(r:V->List V->Hp->VK->Prop)(to:TE)(t:TA):TE:=λ σ H Q=>to σ H λx H1=>DL K T x H1/\t σ H1 λxs H2=>r x xs H2 Q
variable{o e:Expr}{es:List Expr}{to:TE}{t:TA}{name:Str}{apos KJ:Pos}{T id:String}{r:V->List V->Hp->VK->Prop}
theorem GK(pa:PlainAttrs T)(slot:Slot T name id)(hty:typeOf (.builtin id)=pure (.type "method_descriptor"))(hm:vF X id r)(ho:PE X o to)
  (KL:attributeBase o name X.env (eval o X.env)=eval o X.env:=by rfl) (KM:(apos.endLine == KJ.line)=true:=by rfl):PE X (.Call (.Attribute o name apos) [] [] KJ) (Kg X.K T r to):=by
 intro pins s σ H Q I h;refine wpAny_Call_method0_late KL KM (bn (ho pins s σ H _ I h) λv s1 ⟨x,H1,I1,r1,ty,q1⟩=>?_);obtain⟨h1,h2⟩:=rV I1 r1 ty;exact⟨T,id,pa,slot,hty,h1,h2,Calls.callWith_builtin rfl (PySem.evalArgs_none (hm pins s1 σ H1 x [] v [] Q I1 r1 .nil q1))⟩
theorem nv(pa:PlainAttrs T)(slot:Slot T name id)(hty:typeOf (.builtin id)=pure (.type "method_descriptor"))(hm:vF X id r)(ho:PE X o to)(ha:PA X (e::es) t)
  (KL:attributeBase o name X.env (eval o X.env)=eval o X.env:=by rfl)
  (KT:((backTo KJ (starEach (e::es) X.env)).all (λx=>!x.1)&& (backToKw KJ (keywordEach [] X.env)).all (λx=>x.1.isSome)
   && decide ((e::es).length+([]:List Keyword).length+(if([]:List Keyword).isEmpty then 0 else 1)<30))=true:=by rfl)
  (KM:(apos.endLine == KJ.line)=true:=by rfl) (hs:starEach (e::es) X.env=(false,eval e X.env)::starEach es X.env:=by rfl) (KN:(backTo KJ (starEach es X.env)).any (·.1)=false:=by rfl) :
  PE X (.Call (.Attribute o name apos) (e::es) [] KJ) (JV X.K T r to t):=by
 intro pins s σ H Q I h;refine wpAny_Call_method_late KL KT KM rfl (bn (ho pins s σ H _ I h) λv s1 ⟨x,H1,I1,r1,ty,q1⟩=>?_);obtain⟨h1,h2⟩:=rV I1 r1 ty;refine⟨T,id,pa,slot,hty,h1,h2,?_⟩;have hA:=ha KJ pins s1 σ H1 _ I1 q1;rw[hs] at hA⊢
 refine Calls.callWith_builtin (by show(false || (backTo KJ (starEach es X.env)).any (·.1))=false;rw[KN]<;>rfl) (Calls.evalArgs_plain ?_);exact bn hA λus s2 ⟨vs,H2,I2,r2,q2⟩=>hm pins s2 σ H2 x vs v us Q I2 r1 r2 q2
end
def JW(X:Cx)(id:String)(r:V->List V->Hp->VK->Prop):Prop:=
 ∀(pins:List (Addr×Obj)) (s:Shared) (σ:St) (H:Hp) (x:V) (xs:List V) (v:Value) (us:List Value) (Q:VK),ay X pins σ H s->bG x v->aZ xs us->r x xs H Q->
  wpAny (model X.prog X.w) X.A (call (.builtin id) (v::us)) (EP X pins σ Q) X.xe s
theorem aZ.one: ∀{x:V} {us:List Value},aZ [x] us->∃u,us=[u]/\bG x u
 |_,_,.cons r .nil=>⟨_,rfl,r⟩
theorem aZ.zero: ∀{us:List Value},aZ [] us->us=[]
 |_,.nil=>rfl
theorem aZ.dropLast{xs:List V}{us:List Value}(h:aZ xs us):aZ xs.dropLast us.dropLast:=by
 induction h with
 |nil=>exact .nil
 |cons r t ih=>
  cases t with
  |nil=>exact .nil
  |cons q t'=>exact .cons r ih
theorem aZ.rep{xs:List V}{us:List Value}(h:aZ xs us): ∀k:Nat,aZ (List.replicate k xs).flatten (List.replicate k us).flatten
 |0=> .nil
 |k+1=>by
  rw[rL,rL,x8,x8];exact aZ.append h (aZ.rep h k)
theorem zb{α:Type}(l:List α):l.eraseIdx (l.length-1)=l.dropLast:=by
 induction l with
 |nil=>rfl
 |cons a r ih=>
  cases r with
  |nil=>rfl
  |cons b r=>
   have e:(a::b::r).length-1=((b::r).length-1)+1:=by
    have h1:(a::b::r).length=r.length+2:=rfl;have h2:(b::r).length=r.length+1:=rfl;omega
   rw[e,List.eraseIdx_cons_succ,ih]
   all_goals rfl
theorem uz(its:List Value): ∀(k:Nat) (acc:List Value),
  List.foldl (λx1 x2=>x1++x2) acc.toArray (List.replicate k its.toArray)=(acc++(List.replicate k its).flatten).toArray
 |0,acc=>by simp
 |k+1,acc=>by
  have e:acc.toArray++its.toArray=(acc++its).toArray:=by simp
  have e2:(acc++its)++(List.replicate k its).flatten=acc++(List.replicate (k+1) its).flatten:=by
   rw[rL,x8,lq]
  rw[<-e2,<-uz its k (acc++its),<-e,rL,FJ]
section
variable{X:Cx}{pins:List (Addr×Obj)}{σ:St}{H:Hp}{s:Shared}{l b:Addr}{xs ys zs:List V}
theorem ay.lset{its its':List Value}{n:Nat}{f:Array Value->Array Value}{t':Nat}(I:ay X pins σ H s)(hH:H l=some (.lst xs))
  (e:s.heap.get? l=some {cls:= .type "list",data:= .seq its.toArray n}) (hf:f its.toArray=its'.toArray) (hv:aZ ys its') (hz:ys.length<=sizeLine) :
  ay X pins σ (bf H l (.lst ys)) {s with heap:=s.heap.update l (Obj.mapSeq f),toks:=t'}:=by
 have q:=PySem.IsL.update e f;rw[hf] at q
 refine I.write (x:=l) (e:=l) (by rw[hH];exact trivial) (.inl rfl) (λb' u hb hu=>(Heap.get?_update_other s.heap (Obj.mapSeq f) (oM hb)).trans hu) ⟨_,q⟩ ?_;exact⟨hz,its',_,hv,q⟩
theorem ay.lnew{its:List Value}{t':Nat}(I:ay X pins σ H s)(hv:aZ ys its)(hz:ys.length<=sizeLine) :
  ay X pins σ (bf H s.heap.objs.size (.lst ys)) {s with heap:=s.heap.push {cls:= .type "list",data:= .seq its.toArray},toks:=t'}:=
 I.laid (λ_ _ q=>Heap.get?_push_of_some _ q) (cr _) ⟨hz,its,0,hv,Heap.get?_push_size _ rfl⟩
theorem ay.fresh(I:ay X pins σ H s):H s.heap.objs.size=none:=I.hok.fresh (cr _)
theorem ay.lstM(I:ay X pins σ H s)(hH:H l=some (.lst xs)):xs.length<=sizeLine/\∃(its:List Value) (n:Nat),aZ xs its/\xs.length=its.length/\s.heap.get? l=some {cls:= .type "list",data:= .seq its.toArray n}:=by
 obtain⟨z,its,n,r,e⟩:=I.hok l _ hH;exact⟨z,its,n,r,r.length,e⟩
theorem Cn{n:Nat}(h:n<=sizeLine):Builtin.List.listTooLong n=false:=by
 unfold Builtin.List.listTooLong;exact a9 (by omega)
end
section
variable{X:Cx}
def Ey:V->List V->Hp->VK->Prop:=λx vs H Q=>∃l xs y,x= .ref l/\vs=[y]/\H l=some (.lst xs)/\xs.length<sizeLine/\Q .non (bf H l (.lst (xs++[y])))
theorem mm:JW X "list.append" Ey:=by
 intro pins s σ H x vs v us Q I rx rv h;obtain⟨l,xs,y,rfl,rfl,hH,hz,q⟩:=h;cases rx;obtain⟨u,rfl,ru⟩:=rv.one;obtain⟨z,its,n,r,hl,e⟩:=I.lstM hH;refine call_meets F.slot_list_append ⟨_,e,rfl⟩ F.entry_list_append (F.args_list_append_2 _ _) (PySem.list_append l its.toArray n u (by rw[gR];omega)) ⟨e,?_⟩;refine⟨.non,_,I.lset (its':=its++[u]) hH e (by simp) (r.append (.cons ru .nil)) ?_,rfl,q⟩;rw[bQ,kJ];omega
def Kh:V->List V->Hp->VK->Prop:=λx vs H Q=>∃l xs y,x= .ref l/\vs=[]/\H l=some (.lst xs)/\xs[xs.length-1]?= some y/\Q y (bf H l (.lst xs.dropLast))
theorem GL:JW X "list.pop" Kh:=by
 intro pins s σ H x vs v us Q I rx rv h;obtain⟨l,xs,y,rfl,rfl,hH,hy,q⟩:=h;cases rx;have hus:=rv.zero;subst hus;obtain⟨z,its,n,r,hl,e⟩:=I.lstM hH;obtain⟨u,hu,ru⟩:=r.get hy;have hy':its.toArray[its.toArray.size-1]?= some u:=by
  show its.toArray[its.length-1]?= some u;rw[<-Array.getElem?_toList,<-hl];exact hu
 refine call_meets F.slot_list_pop ⟨_,e,rfl⟩ F.entry_list_pop (F.args_list_pop_1 _) (MeetsSeq.list_pop_last l its.toArray n u hy' (by rw[gR];omega)) ⟨e,?_⟩;refine⟨y,_,I.lset (its':=its.dropLast) hH e ?_ r.dropLast ?_,ru,q⟩
 ·show its.toArray.eraseIdxIfInBounds (its.toArray.size-1)=its.dropLast.toArray
  rw[gR,List.eraseIdxIfInBounds_toArray,zb]
 ·rw[List.length_dropLast]
  omega
def GM:R2:=λx y H Q=>∃l b xs zs,x= .ref l/\y= .ref b/\H l=some (.lst xs)/\H b=some (.lst zs)/\xs.length+zs.length<=sizeLine/\∀p,H p=none->Q (.ref p) (bf H p (.lst (xs++zs)))
theorem jc:fS X (binaryOp .Add) GM:=by
 intro pins s σ H x y v u Q I rx ry h;obtain⟨l,b,xs,zs,rfl,rfl,hH,hB,hz,q⟩:=h;cases rx;cases ry;obtain⟨z,its,n,r,hl,e⟩:=I.lstM hH;obtain⟨z2,its2,n2,r2,hl2,e2⟩:=I.lstM hB;refine PySem.P.add_list e e2 ?_ (by rw[gR,gR];omega);have ea:its.toArray++its2.toArray=(its++its2).toArray:=by simp
 rw[ea];exact⟨.ref _,_,I.lnew (t':=s.toks) (r.append r2) (by rw[bQ];omega),rfl,q _ I.fresh⟩
def GN:R2:=λx y H Q=>∃l k xs,x= .ref l/\y= .int k/\H l=some (.lst xs)/\ -(2^63)<=k/\k<2^63/\xs.length*k.toNat<=sizeLine/\
 ∀p,H p=none->Q (.ref p) (bf H p (.lst (List.replicate k.toNat xs).flatten))
theorem Ez{α:Type}(xs:List α)(k:Nat):(List.replicate k xs).flatten.length=k*xs.length:=by
 induction k with
 |zero=>simp
 |succ k ih=>rw[rL,x8,bQ,ih,Nat.succ_mul,Nat.add_comm]
theorem AJ:fS X (binaryOp .Mult) GN:=by
 intro pins s σ H x y v u Q I rx ry h;obtain⟨l,k,xs,rfl,rfl,hH,h1,h2,hz,q⟩:=h;cases rx;obtain⟨t,rfl⟩:=ry;obtain⟨z,its,n,r,hl,e⟩:=I.lstM hH;have hlen:its.toArray.size*k.toNat<=sizeLine:=by rw[gR,<-hl];exact hz
 have hcap: ¬its.toArray.size*k.toNat> (2^63-1)/8:=by
  have:(sizeLine:Nat)<=(2^63-1)/8:=by decide
  omega
 have hfit: ¬(!Builtin.List.listFitsIndex k)=true:=by
  rw[fitsIndex_both h1 h2];exact qr
 have hlong: ¬Builtin.List.listTooLong (its.toArray.size*k.toNat)=true:=by
  rw[Cn hlen];exact qr
 have hnew:List.foldl (λx1 x2=>x1++x2) #[] (List.replicate (if its.toArray.isEmpty=true then 0 else k.toNat) its.toArray)=(List.replicate k.toNat its).flatten.toArray:=by
  have f0: ∀m:Nat,List.foldl (λx1 x2=>x1++x2) #[] (List.replicate m its.toArray)=(List.replicate m its).flatten.toArray:=λm=>by
   have:=uz its m [];rw[lr] at this
   exact this
  rw[f0];cases its with
  |nil=>simp
  |cons a r'=>rw[aK (by simp)]
 refine wpAny_binaryOp_repeat_ref (T:= "list") (U:= "int") (by decide) ⟨_,e,rfl⟩ (λs'=>typeIs_int s' k t) noFill_list_mul F.fills_int_mul F.slot_int_rmul repeat_list F.slot_int_index.lookup
  (call_meets F.slot_int_rmul (typeIs_int s k t) F.entry_int_rmul (F.args_int_rmul_2 _ _) (int___rmul___int_list k t l its.toArray n)
   ⟨e,rfl,⟨_,e,rfl⟩,call_meets F.slot_list_mul ⟨_,e,rfl⟩ F.entry_list_mul (F.args_list_mul_2 _ _) (AutoListH.list___mul___list_int_3 l its.toArray n k t hfit hcap hlong) ⟨e,?_⟩⟩)
 rw[hnew];exact⟨.ref _,_,I.lnew (t':=s.toks) (r.rep k.toNat) (by rw[Ez,Nat.mul_comm];exact hz),rfl,q _ I.fresh⟩
end
section
variable{prog:Program}{w:World}{A:Around}{E:Value->Shared->Prop}{s:Shared}
end
section
variable{X:Cx}
end
end L2
namespace Att
open PySem PySem.W PySem.Calls PyProof.Rows
theorem rW{P:Params}{h:Heap}: ∀(ns:List Int) (vs:List Value),WellAll P h vs (ns.map WData.int)->IntsAre vs ns:=by
 intro ns
 induction ns with
 |nil=>
  intro vs w;rw[List.map_nil] at w
  cases w;exact .nil
 |cons n ns ih=>
  intro vs w;rw[gj] at w
  cases w with
  |cons a b=>
   cases a;exact .cons _ _ (ih _ b)
theorem AK{l:OpenLaw}{n:Nat}(hn:l.most=some n){P:Params}{h:Heap}{args:List WData}{vals:List Value}
  (hpre:l.row.toRowW.claim.pre args=true) (hwl:WellAll P h vals args) :
  ∃a vs ns,vals=[Value.ref a]/\args=[WData.list (ns.map WData.int)]/\h.get? a=some {cls:= .type "list",data:= .seq vs.toArray}/\IntsAre vs ns/\ns.length<=n:=by
 have hsh:WShape.hasAll [] args [.list .int]=true:=(pre_splitW hpre).1;have hc:l.pre.holds [] {args:=args}=true:=(pre_splitW hpre).2;obtain⟨d,r,rfl,h1,h2⟩:=hasAllW_cons hsh;obtain rfl:=hasAllW_nil h2;obtain⟨xs,rfl,h3⟩:=hasW_list h1;obtain⟨ns,rfl⟩:=items_int h3;have hlen:ns.length<=n:=by
  unfold OpenLaw.pre at hc;have h4:(WTm.not (.lt (.lit (.int (n:Int))) (.len (.arg 0)))).holds [] {args:=[.list (ns.map .int)]}=true:=by
   have h4:=(holds_andW hc).1;rw[hn] at h4
   exact h4
  have h5:=condW_of h4 (w_not (w_lt w_lit (w_len_list (w_arg rfl))));rw[cZ] at h5
  refine Nat.le_of_not_lt λq=>?_
  have q':(n:Int)< ((ns.length:Nat):Int):=by omega
  first
   | (rw[bR q'] at h5;exact absurd h5 (by decide))
   | (simp at h5;omega)
 cases hwl with
 |cons w1 w2=>
  cases w2;cases w1 with
  |list ho hall=>exact⟨_,_,ns,rfl,rfl,ho,rW ns _ hall,hlen⟩
theorem AL(l:OpenLaw)(args:List WData):l.row.toRowW.claim.post args (.bool true) args=true:=
 postW_of (r:=l.row.toRowW) (X:=(true == true))
  (show WShape.has [] (.bool true) .bool=true by first |rfl |decide |simp[WShape.has,WShape.arms,WShape.armsAll])
  (show(WTm.eq .res (.lit (.bool true))).value [] {args:=args,res:=some (.bool true),after:=args}=some (.bool (true == true)) from w_eq_bool (w_res rfl) w_lit) rfl
theorem xB{l:OpenLaw}{n:Nat}{q:Program}{loose:List Str}{XP:(Str->Option Value)->Heap->Prop}{YP:World->Heap->Prop}{d:DefRec}
  (hn:l.most=some n) (hdf:d.params.defaults=[])
  (call: ∀(w:World) (s₀ s₁:Shared) (mg mb:Str->Option Value) (fa:Addr) (o:Obj) (pm cd doc:Value) (a:Addr) (vs:List Value) (ns:List Int),
   Ground q loose [] XP w s₀ mg mb s₁.heap->YP w s₁.heap->
   s₁.heap.get? fa=some o->o.data= .func (docDef d.name d.params d.body d.scope pm cd doc)->s₁.heap.CodeRec cd d.name->mg d.name=some (.ref fa)->
   s₁.heap.get? a=some {cls:= .type "list",data:= .seq vs.toArray}->IntsAre vs ns->ns.length<=n->s₁.gens= #[]->
   codeAny (model l.prog w) callerA (.call (.ref fa) ⟨[.ref a],[]⟩) (λr s'=>r= .ok (.ret (.bool true))/\OldK s₁.heap s'.heap/\s'.os=s₁.os/\AllBare s'.gens) s₁) :
  WalkO q loose XP YP l.row.toRowW d [] (λf vs=>PySem.call f vs):=by
 intro w s₀ s₁ mg mb G Y fa o pm cd doc dV kV ho hd hcd hD hmg hg args vals as hpre hlay hrd hwl hlo;obtain rfl:dV= .none:=Dflts.none hD hdf;obtain rfl:kV= .none:=Dflts.noKw hD;obtain⟨a,vs,ns,rfl,rfl,hobj,hints,hlen⟩:=AK hn hpre hwl;refine enter_call (codeAny_mono (call w s₀ s₁ mg mb fa o pm cd doc a vs ns G Y ho (fd_plain hd) hcd hmg hobj hints hlen hg) λr s' hq=>?_);obtain⟨rfl,h2,h3,h4⟩:=hq;exact⟨.inl ⟨.bool true,.bool true,[],rfl,λ_=>rfl,.bool true,AL l _,λ_=>⟨List.Pairwise.nil,λ_ hm=>(nomatch hm)⟩⟩,h2,h3,h4⟩
section
variable{prog:Program}{w:World}{A:Around}{E:Value->Shared->Prop}{s:Shared}{K:Frag}
def KA(h:Heap)(L d:Addr):List (Addr×Obj):=(List.range h.objs.size).filterMap λa=>if a=L\/a=d then none else(h.get? a).map λo=>(a,o)
end
end Att
namespace L2
open PySem PySem.Spec PyProof.Rows
theorem uA: ∀{vs:List Value} {ns:List Int},IntsAre vs ns->aZ (ns.map V.int) vs
 |_,_,.nil=> .nil
 |_,_,.cons n t h=> .cons ⟨t,rfl⟩ (uA h)
def Co(H:Hp):Prop:=∀b,H b=none\/∃o xs,H b=some (.frz o (.lst xs))
theorem Cp{P:Program}{w:World}{K:W.Frag}{mg mb:Str->Option Value}{CX:lv}{k:Nat}{fa a:Addr}{fd:FuncData}{x:Str}{sp:Sp}{s₁:Shared}{vs:List Value}{ns:List Int}
  (KX:K.In s₁.heap) (hns:s₁.heap.Ns mainGlobals mg) (hb:s₁.heap.Ns builtinsNs mb) (hbb: ∀x:Str,x≠ "__name__" ->mb x=bootBuiltins x) (hlim:s₁.heap.NoLimit) (hg:s₁.gens= #[])
  (ha:s₁.heap.get? a=some {cls:= .type "list",data:= .seq vs.toArray}) (hi:IntsAre vs ns) (hl:ns.length<=sizeLine) (hr:Room k callerA)
  (F: ∀base:Heap,K.In base->base.Ns mainGlobals mg->b5 P w K mg base CX k fa fd [x] sp) (hbind: ∀(s:Shared) (u:Value),BindsTo s fd ⟨[u],[]⟩ [(x,u)])
  (hsp: ∀H:Hp,Co H->cw K H a (ns.map V.int)->sp [.ref a] H (λv _=>v= .bl true) λ_ _ _=>False)
  (hCX: ∀H e s',CX [] H s₁ (λ_ _ _=>False) e s'->False) :
  codeAny (model P w) callerA (.call (.ref fa) ⟨[.ref a],[]⟩) (λr s'=>r= .ok (.ret (.bool true))/\OldK s₁.heap s'.heap/\s'.os=s₁.os/\AllBare s'.gens) s₁:=by
 have rv:=uA hi;have lenV:=hi.length;have core: ∀H:Hp,Co H->cw K H a (ns.map V.int)->eW P w H s₁.heap->(∀b,H b≠none->b=a)->(H a≠none->K.lookup a=none)->
   codeAny (model P w) callerA (.call (.ref fa) ⟨[.ref a],[]⟩) (λr s'=>r= .ok (.ret (.bool true))/\OldK s₁.heap s'.heap/\s'.os=s₁.os/\AllBare s'.gens) s₁:=by
  intro H hO hS hok hA hK;have base_of: ∀{b:Addr} {o:Obj},s₁.heap.get? b=some o->H b=none->(nt s₁.heap H).get? b=some o:=λe n=>Cd e n
  have noA: ∀{b:Addr} {o:Obj} {es:Array DictEntry} {ep:Nat},s₁.heap.get? b=some o->o.data= .dict es ep->H b=none:=λ{b o es ep} e d=>by
   cases q:H b with
   |none=>rfl
   |some u=>
    have e':b=a:=hA b (by rw[q];simp);subst e';rw[ha] at e;cases e
    have d':Data.seq vs.toArray _=Data.dict es ep:=d;cases d'
  have nsK: ∀{b:Addr} {m:Str->Option Value},s₁.heap.Ns b m->(nt s₁.heap H).Ns b m:=λ{b m} ⟨o,es,ep,e,d,r⟩=>⟨o,es,ep,base_of e (noA e d),d,r⟩
  have hKb:K.In (nt s₁.heap H):=λb o e=>base_of (KX b o e) (by
   cases q:H b with
   |none=>rfl
   |some u=>
    have e':b=a:=hA b (by rw[q];simp);subst e';rw[hK (by rw[q];simp)] at e;cases e)
  have hM:Mod K mg (nt s₁.heap H):=⟨hKb,nsK hns,⟨mb,nsK hb,hbb⟩,let⟨mc,h1,h2⟩:=hlim;⟨mc,nsK h1,h2⟩⟩
  have e0:vE P w K mg (nt s₁.heap H) callerA [] s₁ H:=⟨rfl,hM,λb o e=>Eh e,Nat.le_of_eq (Aq _ _),trivial,λb hb=>absurd (show b∈([]:List Addr) from hb) (by simp),hok,.of_eq hg⟩
  refine codeAny_mono ((F _ hKb (nsK hns)).run callerA [] s₁ H ⟨[.ref a],[]⟩ [.ref a] [.ref a] _ _ hr e0 (hbind s₁ (.ref a)) (.cons rfl .nil) (hsp H hO hS)) λr s' h=>?_
  cases r with
  |error e=>exact(hCX H e s' h).elim
  |ok fl=>
   cases fl with
   |next=>exact False.elim h
   |brk=>exact False.elim h
   |cont=>exact False.elim h
   |ret u=>
    obtain⟨v,H',os,bare,un,hok',r',q⟩:=h;have q':v= .bl true:=q;subst q';obtain rfl:u=Value.bool true:=r';refine⟨rfl,OldK.of_keep λb o e=>?_,os,bare⟩;cases q:H b with
    |none=>exact un.keep b o e q (by intro z;exact absurd (show b∈([]:List Addr) from z) (by simp)) (by simp)
    |some u=>
     rcases hO b with z | ⟨ob,xs,z⟩
     ·rw[q] at z;cases z
     ·have z2:=un.frzs b ob _ z
      obtain⟨e1,_⟩:=hok b _ z;obtain⟨e2,_⟩:=hok' b _ z2;rw[e] at e1;cases e1
      exact e2
 cases hk:K.lookup a with
 |some o=>
  have e:=KX a o hk;rw[ha] at e
  cases e;refine core (λ_=>none) (λ_=> .inl rfl) (.inr ⟨_,vs.toArray,_,hk,rfl,rfl,rfl,by rw[gR,lenV];exact hl,by simpa using rv⟩) (λb u z=>by have z':(none:Option HO)=some u:=z;cases z') (λb z=>absurd rfl z) λz=>absurd rfl z
 |none=>
  refine core (λb=>if b=a then some (.frz {cls:= .type "list",data:= .seq vs.toArray} (.lst (ns.map V.int))) else none) (λb=>?_) (.inl (.inr ⟨{cls:= .type "list",data:= .seq vs.toArray},aD rfl⟩)) (λb u z=>?_) (λb z=>?_) λ_=>hk
  ·by_cases hb:b=a
   ·exact .inr ⟨_,_,aD hb⟩
   ·exact .inl (aK hb)
  ·by_cases hb:b=a
   ·have z':=(aD hb).symm.trans z
    cases z';subst hb;exact⟨ha,by rw[cZ];exact hl,vs,_,rv,ha⟩
   ·have z':=(aK hb).symm.trans z
    cases z'
  ·by_cases hb:b=a
   ·exact hb
   ·exact absurd (aK hb) z
abbrev d7{K:W.Frag}{h:Heap}(_:K.In h):W.Frag:=K
theorem EA{l:W.OpenLaw}{n k:Nat}{q:Program}{loose:List Str}{XP:(Str->Option Value)->Heap->Prop}{YP:World->Heap->Prop}{d:DefRec}{K:Params->W.Frag}{CX:World->lv}{sp:World->Sp}{x:Str}
  (hn:l.most=some n) (hn2:n<=sizeLine) (hdf:d.params.defaults=[]) (hr:Room k callerA)
  (hY: ∀(w:World) (h:Heap),YP w h->(K w.params).In h)
  (F: ∀(w:World) (mg:Str->Option Value) (fa:Addr) (h:Heap),(K w.params).In h->h.Ns mainGlobals mg->mg d.name=some (.ref fa)->
   ∃fd:FuncData,(∀(s:Shared) (u:Value),BindsTo s fd ⟨[u],[]⟩ [(x,u)])/\
    ∀base:Heap,(K w.params).In base->base.Ns mainGlobals mg->b5 l.prog w (K w.params) mg base (CX w) k fa fd [x] (sp w))
  (hsp: ∀(w:World) (H:Hp) (a:Addr) (ns:List Int),ns.length<=n->Co H->cw (K w.params) H a (ns.map V.int)->sp w [.ref a] H (λv _=>v= .bl true) λ_ _ _=>False)
  (hCX: ∀(w:World) (H:Hp) (s:Shared) (e:Value) (s':Shared),CX w [] H s (λ_ _ _=>False) e s'->False) :
  W.WalkO q loose XP YP l.row.toRowW d [] (λf vs=>PySem.call f vs):=by
 refine Att.xB hn hdf λw s₀ s₁ mg mb fa o pm cd doc a vs ns G Y ho hd hcd hmg hobj hints hlen hg=>?_
 have KX:=hY w _ Y;obtain⟨fd,hb,hF⟩:=F w mg fa _ KX G.T.g hmg;exact Cp KX G.T.g G.T.b G.T.builtins G.T.nolimit hg hobj hints (iV hlen hn2) hr hF hb (λH hO hS=>hsp w H a ns hlen hO hS) λH e s'=>hCX w H s₁ e s'
def iY(s:Stmt):Arguments:=match s with
 | .FunctionDef _ a _ _ _ _ _ _ _ _=>a
 |_=>{posonlyargs:=[],args:=[],vararg:=none,kwonlyargs:=[],kw_defaults:=[],kwarg:=none,defaults:=[]}
def fX(s:Stmt):List Stmt:=match s with
 | .FunctionDef _ _ b _ _ _ _ _ _ _=>b
 |_=>[]
def aH(s:Stmt):Scope:=match s with
 | .FunctionDef _ _ _ _ _ _ sc _ _ _=>sc
 |_=>{kind:= .function,names:=[],isGenerator:=false,isCoroutine:=false}
abbrev AM:lv:=λ_ _ _ _ _ _=>False
abbrev E0:XK:=λ_ _ _=>False
structure c7 (K:W.Frag) (x qual:Str) (st:Stmt) (f:Addr) (fd:FuncData):Prop where
 ex: ∃(oc:Value) (od:Option Addr) (kV doc pm:Value) (an:Option Addr) (cdv ct:Value) (osl:Array (Option Value)),
  fd=W.fnOf x qual (iY st) (fX st) (aH st) .none kV doc pm an cdv ct/\K.lookup f=some ⟨oc,od,.func fd,osl⟩/\W.codeIn K cdv qual=true
 kp:W.keepIn K (.ref f)=true
section
variable{P:Program}{w:World}{K:W.Frag}{mg:Str->Option Value}{base:Heap}
theorem c7.binds{x qual:Str}{st:Stmt}{f:Addr}{fd:FuncData}{ps:List Str}(F:c7 K x qual st f fd)
  (h: ∀(kV doc pm:Value) (an:Option Addr) (cdv ct:Value) (us:List Value),us.length=ps.length->bindArgs (W.fnOf x qual (iY st) (fX st) (aH st) .none kV doc pm an cdv ct) ⟨us,[]⟩ =pure (ps.zip us)):nu K fd ps []:=by
 obtain⟨oc,od,kV,doc,pm,an,cdv,ct,osl,rfl,lk,hcd⟩:=F.ex;exact .all (h kV doc pm an cdv ct)
theorem GO{x qual:Str}{st:Stmt}{f:Addr}{oc:Value}{od an:Option Addr}{osl:Array (Option Value)}{kV doc pm cdv ct:Value}(l:K.lookup f=some ⟨oc,od,.func (W.fnOf x qual (iY st) (fX st) (aH st) .none kV doc pm an cdv ct),osl⟩)
  (c:W.codeIn K cdv qual=true) (k:W.keepIn K (.ref f)=true):c7 K x qual st f (W.fnOf x qual (iY st) (fX st) (aH st) .none kV doc pm an cdv ct):=⟨⟨oc,od,kV,doc,pm,an,cdv,ct,osl,rfl,l,c⟩,k⟩
end
section
variable{X:Cx}
end
theorem oU{A B:Prop}(h:B):if false=true then A else B:=by
 rw[aK qr];exact h
theorem oV{A B:Prop}(h:A):if true=true then A else B:=by
 rw[aD rfl];exact h
def bh(H H':Hp):Prop:=∀b o,H b=some o->H' b=some o
theorem bh.refl(H:Hp):bh H H:=λ_ _ h=>h
theorem bh.trans{H H1 H2:Hp}(a:bh H H1)(b:bh H1 H2):bh H H2:=λc o h=>b c o (a c o h)
theorem bh.free{H H':Hp}(e:bh H H'){l:Addr}(h:H' l=Option.none):H l=Option.none:=by
 cases q:H l with
 |none=>rfl
 |some o=>
  rw[e l o q] at h;cases h
theorem bh.seq{K:W.Frag}{H H':Hp}{a:Addr}{xs:List V}(e:bh H H')(h:cw K H a xs):cw K H' a xs:=by
 rcases h with(h | ⟨o,h⟩) |h
 ·exact .inl (.inl (e _ _ h))
 ·exact .inl (.inr ⟨o,e _ _ h⟩)
 ·exact .inr h
end L2
set_option maxHeartbeats 4000000
namespace NB
theorem Cq(a b:Int):Int.gcd b (a.fmod b)=Int.gcd a b:=by
 rw[Int.fmod_def,z8];have:a-b*a.fdiv b=a+b*(-(a.fdiv b)):=by rw[Int.mul_neg];omega
 rw[this,z8,Int.gcd_add_mul_left_right,z8]
theorem EB(a b:Int)(h:b≠0):(a.fmod b).natAbs<b.natAbs:=by
 rcases Int.lt_or_gt_of_ne h with hb |hb
 ·have e:(-(-a)).fmod (-(-b))= -((-a).fmod (-b)):=by
   rw[Int.neg_fmod_neg]
  rw[Int.neg_neg,Int.neg_neg] at e;have h1:=Int.fmod_nonneg_of_pos (-a) (b:=-b) (by omega)
  have h2:=Int.fmod_lt_of_pos (-a) (b:=-b) (by omega);omega
 ·have h1:=Int.fmod_nonneg_of_pos a hb
  have h2:=Int.fmod_lt_of_pos a hb;omega
theorem nw{a d q:Int}(hd:d≠0)(h:a=d*q):a.fdiv d=q:=by
 subst h;rw[Int.mul_fdiv_cancel_left _ hd]
theorem EC(t b:Int)(hb:b≠0)(d:Int)(hd:d=if b<0 then -(Int.gcd t b:Int) else(Int.gcd t b:Int)) :
  d≠0/\t.fdiv d=(Rat.divInt t b).num/\b.fdiv d=((Rat.divInt t b).den:Int):=by
 have g0:(Int.gcd t b:Int)≠0:=by
  intro z;have:Int.gcd t b=0:=by omega
  rw[Int.gcd_eq_zero_iff] at this;exact hb this.2
 have gp:0< (Int.gcd t b:Int):=by omega
 have h1:=Int.gcd_dvd_left t b;have h2:=Int.gcd_dvd_right t b;obtain⟨x,hx⟩:=h1;obtain⟨y,hy⟩:=h2;have hd0:d≠0:=by subst hd;split<;>omega
 refine⟨hd0,?_,?_⟩
 ·rw[FK,z8 b t]
  by_cases hn:b<0
  ·rw[aD hn] at hd
   rw[Int.sign_eq_neg_one_of_neg hn];refine nw hd0 ?_;have e: -1*t/ (Int.gcd t b:Int)= -x:=by
    have: -1*t=(Int.gcd t b:Int)*(-x):=by rw[Int.mul_neg,<-hx];omega
    rw[this,Int.mul_ediv_cancel_left _ g0]
   rw[e,hd,Int.neg_mul_neg];exact hx
  ·rw[aK hn] at hd
   rw[FL (by omega)];refine nw hd0 ?_;have e:1*t/ (Int.gcd t b:Int)=x:=by
    have:1*t=(Int.gcd t b:Int)*x:=by rw[<-hx];omega
    rw[this,Int.mul_ediv_cancel_left _ g0]
   rw[e,hd];exact hx
 ·rw[FM,aK hb,z8 b t]
  refine nw hd0 ?_;have hyn:b.natAbs=Int.gcd t b*y.natAbs:=by
   conv=>lhs;rw[hy]
   rw[FN];simp
  have e:b.natAbs/Int.gcd t b=y.natAbs:=by
   rw[hyn,Nat.mul_div_cancel_left _ (by omega)]
  rw[e]
  by_cases hn:b<0
  ·rw[aD hn] at hd
   have:y<0:=by
    rcases Int.lt_or_le y 0 with q |q
    ·exact q
    ·have:=Int.mul_nonneg (Int.le_of_lt gp) q
     omega
   have e2:(y.natAbs:Int)= -y:=by omega
   rw[e2,hd,Int.neg_mul_neg];exact hy
  ·rw[aK hn] at hd
   have:0<=y:=by
    rcases Int.lt_or_le y 0 with q |q
    ·have:=Int.mul_neg_of_pos_of_neg gp q
     omega
    ·exact q
   have e2:(y.natAbs:Int)=y:=by omega
   rw[e2,hd];exact hy
theorem Cr(a b:Rat):Rat.divInt (a.num*b.den-b.num*a.den) ((a.den:Int)*b.den)=a-b:=by
 rw[Rat.sub_def',<-Rat.divInt_ofNat];simp
def Sz(n:Nat)(q:Rat):Prop:=q.num.natAbs<2^n/\q.den<2^n
theorem Sz.mono{m n:Nat}{q:Rat}(h:Sz m q)(hmn:m<=n):Sz n q:=
 ⟨gG h.1 (rM (by decide) hmn),gG h.2 (rM (by decide) hmn)⟩
theorem tw(a:Int)(g:Nat):(a/ (g:Int)).natAbs<=a.natAbs:=by
 rcases Nat.eq_zero_or_pos g with h |h
 ·subst h;simp
 ·have:=Int.natAbs_ediv_le_natAbs a (g:Int);exact this
theorem Sz.divInt{n:Nat}{t b:Int}(hb:b≠0)(h1:t.natAbs<2^n)(h2:b.natAbs<2^n):Sz n (Rat.divInt t b):=by
 refine⟨?_,?_⟩
 ·rw[FK]
  refine z9 ?_ h1
  by_cases hdv:(b.sign*t).natAbs=t.natAbs
  ·exact hdv▸tw _ _
  ·exfalso;apply hdv
   rw[FN]
   rcases Int.lt_or_gt_of_ne hb with h |h
   ·rw[Int.sign_eq_neg_one_of_neg h];simp
   ·rw[FL h];simp
 ·rw[FM,aK hb]
  exact z9 (FO _ _) h2
theorem GP{a b m n:Nat}(h1:a<2^m)(h2:b<2^n):a*b<2^(m+n):=by
 rw[Nat.pow_add];exact Nat.mul_lt_mul'' h1 h2
end NB
namespace L3
open PySem PySem.Spec PyProof.Rows L2
section
variable{X:Cx}
theorem gL:fS X (binaryOp .Mult) (rI IntMulOk λi j=> .int (i*j)):=GA λ_ _ _ _ _ _ _ hc q=>mul_int q hc
theorem gZ:fS X (binaryOp .FloorDiv) (rI (λ_ j=>j≠0/\j.natAbs<2^9000) λi j=> .int (i.fdiv j)):=
 GA λ_ j _ _ _ _ _ hc q=>floordiv_int hc.1 q (.inl (PyProof.noPylong_of_log2 (by
  have h0:j.natAbs≠0:=by have:=hc.1;omega
  exact(Nat.log2_lt h0).mpr hc.2)))
end
theorem Ja{a b:Int}{m n:Nat}(ha:a.natAbs<2^m)(hb:b.natAbs<2^n)(h:m+n<=1000000):IntMulOk a b:=
 IntMulOk.of_le (intBits_le_iff.mpr ha) (intBits_le_iff.mpr hb) (by omega)
mutual
inductive DV (K:W.Frag) (H:Hp):V->PyData->Prop
 |non:DV K H .non .none
 |bl (b:Bool):DV K H (.bl b) (.bool b)
 |int (i:Int):DV K H (.int i) (.int i)
 |str (x:Str):DV K H (.str x) (.str x)
 |tup {a:Addr} {xs:List V} {ds:List PyData}:gH K H a xs->aE K H xs ds->DV K H (.ref a) (.tuple ds)
 |lst {a:Addr} {xs:List V} {ds:List PyData}:cw K H a xs->aE K H xs ds->DV K H (.ref a) (.list ds)
 |dct {a:Addr} {kvs:List (eh×V)}:H a=some (.dK kvs)->DV K H (.ref a) (.dict [])
inductive aE (K:W.Frag) (H:Hp):List V->List PyData->Prop
 |nil:aE K H [] []
 |cons {v:V} {vs:List V} {d:PyData} {ds:List PyData}:DV K H v d->aE K H vs ds->aE K H (v::vs) (d::ds)
end
def TK(H H':Hp):Prop:=(∀a xs,H a=some (.tup xs)->H' a=some (.tup xs))/\∀a o u,H a=some (.frz o u)->H' a=some (.frz o u)
theorem TK.of{H H':Hp}(s:bh H H'):TK H H':=⟨λa _ h=>s a _ h,λa _ _ h=>s a _ h⟩
theorem iP{H:Hp}{p:Addr}(h:H p=none)(o:HO):bh H (bf H p o):=λb u q=>by rw[aY (gm q h)];exact q
theorem TK.tup{K:W.Frag}{H H':Hp}{a:Addr}{xs:List V}(e:TK H H')(h:gH K H a xs):gH K H' a xs:=by
 rcases h with(h | ⟨o,h⟩) |h
 ·exact .inl (.inl (e.1 _ _ h))
 ·exact .inl (.inr ⟨o,e.2 _ _ _ h⟩)
 ·exact .inr h
theorem vf{K:W.Frag}{H H':Hp}{a:Addr}{xs:List V}(e:bh H H')(h:gH K H a xs):gH K H' a xs:=(TK.of e).tup h
mutual
def hI:PyData->Bool
 | .list _=>false
 | .dict _=>false
 | .tuple ds=>hJ ds
 |_=>true
def hJ:List PyData->Bool
 | []=>true
 |d::ds=>hI d&&hJ ds
end
theorem DV.same{K:W.Frag}{H H':Hp}(e:bh H H'){v:V}{d:PyData}(h:DV K H v d):DV K H' v d:=
 DV.rec (motive_1:=λv d _=>DV K H' v d) (motive_2:=λvs ds _=>aE K H' vs ds) .non .bl .int .str (λh _ r=> .tup (vf e h) r) (λh _ r=> .lst (e.seq h) r) (λh=> .dct (e _ _ h)) .nil (λ_ _ a b=> .cons a b) h
theorem aE.same{K:W.Frag}{H H':Hp}(e:bh H H'){vs:List V}{ds:List PyData}(h:aE K H vs ds):aE K H' vs ds:=
 aE.rec (motive_1:=λv d _=>DV K H' v d) (motive_2:=λvs ds _=>aE K H' vs ds) .non .bl .int .str (λh _ r=> .tup (vf e h) r) (λh _ r=> .lst (e.seq h) r) (λh=> .dct (e _ _ h)) .nil (λ_ _ a b=> .cons a b) h
theorem DV.ts{K:W.Frag}{H H':Hp}(e:TK H H'){v:V}{d:PyData}(h:DV K H v d):hI d=true->DV K H' v d:=
 DV.rec (motive_1:=λv d _=>hI d=true->DV K H' v d) (motive_2:=λvs ds _=>hJ ds=true->aE K H' vs ds) (λ_=> .non) (λb _=> .bl b) (λi _=> .int i) (λx _=> .str x) (λh _ r n=> .tup (e.tup h) (r n)) (λ_ _ _ n=>nomatch n) (λ_ n=>nomatch n) (λ_=> .nil) (λ_ _ a b n=>have m:=Bool.and_eq_true_iff.mp n; .cons (a m.1) (b m.2)) h
theorem aE.ts{K:W.Frag}{H H':Hp}(e:TK H H'){vs:List V}{ds:List PyData}(h:aE K H vs ds):hJ ds=true->aE K H' vs ds:=
 aE.rec (motive_1:=λv d _=>hI d=true->DV K H' v d) (motive_2:=λvs ds _=>hJ ds=true->aE K H' vs ds) (λ_=> .non) (λb _=> .bl b) (λi _=> .int i) (λx _=> .str x) (λh _ r n=> .tup (e.tup h) (r n)) (λ_ _ _ n=>nomatch n) (λ_ n=>nomatch n) (λ_=> .nil) (λ_ _ a b n=>have m:=Bool.and_eq_true_iff.mp n; .cons (a m.1) (b m.2)) h
section
variable{X:Cx}{pins:List (Addr×Obj)}{σ:L2.St}{H:Hp}{s:Shared}
theorem DV.reads(I:ay X pins σ H s){v:V}{d:PyData}(h:DV X.K H v d):d.canLay0=true->∀{u:Value},bG v u->∃as,Reads s.heap u d as:=by
 refine DV.rec (motive_1:=λv d _=>d.canLay0=true->∀{u:Value},bG v u->∃as,Reads s.heap u d as) (motive_2:=λvs ds _=>PyData.canLayAll0 ds=true->∀{us:List Value},aZ vs us->∃as,ReadsAll s.heap us ds as) ?_ ?_ ?_ ?_ ?_ ?_ ?_ ?_ ?_ h
 ·intro _ u r;cases r;exact⟨_,.none⟩
 ·intro b _ u r;cases r;exact⟨_,.bool b⟩
 ·intro i _ u r;obtain⟨t,rfl⟩:=r;exact⟨_,.int i t⟩
 ·intro x _ u r;obtain⟨t,rfl⟩:=r;exact⟨_,.str x t⟩
 ·intro a xs ds h _ ih lc u r
  simp only[PyData.canLay0] at lc;cases r
  obtain⟨its,r',⟨o,ho,hc,n,hd⟩,_⟩:=I.tuple h;obtain⟨as,z⟩:=ih lc r';exact⟨as,.tuple ho hc hd (by simpa using z)⟩
 ·intro a xs ds h _ ih lc u r
  simp only[PyData.canLay0] at lc;cases r
  obtain⟨its,r',pl,_⟩:=I.list h;obtain⟨o,ho,hc,n,hd⟩:=pl.isList;obtain⟨as,z⟩:=ih lc r';exact⟨_,.list ho hc hd (by simpa using z)⟩
 ·intro a kvs h lc;simp[PyData.canLay0] at lc
 ·intro _ us r;cases r;exact⟨_,.nil⟩
 ·intro v vs d ds _ _ a b lc us r
  simp only[PyData.canLayAll0,ul] at lc;cases r with
  |cons r1 r2=>
   obtain⟨as,z1⟩:=a lc.1 r1;obtain⟨bs,z2⟩:=b lc.2 r2;exact⟨_,.cons z1 z2⟩
end
def fu(d:PyData):Bool:=SeqAt.shaped d
section
variable{X:Cx}
def GQ(K:W.Frag):R2:=λx y H Q=>∃d e,DV K H x d/\DV K H y e/\fu d=true/\fu e=true/\Q (.bl (PyData.eqv d e)) H
def GR(K:W.Frag):R2:=λx y H Q=>∃d e,DV K H x d/\DV K H y e/\fu d=true/\fu e=true/\Q (.bl (!PyData.eqv d e)) H
theorem bx(hu:X.A.units+64<cLine):fS X (compareOp .Eq) (GQ X.K):=by
 intro pins s σ H x y v u Q I rx ry h;obtain⟨d,e,h1,h2,o1,o2,q⟩:=h;obtain⟨as,r1⟩:=DV.reads I h1 (SeqAt.canLay_of_shaped o1) rx;obtain⟨bs,r2⟩:=DV.reads I h2 (SeqAt.canLay_of_shaped o2) ry;exact eq_dataH r1 r2 o1 o2 hu ⟨.bl _,H,I,rfl,q⟩
theorem kg(hu:X.A.units+64<cLine):fS X (compareOp .NotEq) (GR X.K):=by
 intro pins s σ H x y v u Q I rx ry h;obtain⟨d,e,h1,h2,o1,o2,q⟩:=h;obtain⟨as,r1⟩:=DV.reads I h1 (SeqAt.canLay_of_shaped o1) rx;obtain⟨bs,r2⟩:=DV.reads I h2 (SeqAt.canLay_of_shaped o2) ry;exact ne_dataH r1 r2 o1 o2 hu ⟨.bl _,H,I,rfl,q⟩
end
structure d8 (P:Program) (w:World) (K:W.Frag) (mg:Str->Option Value) (base:Heap) (CX:lv) (k:Nat) (x:Str) (ps:List Str) (sp:Sp):Prop where
 ex: ∃(f:Addr) (fd:FuncData),b5 P w K mg base CX k f fd ps sp/\nu K fd ps []/\W.keepIn K (.ref f)=true/\mg x=some (.ref f)
section
variable{X:Cx}{CX:lv}{k n:Nat}{x:Str}{ps:List Str}{sp:Sp}{E:XK}{p pos:Pos}{e:Expr}{es:List Expr}{t:TA}
theorem ED(C:d8 X.prog X.w X.K X.mg X.base CX k x ps sp)(hr:Room n X.A)(hx:oS CX X E)(ha:PA X (e::es) t)(hn:k<=n:=by decide)(hg:Gl X x:=by rfl)(hdb:(x ==("__debug__" :Str))=false:=by decide)
  (he:starEach (e::es) X.env=(false,eval e X.env)::starEach es X.env:=by rfl) (hpl:(backTo pos (starEach es X.env)).any (·.1)=false:=by rfl) :
  PE X (.Call (.Name x p) (e::es) [] pos) (DK sp [] E t):=by
 obtain⟨f,fd,F,b,kp,m⟩:=C.ex;exact Er F (hr.mono hn) hg m kp b .nil hx ha hdb he hpl
end
inductive oB (K:W.Frag) (H:Hp):V->Value->Prop where
 |non:oB K H .non (.type "NoneType")
 |bl (x:Bool):oB K H (.bl x) (.type "bool")
 |int (i:Int):oB K H (.int i) (.type "int")
 |str (x:Str):oB K H (.str x) (.type "str")
 |lst {a:Addr} {xs:List V} (e:cw K H a xs):oB K H (.ref a) (.type "list")
 |tup {a:Addr} {xs:List V} (e:gH K H a xs):oB K H (.ref a) (.type "tuple")
 |dct {a:Addr} {kvs:List (eh×V)} (e:H a=some (.dK kvs)):oB K H (.ref a) (.type "dict")
section
variable{X:Cx}{pins:List (Addr×Obj)}{σ:L2.St}{H:Hp}{s:Shared}{A:Around}{E:Value->Shared->Prop}{Q:Value->Shared->Prop}{c:Value}{b:Bool}
theorem xC{h:Heap}{P:Program}{w:World}{a:Addr}{vs:List (eh×Value)}(d:h.DictOf (fz P w) a vs): ∃o,h.get? a=some o/\o.cls= .type "dict" :=by
 obtain⟨ep,o,es,h1,h2,_⟩:=d.dictAt;exact⟨o,h1,h2.1⟩
theorem oB.kit{x:V}{u t:Value}(I:ay X pins σ H s)(rx:bG x u)(ty:oB X.K H x t):u≠ .builtin "__main__.__loader__#opaque" /\∃HP:Heap->Prop,W.KitX X.K u t HP/\HP s.heap:=by
 cases ty with
 |non=>cases (show u=Value.none from rx);exact⟨λz=>(nomatch z),_,W.kitx_none,True.intro⟩
 |bl y=>cases (show u=Value.bool y from rx);exact⟨λz=>(nomatch z),_,W.kitx_bool,True.intro⟩
 |int i=>obtain⟨t,q⟩:=(show ∃t,u=Value.int i t from rx);cases q;exact⟨λz=>(nomatch z),_,W.kitx_int,True.intro⟩
 |str y=>obtain⟨t,q⟩:=(show ∃t,u=Value.str y t from rx);cases q;exact⟨λz=>(nomatch z),_,W.kitx_str,True.intro⟩
 | @lst a xs ea=>
  cases (show u=Value.ref a from rx);obtain⟨its,_,pl,_⟩:=I.list ea;obtain⟨o,ho,hc,_⟩:=pl.isList;exact⟨λz=>(nomatch z),_,W.kitx_list,⟨o,ho,hc⟩⟩
 | @tup a xs ea=>
  cases (show u=Value.ref a from rx);obtain⟨its,_,⟨o,ho,hc,_⟩,_⟩:=I.tuple ea;exact⟨λz=>(nomatch z),_,W.kitx_tuple,⟨o,ho,hc⟩⟩
 | @dct a kvs ea=>
  cases (show u=Value.ref a from rx);obtain⟨_,_,vs,_,dd⟩ :kvs.length<=sizeLine/\(a == sysModules)=false/\∃vs,KV kvs vs/\s.heap.DictOf (fz X.prog X.w) a vs:=I.hok a _ ea;obtain⟨o,ho,hc⟩:=xC dd;exact⟨λz=>(nomatch z),_,W.kitx_dict,⟨o,ho,hc⟩⟩
end
def rX:V->Value
 | .ty n=> .type n
 | .ref a=> .ref a
 |_=> .none
def kP:V->Bool
 | .ty _=>true
 | .ref _=>true
 |_=>false
theorem AN{x:V}{u:Value}(h:kP x=true)(r:bG x u):u=rX x:=by
 cases x<;>simp[kP] at h<;>exact r
section
variable{X:Cx}
end
def Ki(e:Addr)(h:Heap):Prop:=∃o vs,h.get? e=some o/\o.data= .fields vs/\vs[2]?= some Value.none
def gn(B:Heap)(l:List Env)(e:Addr)(cls a0:Value)(fo:Option Addr)(h:Heap):Prop:=
 (B.StaysIn h/\B.get? e=none/\h.FunFrames B l/\h.TracedAtW B e cls a0 (fo.elim .none λf=>rawInt f))/\Ki e h
theorem gn.there{B h:Heap}{l:List Env}{e:Addr}{cls a0:Value}{fo:Option Addr}(x:gn B l e cls a0 fo h): ∃ob,h.get? e=some ob/\ob.cls=cls:=x.1.2.2.2.there
theorem gn.tail{B h:Heap}{en:Env}{l:List Env}{e:Addr}{cls a0:Value}{fo:Option Addr}(x:gn B (en::l) e cls a0 fo h):gn B l e cls a0 fo h:=by
 obtain⟨⟨y1,y2,⟨_,_,y3⟩,y4⟩,y5⟩:=x;exact⟨⟨y1,y2,y3,y4⟩,y5⟩
section
variable{M:Model}{A:Around}{E:Value->Shared->Prop}{s:Shared}{B:Heap}{l outer:List Env}{env:Env}{L e:Addr}{cls a0:Value}{fo fo':Option Addr}
theorem nA{Q:Unit->Shared->Prop}(x:gn B l e cls a0 fo s.heap)(k: ∀h',gn B l e cls a0 fo' h'->s.heap.UpToSlots h'->Q () {s with heap:=h'}):wpAny M A (setFlight (.ref e) fo') Q E s:=by
 obtain⟨⟨x1,x2,x3,oe,vs,T,oT,ts,g1,g2,g4,g5,g6,g7,g8,g9,g10⟩,o2,v2,c1,c2,c3⟩:=x;have sz:3<ts.size:=(FP.mp g10).1;have far: ∀b,b≠T->(s.heap.update T (Obj.mapFields (λu=>u.setIfInBounds 3 (fo'.elim Value.none λf=>rawInt f)))).get? b=s.heap.get? b:=λb n=>Heap.get?_update_other _ _ λq=>n q.symm
 have rec_: ∀b o,s.heap.get? b=some o->(∀us,o.data≠ .fields us)->b≠T:=λb o q n z=>by
  subst z;rw[g8] at q
  cases q;exact n _ g9
 unfold setFlight;refine wpAny_bind (wpAny_field g1 g4 g5 ?_);rw[aD (by simp)];refine wpAny_setField g8 g9 sz (k _ ⟨⟨λb o q=>?_,x2,x3.of_keeps λb o q n=>⟨o,(far b (rec_ b o q n)).trans q,rfl⟩,oe,vs,T,_,_,(far e g7.symm).trans g1,g2,g4,g5,g6,g7,Heap.get?_update_self _ g8 (Obj.isFreed_of_fields (Obj.data_mapFields g9 _)),Obj.data_mapFields g9 _,by simp[sz]⟩,o2,v2,(far e g7.symm).trans c1,c2,c3⟩ λb o q n=>⟨o.slots,(far b (rec_ b o q n)).trans q⟩)
 refine(far b λz=>?_).trans (x1 b o q);subst z;rw[g6] at q;cases q
theorem yf{oe:Obj}{vs:Array Value}{head:Value}{hadNext:Bool}{Q:Unit->Shared->Prop}(fr:A.frames=some (env::outer))(ff:s.heap.FunFrames B (env::outer))(fe:env.frame=some L)(he:s.heap.get? e=some oe)(st:B.StaysIn s.heap)(ne:B.get? e=none)(hd:oe.data= .fields vs)(sz:1<vs.size)(h0:vs[0]?= some a0)(h2:vs[2]?= some Value.none)
  (k: ∀h',gn B (env::outer) e oe.cls a0 (some L) h'->s.heap.UpToSlots h'->Q () {s with heap:=h'}) :
  wpAny M A (do let a <-PySem.frameOf env;let pl <-entryPlaceOf L hadNext;let b <-EntryCells.newEntry head a .none (rawInt L) .none pl;setField (.ref e) 1 b) Q E s:=by
 have nfr:e∉(env::outer).filterMap (·.frame):=λz=>by
  obtain⟨_,o,q,n⟩:=ff.mem z;rw[he] at q
  cases q;exact n vs hd
 refine wpAny_bind (wpAny_frameOf_fun fr ff fe λg so=>?_);refine wpAny_bind (wpAny_entryPlaceOf λpl hpl=>?_);unfold EntryCells.newEntry newFields;refine wpAny_bind (wpAny_newObj_type ?_ (hpl.sizeOk5 _ _ _ _ _));generalize hob:({cls:= .type "traceback",dict:=none,data:= .fields ([head,.ref L,.none,rawInt L,.none]++(if pl.isEmpty then List.replicate 6 Value.none else pl)).toArray}:Obj)=tb;have tbd:tb.data= .fields ([head,.ref L,.none,rawInt L,.none]++(if pl.isEmpty then List.replicate 6 Value.none else pl)).toArray:=by rw[<-hob]
 have he1:g.get? e=some oe:=(so.2.1 e nfr).trans he;have st1:B.StaysIn g:=λb o q=>by
  refine(so.2.1 b λz=>?_).trans (st b o q);rw[(ff.mem z).1] at q;cases q
 have new:g.objs.size≠e:=Nat.ne_of_gt (Heap.lt_size he1);have he2:(g.push tb).get? e=some oe:=Heap.get?_push_of_some tb he1;have live:tb.isFreed=false:=by rw[<-hob];rfl
 refine wpAny_setField he2 hd sz (k _ ?_ λb o q n=>?_)
 ·have hd3:=Obj.data_mapFields hd (λu=>u.setIfInBounds 1 (Value.ref g.objs.size))
  have he3:=Heap.get?_update_self (Obj.mapFields (λu=>u.setIfInBounds 1 (Value.ref g.objs.size))) he2 (Obj.isFreed_of_fields hd3);have hT:=(Heap.get?_update_other (g.push tb) (Obj.mapFields (λu=>u.setIfInBounds 1 (Value.ref g.objs.size))) (oM new)).trans (Heap.get?_push_size g live);have keep: ∀b o,b≠e->g.get? b=some o->((g.push tb).update e (Obj.mapFields (λu=>u.setIfInBounds 1 (Value.ref g.objs.size)))).get? b=some o:=λb o n q=>by
   rw[Heap.get?_update_other _ _ (oM n)];exact Heap.get?_push_of_some _ q
  refine⟨⟨λb o q=>keep b o (λz=>by rw[z,ne] at q;cases q) (st1 b o q),ne,ff.of_keeps λb o q n=>?_,_,_,g.objs.size,_,_,he3,⟨Obj.cls_mapFields _ _,by rw[Array.getElem?_setIfInBounds_ne (by decide)];exact h0⟩,hd3,by simp[sz],st1.fresh,new,hT,tbd,by first | (simp;done) | (rcases hpl with rfl | ⟨_,_,_,_,_,_,_,rfl⟩<;>simp)⟩,_,_,he3,hd3,by rw[Array.getElem?_setIfInBounds_ne (by decide)];exact h2⟩
  obtain⟨sl,q'⟩:=so.2.2 b o q;exact⟨_,keep b _ (λz=>by rw[z,he] at q;cases q;exact n vs hd) q',rfl⟩
 ·obtain⟨sl,q'⟩:=so.2.2 b o q
  refine⟨sl,?_⟩;rw[Heap.get?_update_other _ _ (λz=>by rw[<-z,he] at q;cases q;exact n vs hd)];exact Heap.get?_push_of_some _ q'
theorem AO{Q:Unit->Shared->Prop}(fr:A.frames=some (env::outer))(fe:env.frame=some L)(x:gn B (env::outer) e cls a0 fo s.heap)(k: ∀h',gn B (env::outer) e cls a0 (some L) h'->s.heap.UpToSlots h'->Q () {s with heap:=h'}):wpAny M A (noteFrame (.ref e) env) Q E s:=by
 obtain⟨⟨x1,x2,x3,oe,vs,T,oT,ts,g1,⟨g2,g3⟩,g4,g5,g6,g7,g8,g9,g10⟩,o2,v2,c1,c2,c3⟩:=x;rw[g1] at c1
 cases c1;rw[g4] at c2
 cases c2;subst g2
 by_cases c:fo=some L
 ·subst c
  exact wpAny_noteFrame_againW fe ⟨oe,vs,T,oT,ts,g1,⟨rfl,g3⟩,g4,g5,g6,g7,g8,g9,g10⟩ (k s.heap ⟨⟨x1,x2,x3,oe,vs,T,oT,ts,g1,⟨rfl,g3⟩,g4,g5,g6,g7,g8,g9,g10⟩,oe,vs,g1,g4,c3⟩ (Heap.UpToSlots.refl _))
 ·have far: ∀b,b≠T->(s.heap.update T (Obj.mapFields (λu=>u.setIfInBounds 3 Value.none))).get? b=s.heap.get? b:=λb n=>Heap.get?_update_other _ _ λq=>n q.symm
  have rec_: ∀b o,s.heap.get? b=some o->(∀us,o.data≠ .fields us)->b≠T:=λb o q n z=>by
   subst z;rw[g8] at q
   cases q;exact n _ g9
  unfold noteFrame;simp only[fe];refine wpAny_bind (wpAny_field g1 g4 g5 ?_);rw[aD (by simp)];refine wpAny_bind (wpAny_field g8 g9 g10 ?_);rw[aK (by
   intro z;cases fo with
   |none=>simp[rawInt] at z
   |some L'=>simp[rawInt] at z;exact c (congrArg some (Int.ofNat.inj z)))]
  refine wpAny_bind (wpAny_setField g8 g9 (FP.mp g10).1 ?_);refine yf fr (x3.of_keeps λb o q n=>⟨o,(far b (rec_ b o q n)).trans q,rfl⟩) fe ((far e g7.symm).trans g1) (λb o q=>?_) x2 g4 (FP.mp g5).1 g3 c3 λh' y up=>k h' y λb o q n=>up b o ((far b (rec_ b o q n)).trans q) n
  refine(far b λz=>?_).trans (x1 b o q);subst z;rw[g6] at q;cases q
theorem Cs{Q:Unit->Shared->Prop}(fr:A.frames=some (env::outer))(fe:env.frame=some L)(x:gn B (env::outer) e cls a0 fo s.heap)(k: ∀h',gn B outer e cls a0 none h'->s.heap.UpToSlots h'->Q () {s with heap:=h'}):wpAny M A (leaving env (.ref e)) Q E s:=by
 unfold leaving;exact wpAny_bind (AO fr fe x λh1 y up=>nA (fo':=none) y λh2 z up2=>k h2 z.tail (up.trans up2))
theorem zc{h:Heap}{args:List Value}{Q:Unit->Shared->Prop}(fr:A.frames=some (env::outer))(fe:env.frame=some L)(st:B.StaysIn h)(ff:h.FunFrames B (env::outer))(hx:Heap.MadeExcOf h s.heap e cls args)(k: ∀h' t,gn B outer e cls (.ref t) none h'->s.heap.UpToSlots h'->Q () {s with heap:=h'}):wpAny M A (leaving env (.ref e)) Q E s:=by
 obtain⟨t,he,_,_⟩:=hx.there;have ne:B.get? e=none:=by
  cases q:B.get? e with
  |none=>rfl
  |some o=>have:=st e o q;rw[hx.new] at this;cases this
 unfold leaving noteFrame;simp only[fe];refine wpAny_bind (wpAny_bind (wpAny_field (x:=Value.none) he rfl rfl ?_));rw[aK (show ¬((Value.none != Value.none)=true) from by simp)];exact yf (a0:= .ref t) fr (ff.of_keeps λb o q _=>⟨o,hx.keeps b o q,rfl⟩) fe he (λb o q=>hx.keeps b o (st b o q)) ne rfl (show 1<6 by decide) rfl rfl λh1 y up=>nA (fo':=none) y λh2 z up2=>k h2 t z.tail (up.trans up2)
end
theorem vI{P:Program}{w:World}{H:Hp}{h:Heap}{a:Addr}{o:HO}(x:eT P w H h a o): ∃ob,h.get? a=some ob:=by
 cases o with
 |lst xs=>obtain⟨_,_,_,_,e⟩:=x;exact⟨_,e⟩
 |tup xs=>obtain⟨_,_,_,ob,e,_⟩:=x;exact⟨ob,e⟩
 |dK kvs=>obtain⟨_,_,_,_,o,_,_,e,_⟩:=x;exact⟨o,e⟩
 |dT kvs=>obtain⟨_,_,_,_,o,_,_,e,_⟩:=x;exact⟨o,e⟩
 |set S n=>obtain⟨o,_,_,_,e,_⟩:=x;exact⟨o,e⟩
 |ins C dx fs=>obtain⟨_,_,_,e,_⟩:=x;exact⟨_,e⟩
 |own y=>exact x
 |xd fs=>obtain⟨_,⟨o,_,_,e,_⟩,_⟩:=x;exact⟨o,e⟩
 |rng lo hi=>obtain⟨_,_,_,e⟩:=x;exact⟨_,e⟩
 |frz ob u=>obtain⟨e,_⟩:=x;exact⟨_,e⟩
 |tbl ps=>exact⟨_,(show h.get? a=some _ from x)⟩
 |met f y=>exact⟨_,(show h.get? a=some _ from x)⟩
 |ext φ=>obtain⟨_,e,_⟩:=x;exact e
theorem zd{P:Program}{w:World}{fs:List Addr}{H H1:Hp}{h0 h h2:Heap}(u:Un fs [] H H1 h0 h)(k:eW P w H1 h)
  (cov: ∀b o,h.get? b=some o->b∉fs->(h0.get? b≠none\/H1 b≠none)->h2.get? b=some o)
  (slot: ∀b o,h.get? b=some o->b∈fs->∃sl,h2.get? b=some {o with slots:=sl}) (free: ∀b∈fs,H1 b=none) :
  Un fs [] H H1 h0 h2/\eW P w H1 h2:=by
 refine⟨⟨λb o q n hb hx=>?_,λb o q n hb hx=>?_,u.free,λb o q hx=>?_,u.tups,u.frzs,u.tbls⟩,λa o e=>?_⟩
 ·exact cov b o (u.keep b o q n hb hx) hb (.inl (by rw[q];exact(λz=>nomatch z)))
 ·obtain⟨sl,e⟩:=u.slot b o q n hb hx
  obtain⟨sl',e'⟩:=slot b _ e hb;exact⟨sl',e'⟩
 ·obtain⟨o',e⟩:=u.there b o q hx
  by_cases hb:b∈fs
  ·obtain⟨sl,e'⟩:=slot b o' e hb
   exact⟨_,e'⟩
  ·exact⟨o',cov b o' e hb (.inl (by rw[q];exact(λz=>nomatch z)))⟩
 ·refine(k a o e).stay (λb v hb q=>?_) (λ_ q=>q) λ_ _ q=>q
  have nn:H1 b≠none:=by
   rcases hb with rfl |hb
   ·rw[e];exact(λz=>nomatch z)
   ·rw[hb];exact(λz=>nomatch z)
  exact cov b v q (λhf=>nn (free b hf)) (.inr nn)
def bt(P:Program)(w:World):lv:=λouter H s E e s'=>
 ∃(ea:Addr) (C:Value) (t:Addr) (B:Heap) (H':Hp),e= .ref ea/\s'.os=s.os/\AllBare s'.gens/\Un (frs outer) [] H H' s.heap s'.heap/\eW P w H' s'.heap/\
  gn B outer ea C (.ref t) none s'.heap/\(∀b o,s'.heap.get? b=some o->b∉frs outer->(s.heap.get? b≠none\/H' b≠none)->B.get? b=some o)/\
  s.heap.get? ea=none/\H' ea=none/\E C none H'
section
variable{P:Program}{w:World}{K:W.Frag}{mg:Str->Option Value}{base:Heap}{N:List Str}{qual:Str}{scope:Scope}{f:Addr}{cd:Value}{A:Around}{outer:List Env}{s:Shared}{H:Hp}{E:XK}
def qG(X:Cx)(E:XK):Prop:=∀(pins:List (Addr×Obj)) (σ:L2.St) (H:Hp) (s:Shared) (h':Heap) (ea:Addr) (C:Value) (vs:List Value),
 ay X pins σ H s->Heap.MadeExcOf s.heap h' ea C vs->E C none H->X.xe (.ref ea) {s with heap:=h'}
theorem ze:qG (jL (bt P w) P w K mg base N qual scope f cd A outer s H E) E:=by
 intro pins σ H1 s1 h' ea C vs I hm hE;have st:=I.stack;have nL: ∀b,(s.heap.get? b≠none\/H1 b≠none)->b∉frs outer->b∉frs (envOfC qual scope s.heap.objs.size f cd::outer):=λb hn hb hf=>by
  rcases fq.mp (I.stkSub b hf) with z |z
  ·subst z
   rcases hn with hn |hn
   ·exact hn (Heap.get?_none_of_le (cr _))
   ·exact hn I.free
  ·exact hb z
 have sub: ∀b∈frs outer,b∈frs (envOfC qual scope s.heap.objs.size f cd::outer):=λb hb=>by
  unfold frs at hb⊢;exact eU _ hb
 refine zc (B:=W.hideAll s1.heap (frs (envOfC qual scope s.heap.objs.size f cd::outer))) (h:=s1.heap) I.ok.frames rfl (λb o q=>W.of_hideAll _ q)
  (W.funFrames_hide st λen he b hb=>FG.mpr ⟨en,he,hb⟩) hm λh2 t fl up=>?_
 have cov: ∀b o,s1.heap.get? b=some o->b∉frs outer->(s.heap.get? b≠none\/H1 b≠none)->h2.get? b=some o:=λb o q hb hn=>fl.1.1 b o (W.hideAll_get _ q (nL b hn hb))
 obtain⟨U,HK⟩:=zd I.base I.hok cov (λb o q hb=>by
  obtain⟨_,o',e,nf⟩:=st.mem (sub b hb);rw[q] at e;cases e
  exact up b o (hm.keeps b o q) nf) λb hb=>I.stkFree b (sub b hb)
 have ex1: ∀b,(s.heap.get? b≠none\/H1 b≠none)->∃o,s1.heap.get? b=some o:=λb hn=>by
  rcases hn with hn |hn
  ·cases q:s.heap.get? b with
   |none=>exact absurd q hn
   |some o=>exact I.base.there b o q (by intro z;exact nomatch z)
  ·cases q:H1 b with
   |none=>exact absurd q hn
   |some u=>exact vI (I.hok b u q)
 refine⟨ea,C,t,_,H1,rfl,I.os,I.bare,U,HK,fl,λb o q hb hn=>?_,?_,?_,hE⟩
 ·obtain⟨o1,e1⟩:=ex1 b hn
  have e2:=W.hideAll_get _ e1 (nL b hn hb);have e3:=fl.1.1 b o1 e2;have e4:h2.get? b=some o:=q;rw[e3] at e4;cases e4
  exact e2
 ·cases q:s.heap.get? ea with
  |none=>rfl
  |some o=>
   obtain⟨o1,e1⟩:=ex1 ea (.inl (by rw[q];exact(λz=>nomatch z)));rw[hm.new] at e1;cases e1
 ·cases q:H1 ea with
  |none=>rfl
  |some u=>
   obtain⟨o1,e1⟩:=ex1 ea (.inr (by rw[q];exact(λz=>nomatch z)));rw[hm.new] at e1;cases e1
theorem zf:oS (bt P w) (jL (bt P w) P w K mg base N qual scope f cd A outer s H E) E:=by
 intro pins σ H1 s1 e s2 I h;obtain⟨ea,C,t,B,H',rfl,os,bare,un,hok,fl,cov,nea,nH,hE⟩:=h;have J:=I.call' (ch:=[]) os un hok bare (λb z=>nomatch z);have st:=J.stack;have nL: ∀b,(s.heap.get? b≠none\/H' b≠none)->b∉frs outer->b∉frs (envOfC qual scope s.heap.objs.size f cd::outer):=λb hn hb hf=>by
  rcases fq.mp (J.stkSub b hf) with z |z
  ·subst z
   rcases hn with hn |hn
   ·exact hn (Heap.get?_none_of_le (cr _))
   ·exact hn J.free
  ·exact hb z
 have sub: ∀b∈frs outer,b∈frs (envOfC qual scope s.heap.objs.size f cd::outer):=λb hb=>by
  unfold frs at hb⊢;exact eU _ hb
 have old: ∀b,s.heap.get? b≠none->s1.heap.get? b≠none:=λb hn=>by
  cases q:s.heap.get? b with
  |none=>exact absurd q hn
  |some o=>
   obtain⟨o',e⟩:=I.base.there b o q (by intro z;exact nomatch z);rw[e];exact(λz=>nomatch z)
 refine Cs I.ok.frames rfl fl λh2 fl2 up=>?_
 have covB: ∀b o,s2.heap.get? b=some o->b∉frs outer->(s.heap.get? b≠none\/H' b≠none)->B.get? b=some o:=λb o q hb hn=>cov b o q (nL b hn hb) (hn.imp (old b) id)
 obtain⟨U,HK⟩:=zd J.base J.hok (λb o q hb hn=>fl2.1.1 b o (covB b o q hb hn)) (λb o q hb=>by
  obtain⟨_,o',e,nf⟩:=st.mem (sub b hb);rw[q] at e;cases e
  exact up b o q nf) λb hb=>J.stkFree b (sub b hb)
 refine⟨ea,C,t,B,H',rfl,J.os,J.bare,U,HK,fl2,λb o q hb hn=>?_,?_,nH,hE⟩
 ·have ex2: ∃o,s2.heap.get? b=some o:=by
   rcases hn with hn |hn
   ·cases z:s.heap.get? b with
    |none=>exact absurd z hn
    |some o=>exact J.base.there b o z (by intro z;exact nomatch z)
   ·cases z:H' b with
    |none=>exact absurd z hn
    |some u=>exact vI (J.hok b u z)
  obtain⟨o1,e1⟩:=ex2;have e2:=covB b o1 e1 hb hn;have e3:=fl2.1.1 b o1 e2;have e4:h2.get? b=some o:=q;rw[e3] at e4;cases e4
  exact e2
 ·cases q:s.heap.get? ea with
  |none=>rfl
  |some o=>exact absurd nea (old ea (by rw[q];exact(λz=>nomatch z)))
end
theorem EE{K:W.Frag}{h:Heap}{C:Addr}{bB:List Value}{nid:String}(X:K.In h)(q:W.excIn K C bB nid=true) :
  ∃tl NS nm qn bs hd sn sub ab col dd k0 k1 k2 k3 k5 mN,h.get? C=some (excClassObj nm qn C NS bs tl hd sn sub ab col dd k0 k1 k2 k3 k5 nid)/\h.Ns NS mN/\mN "__init__" =none/\OwnTail h bB tl:=by
 unfold W.excIn at q;split at q
 ·rename_i d0 c0 sl0 look
  split at q
  ·rename_i C1 tl a0 a1 a2 a3 n0 a5 em es
   simp only[ul,beq_iff_eq,FQ] at q;obtain⟨⟨⟨⟨⟨z1,z2⟩,z3⟩,z4⟩,z5⟩,z6⟩:=q
   subst z1 z2;obtain⟨nm,bs,mro,NS,qn,hd,sn,sub,ab,col,del⟩:=c0;dsimp only at em z3 z5 z6
   subst em z3;have es':sl0= #[a0,a1,a2,a3,some (.builtin n0),a5]:=by
    cases sl0 with
    |mk l=>
     have es2:l=[a0,a1,a2,a3,some (.builtin n0),a5]:=es;rw[es2]
   subst es';refine⟨tl,NS,nm,qn,bs,hd,sn,sub,ab,col,d0,a0,a1,a2,a3,a5,h.nsMap NS,X _ _ look,?_,?_,W.tail_of_in X z4⟩
   ·exact Heap.Ns.of_isNs (W.isNs_of_in X z5)
   ·exact W.nsMap_none_of_in X z5 z6
  ·exact nomatch q
 ·exact nomatch q
def GS(C:Addr)(E:XK)(t:TA):TS:=λ_ σ H=>t σ H λvs H1=>vs.length<=sizeLine/\E (.ref C) none H1
section
variable{X:Cx}{E:XK}{C:Addr}{x:Str}{e:Expr}{es:List Expr}{t:TA}{np KJ pos:Pos}
theorem Ct(hE:qG X E)(hc:X.calm=true)(hm:X.mg x=some (.ref C))
  (q:W.excIn X.K C [.type "ValueError",.type "Exception",.type "BaseException",.type "object"] "ValueError.__new__" =true) (ha:PA X (e::es) t)
  (hg:Gl X x:=by rfl) (hdb:(x ==("__debug__" :Str))=false:=by decide)
  (he:starEach (e::es) X.env=(false,eval e X.env)::starEach es X.env:=by rfl) (hpl:(backTo KJ (starEach es X.env)).any (·.1)=false:=by rfl) :
  PS X (.Raise (some (.Call (.Name x np) (e::es) [] KJ)) none pos) (GS C E t):=by
 intro pins s σ H D I h;obtain⟨tl,NS,nm,qn,bs,hd,sn,sub,ab,col,dd,k0,k1,k2,k3,k5,mN,hC,hN,hni,T⟩:=EE I.ok.mod.kin q;refine wpAny_Raise_call_subU (C:=C) (nm:=nm) (q:=qn) (N:=NS) (bs:=bs) (bm:=tl) (hdct:=hd) (sn:=sn) (sub:=sub) (ab:=ab) (col:=col) (dd:=dd)
  (k0:=k0) (k1:=k1) (k2:=k2) (k3:=k3) (k5:=k5) F.excBase_ValueError (by decide) F.excBase_ValueError (mN:=mN) (T.hasType F.excBase_ValueError.hasBase) (I.ok.hd hc)
  (by rw[he];show(false || (backTo KJ (starEach es X.env)).any (·.1))=false;rw[hpl];rfl) hni (k8 I hg hm ⟨rfl,?_⟩ hdb)
 have h0:=ha KJ pins s σ H _ I h;rw[he] at h0⊢
 refine Calls.evalArgs_plain (bn h0 λus s1 z=>?_);obtain⟨vs,H1,I1,r,zl,zE⟩:=z;exact⟨rfl,by rw[<-r.length];exact zl,I1.bk _ _ hC,hN.keeps I1.bk,T.keeps I1.bk,λh' ea hm'=>hE pins σ H1 s1 h' ea _ us I1 hm' zE⟩
end
theorem KB{P:Program}{w:World}{K:W.Frag}{mg:Str->Option Value}{base:Heap}{x qual:Str}{st:Stmt}{f:Addr}{fd:FuncData}{N ps:List Str}{k:Nat}{sp:Sp}(F:c7 K x qual st f fd)(S:bg N ps (aH st))(len: ∀vs H Q E,sp vs H Q E->vs.length=ps.length)
  (hbody: ∀(cdv:Value) (A:Around) (outer:List Env) (s:Shared) (H:Hp) (vs:List V) (Q:VK) (E:XK),Room k (A.deeper (envOfC qual (aH st) s.heap.objs.size f cdv))->sp vs H Q E->
   ∃t,jI (jL (bt P w) P w K mg base N qual (aH st) f cdv A outer s H E) (fX st) t/\t {nx:=λ_ H'=>Q .non H',rt:=Q} (a6 N vs) H):b5 P w K mg base (bt P w) (k+1) f fd ps sp:=by
 obtain⟨oc,od,kV,doc,pm,an,cdv,ct,osl,rfl,lk,hcd⟩:=F.ex;exact IY lk hcd S len λA outer s H vs Q E hr hsp=>hbody cdv A outer s H vs Q E hr hsp
def vg(X:Cx)(pins:List (Addr×Obj))(σ:L2.St)(E:XK)(e:Value)(s':Shared):Prop:=∃H1 s1,ay X pins σ H1 s1/\bt X.prog X.w X.stack H1 s1 E e s'
def JX(X:Cx)(e:Expr)(t:L2.St->Hp->VK->XK->Prop):Prop:=
 ∀(pins:List (Addr×Obj)) (s:Shared) (σ:L2.St) (H:Hp) (Q:VK) (E:XK),ay X pins σ H s->t σ H Q E->wpAny (model X.prog X.w) X.A (eval e X.env) (EP X pins σ Q) (vg X pins σ E) s
section
variable{X:Cx}{k n:Nat}{x:Str}{ps:List Str}{sp:Sp}{p pos:Pos}{e:Expr}{es:List Expr}{t:TA}
theorem EF(C:d8 X.prog X.w X.K X.mg X.base (bt X.prog X.w) k x ps sp)(hr:Room n X.A)(ha:PA X.nox (e::es) t)(hn:k<=n:=by decide)(hg:Gl X x:=by rfl)(hdb:(x ==("__debug__" :Str))=false:=by decide)
  (he:starEach (e::es) X.env=(false,eval e X.env)::starEach es X.env:=by rfl) (hpl:(backTo pos (starEach es X.env)).any (·.1)=false:=by rfl) :
  JX X (.Call (.Name x p) (e::es) [] pos) (λ σ H Q E=>t σ H λvs H1=>sp vs H1 Q E):=by
 intro pins s σ H Q E I h;obtain⟨f,fd,F,b,kp,m⟩:=C.ex;refine wpAny_Call_Name_kw (k8 I hg m ?_ hdb);refine W.callWith_K (h₀:=X.base) I.ok.mod.kin kp (wpAny_mono (ha pos pins s σ H _ (I.wish _) h) (λus s1 z=>?_) λ_ _ z=>False.elim z) he hpl;obtain⟨vs,H1,I1,r,q⟩:=z;have J:ay X pins σ H1 s1:=I1.unwish;refine⟨J.kIn,?_⟩;have hl:us.length=ps.length:=by rw[<-r.length];exact F.len _ _ _ _ q
 have hb:BindsTo s1 fd ⟨us,[]⟩ (ps.zip us):=by
  have:=b s1 us J.kIn (by rw[ka];exact hl)
  rwa [ka] at this
 refine wpAny_call (codeAny_mono (F.run X.A X.stack s1 H1 ⟨us,[]⟩ us vs Q E (hr.mono hn) J.env0 hb r q) λres s' hq=>?_);cases res with
 |error e'=>exact⟨H1,s1,J,hq⟩
 |ok fl=>
  cases fl with
  |ret u=>exact J.after hq
  |next=>exact False.elim hq
  |brk=>exact False.elim hq
  |cont=>exact False.elim hq
end
def oW(ea:Addr)(C:Value):HO:= .ext λh=>∃o,h.get? ea=some o/\o.cls=C/\∃vs,o.data= .fields vs/\vs[2]?= some Value.none
abbrev Cx.inH(X:Cx)(ea:Addr)(xe:Value->Shared->Prop):Cx:={X with A:=X.A.mark (some (.ref ea)),calm:=false,xe:=xe}
theorem GT{X:Cx}{ea:Addr}{xe:Value->Shared->Prop}(ok:X.Ok):(Cx.inH X ea xe).Ok:=
 ⟨ok.mod,ok.kind,ok.glob,ok.blt,ok.above,ok.inj,ok.has,ok.cab,(λz=>nomatch z),ok.frames,ok.stk,ok.exf,ok.bs,ok.bsz,ok.noex,ok.exfs,ok.funs,ok.frf⟩
theorem EG{X:Cx}{ea:Addr}{xe:Value->Shared->Prop}(hd:X.calm=true->X.A.handled=none)(ok:(Cx.inH X ea xe).Ok):X.Ok:=
 ⟨ok.mod,ok.kind,ok.glob,ok.blt,ok.above,ok.inj,ok.has,ok.cab,hd,ok.frames,ok.stk,ok.exf,ok.bs,ok.bsz,ok.noex,ok.exfs,ok.funs,ok.frf⟩
section
variable{X:Cx}{pins:List (Addr×Obj)}{σ:L2.St}{H:Hp}{s:Shared}{ea:Addr}{xe:Value->Shared->Prop}
theorem ay.inH(I:ay X pins σ H s):ay (Cx.inH X ea xe) pins σ H s:=⟨GT I.ok,I.os,I.bare,I.base,I.loc,I.cell,I.free,I.freeC,I.pin,I.hok,I.len⟩
theorem ay.outH(hd:X.calm=true->X.A.handled=none)(I:ay (Cx.inH X ea xe) pins σ H s):ay X pins σ H s:=⟨EG hd I.ok,I.os,I.bare,I.base,I.loc,I.cell,I.free,I.freeC,I.pin,I.hok,I.len⟩
end
structure mZ (K:W.Frag) (C B:Addr):Prop where
 tyB:W.typeIn K (.ref B)=some (.type "type")
 clB:(W.clsIn K B).isSome=true
 exB:W.subIn K (.ref B) (.type "BaseException")=some true
 sub:W.subIn K (.ref C) (.ref B)=some true
theorem oX{K:W.Frag}{M:Model}{h:Heap}{B:Addr}(X:K.In h)(c:(W.clsIn K B).isSome=true):W.Looks M h (isType (.ref B)) true:=by
 unfold W.clsIn at c;split at c
 ·rename_i look
  intro A' Q' E' s' k q;unfold isType loadHead;refine wpAny_bind ?_;exact wpAny_loadPart (k _ _ (X _ _ look)) (wpAny_pure q)
 ·exact nomatch c
theorem Jc{P:Program}{w:World}{fs:List Addr}{H H':Hp}{h0 h:Heap}{ea:Addr}{φ:Heap->Prop}(u:Un fs [] H H' h0 h)(k:eW P w H' h)(n:H' ea=none)(n0:h0.get? ea=none)
  (hφ:φ h) (he: ∃o,h.get? ea=some o) (st: ∀h1 h2:Heap,φ h1->(∀o,h1.get? ea=some o->h2.get? ea=some o)->φ h2):Un fs [] H (bf H' ea (.ext φ)) h0 h/\eW P w (bf H' ea (.ext φ)) h:=by
 have ne: ∀{b:Addr} {o:HO},H' b=some o->b≠ea:=λ{b o} e=>gm e n
 refine⟨⟨u.keep,u.slot,λb o q z hx=>?_,u.there,λb xs q=>?_,λb o x q=>?_,λb ps q=>?_⟩,λa o e=>?_⟩
 ·have hb:b≠ea:=λz=>by subst z;rw[q] at n0;cases n0
  rw[aY hb];exact u.free b o q z hx
 ·have e:=u.tups b xs q
  rw[aY (ne e)];exact e
 ·have e:=u.frzs b o x q
  rw[aY (ne e)];exact e
 ·obtain⟨more,e⟩:=u.tbls b ps q
  exact⟨more,by rw[aY (ne e)];exact e⟩
 ·by_cases ha:a=ea
  ·subst ha
   rw[bF] at e;cases e
   exact⟨hφ,he,st⟩
  ·rw[aY ha] at e
   exact(k a o e).stay (λ_ _ _ q=>q) (λb q=>by rw[aY (ne q)];exact q) λb xs q=>by rw[aY (ne q)];exact q
section
variable{X:Cx}{pins:List (Addr×Obj)}{σ:L2.St}{H:Hp}{s:Shared}
theorem Cu{m:Str->Option Value}{n:Str}{j:Nat}{v:Option Value}{h':Heap}{tk:Nat}(I:ay X pins σ H s)(hN:X.N.Nodup)(hj:X.N[j]?= some n)
  (hm: ∀(i:Nat) (y:Str) (v:V),X.N[i]?= some y->σ[i]?= some (some v)->mU X.env.scope y->∃u,bG v u/\Gc X.env s.heap m y u)
  (hn:s.heap.Ns X.env.locals m) (hn':h'.Ns X.env.locals (λy=>if y=n then v else m y)) (hs:Heap.SameBut X.env.locals s.heap h'):ay X pins (σ.set j none) H {s with heap:=h',toks:=tk}:=by
 have cne:=I.cne;have old: ∀b o,X.s₀.heap.get? b=some o->b≠X.env.locals:=λb o e=>j8 (gG (Heap.lt_size e) I.ok.above)
 refine⟨I.ok,I.os,I.bare,⟨λb o e z hb hx=>?_,λb o e z hb hx=>?_,I.base.free,λb o e hx=>?_,I.base.tups,I.base.frzs,I.base.tbls⟩,⟨_,hn',λi y v' e1 e2 e3=>?_⟩,λy c e=>?_,I.free,I.freeC,λp hp=>?_,λb ob e=>?_,?_⟩
 ·exact(hs.2 b (old b o e)).trans (I.base.keep b o e z hb hx)
 ·obtain⟨sl,e1⟩:=I.base.slot b o e z hb hx
  exact⟨sl,(hs.2 b (old b o e)).trans e1⟩
 ·obtain⟨o',e1⟩:=I.base.there b o e hx
  exact⟨o',(hs.2 b (old b o e)).trans e1⟩
 ·by_cases hi:i=j
  ·subst hi
   have hl:i<σ.length:=by rw[I.len];exact(xZ.mp hj).1
   rw[oN hl] at e2;cases e2
  ·rw[iW (oM hi)] at e2
   obtain⟨u,r,q⟩:=hm i y v' e1 e2 e3;refine⟨u,r,?_⟩
   rcases q with⟨k,e⟩ | ⟨k,c,e,z⟩
   ·have ny:y≠n:=λz=>hi (qC hN e1 (z▸hj))
    exact .inl ⟨k,by show(if y=n then v else m y)=some u;rw[aK ny];exact e⟩
   ·exact .inr ⟨k,c,e,z.sameBut hs (cne y c e)⟩
 ·obtain⟨w',z⟩:=I.cell y c e
  exact⟨w',z.sameBut hs (cne y c e)⟩
 ·obtain⟨e,z,ne,nf,d⟩:=I.pin p hp
  exact⟨(hs.2 p.1 ne).trans e,z,ne,nf,d⟩
 ·refine(I.hok b ob e).stay (λc w' hc q=>(hs.2 c ?_).trans q) (λ_ q=>q) λ_ _ q=>q
  intro z;subst z
  rcases hc with hc |hc
  ·rw[<-hc,I.free] at e;cases e
  ·rw[I.free] at hc;cases hc
 ·rw[ox];exact I.len
end
theorem uP{K:W.Frag}{M:Model}{h:Heap}{ea C B:Addr}{oe:Obj}(X:K.In h)(he:h.get? ea=some oe)(hc:oe.cls= .ref C)(c:mZ K C B) :
  W.Looks M h (excMatches (.ref ea) (.ref B)) true:=by
 have L1:W.Looks M h (isInstance (.ref B) (.type "tuple")) false:=(W.looks_typeIn X c.tyB).andThen (W.Looks.of_pure tc_notTuple);have L2:W.Looks M h (isExcClass (.ref B)) true:=(oX X c.clB).andThen (W.looks_subIn X c.exB);have L3:W.Looks M h (typeOf (.ref ea)) (.ref C):=hc▸(W.Looks.ld he).andThen .now
 have L4:W.Looks M h (isSubtype (.ref C) (.ref B)) true:=W.looks_subIn X c.sub;intro A Q E s k q;unfold excMatches;refine wpAny_bind (L1 A _ E s k ?_);simp only[Bool.false_eq_true,if_false];refine wpAny_bind (wpAny_pure ?_);simp only[FR,List.forIn_nil];refine wpAny_bind (wpAny_bind (wpAny_bind (L2 A _ E s k ?_)));simp only[Bool.not_true,Bool.false_eq_true,if_false];refine wpAny_pure ?_;refine wpAny_pure ?_
 refine wpAny_bind (L3 A _ E s k ?_);refine wpAny_bind (wpAny_bind (wpAny_bind (L4 A _ E s k ?_)));simp only[if_true];refine wpAny_pure ?_;refine wpAny_pure ?_;exact wpAny_pure q
section
variable{X:Cx}{e:Expr}{te:L2.St->Hp->VK->XK->Prop}{B:Addr}{j:Nat}{ts:TS}{x n:Str}{b0:Stmt}{K0:List Stmt}{p1 np hp pos:Pos}
theorem AQ{pins:List (Addr×Obj)}{σ:L2.St}{E:XK}{D:iO}{ev:Value}{s1:Shared}{tz:Addr->TS}(hs: ∀ea xe,jI (Cx.inH X ea xe) (b0::K0) (tz ea))(hN:X.N.Nodup)(hj:X.N[j]?= some n)(hl:X.env.kindOf n=some .local)
  (hg:Gl X x) (hm:X.mg x=some (.ref B)) (hst:X.stack=X.env::X.outer) (hfr:X.env.frame=some X.env.locals) (hdb:(x ==("__debug__" :Str))=false)
  (hE: ∀C H',E C none H'->∃c,C= .ref c/\mZ X.K c B/\∀ea,H' ea=none->tz ea {nx:=λ σ' H2=>D.nx (σ'.set j none) H2,rt:=λ_ _=>False} (σ.set j (some (.ref ea))) (bf H' ea (oW ea (.ref c))))
  (z:vg X pins σ E ev s1) :
  wpAny (model X.prog X.w) X.A (noteFrame ev X.env) (λ_ s2=>wpAny (model X.prog X.w) X.A (setFlight ev none) (λ_ s3=>
   wpAny (model X.prog X.w) X.A (handleBy ev X.env [.ExceptHandler (some (.Name x np)) (some n) (b0::K0) hp]) (SP X pins D) X.xe s3) X.xe s2) X.xe s1:=by
 obtain⟨H1,s0,I1,ea,C,t,B',H',rfl,os,bare,un,hok,fl,cov,nea,nH,hq⟩:=z;obtain⟨c,rfl,ck,hq⟩:=hE _ _ hq;have J:ay X pins σ H' s1:=I1.call' (ch:=[]) os un hok bare (λb z=>nomatch z);have stk:=J.stack;have at_: ∀h',gn B' X.stack ea (.ref c) (.ref t) none h'->s1.heap.UpToSlots h'->ay X pins σ (bf H' ea (oW ea (.ref c))) {s1 with heap:=h'}:=λh' fl' up=>by
  obtain⟨U,HK⟩:=zd un hok (λb o q hb hn=>fl'.1.1 b o (cov b o q hb hn)) (λb o q hb=>by
   obtain⟨_,o',e',nf⟩:=stk.mem hb;rw[q] at e';cases e'
   exact up b o q nf) λb hb=>J.stkFree b hb
  obtain⟨ob,hob,hobc⟩:=fl'.there;obtain⟨o2,v2,q1,q2,q3⟩:=fl'.2;rw[hob] at q1
  cases q1;obtain⟨U2,HK2⟩:=Jc (φ:=λh=>∃o,h.get? ea=some o/\o.cls= .ref c/\∃vs,o.data= .fields vs/\vs[2]?= some Value.none) U HK nH nea ⟨ob,hob,hobc,v2,q2,q3⟩ ⟨ob,hob⟩ λh1 h2 ⟨o,e1,e2⟩ k=>⟨o,k o e1,e2⟩
  exact I1.call' (s':={s1 with heap:=h'}) (ch:=[]) os U2 HK2 bare (λb z=>nomatch z)
 have fl1:=fl;rw[hst] at fl1
 refine AO (J.ok.frames.trans (by rw[hst])) hfr fl1 λh4 held up4=>?_
 refine nA (fo':=none) held λh5 fl5 up5=>?_
 rw[<-hst] at fl5;have J5:=at_ h5 fl5 (up4.trans up5)
 obtain⟨ob5,hob5,hobc5⟩:=fl5.there;refine wpAny_handleBy_cons (codeAny_handlers_test (k8 (X:=Cx.inH X ea λ_ _=>False) (ay.inH J5) hg hm ?_ hdb)) ((λq=>nomatch q));refine uP (M:=model X.prog X.w) (h:=h5) J5.kIn hob5 hobc5 ck _ _ _ _ (λ_ _ q=>q) ?_;simp only[if_true];refine codeAny_handlers_suite_as ?_;refine nA (fo':=none) fl5 λh6 fl6 up6=>?_
 have J6:=at_ h6 fl6 ((up4.trans up5).trans up6);refine iN (X:=Cx.inH X ea λ_ _=>False) (v:= .ref ea) (ay.inH J6) hN hj (Or.inl hl) rfl (λs7 I7=>?_) (Or.inr hl);have I7':ay X pins (σ.set j (some (.ref ea))) (bf H' ea (oW ea (.ref c))) s7:=ay.outH J6.ok.hd I7;refine bn (hs ea _ pins s7 _ _ _ (ay.inH I7') (hq ea nH)) λf s8 q8=>?_
 cases f with
 |next=>
  obtain⟨σ8,H8,I8,n8⟩:=q8;have I8':ay X pins σ8 H8 s8:=ay.outH J6.ok.hd I8;obtain⟨m,hn,hl8⟩:=I8'.loc;have hk:(X.env.scope.kind == .class || (X.env.scope.kind == .module&&X.env.locals != X.env.globals))=false:=by rw[I8'.ok.kind];rfl
  refine wpAny_nameGoes_keeps hl hn hk λh9 v hn9 sb9=>?_
  exact⟨_,H8,Cu I8' hN hj hl8 hn hn9 sb9,n8⟩
 |ret u=>obtain⟨_,_,_,_,_,z⟩:=q8;exact False.elim z
 |brk=>obtain⟨_,_,_,z⟩:=q8;exact False.elim z
 |cont=>obtain⟨_,_,_,z⟩:=q8;exact False.elim z
end
structure iB (K:W.Frag) (C:Addr):Prop where
 cl:(W.clsIn K C).isSome=true
 ga:W.findIn K (.ref C) "__getattribute__" =some (some (.builtin "BaseException.__getattribute__"))
 no:W.findIn K (.ref C) "__getattr__" =some none
 ca:W.findIn K (.ref C) "__class__" =some (some (.builtin "object.__class__"))
 ob:W.subIn K (.ref C) (.type "object")=some true
 be:W.subIn K (.ref C) (.type "BaseException")=some true
end L3
namespace L3
open PySem PySem.Spec PySem.Calls PySem.Builtin PySem.Builtin.Getset_descriptor PyProof.Rows L2
section
variable{prog:Program}{w:World}{A:Around}{E:Value->Shared->Prop}{h:Heap}{g:Array GenState}{d:Drawn}{t:Nat}{os:OsState}{a C:Addr}{o:Obj}{K:W.Frag}
theorem rY(hx:h.get? a=some o)(hc:o.cls= .ref C)(M:Model):W.Looks M h (typeOf (.ref a)) (.ref C):=hc▸(W.Looks.ld hx).andThen .now
theorem GU{R:Result->Shared->Prop}{tp:Value}(X:K.In h)(x:iB K C)(hx:h.get? a=some o)(hc:o.cls= .ref C)(hq:R (.ok (.ret (.ref C))) ⟨h,g,d,t,os⟩) :
  codeAny (model prog w) A (.call (.builtin "getset_descriptor.__get__") ⟨[.builtin "object.__class__",.ref a,tp],[]⟩) R ⟨h,g,d,t,os⟩:=by
 have L0:=rY hx hc (model prog w);have L1:=W.looks_subIn (M:=model prog w) X x.ob;refine codeAny_call_builtin W.KF.slot_gs.plain W.KF.entry_gs (W.KF.slot_gs.check _ _ _ _ _ _ _ _ W.KF.type_class (W.KF.args_gs _ _ _) ?_);unfold Builtin.«getset_descriptor.__get__»;unfold descrGet;rw[W.dga_obj];refine wpAny_bind (wpAny_pure ?_);unfold descrGetter descrCheckInstance;unfold descrNameAndClass isInstance
 simp only[W.KF.owner_class]
 repeat lk
 refine⟨Code.quiet_builtin _ (by decide +kernel),codeAny_builtin W.KF.entry_class ?_⟩;unfold Builtin.«object.__class__»;unfold shownTypeOf
 repeat lk
 exact hq
theorem Cv{tk:Tok}{Q:Fin->Shared->Prop}(X:K.In h)(x:iB K C)(hx:h.get? a=some o)(hc:o.cls= .ref C)(hq:Q (.done (.ret (.ref C))) ⟨h,g,d,t,os⟩) :
  wpAny (model prog w) A (Builtin.«object.__getattribute__» ⟨[.ref a,.str "__class__" tk],[]⟩) Q E ⟨h,g,d,t,os⟩:=by
 have L0:=rY hx hc (model prog w);have L1:=W.looks_findIn (M:=model prog w) X x.ca;have f5:=F.typeOf_object_class;have f6:=F.slot_gs_get.lookup;have f7:=F.slot_gs_set.lookup
 repeat (any_goals (first |assumption |with_reducible refine W.Looks.at L0 ?_ |with_reducible refine W.Looks.at L1 ?_ | (with_reducible refine wpAny_loadPart_at hx ?_;rw[hc]) |wp_step))
 refine GU X x hx hc ?_
 repeat (any_goals (first |assumption |wp_step))
theorem Cw{M:Model}{nameV:Value}{Q:Unit->Shared->Prop}(X:K.In h)(x:iB K C)(hx:h.get? a=some o)(hc:o.cls= .ref C)(hq:Q () ⟨h,g,d,t,os⟩) :
  wpAny M A (checkBuiltinCall "BaseException.__getattribute__" ⟨[.ref a,nameV],[]⟩) Q E ⟨h,g,d,t,os⟩:=by
 have k1:builtinKind "BaseException.__getattribute__" =some .slot:=by decide +kernel
 have k2:splitId "BaseException.__getattribute__" =some ("BaseException","__getattribute__"):=by decide +kernel
 have L:W.Looks M h (isInstance (.ref a) (.type "BaseException")) true:=(rY hx hc M).andThen (W.looks_subIn X x.be);have ha:=F.args_bexc_ga (.ref a) nameV;simp only[checkBuiltinCall,k1,k2];refine wpAny_bind (L.at ?_)
 repeat (any_goals (first |assumption |wp_step))
theorem Jd{tk:Tok}{Q:Value->Shared->Prop}(X:K.In h)(x:iB K C)(hx:h.get? a=some o)(hc:o.cls= .ref C)(hq:Q (.ref C) ⟨h,g,d,t,os⟩) :
  wpAny (model prog w) A (getAttrBy (.ref a) (.str "__class__" tk) false false) Q E ⟨h,g,d,t,os⟩:=by
 have L0:=rY hx hc (model prog w);have L1:=W.looks_findIn (M:=model prog w) X x.ga;have L2:=W.looks_findIn (M:=model prog w) X x.no;have f3:=F.attr_ValueError.ga.bind (.ref a);have z0:(false&&onTheHeap (Value.builtin "BaseException.__getattribute__"))=false:=rfl;have z2:(Value.builtin "BaseException.__getattribute__" == Value.builtin "object.__getattribute__")=false:=by decide +kernel
 have z1:(onTheHeap (Value.ref C)&&Value.builtin "BaseException.__getattribute__" == Value.builtin "object.__getattribute__")=false:=by rw[z2];rfl
 repeat (any_goals (first |assumption |with_reducible refine W.Looks.at L0 ?_ |with_reducible refine W.Looks.at L1 ?_ |with_reducible refine W.Looks.at L2 ?_ |wp_step))
 refine codeAny_call_builtin F.attr_ValueError.ga.plain F.entry_bexc_ga (Cw X x hx hc (Cv X x hx hc ?_))
 repeat (any_goals (first |assumption |wp_step))
theorem EH{Q:Option Value->Shared->Prop}(X:K.In h)(x:iB K C)(hx:h.get? a=some o)(hc:o.cls= .ref C)(hq:Q (some (.ref C)) ⟨h,g,d,t+1,os⟩) :
  wpAny (model prog w) A (getAttr? (.ref a) "__class__") Q E ⟨h,g,d,t,os⟩:=by
 unfold getAttr?;unfold getAttrBy?
 repeat (any_goals (first |assumption |with_reducible apply Jd X x hx hc |wp_step))
end
theorem Cy{K:W.Frag}{a C:Addr}(x:iB K C):W.KitX K (.ref a) (.ref C) (λh=>∃o,h.get? a=some o/\o.cls= .ref C) where
 ty:=λM h _ p=>by
  obtain⟨o,h1,h2⟩:=p;exact rY h1 h2 M
 it:=λ_ _ X _=>oX X x.cl
 ne:=λh tp dd its n sl X htp=>by
  refine Ac.mpr λq=>?_
  have e:C=tp:=Value.ref.inj (beq_iff_eq.mp q);subst e;have c:=x.cl;unfold W.clsIn at c
  split at c
  ·rename_i look
   have z:=(X _ _ look).symm.trans htp;cases z
  ·exact nomatch c
 ca:=λ{_ _ _ _ _ s} X p k=>by
  obtain⟨hh,g,d,t,os⟩:=s;obtain⟨o,h1,h2⟩:=p;exact EH X x h1 h2 k
inductive rZ (K:W.Frag) (H:Hp):V->Value->Prop where
 |of {x:V} {t:Value}:oB K H x t->rZ K H x t
 |exc {a C:Addr}:iB K C->H a=some (oW a (.ref C))->rZ K H (.ref a) (.ref C)
section
variable{X:Cx}{pins:List (Addr×Obj)}{σ:L2.St}{H:Hp}{s:Shared}
theorem rZ.kit{x:V}{u t:Value}(I:ay X pins σ H s)(rx:bG x u)(ty:rZ X.K H x t):u≠ .builtin "__main__.__loader__#opaque" /\∃HP:Heap->Prop,W.KitX X.K u t HP/\HP s.heap:=by
 cases ty with
 |of h=>exact oB.kit I rx h
 | @exc a C xk e=>
  cases (show u=Value.ref a from rx);obtain⟨⟨o,e1,e2,_⟩,_,_⟩:=I.hok a _ e;exact⟨λz=>(nomatch z),_,Cy xk,o,e1,e2⟩
end
theorem vJ: ∀{cs:List V} {us:List Value},aZ cs us->(∀c∈cs,kP c=true)->us=cs.map rX
 |_,_,.nil,_=>rfl
 |_,_,.cons r t,h=>by
  rw[gj,<-vJ t (λc m=>h c (.tail _ m)),AN (h _ (.head _)) r]
section
variable{X:Cx}
theorem Cz:gT X (.builtin "isinstance") (λxs H Q=>∃x c t b,xs=[x,c]/\rZ X.K H x t/\kP c=true/\W.kitOne X.K t (rX c)=some b/\Q (.bl b) H):=by
 intro pins s σ H xs us Q I r h;obtain⟨x,c,t,b,rfl,ty,hc,hk,q⟩:=h;cases r with
 |cons r1 r2=>
  cases r2 with
  |cons r2 r3=>
   cases r3;cases AN hc r2;obtain⟨hne,HP,kx,hp⟩:=rZ.kit I r1 ty;exact W.kia_one kx I.kIn hp hk hne λtk=>⟨.bl b,H,I.tok tk,rfl,q⟩
theorem CA:gT X (.builtin "isinstance") (λxs H Q=>∃x p cs t b,xs=[x,.ref p]/\H p=some (.tup cs)/\rZ X.K H x t/\(∀c∈cs,kP c=true)/\W.kitAny X.K t (cs.map rX)=some b/\Q (.bl b) H):=by
 intro pins s σ H xs us Q I r h;obtain⟨x,p,cs,t,b,rfl,hp,ty,hc,hk,q⟩:=h;cases r with
 |cons r1 r2=>
  cases r2 with
  |cons r2 r3=>
   cases r3;cases r2;obtain⟨hne,HP,kx,hpp⟩:=rZ.kit I r1 ty;obtain⟨_,its,rv,o,ho,hcl,n,hd⟩:=I.hok p _ hp;have ei:its=cs.map rX:=vJ rv hc;subst ei;obtain⟨cls,dd,data,sl⟩:=o;dsimp only at hcl hd
   subst hcl hd;exact W.kia_tup kx I.kIn hpp ho hk hne λtk=>⟨.bl b,H,I.tok tk,rfl,q⟩
end
end L3
namespace L3
open PySem PySem.Spec PyProof.Rows L2
structure bE (K:W.Frag) (x:Str) (st:Stmt):Prop where
 ex: ∃(f:Addr) (fd:FuncData),c7 K x x st f fd/\W.nsIn K mainGlobals x=some (some (.ref f))
theorem AS{K:W.Frag}{x:Str}{st:Stmt}{f:Addr}{oc:Value}{od an:Option Addr}{osl:Array (Option Value)}{kV doc pm cdv ct:Value}(a:W.nsIn K mainGlobals x=some (some (.ref f)))
  (l:K.lookup f=some ⟨oc,od,.func (W.fnOf x x (iY st) (fX st) (aH st) .none kV doc pm an cdv ct),osl⟩) (c:W.codeIn K cdv x=true) (k:W.keepIn K (.ref f)=true):bE K x st:=
 ⟨f,_,GO l c k,a⟩
theorem bZ{P:Program}{w:World}{K:W.Frag}{mg:Str->Option Value}{base h:Heap}{CX:lv}{k:Nat}{x:Str}{st:Stmt}{ps:List Str}{sp:Sp}(X:K.In h)(G:h.Ns mainGlobals mg)(D:bE K x st)
  (hb: ∀(kV doc pm:Value) (an:Option Addr) (cdv ct:Value) (us:List Value),us.length=ps.length->bindArgs (W.fnOf x x (iY st) (fX st) (aH st) .none kV doc pm an cdv ct) ⟨us,[]⟩ =pure (ps.zip us))
  (ok: ∀(f:Addr) (fd:FuncData),c7 K x x st f fd->b5 P w K mg base CX k f fd ps sp):d8 P w K mg base CX k x ps sp:=by
 obtain⟨f,fd,F,a⟩:=D.ex;exact⟨f,fd,ok f fd F,F.binds hb,F.kp,W.mg_of X G a⟩
def r6(K:W.Frag):Sp:=λvs H Q _=>∃(a:Addr) (ns:List Int),vs=[.ref a]/\cw K H a (ns.map V.int)/\ns.length<=63/\∀H',Q (.bl true) H'
theorem Je{l:W.OpenLaw}{q:Program}{loose:List Str}{XP:(Str->Option Value)->Heap->Prop}{YP:World->Heap->Prop}{d:DefRec}{K:Params->W.Frag}(hn:l.most=some 63)(hdf:d.params.defaults=[])
  (hY: ∀(w:World) (h:Heap),YP w h->(K w.params).In h)
  (F: ∀(w:World) (mg:Str->Option Value) (fa:Addr) (h:Heap),(K w.params).In h->h.Ns mainGlobals mg->mg d.name=some (.ref fa)->
   ∃fd:FuncData,(∀(s:Shared) (u:Value),BindsTo s fd ⟨[u],[]⟩ [("_law_script",u)])/\∀base:Heap,(K w.params).In base->base.Ns mainGlobals mg->b5 l.prog w (K w.params) mg base AM 40 fa fd ["_law_script"] (r6 (K w.params))) :
  W.WalkO q loose XP YP l.row.toRowW d [] (λf vs=>PySem.call f vs):=
 L2.EA (n:=63) (k:=40) (x:= "_law_script") (CX:=λ_=>AM) (sp:=λw=>r6 (K w.params)) hn (by decide) hdf ⟨rfl,by decide,by decide⟩ hY F (λ_ _ a ns hl _ hS=>⟨a,ns,rfl,hS,hl,λ_=>rfl⟩) λ_ _ _ _ _ z=>z
theorem GV{P:Program}{w:World}{K:W.Frag}{mg:Str->Option Value}{h:Heap}{st:Stmt}{fa:Addr}(X:K.In h)(G:h.Ns mainGlobals mg)(hmg:mg "law" =some (.ref fa))(D:bE K "law" st)
  (hb: ∀(kV doc pm:Value) (an:Option Addr) (cdv ct:Value) (u:Value),bindArgs (W.fnOf "law" "law" (iY st) (fX st) (aH st) .none kV doc pm an cdv ct) ⟨[u],[]⟩ =pure [(("_law_script" :Str),u)])
  (ok: ∀(base:Heap),K.In base->base.Ns mainGlobals mg->∀(f:Addr) (fd:FuncData),c7 K "law" "law" st f fd->b5 P w K mg base AM 40 f fd ["_law_script"] (r6 K)) :
  ∃fd:FuncData,(∀(s:Shared) (u:Value),BindsTo s fd ⟨[u],[]⟩ [("_law_script",u)])/\∀base:Heap,K.In base->base.Ns mainGlobals mg->b5 P w K mg base AM 40 fa fd ["_law_script"] (r6 K):=by
 obtain⟨f,fd,F,a⟩:=D.ex;have e:=hmg.symm.trans (W.mg_of X G a);cases e;refine⟨fd,λs u=>?_,λbase kb nb=>ok base kb nb _ fd F⟩;obtain⟨oc,od,kV,doc,pm,an,cdv,ct,osl,rfl,lk,hcd⟩:=F.ex;exact .of_eq (hb kV doc pm an cdv ct u)
def nD(q:Rat):PyData:= .tuple [.int q.num,.int (q.den:Int)]
def Sz(n:Nat)(q:Rat):Prop:=q.num.natAbs<2^n/\q.den<2^n
theorem EI(p q:Rat):PyData.eqv (nD p) (nD q)=decide (p=q):=by
 simp only[nD,PyData.eqv,PyData.eqvAll,Bool.and_true]
 by_cases h:p=q
 ·subst h;simp
 ·rw[a9 h]
  refine Ac.mpr λz=>h ?_
  simp only[ul,beq_iff_eq] at z;exact Rat.ext z.1 (by omega)
theorem pP(q:Rat):hI (nD q)=true:=by simp[hI,hJ,nD]
section
variable{prog:Program}{w:World}{A:Around}{R:Result->Shared->Prop}{s:Shared}
theorem AT{elt target iter:Expr}{ifs:List Expr}{scope:Scope}{pos:Pos}{it acc:Value}{env:Env}(W:Nat->Shared->Prop)
  (l9: ∀n s,W n s->wpAny (model prog w) A (pyNext it) (λr s1=>match r with
   |none=>R (.ok .next) s1
   |some v=>wpAny (model prog w) A (letOwnedTupleGo target it v) (λ_ s2=>wpAny (model prog w) A (assign target env v) (λ_ s3=>
     wpAny (model prog w) A (forIn ifs true λc r=>if r=true then do let ok <-isTrue c env (eval c env);pure (ForInStep.yield ok) else pure (ForInStep.yield r)) (λok s4=>
      if ok=true then wpAny (model prog w) A (eval elt env) (λy s5=>wpAny (model prog w) A (call (.builtin "list.append") [acc,y]) (λ_ s6=>∃m,m<n/\W m s6) (λ_ _=>False) s5) (λ_ _=>False) s4
      else ∃m,m<n/\W m s4) (λ_ _=>False) s3) (λ_ _=>False) s2) (λ_ _=>False) s1) (λ_ _=>False) s)
  (n:Nat) (h:W n s):codeAny (model prog w) A (.compLoop (.ListComp elt [⟨target,iter,ifs,0⟩] scope pos) 0 it acc env) R s:=by
 refine codeAny_loop rfl W (λn s hW=>?_) n h;show wpAny _ A ((compTurn (.ListComp elt [⟨target,iter,ifs,0⟩] scope pos) 0 it acc env).onRaise (λx=>do noteFrame x env;theTreesLotGoes x)) _ _ s;refine wpAny_noted ?_;rw[compTurn_list];refine wpAny_bind (wpAny_standAt (wpAny_bind (wpAny_mono (l9 n s hW) (λr s1 h1=>?_) λ_ _ z=>z.elim)));cases r with
 |none=>exact wpAny_pure h1
 |some v=>
  refine wpAny_bind (wpAny_mono h1 (λ_ s2 h2=>?_) λ_ _ z=>z.elim);refine wpAny_bind (wpAny_mono h2 (λ_ s3 h3=>?_) λ_ _ z=>z.elim);refine wpAny_bind (wpAny_mono h3 (λok s4 h4=>?_) λ_ _ z=>z.elim);cases ok with
  |false=>exact wpAny_pure ⟨rfl,h4⟩
  |true=>
   refine wpAny_bind (wpAny_bind (wpAny_mono h4 (λy s5 h5=>?_) λ_ _ z=>z.elim));exact wpAny_bind (wpAny_mono h5 (λ_ s6 h6=>wpAny_pure (wpAny_pure ⟨rfl,h6⟩)) λ_ _ z=>z.elim)
end
structure GW (X:Cx) (x:Str) (scope:Scope) (cl:List (Str×Addr)):Prop where
 clos:closureFor scope X.env=pure cl
 sub: ∀y c,cl.lookup y=some c->X.env.cells.lookup y=some c
 has: ∀y,(relabel scope X.env).names.lookup y=some .cell\/(relabel scope X.env).names.lookup y=some .free->∃c,cl.lookup y=some c
 nocell: ∀y∈scope.names,y.2≠ .cell
 kind:scope.kind= .function
 names: ∀y∈scope.names,y.2= .local->scope.names.lookup y.1=some .local
 tgt:scope.names.lookup x=some .local
 cellv: ∀y∈X.N,mU (relabel scope X.env) y->((relabel scope X.env).names.lookup y=some .cell\/(relabel scope X.env).names.lookup y=some .free)/\(X.env.scope.names.lookup y=some .cell\/X.env.scope.names.lookup y=some .free)
 nd:x∉X.N
def GX(wi:TI)(tt:TT)(te:TE):TE:=λ σ H Q=>wi σ H λJ H1=>∀acc,H1 acc=none->∃W:Nat->Nat->List V->Hp->Prop,(∃m,W 0 m [] (bf H1 acc (.lst [])))/\
 ∀i m xs H,W i m xs H->H acc=some (.lst xs)/\((J.stop i H/\Q (.ref acc) H)\/(J.go i H/\∀y H',J.yld i H y H'->
  tt (some y::σ) H' λok H2=>if ok=true then te (some y::σ) H2 λv H3=>H3 acc=some (.lst xs)/\xs.length<sizeLine/\∃m',m'<m/\W (i+1) m' (xs++[v]) (bf H3 acc (.lst (xs++[v]))) else ∃m',m'<m/\W (i+1) m' xs H2))
def zg(X:Cx)(ifs:List Expr)(t:TT):Prop:=
 ∀(pins:List (Addr×Obj)) (s:Shared) (σ:L2.St) (H:Hp) (Q:Bool->Hp->Prop),ay X pins σ H s->t σ H Q->
  wpAny (model X.prog X.w) X.A (forIn ifs true λc r=>if r=true then do let ok <-isTrue c X.env (eval c X.env);pure (ForInStep.yield ok) else pure (ForInStep.yield r)) (TP X pins σ Q) X.xe s
def Jf:TT:=λ_ H Q=>Q true H
theorem CB{X:Cx}:zg X [] Jf:=λ_ _ _ H _ I h=>wpAny_tests_nil ⟨H,I,h⟩
section
variable{X:Cx}{x:Str}{scope:Scope}{cl:List (Str×Addr)}{wi:TI}{tt:TT}{te:TE}{elt iter:Expr}{ifs:List Expr}{px pos:Pos}
end
namespace RF
end RF
section
variable{prog:Program}{w:World}{A:Around}{E:Value->Shared->Prop}{s:Shared}
end
section
variable{X:Cx}{tg:Expr}
end
section
variable{prog:Program}{w:World}{A:Around}{E:Value->Shared->Prop}{s:Shared}
end
section
variable{X:Cx}{e st:Expr}{te:TE}{p2 pos:Pos}
end
end L3
namespace L3
open PySem PySem.Spec PyProof.Rows L2
section
variable{X:Cx}{x:Str}{scope:Scope}{cl:List (Str×Addr)}{wi:TI}{tt:TT}{te:TE}{elt iter:Expr}{ifs:List Expr}{px pos:Pos}
end
namespace RF
end RF
section
variable{prog:Program}{w:World}{A:Around}{E:Value->Shared->Prop}{s:Shared}
variable{I:Addr}{fp wr:List Addr}{G:Array GenState->Array GenState->Prop}{n:Nat}{P:Nat->Value->Prop}{St:Nat->Shared->Prop}{R:Result->Shared->Prop}
end
section
variable{X:Cx}
end
end L3
namespace L3
open PySem PySem.Spec PyProof.Rows L2
section
variable{X:Cx}{x x2:Str}{kk:Nat}{py pt:Pos}{scope:Scope}{cl:List (Str×Addr)}{wi:TI}{tt:TT}{te:TE}{elt iter:Expr}{ifs:List Expr}{px pos:Pos}
end
end L3
namespace HT
open PySem PyProof.Rows
section
variable{prog:Program}{w:World}{A:Around}{E:Value->Shared->Prop}{s:Shared}
end
end HT
namespace L3
open PySem PySem.Spec PyProof.Rows L2
variable{X:Cx}
end L3
namespace L3
open PySem PySem.Spec PyProof.Rows L2 PySem.AutoSeq1
theorem AU(l b:Addr)(xs ys:Array Value)(m n:Nat)(s1 s2:Array (Option Value))(hz:xs.size+ys.size<=sizeLine) :
  Meets (Builtin.«list.__add__» ⟨[.ref l,.ref b],[]⟩) (λ_ R s=>s.heap.get? l=some ⟨.type "list",none,.seq xs m,s1⟩/\s.heap.get? b=some ⟨.type "list",none,.seq ys n,s2⟩/\
   R (.ok (.ret (Value.ref s.heap.objs.size))) {s with heap:=s.heap.push {cls:=Value.type "list",data:=Data.seq (xs++ys)},toks:=s.toks}):=by
 refine .of_wp λprog w A R s h=>?_
 obtain⟨ha,hg,hd,ht,ho⟩:=s;obtain⟨h1,h2,h3⟩:=h;have k1:=idx_int;have k2:=AutoSeq1.sub_tuple_tuple;have k3:=AutoSeq1.sub_list_list;have k4:=AutoSeq1.sub_tuple_list;have k5:=AutoSeq1.sub_list_tuple
 wp_walk using wpAny_loadPart' h1,wpAny_loadPart' h2
 exact⟨_,rfl,h3⟩
section
variable{X:Cx}
def DM(K:W.Frag):R2:=λx y H Q=>∃l b xs zs,x= .ref l/\y= .ref b/\cw K H l xs/\cw K H b zs/\xs.length+zs.length<=sizeLine/\∀p,H p=none->Q (.ref p) (bf H p (.lst (xs++zs)))
theorem yg:fS X (binaryOp .Add) (DM X.K):=by
 intro pins s σ H x y v u Q I rx ry h;obtain⟨l,b,xs,zs,rfl,rfl,h1,h2,hz,q⟩:=h;cases rx;cases ry;obtain⟨its,r,⟨⟨c,d,dt,sl⟩,n,e,e1,e2,e3⟩,_⟩:=I.list h1;obtain⟨its2,r2,⟨⟨c',d',dt',sl'⟩,n2,e',e1',e2',e3'⟩,_⟩:=I.list h2;dsimp only at e1 e2 e3 e1' e2' e3'
 subst e1 e2 e3 e1' e2' e3';have l1:=r.length;have l2:=r2.length;refine concat_meets ⟨_,e,rfl⟩ ⟨_,e',rfl⟩ noFill_list_add seq_list_add F.slot_list_add F.entry_list_add (F.args_list_add_2 _ _) (AU l b its.toArray its2.toArray n n2 sl sl' (by rw[gR,gR];omega)) ⟨e,e',?_⟩;have ea:its.toArray++its2.toArray=(its++its2).toArray:=by simp
 rw[ea];exact⟨.ref _,_,I.lnew (t':=s.toks) (r.append r2) (by rw[bQ];omega),rfl,q _ I.fresh⟩
def GY(K:W.Frag)(neg:Bool):R2:=λx y H Q=>∃d ds,DV K H x d/\(DV K H y (.list ds)\/DV K H y (.tuple ds))/\fu d=true/\fu (.list ds)=true/\Q (.bl (if neg then !(ds.any λy=>PyData.eqv y d) else ds.any λy=>PyData.eqv y d)) H
theorem EJ{ds:List PyData}(h:fu (.list ds)=true):PyData.canLayAll0 ds=true/\PyData.depthAll ds<=64:=by
 have h1:=SeqAt.canLay_of_shaped h;have h2:=SeqAt.depth_of_shaped h;simp only[PyData.canLay0] at h1
 simp only[PyData.depth] at h2;exact⟨h1,by omega⟩
theorem GZ(hu:X.A.units+66<cLine):fS X (compareOp .In) (GY X.K false):=by
 intro pins s σ H x y v u Q I rx ry h;obtain⟨d,ds,h1,h2,o1,o2,q⟩:=h;obtain⟨a1,a2⟩:=EJ o2;obtain⟨bs,r1⟩:=DV.reads I h1 (SeqAt.canLay_of_shaped o1) rx;have hm:min (PyData.depthAll ds) d.depth<=64:=iV (Nat.min_le_left _ _) a2
 rcases h2 with h2 |h2
 ·obtain⟨as,r2⟩:=DV.reads I h2 (by simp only[PyData.canLay0];exact a1) ry
  exact SeqAt.in_list_reads r2 r1 a1 (SeqAt.canLay_of_shaped o1) (by omega) ⟨.bl _,H,I,rfl,q⟩
 ·obtain⟨as,r2⟩:=DV.reads I h2 (by simp only[PyData.canLay0];exact a1) ry
  exact SeqAt.in_tuple_reads r2 r1 a1 (SeqAt.canLay_of_shaped o1) (by omega) ⟨.bl _,H,I,rfl,q⟩
end
end L3
namespace L3
open PySem PySem.Spec PyProof.Rows L2
abbrev iZ(X:Cx)(N':List Str)(x:Str)(scope:Scope)(cl:List (Str×Addr))(C:Addr)(s0:Shared)(H0:Hp)(fp:List Addr):Cx:=
 {X with N:=x::N',s₀:=s0,H₀:=H0,env:=compEnvC scope cl C X.env,outer:=X.stack,ex:=fp,fn:=λ_=>false,pn:=[],xe:=λ_ _=>False}
structure tE (X:Cx) (N':List Str) (x:Str) (scope:Scope) (cl:List (Str×Addr)):Prop where
 clos:closureFor scope X.env=pure cl
 sub: ∀y c,cl.lookup y=some c->X.env.cells.lookup y=some c
 has: ∀y,(relabel scope X.env).names.lookup y=some .cell\/(relabel scope X.env).names.lookup y=some .free->∃c,cl.lookup y=some c
 nocell: ∀y∈scope.names,y.2≠ .cell
 kind:scope.kind= .function
 names: ∀y∈scope.names,y.2= .local->scope.names.lookup y.1=some .local
 tgt:scope.names.lookup x=some .local
 cellv: ∀y∈N',mU (relabel scope X.env) y->((relabel scope X.env).names.lookup y=some .cell\/(relabel scope X.env).names.lookup y=some .free)/\(X.env.scope.names.lookup y=some .cell\/X.env.scope.names.lookup y=some .free)
 nd:(x::N').Nodup
 len:N'.length=X.N.length
 at_: ∀(i:Nat) (y:Str),N'[i]?= some y->mU (relabel scope X.env) y->X.N[i]?= some y
section
variable{X:Cx}{N':List Str}{x:Str}{scope:Scope}{cl:List (Str×Addr)}{wi:TI}{tt:TT}{te:TE}{elt iter:Expr}{ifs:List Expr}{px pos:Pos}
theorem EK{use:Option (Value->Sem Unit)}{R:Value->Shared->Prop}{pins:List (Addr×Obj)}{s:Shared}{σ:L2.St}{H:Hp}{Q:VK}{pos':Pos}(ok:tE X N' x scope cl)(hc:X.calm=true)(hi:PI X (.Name x px) iter wi)(ht: ∀C s0 H0 fp,zg (iZ X N' x scope cl C s0 H0 fp) ifs tt)(he: ∀C s0 H0 fp,PE (iZ X N' x scope cl C s0 H0 fp) elt te)
  (hf: ∀v,foldedSetIterable iter X.env v=pure v) (I:ay X pins σ H s) (h:GX wi tt te σ H Q)
  (last: ∀(p C:Addr) (H':Hp) (s':Shared),(∃m,s'.heap.Ns C m)->mz X pins H' C->(∀y c,X.env.cells.lookup y=some c->c≠C)->(∀h',Heap.SameBut C s'.heap h'->ay X pins σ H' {s' with heap:=h'})->Q (.ref p) H'->compPost (model X.prog X.w) X.A X.xe use R (.ref p) C (.ok .next) s') :
  wpAny (model X.prog X.w) X.A (comprehension (.ListComp elt [⟨.Name x px,iter,ifs,0⟩] scope pos) scope X.env pos' (newList []) false (eval iter X.env) use) R X.xe s:=by
 refine wpAny_comprehension_free (use:=use) rfl hf ok.clos ok.kind ok.names (bn (hi pins s σ H _ I h) λv s1 h1=>bn h1 λitv s2 h2=>?_);obtain⟨it,fp,tn,J,H2,e,I2,T,st2,f2,W⟩:=h2;subst e;obtain⟨W,⟨m0,w0⟩,l9⟩:=W s2.heap.objs.size (I2.hok.fresh (cr _));have I3:ay X pins σ (bf H2 s2.heap.objs.size (.lst [])) {s2 with heap:=s2.heap.push {cls:= .type "list",data:= .seq ([]:List Value).toArray}}:=I2.lnew (t':=s2.toks) (its:=[]) .nil (vw _)
 refine wpAny_newObj_type ?_;generalize hs3:({s2 with heap:=s2.heap.push {cls:= .type "list",data:= .seq ([]:List Value).toArray}}:Shared)=s3 at I3
 have hh3:s3.heap=s2.heap.push {cls:= .type "list",data:= .seq ([]:List Value).toArray}:=by rw[<-hs3]
 refine wpAny_newFunctionEnv ok.nocell ((λy hy=>nomatch hy)) (λh4 ns4 sb4=>?_) ok.kind;have fpo: ∀b∈fp,∃o,s2.heap.get? b=some o:=λb hb=>let⟨o,e,_⟩:=T.obj _ _ st2 b hb;⟨o,e⟩
 have old: ∀b o,s3.heap.get? b=some o->h4.get? b=some o:=λb o e=>sb4.extBut b o (j8 (Heap.lt_size e)) (Heap.get?_push_of_some _ e)
 have fplt: ∀b∈fp,b<s3.heap.objs.size:=λb hb=>by
  obtain⟨o,e⟩:=fpo b hb;rw[hh3,Heap.size_push];exact Nat.lt_succ_of_lt (Heap.lt_size e)
 have fp3: ∀b∈fp,mz X pins (bf H2 s2.heap.objs.size (.lst [])) b:=λb hb=>by
  obtain⟨o,e⟩:=fpo b hb;refine⟨?_,(f2 b hb).2⟩;rw[aY (j8 (Heap.lt_size e))];exact(f2 b hb).1
 have Cnew: ∀b o,s3.heap.get? b=some o->b≠s3.heap.objs.size:=λb o e=>j8 (Heap.lt_size e)
 have celln: ∀y c,X.env.cells.lookup y=some c->c≠s3.heap.objs.size:=λy c e=>by
  obtain⟨v,o,ho,_⟩:=I3.cell y c e;exact Cnew c o ho
 have okC:(iZ X N' x scope cl s3.heap.objs.size s3 (bf H2 s2.heap.objs.size (.lst [])) fp).Ok:=by
  refine⟨I3.ok.mod,ok.kind,I3.ok.glob,I3.ok.blt,cr _,λy z c e1 e2=>I3.ok.inj y z c (ok.sub y c e1) (ok.sub z c e2),λy hy=>ok.has y hy,(λy c e=>nomatch e),I3.ok.hd,I3.ok.frames,.inl rfl,λb hb=>?_,I3.bs,iV I3.ok.bsz I3.sz,λb o e hb=>?_,λb hb hf=>?_,I3.stack,I3.stkFree⟩
  ·exact⟨j8 (fplt b hb),λy c e=>(fp3 b hb).2.2.2.2.1 y c (ok.sub y c e)⟩
  ·rcases(fp3 b hb).2.2.2.1 with z |z
   ·exact I3.ok.noex b o e z
   ·exact absurd (gG (Heap.lt_size e) (iV I3.ok.bsz z)) (xY _)
  ·rcases fq.mp (I3.stkSub b hf) with z |z
   ·exact(fp3 b hb).2.1 z
   ·exact(fp3 b hb).2.2.1 z
 obtain⟨m3,hn3,hl3⟩:=I3.loc;have I4:ay (iZ X N' x scope cl s3.heap.objs.size s3 (bf H2 s2.heap.objs.size (.lst [])) fp) [] (none::σ) (bf H2 s2.heap.objs.size (.lst [])) {s3 with heap:=h4,toks:=s3.toks+0}:=by
  refine⟨okC,rfl,I3.bare,Un.kept old,⟨_,ns4,λi y v e1 e2 e3=>?_⟩,λy c e=>?_,I3.hok.fresh (cr _),λy c e=>I3.freeC y c (ok.sub y c e),(λp hp=>nomatch hp),I3.hok.kept old,?_⟩
  ·cases i with
   |zero=>exact nomatch e2
   |succ i=>
    have e0':N'[i]?= some y:=by simpa using e1
    have e1':X.N[i]?= some y:=ok.at_ i y e0' e3;have e2':σ[i]?= some (some v):=by simpa using e2
    obtain⟨kc,ko⟩:=ok.cellv y (lm e0') e3;have vis:mU X.env.scope y:=ko.elim (λz=> .inr (.inl z)) λz=> .inr (.inr z)
    obtain⟨u,r,l⟩:=hl3 i y v e1' e2' vis;refine⟨u,r,.inr ⟨kc,?_⟩⟩;obtain⟨c,ec⟩:=ok.has y kc
    rcases l with⟨k,_⟩ | ⟨_,c',ec',z⟩
    ·have k':X.env.scope.names.lookup y=some .local:=k
     rcases ko with ko |ko
     ·rw[k'] at ko;cases ko
     ·rw[k'] at ko;cases ko
    ·have e4:=ok.sub y c ec
     rw[ec'] at e4;cases e4
     obtain⟨o,e,d⟩:=z;exact⟨c,ec,o,old _ o e,d⟩
  ·obtain⟨v,o,ho,hd⟩:=I3.cell y c (ok.sub y c e)
   exact⟨v,o,old c o ho,hd⟩
  ·show(none::σ).length=(x::N').length
   rw[c5,c5,I3.len,ok.len]
 have st4:tn 0 h4:=T.keep _ _ _ st2 λb hb o e=>old b o (by rw[hh3];exact Heap.get?_push_of_some _ e)
 have fin: ∀{σ':L2.St} {H':Hp} {s':Shared},ay (iZ X N' x scope cl s3.heap.objs.size s3 (bf H2 s2.heap.objs.size (.lst [])) fp) [] σ' H' s'->Q (.ref s2.heap.objs.size) H'->
   compPost (model X.prog X.w) X.A X.xe use R (.ref s2.heap.objs.size) s3.heap.objs.size (.ok .next) s':=λ{σ' H' s'} J q=>by
  obtain⟨m,hn,_⟩:=J.loc;have IO: ∀h',Heap.SameBut s3.heap.objs.size s'.heap h'->ay X pins σ H' {s' with heap:=h'}:=λh' sb=>by
   have hC:H' s3.heap.objs.size=none:=J.free;have un:Un (frs X.stack) fp (bf H2 s2.heap.objs.size (.lst [])) H' s3.heap h':=by
    refine⟨λb o e z hb hx=>?_,λb o e z hb hx=>?_,J.base.free,λb o e hx=>?_,J.base.tups,J.base.frzs,J.base.tbls⟩
    ·exact(sb.2 b (Cnew b o e)).trans (J.base.keep b o e z hb hx)
    ·obtain⟨sl,e1⟩:=J.base.slot b o e z hb hx
     exact⟨sl,(sb.2 b (Cnew b o e)).trans e1⟩
    ·obtain⟨o',e1⟩:=J.base.there b o e hx
     exact⟨o',(sb.2 b (Cnew b o e)).trans e1⟩
   have hok:eW X.prog X.w H' h':=λb ob e=>by
    refine(J.hok b ob e).stay (λc w' hc q=>(sb.2 c ?_).trans q) (λ_ q=>q) λ_ _ q=>q
    intro z;subst z
    rcases hc with hc |hc
    ·rw[<-hc,hC] at e;cases e
    ·rw[hC] at hc;cases hc
   refine I3.call' (s':={s' with heap:=h'}) (ch:=fp) J.os un hok J.bare λb hb=>?_
   obtain⟨_,h2,_,h4,h5,h6⟩:=fp3 b hb;exact⟨h4,h2,h5,h6⟩
  exact last _ _ H' s' ⟨m,hn⟩ (I3.fpOk (cr _) J.free) celln IO q
 have stat: ∀{H':Hp},(∀b∈fp,H' b=none)->∀b∈fp,mz (iZ X N' x scope cl s3.heap.objs.size s3 (bf H2 s2.heap.objs.size (.lst [])) fp) [] H' b:=λhn b hb=>
  ⟨hn b hb,(okC.exf b hb).1,okC.exfs b hb,.inl hb,(okC.exf b hb).2,(λp hp=>nomatch hp)⟩
 have loop:codeAny (model X.prog X.w) X.A (.compLoop (.ListComp elt [⟨.Name x px,iter,ifs,0⟩] scope pos) 0 (.ref it) (.ref s2.heap.objs.size) (compEnvC scope cl s3.heap.objs.size X.env))
   (compPost (model X.prog X.w) X.A X.xe use R (.ref s2.heap.objs.size) s3.heap.objs.size) {s3 with heap:=h4,toks:=s3.toks+0}:=by
  refine AT (λn s'=>∃i xs t H',ay (iZ X N' x scope cl s3.heap.objs.size s3 (bf H2 s2.heap.objs.size (.lst [])) fp) [] (t::σ) H' s'/\tn i s'.heap/\(∀b∈fp,H' b=none)/\W i n xs H') ?_ m0 ⟨0,[],none,_,I4,st4,λb hb=>(fp3 b hb).1,w0⟩;rintro n s5 ⟨i,xs,t,H5,I5,st5,fr5,w5⟩;obtain⟨hacc,alt⟩:=l9 i n xs H5 w5
  rcases alt with⟨stop,qn⟩ | ⟨go,step⟩
  ·refine bn (T.done (iZ X N' x scope cl s3.heap.objs.size s3 (bf H2 s2.heap.objs.size (.lst [])) fp) rfl rfl rfl hc i [] s5 _ H5 _ I5 (stat fr5) st5 stop) λr s6 z=>?_
   obtain⟨hr,I6⟩:=z;subst hr;exact fin I6 qn
  ·refine bn (T.item (iZ X N' x scope cl s3.heap.objs.size s3 (bf H2 s2.heap.objs.size (.lst [])) fp) rfl rfl rfl hc i [] s5 _ H5 _ I5 (stat fr5) st5 go) λr s6 z=>?_
   obtain⟨u,hr,h6⟩:=z;subst hr;refine bn h6 λ_ s7 z=>?_
   obtain⟨y,H7,I7,r7,y7,st7,fr7⟩:=z;have I7':=I7.pinned (stat fr7) (T.obj _ _ st7);have back: ∀{t8:Option V} {H8:Hp} {s8:Shared},ay (iZ X N' x scope cl s3.heap.objs.size s3 (bf H2 s2.heap.objs.size (.lst [])) fp) ([]++mX fp s7.heap) (t8::σ) H8 s8->
     ay (iZ X N' x scope cl s3.heap.objs.size s3 (bf H2 s2.heap.objs.size (.lst [])) fp) [] (t8::σ) H8 s8/\tn (i+1) s8.heap/\∀b∈fp,H8 b=none:=λ{t8 H8 s8} I8=>by
    refine⟨I8.unpinned,T.keep _ _ _ st7 λb hb o e=>(I8.pin (b,o) (j9 _ (j9 _ (ir hb e)))).1,λb hb=>?_⟩;obtain⟨o,e,d⟩:=T.obj _ _ st7 b hb;exact(I8.pin (b,o) (j9 _ (j9 _ (ir hb e)))).2.1
   refine bn (sX (X:=iZ X N' x scope cl s3.heap.objs.size s3 (bf H2 s2.heap.objs.size (.lst [])) fp) (i:=0) ok.nd rfl (Or.inl (lookup_relabel_local ok.tgt)) (.inr (lookup_relabel_local ok.tgt))
    _ s7 _ H7 y u (λ σ8 H8=>σ8=some y::σ/\H8=H7) I7' r7 ⟨rfl,rfl⟩) λ_ s8 z=>?_
   obtain⟨σ8,H8,I8,e8,e8'⟩:=z;subst e8 e8';refine bn (ht s3.heap.objs.size s3 (bf H2 s2.heap.objs.size (.lst [])) fp _ s8 _ _ _ I8 (step y _ y7)) λb9 s9 z=>?_
   obtain⟨H9,I9,q9⟩:=z;cases b9 with
   |false=>
    obtain⟨m',hm,w9⟩:=(aK qr).mp q9;obtain⟨J9,st9,fr9⟩:=back I9;exact⟨m',hm,i+1,xs,_,H9,J9,st9,fr9,w9⟩
   |true=>
    refine bn (he s3.heap.objs.size s3 (bf H2 s2.heap.objs.size (.lst [])) fp _ s9 _ H9 _ I9 ((aD rfl).mp q9)) λyv sa z=>?_
    obtain⟨va,Ha,Ia,ra,ea,za,m',hm,wa⟩:=z;refine bn (mm (X:=iZ X N' x scope cl s3.heap.objs.size s3 (bf H2 s2.heap.objs.size (.lst [])) fp) _ sa _ Ha (.ref s2.heap.objs.size) [va] (.ref s2.heap.objs.size) [yv]
     (λ_ Hb=>W (i+1) m' (xs++[va]) Hb) Ia rfl (.cons ra .nil) ⟨_,xs,va,rfl,rfl,ea,za,wa⟩) λ_ sb z=>?_
    obtain⟨_,Hb,Ib,_,wb⟩:=z;obtain⟨Jb,stb,frb⟩:=back Ib;exact⟨m',hm,i+1,_,_,Hb,Jb,stb,frb,wb⟩
 subst hs3;exact codeAny_compStart_list loop (T.self _ 0 _ _ _ st4 loop)
theorem G0(ok:tE X N' x scope cl)(hc:X.calm=true)(hi:PI X (.Name x px) iter wi)(ht: ∀C s0 H0 fp,zg (iZ X N' x scope cl C s0 H0 fp) ifs tt)(he: ∀C s0 H0 fp,PE (iZ X N' x scope cl C s0 H0 fp) elt te)
  (hf: ∀v,foldedSetIterable iter X.env v=pure v:=by intro _;rfl):PE X (.ListComp elt [⟨.Name x px,iter,ifs,0⟩] scope pos) (GX wi tt te):=by
 intro pins s σ H Q I h;rw[eval_ListComp];exact EK ok hc hi ht he hf I h λp C H' s' ⟨m,hn⟩ _ _ IO q=>⟨m,hn,λh' sb=>⟨.ref p,H',IO h' sb,rfl,q⟩⟩
end
section
variable{X:Cx}
end
section
variable{X:Cx}{N':List Str}{x:Str}{scope:Scope}{cl:List (Str×Addr)}{wi:TI}{tt:TT}{te:TE}{elt iter:Expr}{ifs:List Expr}{px pos:Pos}
end
section
variable{X:Cx}
theorem yh: ∀{bs:List Bool} {us:List Value},aZ (bs.map V.bl) us->∀(i:Nat) (v:Value),us[i]?= some v->∃b,bs[i]?= some b/\v= .bool b
 | [],_,h=>λi v e=>by cases h;simp at e
 |b::bs,_,h=>λi v e=>by
  cases h with
  |cons r t=>
   cases i with
   |zero=>simp at e;subst e;cases r;exact⟨b,rfl,rfl⟩
   |succ i=>simpa using yh t i v (by simpa using e)
theorem CC{bs:List Bool}{its:List Value}(d:Bool)(rv:aZ (bs.map V.bl) its):TruthOf X.prog X.w X.A.in1 (λi v=>its.toArray[i]?= some v) (λi=>(bs[i]?).getD d):=by
 intro j u t R F hu hR;obtain⟨b,eb,rfl⟩:=yh rv j u (by simpa using hu);dsimp only at hR
 rw[eb] at hR;exact wpAny_truthy_bool hR
theorem xD(hc:X.calm=true):gT X (.builtin "all") (λxs H Q=>∃(p:Addr) (bs:List Bool),xs=[.ref p]/\cw X.K H p (bs.map V.bl)/\Q (.bl (bs.all id)) H):=by
 rintro pins s σ H xs us Q I r ⟨p,bs,rfl,hq,q⟩;obtain⟨u,rfl,rx⟩:=kO r;cases rx;obtain⟨its,rv,pl,_⟩:=I.list hq;have low:p<s.heap.objs.size:=let⟨_,e,_⟩:=pl.isList;Heap.lt_size e
 have ends:((List.range its.toArray.size).all λi=>(bs[i]?).getD true)=bs.all id:=by
  rw[gR,<-rv.length,cZ];exact LSm.range_all bs
 exact call_all_walk (wpAny_pyIter_list pl.isList ⟨_,_,_,_,_,_,_,rfl,Walks.list (A:=X.A.in1) (I.ok.hd hc) s.heap.objs.size p (j8 low) its.toArray,⟨⟨_,Heap.get?_push_size _ rfl,rfl,rfl⟩,pl.isList.push _⟩,CC true rv,
  λ_ _ hk=>by rw[ends];exact⟨.bl _,H,I.kept (LSm.kept_iter hk),rfl,q⟩⟩)
end
end L3
namespace L2
open PySem PySem.Spec PyProof.Rows
end L2
namespace L3
open PySem PySem.Spec PyProof.Rows L2
end L3
namespace L2
open PySem PySem.Spec PyProof.Rows
end L2
namespace L3
open PySem PySem.Spec PyProof.Rows L2
section
variable{X:Cx}
theorem vK: ∀{ys:List Str} {us:List Value},aZ (ys.map V.str) us->StrsAre us ys
 | [],_,h=>by cases h;exact .nil
 |y::ys,_,h=>by
  cases h with
  |cons r t=>obtain⟨tk,rfl⟩:=r;exact .cons y tk (vK t)
theorem EL:vF X "str.join" (λx vs H Q=>∃sep a ys,x= .str sep/\vs=[.ref a]/\cw X.K H a (ys.map V.str)/\(ys.map (λy:Str=>y.length)).sum+ys.length*sep.length<=16777216/\Q (.str (Txt.join sep ys)) H):=by
 intro pins s σ H x vs v us Q I rx rv h;obtain⟨sep,a,ys,rfl,rfl,hq,hz,q⟩:=h;obtain⟨t,rfl⟩:=rx;obtain⟨u,rfl,ru⟩:=rv.one;cases ru;obtain⟨its,rv,pl,_⟩:=I.list hq;exact join_list pl.isList (by simpa using vK rv) hz (λt' k=>⟨.str _,H,I.tok _,⟨_,rfl⟩,q⟩)
theorem AV:vF X "str.startswith" (λx vs H Q=>∃a b,x= .str a/\vs=[.str b]/\Q (.bl (decide (0+b.length<=a.length)&&Builtin.Str.subAt a b 0)) H):=by
 intro pins s σ H x vs v us Q I rx rv h;obtain⟨a,b,rfl,rfl,q⟩:=h;obtain⟨t,rfl⟩:=rx;obtain⟨u,rfl,t',rfl⟩:=rv.one;exact call_meets PySem.F.slot_str_startswith (typeIs_str s a t) PySem.F.entry_str_startswith (PySem.F.args_str_startswith_2 _ _) (gives_str_startswith a b t t').meets ⟨.bl _,H,I,rfl,q⟩
theorem kh:AI X (λx lo hi H Q=>∃a i,x= .str a/\lo=some i/\hi=none/\(Txt.slice a (some i) none).length<=sizeLine/\Q (.str (Txt.slice a (some i) none)) H):=by
 intro pins s σ H x v vl vu lo hi sl Q I rx hs pl pu h;obtain⟨a,i,rfl,rfl,rfl,hz,q⟩:=h;obtain⟨t,rfl⟩:=rx;cases pl with
 |int i ti=>
  cases pu;refine⟨"str",_,slot_str_getitem.lookup,typeIs_str s a t,?_⟩;refine wpAny_getItem_str_slice (l:=some (i,ti)) (u:=none) (st:=none) hs rfl ?_;have e1:sliceMade a t (some (i,ti)) none none=if((1:Int) == 1&& (Builtin.Str.strSliceIndices (some i) none 1 a.length).length == a.length)=true then Made.val (Value.str a t) else Made.str {cps:=(List.filterMap (λx_1=>a.cps[x_1]?) (Builtin.Str.strSliceIndices (some i) none 1 a.length)).toArray}:=rfl
  have e2:Txt.slice a (some i) none=if((1:Int) == 1&& (Builtin.Str.strSliceIndices (some i) none 1 a.length).length == a.length)=true then a else{cps:=(List.filterMap (λx_1=>a.cps[x_1]?) (Builtin.Str.strSliceIndices (some i) none 1 a.length)).toArray}:=rfl
  rw[e1]
  by_cases c:((1:Int) == 1&& (Builtin.Str.strSliceIndices (some i) none 1 a.length).length == a.length)=true
  ·rw[e2,aD c] at q
   rw[aD c];exact⟨.str _,H,I,⟨_,rfl⟩,q⟩
  ·rw[e2,aK c] at q hz
   rw[aK c];exact⟨hz,.str _,H,I.tok _,⟨_,rfl⟩,q⟩
theorem vL:vF X "str.partition" (λx vs H Q=>∃a b,x= .str a/\vs=[.str b]/\(b.length == 0)=false/\a.length<=sizeLine/\∀p,H p=none->Q (.ref p) (bf H p (.tup [.str (Txt.partition a b).1,.str (Txt.partition a b).2.1,.str (Txt.partition a b).2.2]))):=by
 intro pins s σ H x vs v us Q I rx rv h;obtain⟨a,b,rfl,rfl,h1,h2,q⟩:=h;obtain⟨t,rfl⟩:=rx;obtain⟨u,rfl,t',rfl⟩:=rv.one;refine call_meets PySem.F.slot_str_partition (typeIs_str s a t) PySem.F.entry_str_partition (PySem.F.args_str_partition_2 _ _) (meets_str_partition a b t t' h1 h2) ?_;have q':=q s.heap.objs.size (I.hok.fresh (cr _));unfold Txt.partition at q'
 have z3:(3:Nat)<=sizeLine:=by rw[sizeLine_eq];decide
 show EP X pins σ Q (.ref s.heap.objs.size) _;cases e:Builtin.Str.occurrences a b 0 a.length 1 with
 |nil=>
  rw[e] at q';exact⟨.ref s.heap.objs.size,_,I.laid (o:= .tup [.str a,.str Str.empty,.str Str.empty]) (λb ob q=>Heap.get?_push_of_some _ q) (cr _) ⟨z3,_,.cons ⟨_,rfl⟩ (.cons ⟨_,rfl⟩ (.cons ⟨_,rfl⟩ .nil)),IsTup.new _ _⟩,rfl,q'⟩
 |cons i r=>
  rw[e] at q';exact⟨.ref s.heap.objs.size,_,I.laid (o:= .tup [.str (Builtin.Str.strSub a 0 i),.str b,.str (Builtin.Str.strSub a (i+b.length) a.length)]) (λb ob q=>Heap.get?_push_of_some _ q) (cr _) ⟨z3,_,.cons ⟨_,rfl⟩ (.cons ⟨_,rfl⟩ (.cons ⟨_,rfl⟩ .nil)),IsTup.new _ _⟩,rfl,q'⟩
theorem oC:gT X (.type "int") (λxs H Q=>∃z n,xs=[.str z]/\intText? z=some n/\z.length<=640/\Q (.int n) H):=by
 intro pins s σ H xs us Q I r h;obtain⟨z,n,rfl,h1,h2,q⟩:=h;obtain⟨u,rfl,t,rfl⟩:=kO r;exact W.KIN.call_text h1 h2 ⟨.int n,H,I.tok _,⟨_,rfl⟩,q⟩
def G1(z:Str):It:=⟨λi _=>i<z.cps.size,λi H x H'=>H'=H/\∃c,z.cps[i]?= some c/\x= .str ⟨#[c]⟩,λi _=>z.cps.size<=i⟩
theorem CD{P:Program}{w:World}{K:W.Frag}{tg:Expr}(z:Str)(t:Tok)(it:Addr):yY P w K tg (G1 z) [it] it (λi h=>h.IsStrIter it "str_ascii_iterator" z t i) where
 mem:=by simp
 obj:=λi h st b hb=>by
  have e:b=it:=by simpa using hb
  subst e;obtain⟨o,e,c,d⟩:=st;exact⟨o,e,λv z=>by rw[d] at z;cases z⟩
 keep:=λi h h' st k=>by
  obtain⟨o,e,c,d⟩:=st;exact⟨o,k it (by simp) o e,c,d⟩
 item:=by
  intro X hP hw hK hc i pins s σ H E I hf st hg;subst hP hw hK;have hg':i<z.cps.size:=hg;obtain⟨f0,f1,f2,f3,f4,f5⟩:=hf it (by simp);refine wpAny_pyNext_ascii_item (c:=z.cps[i]) st (Array.getElem?_eq_getElem hg') λh' st' sb=>?_
  have I1:ay X pins σ H {s with heap:=h',toks:=s.toks+1}:=I.turned (t':=s.toks+1) (λb o hb e=>(sb.2 b hb).trans e) f0 f1 f3 f4 f5;obtain⟨o,e,c,d⟩:=id st';exact⟨_,rfl,yZ (s:={s with heap:=h',toks:=s.toks+1}) e c d (by decide) ⟨.str ⟨#[z.cps[i]]⟩,H,I1,⟨_,rfl⟩,⟨rfl,_,Array.getElem?_eq_getElem hg',rfl⟩,st',λb hb=>(hf b hb).1⟩⟩
 done:=by
  intro X hP hw hK hc i pins s σ H E I hf st hg;subst hP hw hK;have hg':z.cps.size<=i:=hg;obtain⟨f0,f1,f2,f3,f4,f5⟩:=hf it (by simp);exact wpAny_pyNext_ascii_end (I.ok.hd hc) st (Array.getElem?_eq_none hg') λh' eb=>⟨rfl,I.turned (t':=s.toks) (λb o hb e=>eb b o hb e) f0 f1 f3 f4 f5⟩
 self:=λ_ _ _ _ _ st h=>wpAny_pyIter_striter_ascii st h
def Kj(tl:TE):TI:=λ σ H R=>tl σ H λx H1=>∃z,x= .str z/\(z.cps.all λc=>decide (c<128))=true/\R (G1 z) H1
theorem G2{tg l:Expr}{tl:TE}(hl:PE X l tl):PI X tg l (Kj tl):=by
 intro pins s σ H R I h;refine bn (hl pins s σ H _ I h) λv s1 ⟨x,H1,I1,r1,q1⟩=>?_
 obtain⟨z,rfl,ha,q⟩:=q1;obtain⟨t,rfl⟩:=r1;refine wpAny_pyIter_ascii ha ?_;refine⟨s1.heap.objs.size,[s1.heap.objs.size],_,_,H1,rfl,I1.kept (t':=s1.toks) λb o e=>Heap.get?_push_of_some _ e,CD z t _,⟨_,Heap.get?_push_size _ rfl,rfl,rfl⟩,λb hb=>?_,q⟩;have e:b=s1.heap.objs.size:=by simpa using hb
 subst e;exact I1.fpOk (cr _) (I1.hok.fresh (cr _))
end
section
variable{X:Cx}{tg:Expr}
end
section
variable{X:Cx}{x x2 x3:Str}{kk:Nat}{py pz pt:Pos}{scope:Scope}{cl:List (Str×Addr)}{wi:TI}{tt:TT}{te:TE}{elt iter:Expr}{ifs:List Expr}{px pos:Pos}
end
section
variable{X:Cx}
theorem uB: ∀(k:Nat) (l:List Str),aZ (l.map V.str) (strsFrom k l)
 |_,[]=> .nil
 |k,x::r=> .cons ⟨k,rfl⟩ (uB (k+1) r)
theorem vM:vF X "str.split" (λx vs H Q=>∃a b,x= .str a/\vs=[.str b]/\(b.length == 0)=false/\a.length+2<=sizeLine/\∀p,H p=none->Q (.ref p) (bf H p (.lst ((Txt.split a b).map V.str)))):=by
 intro pins s σ H x vs v us Q I rx rv h;obtain⟨a,b,rfl,rfl,hb,hz,q⟩:=h;obtain⟨t,rfl⟩:=rx;obtain⟨u,rfl,t',rfl⟩:=rv.one;have q':=q s.heap.objs.size (I.hok.fresh (cr _));have hn:(Txt.split a b).length<=sizeLine:=iV (split_le a b) hz;have z1:(1:Nat)<=sizeLine:=by rw[sizeLine_eq];decide
 have self:Txt.split a b=[a]->EP X pins σ Q (.ref s.heap.objs.size) {s with heap:=s.heap.push {cls:= .type "list",data:= .seq [Value.str a t].toArray}}:=λe=>by
  rw[e] at q';exact⟨.ref s.heap.objs.size,_,I.lnew (t':=s.toks) (ys:=[.str a]) (its:=[.str a t]) (.cons ⟨t,rfl⟩ .nil) z1,rfl,q'⟩
 cases h1:(decide (a.length<b.length) || decide (Builtin.Str.strKind a<Builtin.Str.strKind b)) with
 |false=>
  cases hf:(Builtin.Str.occurrences a b 0 a.length (a.length+1)).isEmpty with
  |false=>
   have e:Txt.split a b=Builtin.Str.partsBetween a (Builtin.Str.occurrences a b 0 a.length (a.length+1)) b.length:=(aK (ne_true_of_eq_false h1)).trans (aK (ne_true_of_eq_false hf));rw[e] at q' hn
   exact call_meets Ad (typeIs_str s a t) FS (FT _ _) (meets_str_split_sep a b t t' h1 hb hf (by omega) hn) ⟨.ref s.heap.objs.size,_,I.lnew (uB _ _) (by rw[cZ];exact hn),rfl,q'⟩
  |true=>exact call_meets Ad (typeIs_str s a t) FS (FT _ _) (meets_str_split_not_found a b t t' h1 hb hf) (self ((aK (ne_true_of_eq_false h1)).trans (aD hf)))
 |true=>exact call_meets Ad (typeIs_str s a t) FS (FT _ _) (meets_str_split_cannot_occur a b t t' h1) (self (aD h1))
end
section
variable{P:Program}{w:World}{K:W.Frag}{mg:Str->Option Value}{base:Heap}{N:List Str}{qual:Str}{scope:Scope}{f:Addr}{cd:Value}{A:Around}{outer:List Env}{s:Shared}{H:Hp}{E:XK}
end
section
variable{prog:Program}{w:World}{A:Around}{R:Result->Shared->Prop}{s:Shared}
end
section
variable{X:Cx}{N':List Str}{x:Str}{scope:Scope}{cl:List (Str×Addr)}{wi:TI}{tt:TT}{te:TE}{elt iter:Expr}{ifs:List Expr}{px pos:Pos}
end
section
variable{prog:Program}{w:World}{A:Around}{E:Value->Shared->Prop}{s:Shared}
end
section
variable{prog:Program}{w:World}{A:Around}{R:Result->Shared->Prop}
end
section
variable{X:Cx}
end
end L3
namespace L2
open PySem PySem.Spec PyProof.Rows
section
variable{κ:Type} [DecidableEq κ]
def oY(kvs:List (κ×V))(k:κ)(v:V):List (κ×V):=
 if(kvs.any λkv=>decide (kv.1=k))=true then kvs.map (λkv=>if kv.1=k then(kv.1,v) else kv) else kvs++[(k,v)]
theorem xE(kvs:List (κ×V))(k:κ)(v:V):(oY kvs k v).length<=kvs.length+1:=by
 unfold oY;split
 ·rw[cZ];omega
 ·rw[bQ,c5,vx];omega
theorem KV.any{kvs:List (κ×V)}{vs:List (κ×Value)}(r:KV kvs vs)(k:κ):(kvs.any λkv=>decide (kv.1=k))=vs.any λkv=>decide (kv.1=k):=by
 unfold KV at r
 induction r with
 |nil=>rfl
 |cons h t ih=>rw[FU,FU,ih,h.1]
theorem KV.repl{kvs:List (κ×V)}{vs:List (κ×Value)}(r:KV kvs vs)(k:κ){y:V}{u:Value}(ry:bG y u) :
  KV (kvs.map λkv=>if kv.1=k then(kv.1,y) else kv) (vs.map λkv=>if kv.1=k then(kv.1,u) else kv):=by
 unfold KV at r⊢
 induction r with
 |nil=>exact .nil
 | @cons p q ps qs h t ih=>
  rw[gj,gj];refine .cons ?_ ih;obtain⟨h1,h2⟩:=h
  by_cases e:p.1=k
  ·rw[aD e,aD (h1.symm.trans e)];exact⟨h1,ry⟩
  ·rw[aK e,aK (λz=>e (h1.trans z))];exact⟨h1,h2⟩
theorem KV.put{kvs:List (κ×V)}{vs:List (κ×Value)}(r:KV kvs vs)(k:κ){y:V}{u:Value}(ry:bG y u):KV (oY kvs k y) (stored vs k u):=by
 unfold oY stored;rw[r.any k]
 by_cases e:(vs.any λkv=>decide (kv.1=k))=true
 ·rw[aD e,aD e];exact r.repl k ry
 ·rw[aK e,aK e];exact Paired.snoc r ⟨rfl,ry⟩
end
theorem Jg{P:Program}{w:World}{k:eh}{u:Value}(r:bG (kV k) u):(fz P w).is k u=true:=by
 cases k with
 |inl i=>obtain⟨t,e⟩:=(show ∃t,u=Value.int i t from r);subst e;exact xx P w i t
 |inr x=>obtain⟨t,e⟩:=(show ∃t,u=Value.str x t from r);subst e;exact xy P w x t
section
variable{P:Program}{w:World}{H:Hp}{h:Heap}{a:Addr}
theorem Jh{u:HO}(ok:eW P w H h)(e:Rd H a u):eT P w H h a u:=e.ok ok
theorem Ji{kvs:List (eh×V)}(ok:eW P w H h)(e:Rd H a (.dK kvs)):kvs.length<=sizeLine/\(a == sysModules)=false/\∃vs,KV kvs vs/\h.DictOf (fz P w) a vs:=
 show eT P w H h a (.dK kvs) from Jh ok e
theorem Jj{kvs:List (eh×V)}(ok:eW P w H h)(e:H a=some (.dK kvs)):kvs.length<=sizeLine/\(a == sysModules)=false/\∃vs,KV kvs vs/\h.DictOf (fz P w) a vs:=Ji ok (.inl e)
end
section
variable{X:Cx}{pins:List (Addr×Obj)}{σ:St}{H:Hp}{s:Shared}{a:Addr}{y v:V}{u r:Value}{o:Option V}{A:Around}{E:Value->Shared->Prop}
theorem ay.big(I:ay X pins σ H s):sysModules<s.heap.objs.size:=by
 have h:mainGlobals<s.heap.objs.size:=(I.mod.glob.keeps I.bk).lt;exact qt (by decide) h
theorem EM{h':Heap}{t':Nat}{ob:HO}(I:ay X pins σ H s)(mu:Ao (H a))(hs:Heap.SameBut a s.heap h')(he: ∃q,h'.get? a=some q)(new:eT X.prog X.w (bf H a ob) h' a ob) :
  ay X pins σ (bf H a ob) {s with heap:=h',toks:=t'}:=
 I.write (x:=a) (e:=a) mu (.inl rfl) (λb q hb z=>(hs.2 b hb).trans z) he new
theorem G3{P:Program}{w:World}{H':Hp}{h':Heap}{kvs:List (eh×V)}{vs:List (eh×Value)}(z:kvs.length<=sizeLine)(hd:(a == sysModules)=false)(rel:KV kvs vs)(dd:h'.DictOf (fz P w) a vs) :
  eT P w H' h' a (.dK kvs):=⟨z,hd,vs,rel,dd⟩
end
section
variable{X:Cx}{pins:List (Addr×Obj)}{σ:St}{H:Hp}{s:Shared}{a:Addr}{kvs:List (eh×V)}{k:eh}{u:Value}{A:Around}{E:Value->Shared->Prop}
end
section
variable{X:Cx}{o i e value:Expr}{pos pos' tpos:Pos}{td ty tv:TE}
end
theorem CF{P:Program}{w:World}{H:Hp}(h:Heap)(hb:sysModules<h.objs.size):eT P w H (h.push {cls:= .type "dict",data:= .dict #[]}) h.objs.size (.dK []):=
 ⟨vw _,beq_eq_false_iff_ne.mpr (oM (j8 hb)),[],.nil,Heap.DictOf.new h⟩
section
variable{X:Cx}{pos:Pos}
end
def vN:List (TE×TE)->St->Hp->(List (V×V)->Hp->Prop)->Prop
 | [],_,H,Q=>Q [] H
 | (tk,tv)::r,σ,H,Q=>tk σ H λx H1=>tv σ H1 λy H2=>vN r σ H2 λps H3=>Q ((x,y)::ps) H3
abbrev VV:List (V×V)->List (Value×Value)->Prop:=Paired λp q=>bG p.1 q.1/\bG p.2 q.2
def DN(X:Cx)(pos:Pos)(keys:List (Option Expr))(values:List Expr)(trs:List (TE×TE)):Prop:=
 ∀(pins:List (Addr×Obj)) (s:Shared) (σ:St) (H:Hp) (Q:List (V×V)->Hp->Prop),ay X pins σ H s->vN trs σ H Q->
  wpAny (model X.prog X.w) X.A (evalPairs (pairTrees keys values X.env pos)) (λvs s'=>∃ps H',ay X pins σ H' s'/\VV ps vs/\Q ps H') X.xe s
theorem EN{X:Cx}{pos:Pos}:DN X pos [] [] []:=λpins s σ H Q I h=>pairTrees_nil_walk ⟨[],H,I,.nil,h⟩
theorem CG{X:Cx}{pos:Pos}{k v:Expr}{ks:List (Option Expr)}{vs:List Expr}{tk tv:TE}{trs:List (TE×TE)}(hk:PE X k tk)(hv:PE X v tv)(hr:DN X pos ks vs trs) :
  DN X pos (some k::ks) (v::vs) ((tk,tv)::trs):=λpins s σ H Q I h=>
 pairTrees_cons_walk (bn (hk pins s σ H _ I h) λu s1 ⟨x,H1,I1,rx,q1⟩=>bn (hv pins s1 σ H1 _ I1 q1) λw2 s2 ⟨y,H2,I2,ry,q2⟩=>
  bn (hr pins s2 σ H2 _ I2 q2) λws s3 ⟨ps,H3,I3,rel,q3⟩=>⟨(x,y)::ps,H3,I3,.cons ⟨rx,ry⟩ rel,q3⟩)
def oZ(kvs more:List (eh×V)):List (eh×V):=more.foldl (λacc kv=>oY acc kv.1 kv.2) kvs
theorem KV.merge: ∀{more:List (eh×V)} {rs:List (eh×Value)} {kvs:List (eh×V)} {vs:List (eh×Value)},KV more rs->KV kvs vs->KV (oZ kvs more) (merged vs rs):=by
 intro more rs kvs vs r;unfold KV at r
 induction r generalizing kvs vs with
 |nil=>intro q;exact q
 | @cons p q ps qs h t ih=>
  intro r0;have e:KV (oY kvs p.1 p.2) (stored vs q.1 q.2):=by
   have:=r0.put p.1 h.2;rw[<-h.1];exact this
  exact ih e
theorem oD: ∀(more kvs:List (eh×V)),(oZ kvs more).length<=kvs.length+more.length
 | [],kvs=>by show kvs.length<=kvs.length+0;omega
 |p::r,kvs=>by
  have h1:=oD r (oY kvs p.1 p.2);have h2:=xE kvs p.1 p.2;show(oZ (oY kvs p.1 p.2) r).length<=_;rw[c5];omega
theorem r8{P:Program}{w:World}: ∀{kvs:List (eh×V)} {ws:List (Value×Value)},VV (kvs.map λkv=>(kV kv.1,kv.2)) ws->∃rs,Carries (fz P w) ws rs/\KV kvs rs
 | [],_,r=>by rw[List.map_nil] at r;cases r;exact⟨[],True.intro,.nil⟩
 |p::kvs,_,r=>by
  rw[gj] at r;cases r with
  | @cons a b as bs h t=>
   obtain⟨rs,c,q⟩:=r8 (P:=P) (w:=w) t;obtain⟨b1,b2⟩:=b;exact⟨(p.1,b2)::rs,⟨Jg h.1,rfl,c⟩,.cons ⟨rfl,h.2⟩ q⟩
def Jk(trs:List (TE×TE)):TE:=λ σ H Q=>∀p,H p=none->vN trs σ (bf H p (.dK [])) λps H2=>H2 p=some (.dK [])/\∃kvs:List (eh×V),ps=kvs.map (λkv=>(kV kv.1,kv.2))/\kvs.length<=15/\Q (.ref p) (bf H2 p (.dK (oZ [] kvs)))
theorem EO{X:Cx}{pos:Pos}{keys:List (Option Expr)}{values:List Expr}{trs:List (TE×TE)}(h:DN X pos keys values trs)(hall:keys.all (·.isSome)=true)(hl:keys.length=values.length)(h0:keys≠[])
  (h15:keys.length<=15):PE X (.Dict keys values pos) (Jk trs):=by
 intro pins s σ H Q I q;have hn:=I.hok.fresh (cr s.heap.objs.size);have I1:=I.laid (a:=s.heap.objs.size) (o:= .dK []) (h':=s.heap.push {cls:= .type "dict",data:= .dict #[]}) (t':=s.toks) (λ_ _ q=>Heap.get?_push_of_some _ q) (cr _) (CF s.heap I.big);refine wpAny_Dict_walk (knd:=fz X.prog X.w) hall hl h0 h15 (bn (h pins _ σ _ _ I1 (q _ hn)) λws s2 ⟨ps,H2,I2,rel,e,kvs,ep,lk,q2⟩=>?_);subst ep;obtain⟨rs,c,rk⟩:=r8 (P:=X.prog) (w:=X.w) rel
 obtain⟨z,hd,vs0,r0,dd⟩:=Jj I2.hok e;cases r0;refine⟨rs,c,dd,λh' dd' hs=>⟨.ref s.heap.objs.size,_,?_,rfl,q2⟩⟩;have hz:(oZ [] kvs).length<=sizeLine:=by
  have h1:=oD kvs [];rw[vx] at h1
  rw[sizeLine_eq];omega
 have he: ∃q,h'.get? s.heap.objs.size=some q:=let⟨q,_,_,hq,_⟩:=dd';⟨q,hq⟩
 exact EM I2 (by rw[e];exact True.intro) hs he (G3 hz hd (rk.merge .nil) dd')
end L2
namespace L3
open PySem PySem.Spec PyProof.Rows L2
theorem tF{M:Model}{Γ:PySem.Ctx}{p:Pos}{t:Sem Fin}{fs:List Frame}{s s':Shared}{e:End}(h:Runs M Γ p t fs s e s'):s.toks<=s'.toks:=by
 induction h with
 |done=>exact cr _
 |raise=>exact cr _
 | «yield» =>exact cr _
 |fresh _ ih=>exact Nat.le_of_succ_le ih
 |call _ _ i1 i2=>exact iV i1 i2
 |resumeFresh _ _ _ _ i1 i2=>exact iV i1 i2
 |resumeSuspended _ _ _ _ i1 i2=>exact iV i1 i2
 |segRet _ _ i1 i2=>exact iV i1 i2
 |segGen _ _ i1 i2=>exact iV i1 i2
 |segSuspGen _ _ _ _ i1 i2=>exact iV i1 i2
 |_=>assumption
theorem CH{M:Model}{Γ:PySem.Ctx}{p:Pos}{g:Nat}{r:Resume}{s s':Shared}{res:GenResult}(h:Wakes M Γ p g r s res s'):s.toks<=s'.toks:=by
 unfold Wakes at h;split at h
 ·cases h
 ·split at h
  ·obtain⟨e,s1,h1,_,_,rfl⟩:=h;have z:=tF h1;exact z
  ·obtain⟨_,rfl⟩:=h;exact cr _
  ·obtain⟨_,rfl⟩:=h;exact cr _
 ·obtain⟨e,s1,h1,_,_,rfl⟩:=h;have z:=tF h1;exact z
 ·obtain⟨_,rfl⟩:=h;exact cr _
 ·obtain⟨_,rfl⟩:=h;exact cr _
theorem Jl{α:Type}{M:Model}{Γ:PySem.Ctx}{n:Nat}(t:Sem α): ∀{Q:α->Pos->Shared->Prop} {E:Value->Pos->Shared->Prop} {p:Pos} {s:Shared},n<=s.toks->Sem.wp M Γ t Q E p s->Sem.wp M Γ t (λa p' s'=>Q a p' s'/\n<=s'.toks) E p s:=by
 induction t with
 |pure a=>intro Q E p s hn h;exact⟨h,hn⟩
 |raise e=>intro Q E p s hn h;exact h
 |load a q k ih=>intro Q E p s hn h;obtain⟨o,h1,h2⟩:=h;exact⟨o,h1,ih o hn h2⟩
 |update a q f k ih=>intro Q E p s hn h;obtain⟨h1,h2⟩:=h;exact⟨h1,ih () hn h2⟩
 |choose src m k ih=>intro Q E p s hn h;obtain⟨h1,h2⟩:=h;exact⟨h1,ih _ hn h2⟩
 |genState g k ih=>intro Q E p s hn h;obtain⟨st,h1,h2⟩:=h;exact⟨st,h1,ih _ hn h2⟩
 |fresh k ih=>intro Q E p s hn h;exact ih _ (Nat.le_succ_of_le hn) h
 |call c hh g l k ih=>intro Q E p s hn h;obtain⟨r,s1,h1,h2⟩:=h;exact⟨r,s1,h1,ih r (iV hn (tF h1)) h2⟩
 |resume g r l k ih=>intro Q E p s hn h;obtain⟨r',s1,h1,h2⟩:=h;exact⟨r',s1,h1,ih r' (iV hn (CH h1)) h2⟩
 |unsupported _=>intro Q E p s hn h;exact h
 |finish _=>intro Q E p s hn h;exact h
 |rule _ k ih=>intro Q E p s hn h;exact ih () hn h
 | «at» p' k ih=>intro Q E p s hn h;exact ih () hn h
 |loadIfAlive a k ih=>intro Q E p s hn h;exact ih _ hn h
 |point l k ih=>intro Q E p s hn h;exact ih () hn h
 |alloc o k ih=>intro Q E p s hn h;exact ih _ hn h
 |ask k ih=>intro Q E p s hn h;exact ih _ hn h
 |os q l k ih=>intro Q E p s hn h;exact ih _ hn h
 |handled own k ih=>intro Q E p s hn h;exact ih _ hn h
 |newGen c k ih=>intro Q E p s hn h;exact ih _ hn h
 |stack k ih=>intro Q E p s hn h;exact ih _ hn h
 |thread k ih=>intro Q E p s hn h;exact ih _ hn h
 |_=>intro Q E p s hn h;exact h
theorem vO{α:Type}{M:Model}{A:Around}{t:Sem α}{Q:α->Shared->Prop}{E:Value->Shared->Prop}{s:Shared}{n:Nat}(hn:n<=s.toks)(h:wpAny M A t Q E s):wpAny M A t (λv s'=>Q v s'/\n<=s'.toks) E s:=λ Γ p hΓ=>Jl t hn (h Γ p hΓ)
section
variable{X:Cx}{tg:Expr}
def AW(X:Cx)(e:Expr)(t:TE):Prop:=
 ∀(pins:List (Addr×Obj)) (s:Shared) (σ:L2.St) (H:Hp) (Q:VK),0<s.toks->ay X pins σ H s->t σ H Q->wpAny (model X.prog X.w) X.A (eval e X.env) (EP X pins σ Q) X.xe s
def G4(X:Cx)(st:Stmt)(t:TS):Prop:=
 ∀(pins:List (Addr×Obj)) (s:Shared) (σ:L2.St) (H:Hp) (D:iO),0<s.toks->ay X pins σ H s->t D σ H->wpAny (model X.prog X.w) X.A (exec st X.env) (SP X pins D) X.xe s
def G5(X:Cx)(tg iter:Expr)(wi:TI):Prop:=
 ∀(pins:List (Addr×Obj)) (s:Shared) (σ:L2.St) (H:Hp) (R:It->Hp->Prop),0<s.toks->ay X pins σ H s->wi σ H R->
  wpAny (model X.prog X.w) X.A (eval iter X.env) (λv s1=>wpAny (model X.prog X.w) X.A (pyIter v) (Gw X pins σ tg R) X.xe s1) X.xe s
theorem EQ{iter:Expr}{body:List Stmt}{wi:TI}{g:TG}{tb:TS}{pos:Pos}(hp:PassesOwn (model X.prog X.w) X.A X.env X.xe)(hc:X.calm=true)(hi:G5 X tg iter wi)(hg:PG X tg g)(hb:jI X body tb)
  (hs: ∀x,foldedSetIterable iter X.env x=pure x:=by intro _;rfl):G4 X (.For tg iter body [] pos) (Gy wi g tb):=by
 intro pins s σ H D tk0 I h;refine wpAny_For (bn (hi pins s σ H _ tk0 I h) λv s1 h1=>bn h1 λitv s2 h2=>?_) hs;obtain⟨it,fp,tn,J,H2,e,I2,T,st2,f2,W,⟨m0,w0⟩,l9⟩:=h2;subst e;have stat: ∀{H':Hp},(∀b∈fp,H' b=none)->∀b∈fp,mz X pins H' b:=λhn b hb=>⟨hn b hb,(f2 b hb).2⟩
 refine codeAny_forLoop_any (λn s'=>∃i σ' H',ay X pins σ' H' s'/\tn i s'.heap/\(∀b∈fp,H' b=none)/\W i n σ' H') ?_ m0 ⟨0,σ,H2,I2,st2,λb hb=>(f2 b hb).1,w0⟩;rintro n s3 ⟨i,σ3,H3,I3,st3,fr3,w3⟩
 rcases l9 i n σ3 H3 w3 with⟨stop,qn⟩ | ⟨go,N,hN,step⟩
 ·refine wpAny_passesOwn hp (bn (T.done X rfl rfl rfl hc i pins s3 σ3 H3 X.xe I3 (stat fr3) st3 stop) λr s4 ⟨hr,I4⟩=>?_)
  subst hr;exact wpAny_execs_nil ⟨σ3,H3,I4,qn⟩
 ·refine wpAny_passesOwn hp (bn (T.item X rfl rfl rfl hc i pins s3 σ3 H3 X.xe I3 (stat fr3) st3 go) λr s4 ⟨u,hr,h4⟩=>?_)
  subst hr;refine wpAny_passesOwn hp (bn h4 λ_ s5 ⟨x,H5,I5,r5,y5,st5,fr5⟩=>?_);have I5':=I5.pinned (stat fr5) (T.obj _ _ st5);refine wpAny_passesOwn hp (bn (hg _ s5 σ3 H5 x u _ I5' r5 (step x H5 y5)) λ_ s6 ⟨σ6,H6,I6,q6⟩=>?_);refine wpAny_passesOwn hp (bn (hb _ s6 σ6 H6 _ I6 q6) λf s7 q7=>?_);have again: ∀{σ7:L2.St} {H7:Hp},ay X (pins++mX fp s5.heap) σ7 H7 s7->N σ7 H7->∃m,m<n/\∃i σ' H',ay X pins σ' H' s7/\tn i s7.heap/\(∀b∈fp,H' b=none)/\W i m σ' H':=λ{σ7 H7} I7 n7=>by
   obtain⟨m',hm,w7⟩:=hN σ7 H7 n7;refine⟨m',hm,i+1,σ7,H7,I7.unpinned,T.keep _ _ _ st5 λb hb o e=>(I7.pin (b,o) (j9 _ (j9 _ (ir hb e)))).1,λb hb=>?_,w7⟩;obtain⟨o,e,d⟩:=T.obj _ _ st5 b hb;exact(I7.pin (b,o) (j9 _ (j9 _ (ir hb e)))).2.1
  cases f with
  |next=>obtain⟨σ7,H7,I7,n7⟩:=q7;exact again I7 n7
  |cont=>obtain⟨σ7,H7,I7,n7⟩:=q7;exact again I7 n7
  |brk=>obtain⟨σ7,H7,I7,q7⟩:=q7;exact⟨σ7,H7,I7.unpinned,q7⟩
  |ret v=>obtain⟨x7,σ7,H7,I7,r7,q7⟩:=q7;exact⟨x7,σ7,H7,I7.unpinned,r7,q7⟩
theorem CI{l:Expr}{tl:TE}(hl:AW X l tl):G5 X tg l (DF X.K tl):=by
 intro pins s σ H R tk0 I h;refine bn (hl pins s σ H _ tk0 I h) λv s1 ⟨x,H1,I1,r1,q1⟩=>?_
 obtain⟨a,e,⟨xs,hq⟩,q⟩:=q1;subst e;cases r1;obtain⟨its,rv,p,hz⟩:=I1.list hq;refine wpAny_pyIter_list p.isList ?_;refine⟨s1.heap.objs.size,[s1.heap.objs.size],_,_,H1,rfl,I1.kept (t':=s1.toks) λb o e=>Heap.get?_push_of_some _ e,uq a _,⟨_,Heap.get?_push_size _ rfl,rfl,rfl⟩,λb hb=>?_,q⟩;have e:b=s1.heap.objs.size:=by simpa using hb
 subst e;exact I1.fpOk (cr _) (I1.hok.fresh (cr _))
variable{o e:Expr}{es:List Expr}{to:TE}{t:TA}{name:Str}{apos KJ:Pos}{T id:String}{r:V->List V->Hp->VK->Prop}
theorem G6(pa:PlainAttrs T)(slot:Slot T name id)(hty:typeOf (.builtin id)=pure (.type "method_descriptor"))(hm:vF X id r)(ho:AW X o to)(ha:PA X (e::es) t)
  (KL:attributeBase o name X.env (eval o X.env)=eval o X.env:=by rfl)
  (KT:((backTo KJ (starEach (e::es) X.env)).all (λx=>!x.1)&& (backToKw KJ (keywordEach [] X.env)).all (λx=>x.1.isSome)
   && decide ((e::es).length+([]:List Keyword).length+(if([]:List Keyword).isEmpty then 0 else 1)<30))=true:=by rfl)
  (KM:(apos.endLine == KJ.line)=true:=by rfl) (hs:starEach (e::es) X.env=(false,eval e X.env)::starEach es X.env:=by rfl) (KN:(backTo KJ (starEach es X.env)).any (·.1)=false:=by rfl) :
  AW X (.Call (.Attribute o name apos) (e::es) [] KJ) (JV X.K T r to t):=by
 intro pins s σ H Q tk0 I h;refine wpAny_Call_method_late KL KT KM rfl (bn (ho pins s σ H _ tk0 I h) λv s1 ⟨x,H1,I1,r1,ty,q1⟩=>?_);obtain⟨h1,h2⟩:=rV I1 r1 ty;refine⟨T,id,pa,slot,hty,h1,h2,?_⟩;have hA:=ha KJ pins s1 σ H1 _ I1 q1;rw[hs] at hA⊢
 refine Calls.callWith_builtin (by show(false || (backTo KJ (starEach es X.env)).any (·.1))=false;rw[KN]<;>rfl) (Calls.evalArgs_plain ?_);exact bn hA λus s2 ⟨vs,H2,I2,r2,q2⟩=>hm pins s2 σ H2 x vs v us Q I2 r1 r2 q2
theorem G7{st:Stmt}{bD:List Stmt}{t2 t3:TS}{i:Nat}{x:Str}{j:Int}{jj:Nat}{p1 p2 pos pos':Pos}(hN:X.N.Nodup)(hi:X.N[i]?= some x)(hx:L2.aW X.env.scope x)(h2:G4 X st t2)(h3:jI X bD t3)
  (hs:swapsWith (.UnaryOp .USub (.Constant (.int j) jj p1) p2) (some (.Name x pos')) pos.line X.env=pure false) (hf:X.fn x=true\/X.env.scope.names.lookup x=some .local) :
  jI X (.Assign [.Name x pos'] (.UnaryOp .USub (.Constant (.int j) jj p1) p2) pos::st::bD) (sW (yX (JT (rU λi=> .int (-i)) (tC (.int j))) (rQ i)) (sW t2 t3)):=by
 intro pins s σ H D I h;refine wpAny_execs_cons (bn (Q:=λf s1=>SP X pins {D with nx:=sW t2 t3 D} f s1/\1<=s1.toks) ?_ λf s1 ⟨q,tk⟩=>?_)
 ·refine wpAny_Assign_Name (UnaryOp_ (PySem.wpAny_Constant_int ?_)) hs
  have h':rU (λi=>V.int (-i)) (V.int j) H (λv H1=>rQ i v σ H1 λ σ2 H2=>sW t2 t3 D σ2 H2):=h;refine bn (vO (n:=1) (by show 1<=s.toks+1;omega) (vA pins _ σ H (.int j) _ _ (I.tok (s.toks+1)) ⟨_,rfl⟩ h')) λv s2 ⟨⟨y,H2,I2,r2,q2⟩,tk2⟩=>?_
  exact vO tk2 (iN I2 hN hi hx r2 (λs3 I3=>⟨_,H2,I3,q2⟩) hf)
 ·cases f with
  |next=>
   obtain⟨σ',H',I',q⟩:=q;refine wpAny_execs_cons (bn (h2 pins s1 σ' H' {D with nx:=t3 D} tk I' q) λf s2 q=>?_);cases f with
   |next=>
    obtain⟨σ',H',I',q⟩:=q;exact h3 pins s2 σ' H' D I' q
   |ret v=>exact q
   |brk=>exact q
   |cont=>exact q
  |ret v=>exact q
  |brk=>exact q
  |cont=>exact q
def Jm(b c:Str)(to:TE):TE:=λ σ H Q=>to σ H λx H1=>∃a,x= .str a/\(b == c)=false/\a.length+(a.length+1)*c.length<=16777216/\Q (.str (Txt.replace a b c)) H1
theorem ER{b c:Str}{j1 j2:Nat}{q1 q2:Pos}(ho:PE X o to)
  (KL:attributeBase o "replace" X.env (eval o X.env)=eval o X.env:=by rfl)
  (KT:((backTo KJ (starEach [Expr.Constant (.str b) j1 q1,.Constant (.str c) j2 q2] X.env)).all (λx=>!x.1)&& (backToKw KJ (keywordEach [] X.env)).all (λx=>x.1.isSome)
   && decide ([Expr.Constant (.str b) j1 q1,.Constant (.str c) j2 q2].length+([]:List Keyword).length+(if([]:List Keyword).isEmpty then 0 else 1)<30))=true:=by rfl)
  (KM:(apos.endLine == KJ.line)=true:=by rfl) (hs:starEach [Expr.Constant (.str b) j1 q1,.Constant (.str c) j2 q2] X.env=(false,eval (Expr.Constant (.str b) j1 q1) X.env)::starEach [.Constant (.str c) j2 q2] X.env:=by rfl)
  (hs2:starEach [Expr.Constant (.str c) j2 q2] X.env=(false,eval (Expr.Constant (.str c) j2 q2) X.env)::starEach [] X.env:=by rfl) (KN:(backTo KJ (starEach [Expr.Constant (.str c) j2 q2] X.env)).any (·.1)=false:=by rfl) :
  AW X (.Call (.Attribute o "replace" apos) [.Constant (.str b) j1 q1,.Constant (.str c) j2 q2] [] KJ) (Jm b c to):=by
 intro pins s σ H Q tk0 I h;refine wpAny_Call_method_late KL KT KM rfl (bn (vO (n:=1) tk0 (ho pins s σ H _ I h)) λv s1 ⟨⟨x,H1,I1,r1,q1⟩,tk1⟩=>?_);obtain⟨a,rfl,hbc,hz,q⟩:=q1;have ty:DL X.K "str" (.str a) H1:=rfl;obtain⟨h1,h2⟩:=rV I1 r1 ty;obtain⟨t,rfl⟩:=r1;refine⟨"str","str.replace",x9,PySem.F.slot_str_replace,PySem.F.type_str_replace,h1,h2,?_⟩;rw[hs];refine Calls.callWith_builtin (by show(false || (backTo KJ (starEach [Expr.Constant (.str c) j2 q2] X.env)).any (·.1))=false;rw[KN]<;>rfl) (Calls.evalArgs_plain ?_)
 show wpAny _ _ (spliced ((false,eval (Expr.Constant (.str b) j1 q1) X.env)::backTo KJ (starEach [Expr.Constant (.str c) j2 q2] X.env))) _ _ s1;refine Calls.spliced_cons (Calls.Constant_str ?_);rw[hs2];show wpAny _ _ (spliced ((false,eval (Expr.Constant (.str c) j2 q2) X.env)::backTo KJ (starEach [] X.env))) _ _ _;refine Calls.spliced_cons (Calls.Constant_str (Calls.spliced_nil ?_));exact SC.replace (by show s1.toks≠0;omega) (by show s1.toks+1≠0;omega) (by show s1.toks≠s1.toks+1;omega) hbc hz λt' k=>⟨.str _,H1,I1.tok k,⟨_,rfl⟩,q⟩
end
section
variable{X:Cx}
theorem jM:AI X (λx lo hi H Q=>∃a,x= .str a/\(Txt.slice a lo hi).length<=sizeLine/\Q (.str (Txt.slice a lo hi)) H):=by
 intro pins s σ H x v vl vu lo hi sl Q I rx hs pl pu h;obtain⟨a,rfl,hz,q⟩:=h;obtain⟨t,rfl⟩:=rx;have key: ∀(l u:Option (Int×Tok)) (lo hi:Option Int),l.map (·.1)=lo->u.map (·.1)=hi->(Txt.slice a lo hi).length<=sizeLine->Q (.str (Txt.slice a lo hi)) H->(sliceMade a t l u none).post (EP X pins σ Q) s:=by
  intro l u lo hi e1 e2 hz q;have e3:sliceMade a t l u none=if((1:Int) == 1&& (Builtin.Str.strSliceIndices lo hi 1 a.length).length == a.length)=true then Made.val (Value.str a t) else Made.str {cps:=(List.filterMap (λx_1=>a.cps[x_1]?) (Builtin.Str.strSliceIndices lo hi 1 a.length)).toArray}:=by subst e1 e2;rfl
  have e4:Txt.slice a lo hi=if((1:Int) == 1&& (Builtin.Str.strSliceIndices lo hi 1 a.length).length == a.length)=true then a else{cps:=(List.filterMap (λx_1=>a.cps[x_1]?) (Builtin.Str.strSliceIndices lo hi 1 a.length)).toArray}:=rfl
  rw[e3]
  by_cases c:((1:Int) == 1&& (Builtin.Str.strSliceIndices lo hi 1 a.length).length == a.length)=true
  ·rw[e4,aD c] at q
   rw[aD c];exact⟨.str _,H,I,⟨_,rfl⟩,q⟩
  ·rw[e4,aK c] at q hz
   rw[aK c];exact⟨hz,.str _,H,I.tok _,⟨_,rfl⟩,q⟩
 cases pl with
 |none=>
  cases pu with
  |none=>exact⟨"str",_,slot_str_getitem.lookup,typeIs_str s a t,wpAny_getItem_str_slice (l:=none) (u:=none) (st:=none) hs rfl (key none none none none rfl rfl hz q)⟩
  |int j tj=>exact⟨"str",_,slot_str_getitem.lookup,typeIs_str s a t,wpAny_getItem_str_slice (l:=none) (u:=some (j,tj)) (st:=none) hs rfl (key none (some (j,tj)) none (some j) rfl rfl hz q)⟩
 |int i ti=>
  cases pu with
  |none=>exact⟨"str",_,slot_str_getitem.lookup,typeIs_str s a t,wpAny_getItem_str_slice (l:=some (i,ti)) (u:=none) (st:=none) hs rfl (key (some (i,ti)) none (some i) none rfl rfl hz q)⟩
  |int j tj=>exact⟨"str",_,slot_str_getitem.lookup,typeIs_str s a t,wpAny_getItem_str_slice (l:=some (i,ti)) (u:=some (j,tj)) (st:=none) hs rfl (key (some (i,ti)) (some (j,tj)) (some i) (some j) rfl rfl hz q)⟩
end
end L3
namespace D3
open PySem PySem.Spec PyProof.Rows L2 L3
inductive Ex where
 |BelowError |NoNumber |NoCurve |TooGreat |NoStretch |NoNear |NoPieces |NoText |NoRow |NoName |fnA |fnB
 deriving DecidableEq
def tG:Ex->Bool
 | .fnA=>true
 | .fnB=>true
 |_=>false
class jJ where
 at_:Ex->Addr
abbrev b4 [jJ](n:Ex):Addr:=jJ.at_ n
inductive Sl where
 |no
 |dat (d:PyData)
 |own (ds:List PyData)
 |exc (C:Ex)
 |prs (o:Option (List PyData×List PyData))
inductive Rz where
 |dat (d:PyData)
 |new (ds:List PyData)
 |use (d:PyData)
 |var (ds:List PyData)
 |exc (C:Ex)
def Rz.d?: Rz->Option PyData
 | .dat d=>some d
 | .new ds=>some (.list ds)
 | .use d=>some d
 | .var ds=>some (.list ds)
 | .exc _=>none
inductive hU (α:Type) where
 |ok (a:α)
 |err (C:Ex)
abbrev M(α:Type):=Option (hU α)
def hV{α β:Type}(m:M α)(k:α->M β):M β:=
 match m with
 |some (.ok a)=>k a
 |some (.err C)=>some (.err C)
 |none=>none
def aj{α:Type}(a:α):M α:=some (.ok a)
theorem cB{α β:Type}(a:α)(k:α->M β):hV (aj a) k=k a:=rfl
theorem a7{α β:Type}{m:M α}{k:α->M β}{r:hU β}(h:hV m k=some r):(∃a,m=some (.ok a)/\k a=some r)\/∃C,m=some (.err C)/\r= .err C:=by
 cases m with
 |none=>exact nomatch h
 |some m=>
  cases m with
  |ok a=>exact .inl ⟨a,rfl,h⟩
  |err C=>exact .inr ⟨C,rfl,(ow h).symm⟩
def bj(H:Hp)(S:Addr->Bool):Hp:=λb=>if S b=true then none else H b
theorem cU{H:Hp}{S:Addr->Bool}{b:Addr}(h:S b=false):bj H S b=H b:=by unfold bj;rw[h];rfl
theorem gq{H:Hp}{S:Addr->Bool}{b:Addr}(h:S b=true):bj H S b=none:=by unfold bj;rw[h];rfl
theorem b6{H:Hp}{S:Addr->Bool}:bh (bj H S) H:=λb o h=>by
 by_cases c:S b=true
 ·rw[gq c] at h;cases h
 ·rw[cU (by simpa using c)] at h;exact h
theorem CJ{H H':Hp}{S:Addr->Bool}(g:bh H H'):bh (bj H S) (bj H' S):=λb o h=>by
 by_cases c:S b=true
 ·rw[gq c] at h;cases h
 ·rw[cU (by simpa using c)] at h⊢;exact g b o h
structure bw (H:Hp) (S:Addr->Bool) (H':Hp) (S':Addr->Bool):Prop where
 up:bh H H'
 hd:bh (bj H S) (bj H' S')
 sub: ∀b,S b=true->S' b=true
 new: ∀b,S' b=true->S b=true\/(H b=none/\∃xs,H' b=some (.lst xs))
theorem bw.refl{H:Hp}{S:Addr->Bool}:bw H S H S:=⟨bh.refl _,bh.refl _,λ_ h=>h,λ_ h=> .inl h⟩
theorem bw.same{H H':Hp}{S:Addr->Bool}(g:bh H H'):bw H S H' S:=⟨g,CJ g,λ_ h=>h,λ_ h=> .inl h⟩
theorem bw.trans{H H1 H2:Hp}{S S1 S2:Addr->Bool}(a:bw H S H1 S1)(b:bw H1 S1 H2 S2):bw H S H2 S2:=
 ⟨a.up.trans b.up,a.hd.trans b.hd,λc h=>b.sub c (a.sub c h),λc h=>by
  rcases b.new c h with h | ⟨h,xs,e⟩
  ·rcases a.new c h with h | ⟨h,xs,e⟩
   ·exact .inl h
   ·exact .inr ⟨h,xs,b.up _ _ e⟩
  ·exact .inr ⟨a.up.free h,xs,e⟩⟩
def ins(S:Addr->Bool)(a:Addr):Addr->Bool:=λb=>if b=a then true else S b
def del(S:Addr->Bool)(a:Addr):Addr->Bool:=λb=>if b=a then false else S b
theorem dF{S:Addr->Bool}{a:Addr}:ins S a a=true:=by unfold ins;rw[aD rfl]
theorem ki{S:Addr->Bool}{a b:Addr}(h:b≠a):ins S a b=S b:=by unfold ins;rw[aK h]
theorem jN{S:Addr->Bool}{a:Addr}:del S a a=false:=by unfold del;rw[aD rfl]
theorem o0{S:Addr->Bool}{a b:Addr}(h:b≠a):del S a b=S b:=by unfold del;rw[aK h]
theorem la{H:Hp}{S:Addr->Bool}{a:Addr}{o:HO}(h:H a=none):bj (bf H a o) (ins S a)=bj H S:=by
 funext b
 by_cases c:b=a
 ·subst c
  rw[gq dF];cases e:S b with
  |true=>rw[gq e]
  |false=>rw[cU e,h]
 ·cases e:S b with
  |true=>rw[gq e,gq (by rw[ki c];exact e)]
  |false=>rw[cU e,cU (by rw[ki c];exact e),aY c]
theorem m4{H:Hp}{S:Addr->Bool}{a:Addr}{o:HO}(h:S a=true):bj (bf H a o) S=bj H S:=by
 funext b;cases e:S b with
 |true=>rw[gq e,gq e]
 |false=>rw[cU e,cU e,aY (by intro z;subst z;rw[h] at e;cases e)]
theorem bw.ins{H:Hp}{S:Addr->Bool}{a:Addr}{xs:List V}(h:H a=none):bw H S (bf H a (.lst xs)) (ins S a):=
 ⟨iP h _,by rw[la h];exact bh.refl _,λb hb=>by
  unfold D3.ins;split
  ·rfl
  ·exact hb,λb hb=>by
  by_cases c:b=a
  ·subst c;exact .inr ⟨h,xs,bF⟩
  ·rw[ki c] at hb;exact .inl hb⟩
theorem ly{H:Hp}{S:Addr->Bool}{a:Addr}:bh (bj H S) (bj H (del S a)):=λb o h=>by
 by_cases c:b=a
 ·subst c;rw[cU jN];exact b6 _ _ h
 ·cases e:S b with
  |true=>rw[gq e] at h;cases h
  |false=>rw[cU e] at h;rw[cU (by rw[o0 c];exact e)];exact h
variable [jJ]
def jd(H:Hp)(ea:Addr)(C:Ex):Prop:=(tG C=false/\H ea=some (oW ea (.ref (b4 C))))\/(tG C=true/\ea=b4 C)
theorem jd.same{H H':Hp}{ea:Addr}{C:Ex}(g:bh H H')(h:jd H ea C):jd H' ea C:=by
 rcases h with⟨a,b⟩ |h
 ·exact .inl ⟨a,g _ _ b⟩
 ·exact .inr h
theorem jd.real{H:Hp}{ea:Addr}{C:Ex}(h:jd H ea C)(n:tG C=false):H ea=some (oW ea (.ref (b4 C))):=by
 rcases h with⟨a,b⟩ | ⟨a,b⟩
 ·exact b
 ·rw[a] at n;cases n
def RV(K:W.Frag)(H H':Hp)(S':Addr->Bool)(v:V):Rz->Prop
 | .dat d=>DV K (bj H' S') v d
 | .new ds=>∃a xs,v= .ref a/\S' a=true/\H a=none/\H' a=some (.lst xs)/\aE K (bj H' S') xs ds
 | .use d=>DV K H' v d
 | .var ds=>∃a xs,v= .ref a/\S' a=true/\H' a=some (.lst xs)/\aE K (bj H' S') xs ds
 | .exc C=>∃ea,v= .ref ea/\jd (bj H' S') ea C
theorem RV.full{K:W.Frag}{H H':Hp}{S':Addr->Bool}{v:V}{r:Rz}{d:PyData}(h:RV K H H' S' v r)(e:r.d?= some d):DV K H' v d:=by
 cases r with
 |dat x=>cases e;exact DV.same b6 h
 |new ds=>
  cases e;obtain⟨a,xs,rfl,_,_,ha,hx⟩:=h;exact .lst (cw.of ha) (aE.same b6 hx)
 |use x=>cases e;exact h
 |var ds=>
  cases e;obtain⟨a,xs,rfl,_,ha,hx⟩:=h;exact .lst (cw.of ha) (aE.same b6 hx)
 |exc C=>exact nomatch e
theorem RV.ext{K:W.Frag}{H H1 H2:Hp}{S1 S2:Addr->Bool}{v:V}{r:Rz}(h:RV K H H1 S1 v r)(g:bw H1 S1 H2 S2):RV K H H2 S2 v r:=by
 cases r with
 |dat x=>exact DV.same g.hd h
 |new ds=>
  obtain⟨a,xs,e,z,n,ha,hx⟩:=h;exact⟨a,xs,e,g.sub a z,n,g.up _ _ ha,aE.same g.hd hx⟩
 |use x=>exact DV.same g.up h
 |var ds=>
  obtain⟨a,xs,e,z,ha,hx⟩:=h;exact⟨a,xs,e,g.sub a z,g.up _ _ ha,aE.same g.hd hx⟩
 |exc C=>
  obtain⟨ea,e,z⟩:=h;exact⟨ea,e,jd.same g.hd z⟩
theorem RV.back{K:W.Frag}{H H1 H2:Hp}{S1 S2:Addr->Bool}{v:V}{r:Rz}(g:bw H S1 H1 S2){S':Addr->Bool}(h:RV K H1 H2 S' v r):RV K H H2 S' v r:=by
 cases r with
 |dat x=>exact h
 |new ds=>
  obtain⟨a,xs,e,z,n,ha,hx⟩:=h;exact⟨a,xs,e,z,g.up.free n,ha,hx⟩
 |use x=>exact h
 |var ds=>exact h
 |exc C=>exact h
def gW(G:Hp)(σ:L2.St)(δ:List Sl)(i:Nat)(a:Addr):Prop:=
 ∃o c x y,δ[i]?= some (Sl.prs o)/\σ[i]?= some (some (V.ref c))/\G c=some (.tup [.ref x,.ref y])/\(a=x\/a=y)
structure aW (K:W.Frag) (H0:Hp) (σ:L2.St) (H:Hp) (δ:List Sl) (S:Addr->Bool):Prop where
 old:bh H0 H
 frs: ∀b,S b=true->H0 b=none
 lst: ∀b,S b=true->∃xs,H b=some (.lst xs)
 len:σ.length=δ.length
 dat: ∀(i:Nat) (d:PyData),δ[i]?= some (Sl.dat d)->∃v,σ[i]?= some (some v)/\DV K (bj H S) v d
 exc: ∀(i:Nat) (C:Ex),δ[i]?= some (Sl.exc C)->∃ea:Addr,σ[i]?= some (some (.ref ea))/\jd (bj H S) ea C
 own: ∀(i:Nat) (ds:List PyData),δ[i]?= some (Sl.own ds)->∃(a:Addr) (xs:List V),σ[i]?= some (some (.ref a))/\S a=true/\H a=some (.lst xs)/\aE K (bj H S) xs ds
 one: ∀(i j:Nat) (ds es:List PyData) (a:Addr),δ[i]?= some (Sl.own ds)->δ[j]?= some (Sl.own es)->σ[i]?= some (some (.ref a))->σ[j]?= some (some (.ref a))->i=j
 two: ∀(i:Nat) (o:Option (List PyData×List PyData)),δ[i]?= some (Sl.prs o)->∃(c a b:Addr) (xs ys:List V),σ[i]?= some (some (.ref c))/\bj H S c=some (.tup [.ref a,.ref b])/\S a=true/\S b=true/\
  H a=some (.lst xs)/\H b=some (.lst ys)/\∀ds es,o=some (ds,es)->aE K (bj H S) xs ds/\aE K (bj H S) ys es
 sep: ∀(i j:Nat) (ds:List PyData) (a:Addr),gW (bj H S) σ δ i a->δ[j]?= some (Sl.own ds)->σ[j]?≠some (some (.ref a))
 sop: ∀(i j:Nat) (a:Addr),gW (bj H S) σ δ i a->gW (bj H S) σ δ j a->i=j
section
variable{K:W.Frag}{H0 H H':Hp}{σ:L2.St}{δ:List Sl}{S S':Addr->Bool}
theorem aW.kidBack{G:Hp}{i:Nat}{a:Addr}(L:aW K H0 σ H δ S)(g:bh (bj H S) G)(k:gW G σ δ i a):gW (bj H S) σ δ i a:=by
 obtain⟨o,c,x,y,e1,e2,e3,e4⟩:=k;obtain⟨c',a',b',xs,ys,q1,q2,_⟩:=L.two i o e1;rw[e2] at q1;cases q1
 have:=g _ _ q2;rw[e3] at this;cases this
 exact⟨o,c,_,_,e1,e2,q2,e4⟩
theorem aW.kidIn{i:Nat}{a:Addr}(L:aW K H0 σ H δ S)(k:gW (bj H S) σ δ i a):S a=true:=by
 obtain⟨o,c,x,y,e1,e2,e3,e4⟩:=k;obtain⟨c',a',b',xs,ys,q1,q2,q3,q4,_⟩:=L.two i o e1;rw[e2] at q1;cases q1
 rw[e3] at q2;cases q2
 rcases e4 with rfl |rfl
 ·exact q3
 ·exact q4
theorem aW.kids{S1:Addr->Bool}(L:aW K H0 σ H δ S)(g:bw H S H' S1): ∀(j:Nat) (b:Addr),gW (bj H' S1) σ δ j b->H b≠none:=λj b k z=>by
 obtain⟨xs,e⟩:=L.lst b (L.kidIn (L.kidBack g.hd k));rw[z] at e;cases e
theorem gW.mk'{G:Hp}{i:Nat}{o:Option (List PyData×List PyData)}{c a b:Addr}(e1:δ[i]?= some (Sl.prs o))(e2:σ[i]?= some (some (V.ref c)))(e3:G c=some (.tup [.ref a,.ref b])):gW G σ δ i a/\gW G σ δ i b:=
 ⟨⟨o,c,a,b,e1,e2,e3,.inl rfl⟩,⟨o,c,a,b,e1,e2,e3,.inr rfl⟩⟩
theorem aW.ext(L:aW K H0 σ H δ S)(g:bw H S H' S'):aW K H0 σ H' δ S':=by
 refine⟨L.old.trans g.up,λb h=>?_,λb h=>?_,L.len,λi d e=>?_,λi C e=>?_,λi ds e=>?_,L.one,λi o e=>?_,λi j ds a k=>L.sep i j ds a (L.kidBack g.hd k),λi j a k k'=>L.sop i j a (L.kidBack g.hd k) (L.kidBack g.hd k')⟩
 ·rcases g.new b h with h | ⟨h,_⟩
  ·exact L.frs b h
  ·exact L.old.free h
 ·rcases g.new b h with h | ⟨_,h⟩
  ·obtain⟨xs,e⟩:=L.lst b h
   exact⟨xs,g.up _ _ e⟩
  ·exact h
 ·obtain⟨v,e1,e2⟩:=L.dat i d e
  exact⟨v,e1,DV.same g.hd e2⟩
 ·obtain⟨v,e1,e2⟩:=L.exc i C e
  exact⟨v,e1,jd.same g.hd e2⟩
 ·obtain⟨a,xs,e1,e2,e3,e4⟩:=L.own i ds e
  exact⟨a,xs,e1,g.sub _ e2,g.up _ _ e3,aE.same g.hd e4⟩
 ·obtain⟨c,a,b,xs,ys,q1,q2,q3,q4,q5,q6,q7⟩:=L.two i o e
  exact⟨c,a,b,xs,ys,q1,g.hd _ _ q2,g.sub _ q3,g.sub _ q4,g.up _ _ q5,g.up _ _ q6,λds es z=>⟨aE.same g.hd (q7 ds es z).1,aE.same g.hd (q7 ds es z).2⟩⟩
theorem aW.ground(L:aW K H0 σ H δ S):aW K (bj H S) σ H δ S:=⟨b6,λ_ h=>gq h,L.lst,L.len,L.dat,L.exc,L.own,L.one,L.two,L.sep,L.sop⟩
theorem aW.base(L:aW K H0 σ H δ S):bh H0 (bj H S):=λb o h=>by
 cases e:S b with
 |true=>rw[L.frs b e] at h;cases h
 |false=>rw[cU e];exact L.old b o h
theorem cj{α:Type}{xs:List α}{i j:Nat}{v w:α}(h:(xs.set i v)[j]?= some w):(i=j/\w=v/\i<xs.length)\/(i≠j/\xs[j]?= some w):=by
 rw[List.getElem?_set] at h;split at h
 ·rename_i e
  split at h
  ·exact .inl ⟨e,(ow h).symm,by assumption⟩
  ·cases h
 ·rename_i e;exact .inr ⟨e,h⟩
theorem gW.unset{G:Hp}{i j:Nat}{o:Option V}{s:Sl}{a:Addr}(hp: ∀q,s≠ .prs q)(k:gW G (σ.set i o) (δ.set i s) j a):i≠j/\gW G σ δ j a:=by
 obtain⟨q,c,x,y,e1,e2,e3,e4⟩:=k
 rcases cj e1 with⟨_,e,_⟩ | ⟨hne,e⟩
 ·exact absurd e.symm (hp q)
 ·rw[iW hne] at e2
  exact⟨hne,q,c,x,y,e,e2,e3,e4⟩
theorem gW.unset'{G:Hp}{i j:Nat}{s:Sl}{a:Addr}(hp: ∀q,s≠ .prs q)(k:gW G σ (δ.set i s) j a):i≠j/\gW G σ δ j a:=by
 obtain⟨q,c,x,y,e1,e2,e3,e4⟩:=k
 rcases cj e1 with⟨_,e,_⟩ | ⟨hne,e⟩
 ·exact absurd e.symm (hp q)
 ·exact⟨hne,q,c,x,y,e,e2,e3,e4⟩
theorem aW.put{i:Nat}{o:Option V}{s:Sl}(L:aW K H0 σ H δ S)(hs: ∀ds,s≠ .own ds)(hd: ∀d,s= .dat d->∃v,o=some v/\DV K (bj H S) v d)
  (hx: ∀C,s= .exc C->∃ea,o=some (.ref ea)/\jd (bj H S) ea C) (hp: ∀q,s≠ .prs q:=by intro q z;cases z):aW K H0 (σ.set i o) H (δ.set i s) S:=by
 refine⟨L.old,L.frs,L.lst,by rw[ox,ox];exact L.len,λj d e=>?_,λj C e=>?_,λj ds e=>?_,λj k ds es a e1 e2 e3 e4=>?_,λj q e=>?_,λj k ds a kd e=>?_,λj k a kd kd'=>L.sop j k a (kd.unset hp).2 (kd'.unset hp).2⟩
 ·rcases cj e with⟨rfl,e,hl⟩ | ⟨hne,e⟩
  ·obtain⟨v,rfl,q⟩:=hd d e.symm
   exact⟨v,by rw[oN (by rw[L.len];exact hl)],q⟩
  ·obtain⟨v,e1,q⟩:=L.dat j d e
   exact⟨v,by rw[iW hne];exact e1,q⟩
 ·rcases cj e with⟨rfl,e,hl⟩ | ⟨hne,e⟩
  ·obtain⟨v,rfl,q⟩:=hx C e.symm
   exact⟨v,by rw[oN (by rw[L.len];exact hl)],q⟩
  ·obtain⟨v,e1,q⟩:=L.exc j C e
   exact⟨v,by rw[iW hne];exact e1,q⟩
 ·rcases cj e with⟨rfl,e,hl⟩ | ⟨hne,e⟩
  ·exact absurd e.symm (hs ds)
  ·obtain⟨a,xs,e1,q⟩:=L.own j ds e
   exact⟨a,xs,by rw[iW hne];exact e1,q⟩
 ·rcases cj e1 with⟨_,e,_⟩ | ⟨n1,e1⟩
  ·exact absurd e.symm (hs ds)
  ·rcases cj e2 with⟨_,e,_⟩ | ⟨n2,e2⟩
   ·exact absurd e.symm (hs es)
   ·rw[iW n1] at e3
    rw[iW n2] at e4;exact L.one j k ds es a e1 e2 e3 e4
 ·rcases cj e with⟨_,e,_⟩ | ⟨hne,e⟩
  ·exact absurd e.symm (hp q)
  ·rw[iW hne];exact L.two j q e
 ·rcases cj e with⟨_,e,_⟩ | ⟨hne,e⟩
  ·exact absurd e.symm (hs ds)
  ·rw[iW hne];exact L.sep j k ds a (kd.unset hp).2 e
theorem aW.putOwn{i:Nat}{a:Addr}{xs:List V}{ds:List PyData}(L:aW K H0 σ H δ S)(hS:S a=true)(ha:H a=some (.lst xs))(hx:aE K (bj H S) xs ds)
  (hn: ∀(j:Nat) (es:List PyData),δ[j]?= some (Sl.own es)->σ[j]?≠some (some (V.ref a))) (hk: ∀j,¬gW (bj H S) σ δ j a):aW K H0 (σ.set i (some (.ref a))) H (δ.set i (.own ds)) S:=by
 have hp: ∀q,Sl.own ds≠ .prs q:=λq z=>nomatch z
 refine⟨L.old,L.frs,L.lst,by rw[ox,ox];exact L.len,λj d e=>?_,λj C e=>?_,λj ds' e=>?_,λj k ds1 es b e1 e2 e3 e4=>?_,λj q e=>?_,λj k ds b kd e=>?_,λj k b kd kd'=>L.sop j k b (kd.unset hp).2 (kd'.unset hp).2⟩
 ·rcases cj e with⟨rfl,e,hl⟩ | ⟨hne,e⟩
  ·cases e
  ·obtain⟨v,e1,q⟩:=L.dat j d e
   exact⟨v,by rw[iW hne];exact e1,q⟩
 ·rcases cj e with⟨rfl,e,hl⟩ | ⟨hne,e⟩
  ·cases e
  ·obtain⟨v,e1,q⟩:=L.exc j C e
   exact⟨v,by rw[iW hne];exact e1,q⟩
 ·rcases cj e with⟨rfl,e,hl⟩ | ⟨hne,e⟩
  ·cases e
   exact⟨a,xs,by rw[oN (by rw[L.len];exact hl)],hS,ha,hx⟩
  ·obtain⟨b,ys,e1,q⟩:=L.own j ds' e
   exact⟨b,ys,by rw[iW hne];exact e1,q⟩
 ·rcases cj e1 with⟨h1,f1,l1⟩ | ⟨n1,f1⟩
  ·subst h1
   rw[oN (by rw[L.len];exact l1)] at e3;cases e3
   rcases cj e2 with⟨h2,f2,l2⟩ | ⟨n2,f2⟩
   ·exact h2
   ·rw[iW n2] at e4
    exact absurd e4 (hn k es f2)
  ·rw[iW n1] at e3
   rcases cj e2 with⟨h2,f2,l2⟩ | ⟨n2,f2⟩
   ·subst h2
    rw[oN (by rw[L.len];exact l2)] at e4;cases e4
    exact absurd e3 (hn j ds1 f1)
   ·rw[iW n2] at e4
    exact L.one j k ds1 es b f1 f2 e3 e4
 ·rcases cj e with⟨_,e,_⟩ | ⟨hne,e⟩
  ·cases e
  ·rw[iW hne];exact L.two j q e
 ·have kd:=(kd.unset hp).2
  rcases cj e with⟨h1,e,l1⟩ | ⟨hne,e⟩
  ·subst h1
   rw[oN (by rw[L.len];exact l1)];intro z;cases z;exact hk j kd
  ·rw[iW hne];exact L.sep j k ds b kd e
theorem aW.mut{i:Nat}{a:Addr}{ds ds':List PyData}{xs':List V}(L:aW K H0 σ H δ S)(hi:δ[i]?= some (.own ds))(ha:σ[i]?= some (some (.ref a)))(hx:aE K (bj H S) xs' ds') :
  aW K H0 σ (bf H a (.lst xs')) (δ.set i (.own ds')) S:=by
 obtain⟨a',xs,e1,hS,hH,_⟩:=L.own i ds hi;rw[ha] at e1;cases e1
 have hh:=m4 (H:=H) (o:= .lst xs') hS;have hp: ∀q,Sl.own ds'≠ .prs q:=λq z=>nomatch z
 have hq: ∀(j:Nat) (es:List PyData),(δ.set i (.own ds'))[j]?= some (Sl.own es)->∃ds2,δ[j]?= some (.own ds2):=λj es e=>by
  rcases cj e with⟨rfl,_,_⟩ | ⟨_,e⟩
  ·exact⟨_,hi⟩
  ·exact⟨_,e⟩
 refine⟨λb o h=>?_,L.frs,λb h=>?_,by rw[ox];exact L.len,λj d e=>?_,λj C e=>?_,λj es e=>?_,λj k ds1 es b e1 e2 e3 e4=>?_,λj q e=>?_,λj k ds b kd e=>?_,λj k b kd kd'=>?_⟩
 ·have:b≠a:=by intro z;subst z;rw[L.frs b hS] at h;cases h
  rw[aY this];exact L.old b o h
 ·by_cases c:b=a
  ·subst c;exact⟨xs',bF⟩
  ·rw[aY c];exact L.lst b h
 ·rw[hh]
  rcases cj e with⟨rfl,e,hl⟩ | ⟨hne,e⟩
  ·cases e
  ·exact L.dat j d e
 ·rw[hh]
  rcases cj e with⟨rfl,e,hl⟩ | ⟨hne,e⟩
  ·cases e
  ·exact L.exc j C e
 ·rw[hh]
  rcases cj e with⟨rfl,e,hl⟩ | ⟨hne,e⟩
  ·cases e
   exact⟨a,xs',ha,hS,bF,hx⟩
  ·obtain⟨b,ys,q1,q2,q3,q4⟩:=L.own j es e
   have:b≠a:=by
    intro z;subst z;exact hne (L.one i j ds es b hi e ha q1)
   exact⟨b,ys,q1,q2,by rw[aY this];exact q3,q4⟩
 ·have f1: ∃ds2,δ[j]?= some (.own ds2):=by
   rcases cj e1 with⟨rfl,_,_⟩ | ⟨_,e⟩
   ·exact⟨_,hi⟩
   ·exact⟨_,e⟩
  have f2: ∃ds2,δ[k]?= some (.own ds2):=by
   rcases cj e2 with⟨rfl,_,_⟩ | ⟨_,e⟩
   ·exact⟨_,hi⟩
   ·exact⟨_,e⟩
  obtain⟨d1,f1⟩:=f1;obtain⟨d2,f2⟩:=f2;exact L.one j k d1 d2 b f1 f2 e3 e4
 ·rw[hh]
  rcases cj e with⟨_,e,_⟩ | ⟨hne,e⟩
  ·cases e
  ·obtain⟨c,x,y,xs,ys,q1,q2,q3,q4,q5,q6,q7⟩:=L.two j q e
   obtain⟨k1,k2⟩:=gW.mk' (G:=bj H S) e q1 q2;have n1:x≠a:=λz=>L.sep j i ds x k1 hi (z▸ha)
   have n2:y≠a:=λz=>L.sep j i ds y k2 hi (z▸ha)
   exact⟨c,x,y,xs,ys,q1,q2,q3,q4,by rw[aY n1];exact q5,by rw[aY n2];exact q6,q7⟩
 ·rw[hh] at kd
  obtain⟨d2,f⟩:=hq k ds e;exact L.sep j k d2 b (kd.unset' hp).2 f
 ·rw[hh] at kd kd'
  exact L.sop j k b (kd.unset' hp).2 (kd'.unset' hp).2
theorem aW.tk(L:aW K H0 σ H δ S):TK H (bj H S):=⟨λa xs h=>by
  cases e:S a with
  |true=>obtain⟨ys,z⟩:=L.lst a e;rw[h] at z;cases z
  |false=>rw[cU e];exact h,λa o u h=>by
  cases e:S a with
  |true=>obtain⟨ys,z⟩:=L.lst a e;rw[h] at z;cases z
  |false=>rw[cU e];exact h⟩
end
end D3
namespace D3
open PySem PySem.Spec PyProof.Rows L2 L3
variable [jJ]
def iQ(K:W.Frag)(E:XK)(H:Hp)(S:Addr->Bool)(Q:VK):hU Rz->Prop
 | .ok z=>∀v H' S',bw H S H' S'->RV K H H' S' v z->Q v H'
 | .err C=>∀H' S',bw H S H' S'->E (.ref (b4 C)) none H'
def lz(K:W.Frag)(E:XK)(t:TE)(f:List Sl->M Rz):Prop:=
 ∀(H0:Hp) (σ:L2.St) (H:Hp) (δ:List Sl) (S:Addr->Bool) (Q:VK) (r:hU Rz),aW K H0 σ H δ S->f δ=some r->iQ K E H S Q r->t σ H Q
def DE(X:Cx)(E:XK)(e:Expr)(f:List Sl->M Rz):Prop:=∃t,PE X e t/\lz X.K E t f
def qH(E:XK)(H:Hp)(S:Addr->Bool)(Q:Bool->Hp->Prop):hU Bool->Prop
 | .ok z=>∀H' S',bw H S H' S'->Q z H'
 | .err C=>∀H' S',bw H S H' S'->E (.ref (b4 C)) none H'
def o3(K:W.Frag)(E:XK)(t:TT)(f:List Sl->M Bool):Prop:=
 ∀(H0:Hp) (σ:L2.St) (H:Hp) (δ:List Sl) (S:Addr->Bool) (Q:Bool->Hp->Prop) (r:hU Bool),aW K H0 σ H δ S->f δ=some r->qH E H S Q r->t σ H Q
def DT(X:Cx)(E:XK)(e:Expr)(f:List Sl->M Bool):Prop:=∃t,PT X e t/\o3 X.K E t f
def DW(X:Cx)(E:XK)(e:Expr)(f:List Sl->M Bool):Prop:=∃t,PW X e t/\o3 X.K E t f
theorem DW.pt{X:Cx}{E:XK}{e:Expr}{f:List Sl->M Bool}(h:DW X E e f):DT X E e f:=let⟨t,a,b⟩:=h;⟨t,a.pt,b⟩
inductive kj (K:W.Frag) (H H':Hp) (S':Addr->Bool):List V->List Rz->Prop
 |nil:kj K H H' S' [] []
 |cons {v:V} {vs:List V} {r:Rz} {rs:List Rz}:RV K H H' S' v r->kj K H H' S' vs rs->kj K H H' S' (v::vs) (r::rs)
def Kl(K:W.Frag)(E:XK)(H:Hp)(S:Addr->Bool)(Q:List V->Hp->Prop):hU (List Rz)->Prop
 | .ok z=>∀vs H' S',bw H S H' S'->kj K H H' S' vs z->Q vs H'
 | .err C=>∀H' S',bw H S H' S'->E (.ref (b4 C)) none H'
def G8(K:W.Frag)(E:XK)(t:TA)(f:List Sl->M (List Rz)):Prop:=
 ∀(H0:Hp) (σ:L2.St) (H:Hp) (δ:List Sl) (S:Addr->Bool) (Q:List V->Hp->Prop) (r:hU (List Rz)),aW K H0 σ H δ S->f δ=some r->Kl K E H S Q r->t σ H Q
def DA(X:Cx)(E:XK)(es:List Expr)(f:List Sl->M (List Rz)):Prop:=∃t,PA X es t/\G8 X.K E t f
theorem iQ.ext{K:W.Frag}{E:XK}{H H1:Hp}{S S1:Addr->Bool}{Q:VK}{r:hU Rz}(g:bw H S H1 S1)(h:iQ K E H S Q r):iQ K E H1 S1 Q r:=by
 cases r with
 |ok z=>exact λv H' S' g' rv=>h v H' S' (g.trans g') (rv.back g)
 |err C=>exact λH' S' g'=>h H' S' (g.trans g')
theorem qH.ext{E:XK}{H H1:Hp}{S S1:Addr->Bool}{Q:Bool->Hp->Prop}{r:hU Bool}(g:bw H S H1 S1)(h:qH E H S Q r):qH E H1 S1 Q r:=by
 cases r with
 |ok z=>exact λH' S' g'=>h H' S' (g.trans g')
 |err C=>exact λH' S' g'=>h H' S' (g.trans g')
theorem kj.back{K:W.Frag}{H H1 H2:Hp}{S1 S2 S':Addr->Bool}(g:bw H S1 H1 S2): ∀{vs:List V} {rs:List Rz},kj K H1 H2 S' vs rs->kj K H H2 S' vs rs
 |_,_,.nil=> .nil
 |_,_,.cons h t=> .cons (h.back g) (kj.back g t)
section
variable{X:Cx}{E:XK}
def ac(i:Nat)(δ:List Sl):M Rz:=
 match δ[i]? with
 |some (.dat d)=>aj (.dat d)
 |some (.own ds)=>aj (.var ds)
 |some (.exc C)=>aj (.exc C)
 |some (.prs (some (ds,es)))=>aj (.use (.tuple [.list ds,.list es]))
 |_=>none
theorem G9{K:W.Frag}(i:Nat):lz K E (Ge i) (ac i):=by
 intro H0 σ H δ S Q r L h q;unfold ac at h
 split at h
 ·rename_i d e
  cases h;obtain⟨v,e1,e2⟩:=L.dat i d e;exact⟨v,e1,q v H S .refl e2⟩
 ·rename_i ds e
  cases h;obtain⟨a,xs,e1,e2,e3,e4⟩:=L.own i ds e;exact⟨_,e1,q _ H S .refl ⟨a,xs,rfl,e2,e3,e4⟩⟩
 ·rename_i C e
  cases h;obtain⟨a,e1,e2⟩:=L.exc i C e;exact⟨_,e1,q _ H S .refl ⟨a,rfl,e2⟩⟩
 ·rename_i ds es e
  cases h;obtain⟨c,a,b,xs,ys,q1,q2,q3,q4,q5,q6,q7⟩:=L.two i _ e;obtain⟨dx,dy⟩:=q7 ds es rfl;exact⟨_,q1,q _ H S .refl (.tup (gH.of (b6 _ _ q2)) (.cons (.lst (cw.of q5) (aE.same b6 dx)) (.cons (.lst (cw.of q6) (aE.same b6 dy)) .nil)))⟩
 ·exact nomatch h
theorem af(i:Nat){x:Str}{pos:Pos}(hN:X.N[i]?= some x:=by rfl)(hv:mU X.env.scope x:=by first |exact Or.inl rfl |exact Or.inr (Or.inl rfl) |exact Or.inr (Or.inr rfl))(hd:(x ==("__debug__" :Str))=false:=by decide)
  (hcd:(x ==("__classdict__" :Str))=false:=by decide):DE X E (.Name x pos) (ac i):=⟨_,i9 hN hv hd hcd,G9 i⟩
def fC(d:PyData)(_:List Sl):M Rz:=aj (.dat d)
theorem vP{K:W.Frag}{v:V}{d:PyData}(h: ∀H,DV K H v d):lz K E (tC v) (fC d):=by
 intro H0 σ H δ S Q r L e q;cases e;exact q v H S .refl (h _)
theorem am{i j pos}:DE X E (.Constant (.int i) j pos) (fC (.int i)):=⟨_,vz,vP λ_=> .int i⟩
theorem iK{b j pos}:DE X E (.Constant (.bool b) j pos) (fC (.bool b)):=⟨_,IL,vP λ_=> .bl b⟩
theorem cR{j pos}:DE X E (.Constant .none j pos) (fC .none):=⟨_,Gf,vP λ_=> .non⟩
theorem ao{x j pos}:DE X E (.Constant (.str x) j pos) (fC (.str x)):=⟨_,ls,vP λ_=> .str x⟩
theorem ES{x:Str}{v:V}{u:Value}{d:PyData}{pos:Pos}(hm:X.mg x=some u)(r:bG v u)(hd: ∀H,DV X.K H v d)(hg:Gl X x:=by rfl)(hdb:(x ==("__debug__" :Str))=false:=by decide):DE X E (.Name x pos) (fC d):=
 ⟨_,gK hg hm r hdb,vP hd⟩
def fY(K:W.Frag)(E:XK)(r:R2)(g:Rz->Rz->M Rz):Prop:=
 ∀(H0:Hp) (σ:L2.St) (H:Hp) (δ:List Sl) (S:Addr->Bool) (Ha Hb:Hp) (v w:V) (x y:Rz) (z:hU Rz) (Q:VK),aW K H0 σ H δ S->RV K Ha H S v x->RV K Hb H S w y->g x y=some z->iQ K E H S Q z->r v w H Q
def f2(g:Rz->Rz->M Rz)(fa fb:List Sl->M Rz)(δ:List Sl):M Rz:=hV (fa δ) λx=>hV (fb δ) λy=>g x y
theorem AX{K:W.Frag}{r:R2}{g:Rz->Rz->M Rz}{ta tb:TE}{fa fb:List Sl->M Rz}(hr:fY K E r g)(ha:lz K E ta fa)(hb:lz K E tb fb):lz K E (AE r ta tb) (f2 g fa fb):=by
 intro H0 σ H δ S Q z L h q
 rcases a7 h with⟨x,h1,h⟩ | ⟨C,h1,rfl⟩
 ·refine ha H0 σ H δ S _ _ L h1 λv H1 S1 g1 rv=>?_
  rcases a7 h with⟨y,h2,h⟩ | ⟨C,h2,rfl⟩
  ·refine hb H0 σ H1 δ S1 _ _ (L.ext g1) h2 λw H2 S2 g2 rw'=>?_
   exact hr H0 σ H2 δ S2 H H1 v w x y z Q ((L.ext g1).ext g2) (rv.ext g2) rw' h (q.ext (g1.trans g2))
  ·exact hb H0 σ H1 δ S1 _ _ (L.ext g1) h2 (iQ.ext g1 q)
 ·exact ha H0 σ H δ S _ _ L h1 q
theorem aF{a b:Expr}{pos:Pos}{op:Operator}{r:R2}{g:Rz->Rz->M Rz}{fa fb:List Sl->M Rz}(ho:fS X (binaryOp op) r)(hr:fY X.K E r g)(ha:DE X E a fa)(hb:DE X E b fb):DE X E (.BinOp a op b pos) (f2 g fa fb):=
 let⟨ta,a1,a2⟩:=ha;let⟨tb,b1,b2⟩:=hb;⟨_,IU ho a1 b1,AX hr a2 b2⟩
theorem r9{a b:Expr}{pos:Pos}{op:CmpOp}{r:R2}{g:Rz->Rz->M Rz}{fa fb:List Sl->M Rz}(ho:fS X (compareOp op) r)(hr:fY X.K E r g)(ha:DE X E a fa)(hb:DE X E b fb)(hm:behindInMarks op b=false:=by exact AF _):DE X E (.Compare a [op] [b] pos) (f2 g fa fb):=
 let⟨ta,a1,a2⟩:=ha;let⟨tb,b1,b2⟩:=hb;⟨_,Eo ho a1 b1 hm,AX hr a2 b2⟩
def sd(x:Rz):M Bool:=
 match x.d? with
 |some (.bool b)=>aj b
 |_=>none
def fB(f:List Sl->M Rz)(δ:List Sl):M Bool:=hV (f δ) sd
theorem iu{x:Rz}{r:hU Bool}(h:sd x=some r): ∃b,x.d?= some (.bool b)/\r= .ok b:=by
 unfold sd at h;split at h
 ·rename_i b e;cases h;exact⟨b,e,rfl⟩
 ·cases h
theorem yi{K:W.Frag}{t:TE}{f:List Sl->M Rz}(h:lz K E t f):o3 K E (λ σ H Q=>t σ H λx H'=>∃k,x= .bl k/\Q k H') (fB f):=by
 intro H0 σ H δ S Q z L e q
 rcases a7 e with⟨x,h1,e⟩ | ⟨C,h1,rfl⟩
 ·obtain⟨b,eb,rfl⟩:=iu e
  refine h H0 σ H δ S _ _ L h1 λv H1 S1 g1 rv=>?_
  have d:=rv.full eb;cases d;exact⟨b,rfl,q H1 S1 g1⟩
 ·exact h H0 σ H δ S _ _ L h1 q
theorem aI{a b:Expr}{pos:Pos}{op:CmpOp}{r:R2}{g:Rz->Rz->M Rz}{fa fb:List Sl->M Rz}(ho:fS X (compareOp op) r)(hr:fY X.K E r g)(ha:DE X E a fa)(hb:DE X E b fb)(hm:behindInMarks op b=false:=by exact AF _):DT X E (.Compare a [op] [b] pos) (fB (f2 g fa fb)):=
 let⟨ta,a1,a2⟩:=ha;let⟨tb,b1,b2⟩:=hb;⟨_,Ep ho a1 b1 hm,yi (AX hr a2 b2)⟩
theorem hX{e:Expr}{f:List Sl->M Rz}(h:DE X E e f)(he: ∀whole,isTrue e X.env whole=(do let v <-whole;standAt e.pos;holding [v] (truthy v)):=by intro _;rfl):DT X E e (fB f):=
 let⟨t,a,b⟩:=h;⟨_,Gg a he,yi b⟩
def fZ(f:List Sl->M Bool)(δ:List Sl):M Bool:=hV (f δ) λb=>aj (!b)
def fL(f g:List Sl->M Bool)(δ:List Sl):M Bool:=hV (f δ) λb=>if b=true then g δ else aj false
def fE(f g:List Sl->M Bool)(δ:List Sl):M Bool:=hV (f δ) λb=>if b=true then aj true else g δ
theorem G'{K:W.Frag}{t:TT}{f:List Sl->M Bool}(h:o3 K E t f):o3 K E (Gi t) (fZ f):=by
 intro H0 σ H δ S Q z L e q
 rcases a7 e with⟨x,h1,e⟩ | ⟨C,h1,rfl⟩
 ·cases e
  exact h H0 σ H δ S _ _ L h1 λH1 S1 g1=>q H1 S1 g1
 ·exact h H0 σ H δ S _ _ L h1 q
theorem Hd{K:W.Frag}{t u:TT}{f g:List Sl->M Bool}(h:o3 K E t f)(h':o3 K E u g):o3 K E (Gh t u) (fL f g):=by
 intro H0 σ H δ S Q z L e q
 rcases a7 e with⟨x,h1,e⟩ | ⟨C,h1,rfl⟩
 ·refine h H0 σ H δ S _ _ L h1 λH1 S1 g1=>?_
  cases x with
  |true=>exact oV (h' H0 σ H1 δ S1 _ _ (L.ext g1) e (qH.ext g1 q))
  |false=>cases e;exact oU (q H1 S1 g1)
 ·exact h H0 σ H δ S _ _ L h1 q
theorem Jn{K:W.Frag}{t u:TT}{f g:List Sl->M Bool}(h:o3 K E t f)(h':o3 K E u g):o3 K E (JS t u) (fE f g):=by
 intro H0 σ H δ S Q z L e q
 rcases a7 e with⟨x,h1,e⟩ | ⟨C,h1,rfl⟩
 ·refine h H0 σ H δ S _ _ L h1 λH1 S1 g1=>?_
  cases x with
  |false=>exact oU (h' H0 σ H1 δ S1 _ _ (L.ext g1) e (qH.ext g1 q))
  |true=>cases e;exact oV (q H1 S1 g1)
 ·exact h H0 σ H δ S _ _ L h1 q
variable{a b:Expr}{bD:List Expr}{pos:Pos}
theorem km{f:List Sl->M Bool}(h:DT X E a f):DT X E (.UnaryOp .Not a pos) (fZ f):=let⟨t,a,b⟩:=h;⟨_,Gm a,G' b⟩
theorem m5{f:List Sl->M Bool}(h:DT X E a f):DW X E (.BoolOp .And [a] pos) f:=let⟨t,a,b⟩:=h;⟨_,Ej a,b⟩
theorem je{f:List Sl->M Bool}(h:DT X E a f):DW X E (.BoolOp .Or [a] pos) f:=let⟨t,a,b⟩:=h;⟨_,Gj a,b⟩
theorem o4{f g:List Sl->M Bool}(h:DT X E a f)(h':DW X E (.BoolOp .And (b::bD) pos) g):DW X E (.BoolOp .And (a::b::bD) pos) (fL f g):=let⟨t,a,b⟩:=h;let⟨u,c,d⟩:=h';⟨_,Gk a c,Hd b d⟩
theorem gt{f g:List Sl->M Bool}(h:DT X E a f)(h':DW X E (.BoolOp .Or (b::bD) pos) g):DW X E (.BoolOp .Or (a::b::bD) pos) (fE f g):=let⟨t,a,b⟩:=h;let⟨u,c,d⟩:=h';⟨_,IM a c,Jn b d⟩
def fV(f:List Sl->M Bool)(δ:List Sl):M Rz:=hV (f δ) λb=>aj (.dat (.bool b))
theorem He{K:W.Frag}{t:TE}{f:List Sl->M Rz}(h:lz K E t f):lz K E t (fV (fB f)):=by
 intro H0 σ H δ S Q z L e q
 rcases a7 e with⟨b,h1,e⟩ | ⟨C,h1,rfl⟩
 ·rcases a7 h1 with⟨x,h2,h1⟩ | ⟨C,h2,h3⟩
  ·obtain⟨b',eb,eq⟩:=iu h1
   cases eq;cases e;refine h H0 σ H δ S _ _ L h2 λv H1 S1 g1 rv=>?_
   have d:=rv.full eb;cases d;exact q _ H1 S1 g1 (.bl b)
  ·cases h3
 ·rcases a7 h1 with⟨x,h2,h1⟩ | ⟨C',h2,h3⟩
  ·obtain⟨b',eb,eq⟩:=iu h1
   cases eq
  ·cases h3
   exact h H0 σ H δ S _ _ L h2 q
theorem se{op}{f:List Sl->M Rz}(h:DE X E a f):DE X E (.BoolOp op [a] pos) (fV (fB f)):=let⟨t,a,b⟩:=h;⟨_,Gn a,He b⟩
theorem Jo{f:List Sl->M Bool}{δ:List Sl}{z:hU Rz}(h:fV f δ=some z):(∃b,f δ=some (.ok b)/\z= .ok (.dat (.bool b)))\/∃C,f δ=some (.err C)/\z= .err C:=by
 rcases a7 h with⟨b,h1,e⟩ | ⟨C,h1,rfl⟩
 ·cases e;exact .inl ⟨b,h1,rfl⟩
 ·exact .inr ⟨C,h1,rfl⟩
theorem sf{f:List Sl->M Rz}{g:List Sl->M Bool}(h:DE X E a f)(h':DE X E (.BoolOp .And (b::bD) pos) (fV g)):DE X E (.BoolOp .And (a::b::bD) pos) (fV (fL (fB f) g)):=by
 obtain⟨t,a1,a2⟩:=h;obtain⟨u,c1,c2⟩:=h';refine⟨_,Go a1 c1,?_⟩;intro H0 σ H δ S Q z L ez q
 rcases Jo ez with⟨k,e,rfl⟩ | ⟨C,e,rfl⟩
 ·rcases a7 e with⟨b,h1,e⟩ | ⟨C,h1,h2⟩
  ·rcases a7 h1 with⟨x,h2,h1⟩ | ⟨C,h2,h3⟩
   ·obtain⟨b',eb,eq⟩:=iu h1
    cases eq;refine a2 H0 σ H δ S _ _ L h2 λv H1 S1 g1 rv=>?_
    have d:=rv.full eb;cases d;cases b with
    |true=>exact⟨true,rfl,oV (c2 H0 σ H1 δ S1 _ _ (L.ext g1) (by unfold fV;rw[(show g δ=some (.ok k) from e)];rfl) (iQ.ext g1 q))⟩
    |false=>cases e;exact⟨false,rfl,oU (q _ H1 S1 g1 (.bl false))⟩
   ·cases h3
  ·cases h2
 ·rcases a7 e with⟨b,h1,e⟩ | ⟨C,h1,h2⟩
  ·rcases a7 h1 with⟨x,h2,h1⟩ | ⟨C,h2,h3⟩
   ·obtain⟨b',eb,eq⟩:=iu h1
    cases eq;refine a2 H0 σ H δ S _ _ L h2 λv H1 S1 g1 rv=>?_
    have d:=rv.full eb;cases d;cases b with
    |true=>exact⟨true,rfl,oV (c2 H0 σ H1 δ S1 _ _ (L.ext g1) (by unfold fV;rw[(show g δ=some (.err C) from e)];rfl) (iQ.ext g1 q))⟩
    |false=>cases e
   ·cases h3
  ·cases h2
   rcases a7 h1 with⟨x,h2,h1⟩ | ⟨C',h2,h3⟩
   ·obtain⟨b',eb,eq⟩:=iu h1
    cases eq
   ·cases h3
    exact a2 H0 σ H δ S _ _ L h2 q
def sh(c:List Sl->M Bool)(f g:List Sl->M Rz)(δ:List Sl):M Rz:=hV (c δ) λb=>if b=true then f δ else g δ
theorem vQ{c:Expr}{fc:List Sl->M Bool}{f g:List Sl->M Rz}(hc:DT X E c fc)(ha:DE X E a f)(hb:DE X E b g):DE X E (.IfExp c a b pos) (sh fc f g):=by
 obtain⟨tc,c1,c2⟩:=hc;obtain⟨t,a1,a2⟩:=ha;obtain⟨u,b1,b2⟩:=hb;refine⟨_,Ce c1 a1 b1,?_⟩;intro H0 σ H δ S Q z L e q
 rcases a7 e with⟨k,h1,e⟩ | ⟨C,h1,rfl⟩
 ·refine c2 H0 σ H δ S _ _ L h1 λH1 S1 g1=>?_
  cases k with
  |true=>exact oV (a2 H0 σ H1 δ S1 _ _ (L.ext g1) e (iQ.ext g1 q))
  |false=>exact oU (b2 H0 σ H1 δ S1 _ _ (L.ext g1) e (iQ.ext g1 q))
 ·exact c2 H0 σ H δ S _ _ L h1 q
end
theorem aE.len{K:W.Frag}{H:Hp}: ∀{xs:List V} {ds:List PyData},aE K H xs ds->xs.length=ds.length
 |_,_,.nil=>rfl
 |_,_,.cons _ t=>by rw[c5,c5,aE.len t]
theorem aE.get{K:W.Frag}{H:Hp}: ∀{xs:List V} {ds:List PyData} {i:Nat} {d:PyData},aE K H xs ds->ds[i]?= some d->∃v,xs[i]?= some v/\DV K H v d
 |_,_,_,_,.nil,h=>by simp at h
 |_,_,0,_,.cons h _,e=>by simp at e;subst e;exact⟨_,rfl,h⟩
 |_,_,i+1,_,.cons _ t,e=>by
  have e':_:=e;simp at e'
  obtain⟨v,h1,h2⟩:=aE.get t e';exact⟨v,by simpa using h1,h2⟩
theorem aE.atI{K:W.Frag}{H:Hp}{xs:List V}{ds:List PyData}{i:Int}{d:PyData}(h:aE K H xs ds)(e:L2.atI ds i=some d): ∃v,L2.atI xs i=some v/\DV K H v d:=by
 unfold L2.atI at e⊢;rw[aE.len h]
 cases q:lw ds.length i with
 |none=>rw[q] at e;cases e
 |some j=>rw[q] at e;exact aE.get h e
theorem aE.append{K:W.Frag}{H:Hp}{ys:List V}{es:List PyData}(b:aE K H ys es): ∀{xs:List V} {ds:List PyData},aE K H xs ds->aE K H (xs++ys) (ds++es)
 |_,_,.nil=>b
 |_,_,.cons h t=> .cons h (aE.append b t)
theorem aE.drop{K:W.Frag}{H:Hp}: ∀(n:Nat) {xs:List V} {ds:List PyData},aE K H xs ds->aE K H (xs.drop n) (ds.drop n)
 |0,_,_,h=>h
 |n+1,_,_,.nil=> .nil
 |n+1,_,_,.cons _ t=>aE.drop n t
theorem aE.take{K:W.Frag}{H:Hp}: ∀(n:Nat) {xs:List V} {ds:List PyData},aE K H xs ds->aE K H (xs.take n) (ds.take n)
 |0,_,_,h=>by simp;exact .nil
 |n+1,_,_,.nil=> .nil
 |n+1,_,_,.cons h t=> .cons h (aE.take n t)
theorem aE.set{K:W.Frag}{H:Hp}{v:V}{d:PyData}(hv:DV K H v d): ∀(j:Nat) {xs:List V} {ds:List PyData},aE K H xs ds->aE K H (xs.set j v) (ds.set j d)
 |_,_,_,.nil=> .nil
 |0,_,_,.cons _ t=> .cons hv t
 |j+1,_,_,.cons h t=> .cons h (aE.set hv j t)
theorem aE.rep{K:W.Frag}{H:Hp}{xs:List V}{ds:List PyData}(h:aE K H xs ds): ∀n:Nat,aE K H (List.replicate n xs).flatten (List.replicate n ds).flatten
 |0=> .nil
 |n+1=>by rw[rL,rL,x8,x8];exact aE.append (aE.rep h n) h
theorem aE.dropLast{K:W.Frag}{H:Hp}{xs:List V}{ds:List PyData}(h:aE K H xs ds):aE K H xs.dropLast ds.dropLast:=by
 rw[List.dropLast_eq_take,List.dropLast_eq_take,aE.len h];exact aE.take _ h
def kQ(x:Rz):Option (Bool×List PyData):=
 match x.d? with
 |some (.list ds)=>some (true,ds)
 |some (.tuple ds)=>some (false,ds)
 |_=>none
def kept(x:Rz)(ds:List PyData):Bool:=
 match x with
 | .use _=>hJ ds
 |_=>true
theorem iR{K:W.Frag}{H0 Ha H:Hp}{σ:L2.St}{δ:List Sl}{S:Addr->Bool}{v:V}{x:Rz}{ds:List PyData}(L:aW K H0 σ H δ S)(r:RV K Ha H S v x)(h:x.d?= some (.list ds)) :
  ∃a xs,v= .ref a/\cw K H a xs/\aE K H xs ds/\(kept x ds=true->aE K (bj H S) xs ds):=by
 cases x with
 |dat d=>
  cases h;have r':DV K (bj H S) v (.list ds):=r;cases r' with
  |lst hs hx=>exact⟨_,_,rfl,b6.seq hs,aE.same b6 hx,λ_=>hx⟩
 |use d=>
  cases h;have r':DV K H v (.list ds):=r;cases r' with
  |lst hs hx=>exact⟨_,_,rfl,hs,hx,λk=>aE.ts L.tk hx k⟩
 |new es=>
  cases h;obtain⟨a,xs,rfl,_,_,ha,hx⟩:=r;exact⟨a,xs,rfl,cw.of ha,aE.same b6 hx,λ_=>hx⟩
 |var es=>
  cases h;obtain⟨a,xs,rfl,_,ha,hx⟩:=r;exact⟨a,xs,rfl,cw.of ha,aE.same b6 hx,λ_=>hx⟩
 |exc C=>cases h
theorem tH{K:W.Frag}{H0 Ha H:Hp}{σ:L2.St}{δ:List Sl}{S:Addr->Bool}{v:V}{x:Rz}{ds:List PyData}(L:aW K H0 σ H δ S)(r:RV K Ha H S v x)(h:x.d?= some (.tuple ds)) :
  ∃a xs,v= .ref a/\gH K H a xs/\aE K H xs ds/\(kept x ds=true->aE K (bj H S) xs ds/\gH K (bj H S) a xs):=by
 cases x with
 |dat d=>
  cases h;have r':DV K (bj H S) v (.tuple ds):=r;cases r' with
  |tup hs hx=>exact⟨_,_,rfl,vf b6 hs,aE.same b6 hx,λ_=>⟨hx,hs⟩⟩
 |use d=>
  cases h;have r':DV K H v (.tuple ds):=r;cases r' with
  |tup hs hx=>exact⟨_,_,rfl,hs,hx,λk=>⟨aE.ts L.tk hx k,L.tk.tup hs⟩⟩
 |new es=>cases h
 |var es=>cases h
 |exc C=>cases h
def gI(g:Int->Int->Option PyData)(x y:Rz):M Rz:=
 match x.d?,y.d? with
 |some (.int i),some (.int j)=>(match g i j with |some d=>aj (.dat d) |none=>none)
 |_,_=>none
theorem AY{g:Int->Int->Option PyData}{x y:Rz}{z:hU Rz}(h:gI g x y=some z): ∃i j d,x.d?= some (.int i)/\y.d?= some (.int j)/\g i j=some d/\z= .ok (.dat d):=by
 unfold gI at h;split at h
 ·rename_i i j e1 e2
  split at h
  ·rename_i d e3;cases h;exact⟨i,j,d,e1,e2,e3,rfl⟩
  ·cases h
 ·cases h
theorem CK{K:W.Frag}{E:XK}{C:Int->Int->Prop}{g:Int->Int->V}{g':Int->Int->Option PyData}(hg: ∀i j d,g' i j=some d->C i j/\∀H,DV K H (g i j) d):fY K E (rI C g) (gI g'):=by
 intro H0 σ H δ S Ha Hb v w x y z Q L rx ry h q;obtain⟨i,j,d,e1,e2,e3,rfl⟩:=AY h;have d1:=rx.full e1;have d2:=ry.full e2;cases d1;cases d2;obtain⟨hc,hv⟩:=hg i j d e3;exact⟨i,j,rfl,rfl,hc,q _ H S .refl (hv _)⟩
theorem pQ{K:W.Frag}{E:XK}{g:Int->Int->V}{g':Int->Int->Option PyData}(hg: ∀i j d,g' i j=some d->∀H,DV K H (g i j) d):fY K E (lu g) (gI g'):=by
 intro H0 σ H δ S Ha Hb v w x y z Q L rx ry h q;obtain⟨i,j,d,e1,e2,e3,rfl⟩:=AY h;have d1:=rx.full e1;have d2:=ry.full e2;cases d1;cases d2;exact⟨i,j,rfl,rfl,q _ H S .refl (hg i j d e3 _)⟩
open Classical in
noncomputable def dY(i j:Int):Option PyData:=if IntMulOk i j then some (.int (i*j)) else none
open Classical in
noncomputable def di(i j:Int):Option PyData:=if j≠0/\j.natAbs<2^9000 then some (.int (i.fdiv j)) else none
def dQ(i j:Int):Option PyData:=some (.int (i+j))
def kD(i j:Int):Option PyData:=some (.int (i-j))
def bO(i j:Int):Option PyData:=if j=0 then none else some (.int (i.fmod j))
open Classical in
def oE(i j:Int):Option PyData:=some (.bool (decide (i<j)))
def DP(i j:Int):Option PyData:=some (.bool (decide (i<=j)))
def jK(i j:Int):Option PyData:=some (.bool (decide (j<i)))
def Hg(i j:Int):Option PyData:=some (.bool (decide (j<=i)))
section
variable{K:W.Frag}{E:XK}
theorem hZ:fY K E (lu λi j=> .int (i+j)) (gI dQ):=pQ λi j d h H=>by cases h;exact .int _
theorem si:fY K E (lu λi j=> .int (i-j)) (gI kD):=pQ λi j d h H=>by cases h;exact .int _
theorem pS:fY K E (lu λi j=> .bl (decide (i<j))) (gI oE):=pQ λi j d h H=>by cases h;exact .bl _
theorem Jp:fY K E (lu λi j=> .bl (decide (i<=j))) (gI DP):=pQ λi j d h H=>by cases h;exact .bl _
theorem mn:fY K E (lu λi j=> .bl (decide (j<i))) (gI jK):=pQ λi j d h H=>by cases h;exact .bl _
theorem Jq:fY K E (lu λi j=> .bl (decide (j<=i))) (gI Hg):=pQ λi j d h H=>by cases h;exact .bl _
theorem iE:fY K E (rI IntMulOk λi j=> .int (i*j)) (gI dY):=CK λi j d h=>by
 unfold dY at h;split at h
 ·cases h;exact⟨by assumption,λ_=> .int _⟩
 ·cases h
theorem i4:fY K E (rI (λ_ j=>j≠0/\j.natAbs<2^9000) λi j=> .int (i.fdiv j)) (gI di):=CK λi j d h=>by
 unfold di at h;split at h
 ·cases h;exact⟨by assumption,λ_=> .int _⟩
 ·cases h
theorem c8:fY K E (rI (λ_ j=>j≠0) λi j=> .int (i.fmod j)) (gI bO):=CK λi j d h=>by
 unfold bO at h;split at h
 ·cases h
 ·cases h;exact⟨by assumption,λ_=> .int _⟩
def aQ(neg:Bool)(x y:Rz):M Rz:=
 match x.d?,y.d? with
 |some d,some e=>if fu d=true/\fu e=true then aj (.dat (.bool (if neg then !PyData.eqv d e else PyData.eqv d e))) else none
 |_,_=>none
theorem yj{neg:Bool}{x y:Rz}{z:hU Rz}(h:aQ neg x y=some z): ∃d e,x.d?= some d/\y.d?= some e/\fu d=true/\fu e=true/\z= .ok (.dat (.bool (if neg then !PyData.eqv d e else PyData.eqv d e))):=by
 unfold aQ at h;split at h
 ·rename_i d e e1 e2
  split at h
  ·rename_i c;cases h;exact⟨d,e,e1,e2,c.1,c.2,rfl⟩
  ·cases h
 ·cases h
theorem bX:fY K E (GQ K) (aQ false):=by
 intro H0 σ H δ S Ha Hb v w x y z Q L rx ry h q;obtain⟨d,e,e1,e2,o1,o2,rfl⟩:=yj h;exact⟨d,e,rx.full e1,ry.full e2,o1,o2,q _ H S .refl (.bl _)⟩
theorem mo:fY K E (GR K) (aQ true):=by
 intro H0 σ H δ S Ha Hb v w x y z Q L rx ry h q;obtain⟨d,e,e1,e2,o1,o2,rfl⟩:=yj h;exact⟨d,e,rx.full e1,ry.full e2,o1,o2,q _ H S .refl (.bl _)⟩
def AZ(x:Rz):Option Bool:=
 match x with
 | .exc _=>some false
 | .dat .none=>some true
 | .dat _=>some false
 | .use .none=>some true
 | .use _=>some false
 |_=>some false
def jf(neg:Bool)(x y:Rz):M Rz:=
 match y.d?,AZ x with
 |some .none,some b=>aj (.dat (.bool (if neg then !b else b)))
 |_,_=>none
theorem A2{Ha H:Hp}{S:Addr->Bool}{v:V}{x:Rz}{b:Bool}(r:RV K Ha H S v x)(h:AZ x=some b):decide (v= .non)=b:=by
 have dv: ∀{H':Hp} {d:PyData},DV K H' v d->decide (v= .non)=(match d with | .none=>true |_=>false):=λ{H' d} z=>by
  cases z<;>rfl
 cases x with
 |exc C=>obtain⟨ea,rfl,_⟩:=r;cases h;rfl
 |new ds=>obtain⟨a,xs,rfl,_⟩:=r;cases h;rfl
 |var ds=>obtain⟨a,xs,rfl,_⟩:=r;cases h;rfl
 |dat d=>
  rw[dv (show DV K (bj H S) v d from r)];cases d<;>cases h<;>rfl
 |use d=>
  rw[dv (show DV K H v d from r)];cases d<;>cases h<;>rfl
theorem kR:fY K E (λx y H Q=>y= .non/\Q (.bl (decide (x= .non))) H) (jf false):=by
 intro H0 σ H δ S Ha Hb v w x y z Q L rx ry h q;unfold jf at h
 split at h
 ·rename_i b e1 e2
  cases h;have d:=ry.full e1;cases d;refine⟨rfl,?_⟩;rw[A2 rx e2];exact q _ H S .refl (.bl _)
 ·cases h
def vh(x:Rz)(d:PyData):Rz:=
 match x with
 | .use _=>if hI d=true then .dat d else .use d
 |_=> .dat d
def aJ(x y:Rz):M Rz:=
 match kQ x,y.d? with
 |some (_,ds),some (.int i)=>(match L2.atI ds i with |some d=>aj (vh x d) |none=>none)
 |_,_=>none
theorem yk{H0 H:Hp}{σ:L2.St}{δ:List Sl}{S:Addr->Bool}{x:Rz}{d:PyData}{i:Int}{xs:List V}{ds:List PyData}(L:aW K H0 σ H δ S)(hx:aE K H xs ds)(hk:kept x ds=true->aE K (bj H S) xs ds)(e:L2.atI ds i=some d) :
  ∃w,L2.atI xs i=some w/\∀Hc,RV K Hc H S w (vh x d):=by
 obtain⟨w,e1,dw⟩:=aE.atI hx e;refine⟨w,e1,λHc=>?_⟩;cases x with
 |use z=>
  unfold vh;dsimp only;split
  ·rename_i c;exact DV.ts L.tk dw c
  ·exact dw
 |dat z=>
  obtain⟨w',e2,dw'⟩:=aE.atI (hk rfl) e;rw[e1] at e2;cases e2;exact dw'
 |new z=>
  obtain⟨w',e2,dw'⟩:=aE.atI (hk rfl) e;rw[e1] at e2;cases e2;exact dw'
 |var z=>
  obtain⟨w',e2,dw'⟩:=aE.atI (hk rfl) e;rw[e1] at e2;cases e2;exact dw'
 |exc z=>
  obtain⟨w',e2,dw'⟩:=aE.atI (hk rfl) e;rw[e1] at e2;cases e2;exact dw'
theorem Jr:fY K E (GI K) aJ:=by
 intro H0 σ H δ S Ha Hb v w x y z Q L rx ry h q;unfold aJ at h
 split at h
 ·rename_i b ds i e1 e2
  split at h
  ·rename_i d e3
   cases h;have d2:=ry.full e2;cases d2;unfold kQ at e1
   split at e1
   ·rename_i es e4
    cases e1;obtain⟨a,xs,rfl,hs,hx,hk⟩:=iR L rx e4;obtain⟨u,e5,ru⟩:=yk L hx hk e3;exact .inl ⟨a,xs,i,u,rfl,rfl,hs,e5,q _ H S .refl (ru _)⟩
   ·rename_i es e4
    cases e1;obtain⟨a,xs,rfl,hs,hx,hk⟩:=tH L rx e4;obtain⟨u,e5,ru⟩:=yk L hx (λk=>(hk k).1) e3;exact .inr (.inl ⟨a,xs,i,u,rfl,rfl,hs,e5,q _ H S .refl (ru _)⟩)
   ·cases e1
  ·cases h
 ·cases h
def pT(x:Rz):Option (List PyData):=
 match x with
 | .new ds=>some ds
 | .var ds=>some ds
 |_=>none
theorem vR{Ha H:Hp}{S:Addr->Bool}{v:V}{x:Rz}{ds:List PyData}(r:RV K Ha H S v x)(h:pT x=some ds): ∃a xs,v= .ref a/\S a=true/\H a=some (.lst xs)/\aE K (bj H S) xs ds:=by
 cases x with
 |new es=>cases h;obtain⟨a,xs,e,z,_,q⟩:=r;exact⟨a,xs,e,z,q⟩
 |var es=>cases h;exact r
 |dat d=>cases h
 |use d=>cases h
 |exc d=>cases h
def iS(x y:Rz):M Rz:=
 match pT x,pT y with
 |some ds,some es=>if ds.length+es.length<=sizeLine then aj (.new (ds++es)) else none
 |_,_=>none
theorem jg:fY K E GM iS:=by
 intro H0 σ H δ S Ha Hb v w x y z Q L rx ry h q;unfold iS at h
 split at h
 ·rename_i ds es e1 e2
  split at h
  ·rename_i hz
   cases h;obtain⟨a,xs,rfl,_,ha,hx⟩:=vR rx e1;obtain⟨b,ys,rfl,_,hb,hy⟩:=vR ry e2;refine⟨a,b,xs,ys,rfl,rfl,ha,hb,by rw[aE.len hx,aE.len hy];exact hz,λp hp=>?_⟩;exact q _ _ (ins S p) (bw.ins hp) ⟨p,_,rfl,dF,hp,bF,by rw[la hp];exact aE.append hy hx⟩
  ·cases h
 ·cases h
def tI(x y:Rz):M Rz:=
 match pT x,y.d? with
 |some ds,some (.int k)=>if -(2^63)<=k/\k<2^63/\ds.length*k.toNat<=sizeLine then aj (.new (List.replicate k.toNat ds).flatten) else none
 |_,_=>none
theorem A3:fY K E GN tI:=by
 intro H0 σ H δ S Ha Hb v w x y z Q L rx ry h q;unfold tI at h
 split at h
 ·rename_i ds k e1 e2
  split at h
  ·rename_i hz
   cases h;obtain⟨a,xs,rfl,_,ha,hx⟩:=vR rx e1;have d2:=ry.full e2;cases d2;refine⟨a,k,xs,rfl,rfl,ha,hz.1,hz.2.1,by rw[aE.len hx];exact hz.2.2,λp hp=>?_⟩;exact q _ _ (ins S p) (bw.ins hp) ⟨p,_,rfl,dF,hp,bF,by rw[la hp];exact aE.rep hx _⟩
  ·cases h
 ·cases h
theorem h7{H:Hp}{S:Addr->Bool}{p:Addr}{o:HO}(L: ∀b,S b=true->∃xs,H b=some (.lst xs))(hp:H p=none):bj (bf H p o) S p=some o:=by
 cases e:S p with
 |true=>obtain⟨xs,z⟩:=L p e;rw[hp] at z;cases z
 |false=>rw[cU e];exact bF
end
section
variable{X:Cx}{E:XK}{K:W.Frag}
def ak(_:List Sl):M (List Rz):=aj []
def aa(f:List Sl->M Rz)(g:List Sl->M (List Rz))(δ:List Sl):M (List Rz):=hV (f δ) λx=>hV (g δ) λxs=>aj (x::xs)
theorem ap:DA X E [] ak:=⟨_,eZ,λH0 σ H δ S Q r L h q=>by cases h;exact q [] H S .refl .nil⟩
theorem ad{e:Expr}{es:List Expr}{f:List Sl->M Rz}{g:List Sl->M (List Rz)}(ha:DE X E e f)(hr:DA X E es g)(hs:starEach (e::es) X.env=(false,eval e X.env)::starEach es X.env:=by rfl):DA X E (e::es) (aa f g):=by
 obtain⟨t,a1,a2⟩:=ha;obtain⟨u,b1,b2⟩:=hr;refine⟨_,cg a1 b1 hs,?_⟩;intro H0 σ H δ S Q z L h q
 rcases a7 h with⟨x,h1,h⟩ | ⟨C,h1,rfl⟩
 ·refine a2 H0 σ H δ S _ _ L h1 λv H1 S1 g1 rv=>?_
  rcases a7 h with⟨xs,h2,h⟩ | ⟨C,h2,rfl⟩
  ·cases h
   refine b2 H0 σ H1 δ S1 _ _ (L.ext g1) h2 λvs H2 S2 g2 rw'=>?_
   exact q _ H2 S2 (g1.trans g2) (.cons (rv.ext g2) (rw'.back g1))
  ·exact b2 H0 σ H1 δ S1 _ _ (L.ext g1) h2 λH2 S2 g2=>q H2 S2 (g1.trans g2)
 ·exact a2 H0 σ H δ S _ _ L h1 q
def gu(K:W.Frag)(E:XK)(r:List V->Hp->VK->Prop)(g:List Rz->M Rz):Prop:=
 ∀(H0:Hp) (σ:L2.St) (H:Hp) (δ:List Sl) (S:Addr->Bool) (Hs:Hp) (vs:List V) (zs:List Rz) (z:hU Rz) (Q:VK),aW K H0 σ H δ S->kj K Hs H S vs zs->g zs=some z->iQ K E H S Q z->r vs H Q
def ag(g:List Rz->M Rz)(fa:List Sl->M (List Rz))(δ:List Sl):M Rz:=hV (fa δ) g
theorem le{t:TA}{r:List V->Hp->VK->Prop}{g:List Rz->M Rz}{fa:List Sl->M (List Rz)}(hd:gu K E r g)(ha:G8 K E t fa):lz K E (λ σ H Q=>t σ H λvs H1=>r vs H1 Q) (ag g fa):=by
 intro H0 σ H δ S Q z L h q
 rcases a7 h with⟨x,h1,h⟩ | ⟨C,h1,rfl⟩
 ·refine ha H0 σ H δ S _ _ L h1 λvs H1 S1 g1 rv=>?_
  exact hd H0 σ H1 δ S1 H vs x z Q (L.ext g1) rv h (q.ext g1)
 ·exact ha H0 σ H δ S _ _ L h1 q
theorem b8{x:Str}{p pos:Pos}{e:Expr}{es:List Expr}{id:String}{r:List V->Hp->VK->Prop}{g:List Rz->M Rz}{fa:List Sl->M (List Rz)}(hc:gT X (.builtin id) r)(hd:gu X.K E r g)(hm:X.mg x=none)(hv:bootBuiltins x=some (.builtin id))(ha:DA X E (e::es) fa)
  (hg:Gl X x:=by rfl) (hn:x≠ "__name__" :=by decide) (hdb:(x ==("__debug__" :Str))=false:=by decide) (he:starEach (e::es) X.env=(false,eval e X.env)::starEach es X.env:=by rfl) (hpl:(backTo pos (starEach es X.env)).any (·.1)=false:=by rfl) :
  DE X E (.Call (.Name x p) (e::es) [] pos) (ag g fa):=
 let⟨_,a,b⟩:=ha;⟨_,qF hc hg hm hv a hn hdb he hpl,le hd b⟩
theorem eX{x:Str}{p pos:Pos}{e:Expr}{es:List Expr}{id:String}{r:List V->Hp->VK->Prop}{g:List Rz->M Rz}{fa:List Sl->M (List Rz)}(hc:gT X (.type id) r)(hd:gu X.K E r g)(hm:X.mg x=none)(hv:bootBuiltins x=some (.type id))(ha:DA X E (e::es) fa)
  (hg:Gl X x:=by rfl) (hn:x≠ "__name__" :=by decide) (hdb:(x ==("__debug__" :Str))=false:=by decide) (he:starEach (e::es) X.env=(false,eval e X.env)::starEach es X.env:=by rfl) (hpl:(backTo pos (starEach es X.env)).any (·.1)=false:=by rfl) :
  DE X E (.Call (.Name x p) (e::es) [] pos) (ag g fa):=
 let⟨_,a,b⟩:=ha;⟨_,AH hc hg hm hv a hn hdb he hpl,le hd b⟩
theorem CL{Hs H:Hp}{S:Addr->Bool}{vs:List V}{x:Rz}(h:kj K Hs H S vs [x]): ∃v,vs=[v]/\RV K Hs H S v x:=by
 cases h with
 |cons a b=>cases b;exact⟨_,rfl,a⟩
theorem Km{Hs H:Hp}{S:Addr->Bool}{vs:List V}{x y:Rz}(h:kj K Hs H S vs [x,y]): ∃v w,vs=[v,w]/\RV K Hs H S v x/\RV K Hs H S w y:=by
 cases h with
 |cons a b=>
  obtain⟨w,rfl,c⟩:=CL b;exact⟨_,w,rfl,a,c⟩
def g1(g:Rz->M Rz)(zs:List Rz):M Rz:=
 match zs with
 | [x]=>g x
 |_=>none
def g2(g:Rz->Rz->M Rz)(zs:List Rz):M Rz:=
 match zs with
 | [x,y]=>g x y
 |_=>none
theorem uC{r:V->Hp->VK->Prop}{g:Rz->M Rz}(h: ∀(H0:Hp) (σ:L2.St) (H:Hp) (δ:List Sl) (S:Addr->Bool) (Hs:Hp) (v:V) (x:Rz) (z:hU Rz) (Q:VK),aW K H0 σ H δ S->RV K Hs H S v x->g x=some z->iQ K E H S Q z->r v H Q)
  {r':List V->Hp->VK->Prop} (hr: ∀v H Q,r v H Q->r' [v] H Q):gu K E r' (g1 g):=by
 intro H0 σ H δ S Hs vs zs z Q L rs h' q;unfold g1 at h'
 split at h'
 ·obtain⟨v,rfl,rv⟩:=CL rs
  exact hr _ _ _ (h H0 σ H δ S Hs v _ z Q L rv h' q)
 ·cases h'
def cW(x:Rz):M Rz:=
 match kQ x with
 |some (_,ds)=>aj (.dat (.int ds.length))
 |none=>none
theorem f8:gu K E (λxs H Q=>∃p ys,xs=[.ref p]/\(cw K H p ys\/gH K H p ys)/\Q (.int ys.length) H) (g1 cW):=by
 refine uC (r:=λv H Q=>∃p ys,[v]=[V.ref p]/\(cw K H p ys\/gH K H p ys)/\Q (.int ys.length) H) (λH0 σ H δ S Hs v x z Q L rv h q=>?_) (λ_ _ _ h=>h);unfold cW at h
 split at h
 ·rename_i b ds e
  cases h;unfold kQ at e
  split at e
  ·rename_i es e4
   cases e;obtain⟨a,xs,rfl,hs,hx,_⟩:=iR L rv e4;refine⟨a,xs,rfl,.inl hs,?_⟩;rw[aE.len hx];exact q _ H S .refl (.int _)
  ·rename_i es e4
   cases e;obtain⟨a,xs,rfl,hs,hx,_⟩:=tH L rv e4;refine⟨a,xs,rfl,.inr hs,?_⟩;rw[aE.len hx];exact q _ H S .refl (.int _)
  ·cases e
 ·cases h
def nB(x:Rz):M Rz:=
 match x.d? with
 |some (.int i)=>aj (.dat (.int (if i<0 then -i else i)))
 |_=>none
theorem A4:gu K E (λxs H Q=>∃i,xs=[.int i]/\Q (.int (if i<0 then -i else i)) H) (g1 nB):=by
 refine uC (r:=λv H Q=>∃i,[v]=[V.int i]/\Q (.int (if i<0 then -i else i)) H) (λH0 σ H δ S Hs v x z Q L rv h q=>?_) (λ_ _ _ h=>h);unfold nB at h
 split at h
 ·rename_i i e
  cases h;have d:=rv.full e;cases d;exact⟨i,rfl,q _ H S .refl (.int _)⟩
 ·cases h
def kS(x:Rz):M Rz:=
 match x.d? with
 |some (.int i)=>aj (.dat (.int i))
 |some (.bool b)=>aj (.dat (.int (if b then 1 else 0)))
 |_=>none
theorem A5:gu K E (λxs H Q=>(∃i,xs=[.int i]/\Q (.int i) H)\/∃k,xs=[.bl k]/\Q (.int (if k then 1 else 0)) H) (g1 kS):=by
 refine uC (r:=λv H Q=>(∃i,[v]=[V.int i]/\Q (.int i) H)\/∃k,[v]=[V.bl k]/\Q (.int (if k then 1 else 0)) H) (λH0 σ H δ S Hs v x z Q L rv h q=>?_) (λ_ _ _ h=>h);unfold kS at h
 split at h
 ·rename_i i e
  cases h;have d:=rv.full e;cases d;exact .inl ⟨i,rfl,q _ H S .refl (.int _)⟩
 ·rename_i i e
  cases h;have d:=rv.full e;cases d;exact .inr ⟨i,rfl,q _ H S .refl (.int _)⟩
 ·cases h
def pU(x:Rz):M Rz:=
 match x.d? with
 |some (.list ds)=>if kept x ds=true then aj (.dat (.tuple ds)) else none
 |some (.tuple ds)=>if kept x ds=true then aj (.dat (.tuple ds)) else none
 |_=>none
theorem vS:gu K E (λxs H Q=>∃p ys,xs=[.ref p]/\((cw K H p ys/\∀l,H l=none->Q (.ref l) (bf H l (.tup ys)))\/(gH K H p ys/\Q (.ref p) H))) (g1 pU):=by
 refine uC (r:=λv H Q=>∃p ys,[v]=[V.ref p]/\((cw K H p ys/\∀l,H l=none->Q (.ref l) (bf H l (.tup ys)))\/(gH K H p ys/\Q (.ref p) H))) (λH0 σ H δ S Hs v x z Q L rv h q=>?_) (λ_ _ _ h=>h);unfold pU at h
 split at h
 ·rename_i ds e
  split at h
  ·rename_i k
   cases h;obtain⟨a,xs,rfl,hs,hx,hk⟩:=iR L rv e;refine⟨a,xs,rfl,.inl ⟨hs,λl hl=>?_⟩⟩;have g:bw H S (bf H l (.tup xs)) S:=bw.same (iP hl _);exact q _ _ S g (.tup (gH.of (h7 L.lst hl)) (aE.same g.hd (hk k)))
  ·cases h
 ·rename_i ds e
  split at h
  ·rename_i k
   cases h;obtain⟨a,xs,rfl,hs,hx,hk⟩:=tH L rv e;exact⟨a,xs,rfl,.inr ⟨hs,q _ H S .refl (.tup (hk k).2 (hk k).1)⟩⟩
  ·cases h
 ·cases h
def dU(x:Rz):Option PyData:=
 match x with
 | .dat d=>some d
 | .use d=>if hI d=true then some d else none
 |_=>none
theorem iT{H0 Hs H:Hp}{σ:L2.St}{δ:List Sl}{S:Addr->Bool}{v:V}{x:Rz}{d:PyData}(L:aW K H0 σ H δ S)(r:RV K Hs H S v x)(h:dU x=some d):DV K (bj H S) v d:=by
 cases x with
 |dat e=>cases h;exact r
 |use e=>
  unfold dU at h;dsimp only at h;split at h
  ·cases h;exact DV.ts L.tk r (by assumption)
  ·cases h
 |new e=>cases h
 |var e=>cases h
 |exc e=>cases h
def o5:List Rz->Option (List PyData)
 | []=>some []
 |x::xs=>match dU x,o5 xs with
  |some d,some ds=>some (d::ds)
  |_,_=>none
theorem o6{H0 Hs H:Hp}{σ:L2.St}{δ:List Sl}{S:Addr->Bool}(L:aW K H0 σ H δ S): ∀{vs:List V} {zs:List Rz} {ds:List PyData},kj K Hs H S vs zs->o5 zs=some ds->aE K (bj H S) vs ds
 |_,_,_,.nil,h=>by cases h;exact .nil
 |_,_,_,.cons r t,h=>by
  unfold o5 at h;split at h
  ·rename_i d ds e1 e2
   cases h;exact .cons (iT L r e1) (o6 L t e2)
  ·cases h
def bV(zs:List Rz):M Rz:=
 match o5 zs with
 |some ds=>if ds.length<=sizeLine then aj (.dat (.tuple ds)) else none
 |none=>none
def dR(zs:List Rz):M Rz:=
 match o5 zs with
 |some ds=>if ds.length<=sizeLine then aj (.new ds) else none
 |none=>none
theorem cC{es:List Expr}{x1}{pos:Pos}{fa:List Sl->M (List Rz)}(h:DA X E es fa):DE X E (.Tuple es x1 pos) (ag bV fa):=by
 obtain⟨t,a,b⟩:=h;refine⟨_,AG a,le (r:=λxs H1 Q=>xs.length<=sizeLine/\∀p,H1 p=none->Q (.ref p) (bf H1 p (.tup xs))) ?_ b⟩;intro H0 σ H δ S Hs vs zs z Q L rs h q;unfold bV at h
 split at h
 ·rename_i ds e
  split at h
  ·rename_i hl
   cases h;have hx:=o6 L rs e;refine⟨by rw[aE.len hx];exact hl,λp hp=>?_⟩;have g:bw H S (bf H p (.tup vs)) S:=bw.same (iP hp _);exact q _ _ S g (.tup (gH.of (h7 L.lst hp)) (aE.same g.hd hx))
  ·cases h
 ·cases h
theorem dW{es:List Expr}{pos:Pos}{fa:List Sl->M (List Rz)}(h:DA X E es fa):DE X E (.List es pos) (ag dR fa):=by
 obtain⟨t,a,b⟩:=h;refine⟨_,rS a,le (r:=λxs H1 Q=>xs.length<=sizeLine/\∀p,H1 p=none->Q (.ref p) (bf H1 p (.lst xs))) ?_ b⟩;intro H0 σ H δ S Hs vs zs z Q L rs h q;unfold dR at h
 split at h
 ·rename_i ds e
  split at h
  ·rename_i hl
   cases h;have hx:=o6 L rs e;refine⟨by rw[aE.len hx];exact hl,λp hp=>?_⟩;exact q _ _ (ins S p) (bw.ins hp) ⟨p,vs,rfl,dF,hp,bF,by rw[la hp];exact hx⟩
  ·cases h
 ·cases h
end
structure lA (n:Nat) (X:Cx) (E:XK):Prop where
 hx:oS (bt X.prog X.w) X E
 ra:qG X E
 po:PassesOwn (model X.prog X.w) X.A X.env X.xe
 cm:X.calm=true
 rm:Room n X.A
 nd:X.N.Nodup
inductive bN where
 |val (d:PyData)
 |fresh (ds:List PyData)
 |mine (d:PyData)
 |two (ds es:List PyData)
 |lsts (ds:List PyData)
 |newls (ds:List PyData)
 |tl (d:PyData) (ds:List PyData)
inductive Fl where
 |next (δ:List Sl)
 |ret (o:bN)
 |brk (δ:List Sl)
 |cnt (δ:List Sl)
 |exc (C:Ex)
def jh(H0 H:Hp):Hp:=λb=>match H0 b with
 |none=>H b
 |some _=>(match H b with |some (.lst _)=>none |o=>o)
theorem tJ{H0 H:Hp}:bh (jh H0 H) H:=λb o h=>by
 unfold jh at h;split at h
 ·exact h
 ·split at h
  ·cases h
  ·exact h
theorem uD{H0 H1 H:Hp}(g:bh H0 H1):bh (jh H1 H) (jh H0 H):=λb o h=>by
 unfold jh at *
 cases e1:H1 b with
 |none=>
  rw[e1] at h;rw[g.free e1];exact h
 |some u=>
  rw[e1] at h;dsimp only at h;cases e0:H0 b with
  |none=>
   dsimp only;split at h
   ·cases h
   ·exact h
  |some u'=>exact h
theorem CM{H0 H:Hp}{a:Addr}(h:H0 a=none):jh H0 H a=H a:=by unfold jh;rw[h]
def wo(H:Hp)(a:Addr):Hp:=λb=>if b=a then none else H b
theorem vi{H:Hp}{a:Addr}:bh (wo H a) H:=λb o h=>by
 unfold wo at h;split at h
 ·cases h
 ·exact h
theorem A6{H:Hp}{S:Addr->Bool}{a:Addr}(h:S a=true):bh (bj H S) (wo H a):=λb o e=>by
 have:b≠a:=by intro z;subst z;rw[gq h] at e;cases e
 unfold wo;rw[aK this];exact b6 _ _ e
def nC(K:W.Frag)(H0:Hp)(Q:VK):bN->Prop
 | .val d=>∀v H,bh H0 H->DV K H v d->Q v H
 | .fresh ds=>∀a xs H,bh H0 H->H0 a=none->H a=some (.lst xs)->aE K H xs ds->hJ ds=true->Q (.ref a) H
 | .mine d=>∀v H,bh H0 H->DV K (jh H0 H) v d->Q v H
 | .two ds es=>∀c a b xs ys H,bh H0 H->H0 c=none->H0 a=none->H0 b=none->H c=some (.tup [.ref a,.ref b])->H a=some (.lst xs)->H b=some (.lst ys)->aE K H xs ds->aE K H ys es->hJ ds=true->hJ es=true->Q (.ref c) H
 | .lsts ds=>∀a xs H,bh H0 H->H0 a=none->H a=some (.lst xs)->aE K (wo H a) xs ds->Q (.ref a) H
 | .newls ds=>∀a xs H,bh H0 H->H0 a=none->H a=some (.lst xs)->aE K (jh H0 (wo H a)) xs ds->Q (.ref a) H
 | .tl d ds=>∀c a v xs H,bh H0 H->H0 c=none->H0 a=none->H c=some (.tup [v,.ref a])->H a=some (.lst xs)->DV K (wo H a) v d->aE K (wo H a) xs ds->Q (.ref c) H
def CN(K:W.Frag)(E:XK)(H0:Hp)(D:iO):Fl->Prop
 | .next δ=>∀σ H S,aW K H0 σ H δ S->D.nx σ H
 | .brk δ=>∀σ H S,aW K H0 σ H δ S->D.bk σ H
 | .cnt δ=>∀σ H S,aW K H0 σ H δ S->D.ct σ H
 | .ret o=>nC K H0 D.rt o
 | .exc C=>∀H,bh H0 H->E (.ref (b4 C)) none H
def vT(K:W.Frag)(E:XK)(t:TS)(f:List Sl->Option Fl):Prop:=
 ∀(H0:Hp) (σ:L2.St) (H:Hp) (δ:List Sl) (S:Addr->Bool) (D:iO) (fl:Fl),aW K H0 σ H δ S->f δ=some fl->CN K E H0 D fl->t D σ H
def DS(X:Cx)(E:XK)(st:Stmt)(f:List Sl->Option Fl):Prop:=∃t,PS X st t/\vT X.K E t f
def kn(X:Cx)(E:XK)(st:List Stmt)(f:List Sl->Option Fl):Prop:=∃t,jI X st t/\vT X.K E t f
theorem nC.up{K:W.Frag}{H0 H1:Hp}{Q:VK}{o:bN}(g:bh H0 H1)(h:nC K H0 Q o):nC K H1 Q o:=by
 cases o with
 |val d=>exact λv H s=>h v H (g.trans s)
 |fresh ds=>exact λa xs H s n=>h a xs H (g.trans s) (g.free n)
 |mine d=>exact λv H s dv=>h v H (g.trans s) (DV.same (uD g) dv)
 |two ds es=>exact λc a b xs ys H s n1 n2 n3=>h c a b xs ys H (g.trans s) (g.free n1) (g.free n2) (g.free n3)
 |lsts ds=>exact λa xs H s n=>h a xs H (g.trans s) (g.free n)
 |newls ds=>exact λa xs H s n ha hx=>h a xs H (g.trans s) (g.free n) ha (aE.same (uD g) hx)
 |tl d ds=>exact λc a v xs H s n1 n2=>h c a v xs H (g.trans s) (g.free n1) (g.free n2)
def aR(δ:List Sl):Option Fl:=some (.next δ)
def ar(f g:List Sl->Option Fl)(δ:List Sl):Option Fl:=
 match f δ with
 |some (.next δ')=>g δ'
 |r=>r
section
variable{X:Cx}{E:XK}{K:W.Frag}
theorem aS:kn X E [] aR:=⟨_,El,λH0 σ H δ S D fl L h q=>by cases h;exact q σ H S L⟩
theorem vU{t u:TS}{f g:List Sl->Option Fl}(ht:vT K E t f)(hu:vT K E u g):vT K E (sW t u) (ar f g):=by
 intro H0 σ H δ S D fl L h q;unfold ar at h
 split at h
 ·rename_i δ' e
  exact ht H0 σ H δ S _ _ L e λ σ1 H1 S1 L1=>hu H0 σ1 H1 δ' S1 D fl L1 h q
 ·rename_i r hr
  refine ht H0 σ H δ S _ fl L h ?_;cases fl with
  |next δ'=>exact absurd h (hr δ')
  |ret o=>exact q
  |brk δ'=>exact q
  |cnt δ'=>exact q
  |exc C=>exact q
theorem aq{st:Stmt}{bD:List Stmt}{f g:List Sl->Option Fl}(h1:DS X E st f)(h2:kn X E bD g):kn X E (st::bD) (ar f g):=
 let⟨_,a,b⟩:=h1;let⟨_,c,d⟩:=h2;⟨_,qD a c,vU b d⟩
theorem aw{st:Stmt}{f:List Sl->Option Fl}(h1:DS X E st f):kn X E [st] f:=let⟨_,a,b⟩:=h1;⟨_,mV a,b⟩
def CO(δ:List Sl):Option Fl:=some (.cnt δ)
theorem xF{pos:Pos}:DS X E (.Continue pos) CO:=⟨_,xz,λH0 σ H δ S D fl L h q=>by cases h;exact q σ H S L⟩
def bS{α:Type}(m:M α)(k:α->Option Fl):Option Fl:=
 match m with
 |some (.ok a)=>k a
 |some (.err C)=>some (.exc C)
 |none=>none
theorem eP{α:Type}{m:M α}{k:α->Option Fl}{r:Fl}(h:bS m k=some r):(∃a,m=some (.ok a)/\k a=some r)\/∃C,m=some (.err C)/\r= .exc C:=by
 unfold bS at h;split at h
 ·exact .inl ⟨_,rfl,h⟩
 ·cases h;exact .inr ⟨_,rfl,rfl⟩
 ·cases h
theorem dZ{H0 H:Hp}{σ:L2.St}{δ:List Sl}{S:Addr->Bool}{D:iO}{C:Ex}(L:aW K H0 σ H δ S)(q:CN K E H0 D (.exc C)): ∀H' S',bw H S H' S'->E (.ref (b4 C)) none H':=λH' S' g=>q H' (L.old.trans g.up)
def lB(x:Rz):Option Sl:=
 match x with
 | .dat d=>some (.dat d)
 | .new ds=>some (.own ds)
 | .use d=>if hI d=true then some (.dat d) else none
 | .exc C=>some (.exc C)
 | .var _=>none
theorem aW.slot{H0 Hs H:Hp}{σ:L2.St}{δ:List Sl}{S:Addr->Bool}{v:V}{x:Rz}{s:Sl}{i:Nat}(L:aW K H0 σ H δ S)(hs: ∀(j:Nat) (ds:List PyData),δ[j]?= some (Sl.own ds)->∃a,σ[j]?= some (some (V.ref a))/\Hs a≠none)(hk: ∀(j:Nat) (b:Addr),gW (bj H S) σ δ j b->Hs b≠none)(r:RV K Hs H S v x)(h:lB x=some s) :
  aW K H0 (σ.set i (some v)) H (δ.set i s) S:=by
 cases x with
 |dat d=>cases h;exact L.put (λ_ z=>nomatch z) (λd' e=>by cases e;exact⟨v,rfl,r⟩) (λ_ z=>nomatch z)
 |new ds=>
  cases h;obtain⟨a,xs,rfl,z,n,ha,hx⟩:=r;refine L.putOwn z ha hx (λj es e c=>?_) λj k=>hk j a k n
  obtain⟨b,e1,e2⟩:=hs j es e;rw[c] at e1;cases e1
  exact e2 n
 |use d=>
  unfold lB at h;dsimp only at h;split at h
  ·rename_i k
   cases h;exact L.put (λ_ z=>nomatch z) (λd' e=>by cases e;exact⟨v,rfl,DV.ts L.tk r k⟩) (λ_ z=>nomatch z)
  ·cases h
 |var ds=>cases h
 |exc C=>
  cases h;obtain⟨ea,rfl,z⟩:=r;exact L.put (λ_ z=>nomatch z) (λ_ z=>nomatch z) (λC' e=>by cases e;exact⟨ea,rfl,z⟩)
theorem aW.owned{H0 H:Hp}{σ:L2.St}{δ:List Sl}{S:Addr->Bool}(L:aW K H0 σ H δ S): ∀(j:Nat) (ds:List PyData),δ[j]?= some (Sl.own ds)->∃a,σ[j]?= some (some (V.ref a))/\H a≠none:=λj ds e=>by
 obtain⟨a,xs,e1,_,e3,_⟩:=L.own j ds e;exact⟨a,e1,by rw[e3];exact(λz=>nomatch z)⟩
def aA(i:Nat)(f:List Sl->M Rz)(δ:List Sl):Option Fl:=bS (f δ) λx=>match lB x with |some s=>some (.next (δ.set i s)) |none=>none
theorem A7{i:Nat}{te:TE}{f:List Sl->M Rz}(h:lz K E te f):vT K E (yX te (rQ i)) (aA i f):=by
 intro H0 σ H δ S D fl L e q
 rcases eP e with⟨x,h1,e⟩ | ⟨C,h1,rfl⟩
 ·refine h H0 σ H δ S _ _ L h1 λv H1 S1 g1 rv=>?_
  split at e
  ·rename_i s e2
   cases e;exact q _ H1 S1 ((L.ext g1).slot L.owned (L.kids g1) rv e2)
  ·cases e
 ·exact h H0 σ H δ S _ _ L h1 (dZ L q)
theorem aL(i:Nat){x:Str}{e:Expr}{f:List Sl->M Rz}{pos pos':Pos}(nd:X.N.Nodup)(he:DE X E e f)(hi:X.N[i]?= some x:=by rfl)(hx:L2.aW X.env.scope x:=by first |exact Or.inl rfl |exact Or.inr rfl)(hs:swapsWith e (some (.Name x pos')) pos.line X.env=pure false:=by rfl)(hf:X.fn x=true\/X.env.scope.names.lookup x=some .local:=by first |exact .inl rfl |exact .inr rfl) :
  DS X E (.Assign [.Name x pos'] e pos) (aA i f):=let⟨_,a,b⟩:=he;⟨_,Az nd hi hx a hs hf,A7 b⟩
def KC(K:W.Frag)(t:TG)(g:PyData->List Sl->Option (List Sl)):Prop:=
 ∀(H0:Hp) (σ:L2.St) (H:Hp) (δ δ':List Sl) (S:Addr->Bool) (v:V) (d:PyData) (Q:L2.St->Hp->Prop),aW K H0 σ H δ S->DV K (bj H S) v d->g d δ=some δ'->(∀σ',aW K H0 σ' H δ' S->Q σ' H)->t v σ H Q
def DG(X:Cx)(tg:Expr)(g:PyData->List Sl->Option (List Sl)):Prop:=∃t,PG X tg t/\KC X.K t g
def cL(i:Nat)(d:PyData)(δ:List Sl):Option (List Sl):=some (δ.set i (.dat d))
theorem i5(i:Nat){x:Str}{pos:Pos}(nd:X.N.Nodup)(hi:X.N[i]?= some x:=by rfl)(hx:L2.aW X.env.scope x:=by first |exact Or.inl rfl |exact Or.inr rfl)(hf:X.fn x=true\/X.env.scope.names.lookup x=some .local:=by first |exact .inl rfl |exact .inr rfl):DG X (.Name x pos) (cL i):=
 ⟨_,sX nd hi hx hf,λH0 σ H δ δ' S v d Q L dv h q=>by
  cases h;exact q _ (L.put (λ_ z=>nomatch z) (λd' e=>by cases e;exact⟨v,rfl,dv⟩) (λ_ z=>nomatch z))⟩
def Kn(K:W.Frag)(t:uo)(g:List PyData->List Sl->Option (List Sl)):Prop:=
 ∀(H0:Hp) (σ:L2.St) (H:Hp) (δ δ':List Sl) (S:Addr->Bool) (vs:List V) (ds:List PyData) (Q:L2.St->Hp->Prop),aW K H0 σ H δ S->aE K (bj H S) vs ds->g ds δ=some δ'->(∀σ',aW K H0 σ' H δ' S->Q σ' H)->t vs σ H Q
def DQ(X:Cx)(tg:List Expr)(g:List PyData->List Sl->Option (List Sl)):Prop:=∃t,Ax X tg t/\Kn X.K t g
def sj(ds:List PyData)(δ:List Sl):Option (List Sl):=match ds with | []=>some δ |_=>none
def h8(g:PyData->List Sl->Option (List Sl))(h:List PyData->List Sl->Option (List Sl))(ds:List PyData)(δ:List Sl):Option (List Sl):=
 match ds with
 |d::r=>(match g d δ with |some δ'=>h r δ' |none=>none)
 | []=>none
theorem ET:DQ X [] sj:=⟨_,Em,λH0 σ H δ δ' S vs ds Q L dv h q=>by
  unfold sj at h;split at h
  ·cases h;cases dv;exact⟨rfl,q _ L⟩
  ·cases h⟩
theorem qI{e:Expr}{es:List Expr}{g:PyData->List Sl->Option (List Sl)}{h:List PyData->List Sl->Option (List Sl)}(h1:DG X e g)(h2:DQ X es h)
  (hs:(assignEach (e::es) X.env).map (·.2)=assign e X.env::(assignEach es X.env).map (·.2):=by rfl):DQ X (e::es) (h8 g h):=by
 obtain⟨t,a,b⟩:=h1;obtain⟨u,c,d⟩:=h2;refine⟨_,Cg a c hs,λH0 σ H δ δ' S vs ds Q L dv h q=>?_⟩;unfold h8 at h
 split at h
 ·split at h
  ·rename_i δ1 e1
   cases dv with
   |cons x y=>exact⟨_,_,rfl,b H0 σ H δ δ1 S _ _ _ L x e1 λ σ1 L1=>d H0 σ1 H δ1 δ' S _ _ _ L1 y h q⟩
  ·cases h
 ·cases h
def sk(g:List PyData->List Sl->Option (List Sl))(k:Nat)(d:PyData)(δ:List Sl):Option (List Sl):=
 match d with
 | .tuple ds=>if ds.length=k then g ds δ else none
 |_=>none
theorem Hi{es:List Expr}{kk:Nat}{g:List PyData->List Sl->Option (List Sl)}{k n:Nat}{pos:Pos}(Z:lA n X E)(h:DQ X es g)(hn:(assignEach es X.env).length=k:=by rfl)(hst:(assignEach es X.env).findIdx? (·.1)=none:=by rfl):DG X (.Tuple es kk pos) (sk g k):=by
 obtain⟨t,a,b⟩:=h;refine⟨_,Gq Z.cm a hn hst,λH0 σ H δ δ' S v d Q L dv h q=>?_⟩;unfold sk at h
 split at h
 ·rename_i ds
  split at h
  ·rename_i hl
   cases dv with
   |tup hs hx=>exact⟨_,_,rfl,vf b6 hs,by rw[aE.len hx];exact hl,b H0 σ H δ δ' S _ _ _ L hx h q⟩
  ·cases h
 ·cases h
def tK(g:PyData->List Sl->Option (List Sl))(f:List Sl->M Rz)(δ:List Sl):Option Fl:=bS (f δ) λx=>match dU x with |some d=>(match g d δ with |some δ'=>some (.next δ') |none=>none) |none=>none
theorem Hj{tg e:Expr}{g:PyData->List Sl->Option (List Sl)}{f:List Sl->M Rz}{pos:Pos}(he:DE X E e f)(hg:DG X tg g)(hs:swapsWithSole [tg] e pos.line X.env=pure false:=by rfl)(hw:swappedStores [tg] e X.env=pure none:=by rfl)
  (h1:(assignEach [tg] X.env).map (·.2)=[assign tg X.env]:=by rfl):DS X E (.Assign [tg] e pos) (tK g f):=by
 obtain⟨t,a,b⟩:=he;obtain⟨u,c,d⟩:=hg;refine⟨_,Ay a c hs hw h1,λH0 σ H δ S D fl L h q=>?_⟩
 rcases eP h with⟨x,h1,h⟩ | ⟨C,h1,rfl⟩
 ·refine b H0 σ H δ S _ _ L h1 λv H1 S1 g1 rv=>?_
  split at h
  ·rename_i dd e1
   split at h
   ·rename_i δ' e2
    cases h;exact d H0 σ H1 δ δ' S1 v dd _ (L.ext g1) (iT (L.ext g1) rv e1) e2 λ σ' L'=>q σ' H1 S1 L'
   ·cases h
  ·cases h
 ·exact b H0 σ H δ S _ _ L h1 (dZ L q)
def tL(i j:Nat)(fa:List Sl->M (List Rz))(δ:List Sl):Option Fl:=bS (fa δ) λzs=>match zs with | [x,y]=>(match dU x,dU y with |some d,some e=>some (.next ((δ.set i (.dat d)).set j (.dat e))) |_,_=>none) |_=>none
theorem Hk(i j:Nat){n:Nat}{x y:Str}{a b:Expr}{fa:List Sl->M (List Rz)}{px py pt:Pos}{kt k2 pt2}{pos:Pos}(Z:lA n X E)(ha:DA X E [a,b] fa)
  (hp: ∀t,PA X [a,b] t->PS X (.Assign [.Tuple [.Name x px,.Name y py] kt pt] (.Tuple [a,b] k2 pt2) pos) (Gs i j t)):DS X E (.Assign [.Tuple [.Name x px,.Name y py] kt pt] (.Tuple [a,b] k2 pt2) pos) (tL i j fa):=by
 obtain⟨t,a1,b1⟩:=ha;refine⟨_,hp t a1,λH0 σ H δ S D fl L h q=>?_⟩
 rcases eP h with⟨zs,h1,h⟩ | ⟨C,h1,rfl⟩
 ·refine b1 H0 σ H δ S _ _ L h1 λvs H1 S1 g1 rs=>?_
  split at h
  ·rename_i zx zy
   split at h
   ·rename_i d e e1 e2
    cases h;obtain⟨v,w,rfl,r1,r2⟩:=Km rs;have L1:=L.ext g1;have L2:=L1.put (i:=i) (o:=some v) (s:= .dat d) (λ_ z=>nomatch z) (λd' e=>by cases e;exact⟨v,rfl,iT L1 r1 e1⟩) (λ_ z=>nomatch z);have L3:=L2.put (i:=j) (o:=some w) (s:= .dat e) (λ_ z=>nomatch z) (λd' e=>by cases e;exact⟨w,rfl,iT L1 r2 e2⟩) (λ_ z=>nomatch z);exact⟨v,w,rfl,q _ H1 S1 L3⟩
   ·cases h
  ·cases h
 ·exact b1 H0 σ H δ S _ _ L h1 (dZ L q)
def sr(x:Rz):Option bN:=
 match x with
 | .dat d=>some (.val d)
 | .use d=>some (.val d)
 | .new ds=>if hJ ds=true then some (.fresh ds) else some (.lsts ds)
 | .var ds=>if hJ ds=true then some (.fresh ds) else some (.lsts ds)
 | .exc _=>none
def aT(f:List Sl->M Rz)(δ:List Sl):Option Fl:=bS (f δ) λx=>match sr x with |some o=>some (.ret o) |none=>none
theorem aM{e:Expr}{f:List Sl->M Rz}{pos:Pos}(he:DE X E e f):DS X E (.Return (some e) pos) (aT f):=by
 obtain⟨t,a,b⟩:=he;refine⟨_,Au a,λH0 σ H δ S D fl L h q=>?_⟩
 rcases eP h with⟨x,h1,h⟩ | ⟨C,h1,rfl⟩
 ·refine b H0 σ H δ S _ _ L h1 λv H1 S1 g1 rv=>?_
  have L1:=L.ext g1;split at h
  ·rename_i o e1
   cases h;unfold sr at e1
   split at e1
   ·cases e1;exact q v H1 L1.old (DV.same b6 rv)
   ·cases e1;exact q v H1 L1.old rv
   ·split at e1
    ·rename_i k
     cases e1;obtain⟨a,xs,rfl,z,n,ha,hx⟩:=rv;exact q a xs H1 L1.old (L1.frs a z) ha (aE.same b6 hx) k
    ·cases e1
     obtain⟨a,xs,rfl,z,n,ha,hx⟩:=rv;exact q a xs H1 L1.old (L1.frs a z) ha (aE.same (A6 z) hx)
   ·split at e1
    ·rename_i k
     cases e1;obtain⟨a,xs,rfl,z,ha,hx⟩:=rv;exact q a xs H1 L1.old (L1.frs a z) ha (aE.same b6 hx) k
    ·cases e1
     obtain⟨a,xs,rfl,z,ha,hx⟩:=rv;exact q a xs H1 L1.old (L1.frs a z) ha (aE.same (A6 z) hx)
   ·cases e1
  ·cases h
 ·exact b H0 σ H δ S _ _ L h1 (dZ L q)
def ji(f:List Sl->M Rz)(δ:List Sl):Option Fl:=bS (f δ) λ_=>some (.next δ)
theorem pV{e:Expr}{f:List Sl->M Rz}{pos:Pos}(he:DE X E e f)(hs:swapsWith e none pos.line X.env=pure false:=by rfl):DS X E (.Expr e pos) (ji f):=by
 obtain⟨t,a,b⟩:=he;refine⟨_,mW a hs,λH0 σ H δ S D fl L h q=>?_⟩
 rcases eP h with⟨x,h1,h⟩ | ⟨C,h1,rfl⟩
 ·cases h
  exact b H0 σ H δ S _ _ L h1 λv H1 S1 g1 rv=>q σ H1 S1 (L.ext g1)
 ·exact b H0 σ H δ S _ _ L h1 (dZ L q)
def iF(C:Ex)(fa:List Sl->M (List Rz))(δ:List Sl):Option Fl:=bS (fa δ) λzs=>if zs.length<=sizeLine then some (.exc C) else none
theorem kj.len{Hs H:Hp}{S:Addr->Bool}: ∀{vs:List V} {zs:List Rz},kj K Hs H S vs zs->vs.length=zs.length
 |_,_,.nil=>rfl
 |_,_,.cons _ t=>by rw[c5,c5,kj.len t]
theorem gv(C:Ex){n:Nat}{x:Str}{e:Expr}{es:List Expr}{fa:List Sl->M (List Rz)}{np KJ pos:Pos}(Z:lA n X E)(hm:X.mg x=some (.ref (b4 C)))
  (q:W.excIn X.K (b4 C) [.type "ValueError",.type "Exception",.type "BaseException",.type "object"] "ValueError.__new__" =true) (ha:DA X E (e::es) fa)
  (hg:Gl X x:=by rfl) (hdb:(x ==("__debug__" :Str))=false:=by decide)
  (he:starEach (e::es) X.env=(false,eval e X.env)::starEach es X.env:=by rfl) (hpl:(backTo KJ (starEach es X.env)).any (·.1)=false:=by rfl) :
  DS X E (.Raise (some (.Call (.Name x np) (e::es) [] KJ)) none pos) (iF C fa):=by
 obtain⟨t,a,b⟩:=ha;refine⟨_,Ct Z.ra Z.cm hm q a hg hdb he hpl,λH0 σ H δ S D fl L h q=>?_⟩
 rcases eP h with⟨zs,h1,h⟩ | ⟨C',h1,rfl⟩
 ·refine b H0 σ H δ S _ _ L h1 λvs H1 S1 g1 rs=>?_
  split at h
  ·rename_i hl
   cases h;exact⟨by rw[kj.len rs];exact hl,q H1 (L.old.trans g1.up)⟩
  ·cases h
 ·exact b H0 σ H δ S _ _ L h1 (dZ L q)
def aU(c:List Sl->M Bool)(f g:List Sl->Option Fl)(δ:List Sl):Option Fl:=bS (c δ) λb=>if b=true then f δ else g δ
theorem bd{c:Expr}{a b:List Stmt}{fc:List Sl->M Bool}{f g:List Sl->Option Fl}{pos:Pos}(hc:DT X E c fc)(ha:kn X E a f)(hb:kn X E b g):DS X E (.If c a b pos) (aU fc f g):=by
 obtain⟨tc,c1,c2⟩:=hc;obtain⟨t,a1,a2⟩:=ha;obtain⟨u,b1,b2⟩:=hb;refine⟨_,DC c1 a1 b1,λH0 σ H δ S D fl L h q=>?_⟩
 rcases eP h with⟨k,h1,h⟩ | ⟨C,h1,rfl⟩
 ·refine c2 H0 σ H δ S _ _ L h1 λH1 S1 g1=>?_
  cases k with
  |true=>exact oV (a2 H0 σ H1 δ S1 D fl (L.ext g1) h q)
  |false=>exact oU (b2 H0 σ H1 δ S1 D fl (L.ext g1) h q)
 ·exact c2 H0 σ H δ S _ _ L h1 (dZ L q)
def kM(c:List Sl->M Bool)(b:List Sl->Option Fl):Nat->List Sl->Option Fl
 |0,_=>none
 |n+1,δ=>bS (c δ) λk=>if k=true then(match b δ with |some (.next δ')=>kM c b n δ' |some (.cnt δ')=>kM c b n δ' |some (.brk δ')=>some (.next δ') |r=>r) else some (.next δ)
theorem nE{c:List Sl->M Bool}{b:List Sl->Option Fl}{r:Fl}: ∀{n m:Nat} {δ:List Sl},n<=m->kM c b n δ=some r->kM c b m δ=some r
 |0,_,_,_,h=>nomatch h
 |n+1,0,_,l,_=>absurd l (by omega)
 |n+1,m+1,δ,l,h=>by
  unfold kM at h⊢
  rcases eP h with⟨k,h1,h⟩ | ⟨C,h1,rfl⟩
  ·rw[h1]
   show(if k=true then _ else _)=_;cases k with
   |false=>exact h
   |true=>
    rw[aD rfl] at h⊢;split at h
    ·exact nE (by omega) h
    ·exact nE (by omega) h
    ·exact h
    ·exact h
  ·rw[h1];rfl
open Classical in
noncomputable def m6(c:List Sl->M Bool)(b:List Sl->Option Fl)(δ:List Sl):Option Fl:=if h: ∃n r,kM c b n δ=some r then kM c b (Classical.choose h) δ else none
theorem Hl{c:List Sl->M Bool}{b:List Sl->Option Fl}{n:Nat}{δ:List Sl}{r:Fl}(h:kM c b n δ=some r):m6 c b δ=some r:=by
 unfold m6;have hx: ∃n r,kM c b n δ=some r:=⟨n,r,h⟩
 rw[dif_pos hx];obtain⟨r',h'⟩:=Classical.choose_spec hx;have e1:=nE (Nat.le_max_left n (Classical.choose hx)) h;have e2:=nE (Nat.le_max_right n (Classical.choose hx)) h';rw[e1] at e2;cases e2
 exact h'
theorem EU{c:List Sl->M Bool}{b:List Sl->Option Fl}{δ:List Sl}{r:Fl}(h:m6 c b δ=some r): ∃n,kM c b n δ=some r:=by
 unfold m6 at h;split at h
 ·exact⟨_,h⟩
 ·cases h
theorem nF{n:Nat}{c:Expr}{body:List Stmt}{fc:List Sl->M Bool}{fb:List Sl->Option Fl}{pos:Pos}(Z:lA n X E)(hc:DT X E c fc)(hb:kn X E body fb):DS X E (.While c body [] pos) (m6 fc fb):=by
 obtain⟨tc,c1,c2⟩:=hc;obtain⟨t,b1,b2⟩:=hb;refine⟨_,Ch Z.po c1 b1,λH0 σ H δ S D fl L h q=>?_⟩;obtain⟨m,hm⟩:=EU h;refine⟨λm σ H=>∃δ S,aW X.K H0 σ H δ S/\kM fc fb m δ=some fl,⟨m,δ,S,L,hm⟩,?_⟩;rintro m σ H ⟨δ,S,L,hm⟩;cases m with
 |zero=>exact nomatch hm
 |succ m=>
  unfold kM at hm
  rcases eP hm with⟨k,h1,h⟩ | ⟨C,h1,rfl⟩
  ·refine c2 H0 σ H δ S _ _ L h1 λH1 S1 g1=>?_
   have L1:=L.ext g1;cases k with
   |false=>
    cases h;exact oU (q σ H1 S1 L1)
   |true=>
    rw[aD rfl] at h⊢;refine⟨λ σ' H'=>∃δ' S',aW X.K H0 σ' H' δ' S'/\kM fc fb m δ'=some fl,λ σ' H' z=>⟨m,Nat.lt_succ_self m,z⟩,?_⟩
    split at h
    ·rename_i δ' e
     exact b2 H0 σ H1 δ S1 _ _ L1 e λ σ' H' S' L'=>⟨δ',S',L',h⟩
    ·rename_i δ' e
     exact b2 H0 σ H1 δ S1 _ _ L1 e λ σ' H' S' L'=>⟨δ',S',L',h⟩
    ·rename_i δ' e
     cases h;exact b2 H0 σ H1 δ S1 _ _ L1 e λ σ' H' S' L'=>q σ' H' S' L'
    ·rename_i r e1 e2 e3
     refine b2 H0 σ H1 δ S1 _ fl L1 h ?_;cases fl with
     |next δ'=>exact absurd h (e1 δ')
     |cnt δ'=>exact absurd h (e2 δ')
     |brk δ'=>exact absurd h (e3 δ')
     |ret o=>exact q
     |exc C=>exact q
  ·exact c2 H0 σ H δ S _ _ L h1 (dZ L q)
theorem a8{a b:Expr}{fa fb:List Sl->M Rz}{pos:Pos}(ha:DE X E a fa)(hb:DE X E b fb)(hs:tu b:=by exact(λ_ _=>rfl)):DE X E (.Subscript a b pos) (f2 aJ fa fb):=
 let⟨_,a1,a2⟩:=ha;let⟨_,b1,b2⟩:=hb;⟨_,y9 vG a1 b1 hs,AX Jr a2 b2⟩
def gX(x:Rz):M Rz:=
 match x.d? with
 |some (.int i)=>aj (.dat (.int (-i)))
 |_=>none
def fU(g:Rz->M Rz)(f:List Sl->M Rz)(δ:List Sl):M Rz:=hV (f δ) g
theorem m7{a:Expr}{fa:List Sl->M Rz}{pos:Pos}(ha:DE X E a fa):DE X E (.UnaryOp .USub a pos) (fU gX fa):=by
 obtain⟨t,a1,a2⟩:=ha;refine⟨_,DH vA a1,λH0 σ H δ S Q z L h q=>?_⟩
 rcases a7 h with⟨x,h1,h⟩ | ⟨C,h1,rfl⟩
 ·refine a2 H0 σ H δ S _ _ L h1 λv H1 S1 g1 rv=>?_
  unfold gX at h;split at h
  ·rename_i i e
   cases h;have d:=rv.full e;cases d;exact⟨i,rfl,q _ H1 S1 g1 (.int _)⟩
  ·cases h
 ·exact a2 H0 σ H δ S _ _ L h1 q
def gw(ds:List PyData)(lo hi:Option Int):List PyData:=(ds.drop (HT.gU ds.length 0 lo)).take (HT.gU ds.length ds.length hi-HT.gU ds.length 0 lo)
theorem aE.cut{H:Hp}{xs:List V}{ds:List PyData}(lo hi:Option Int)(h:aE K H xs ds):aE K H (sY xs lo hi) (gw ds lo hi):=by
 unfold sY gw;rw[aE.len h];exact aE.take _ (aE.drop _ h)
def KD(K:W.Frag)(E:XK)(t:TO)(f:List Sl->M (Option Int)):Prop:=
 ∀(H0:Hp) (σ:L2.St) (H:Hp) (δ:List Sl) (S:Addr->Bool) (Q:Option Int->Hp->Prop) (r:hU (Option Int)),aW K H0 σ H δ S->f δ=some r->
  (match r with | .ok z=>∀H' S',bw H S H' S'->Q z H' | .err C=>∀H' S',bw H S H' S'->E (.ref (b4 C)) none H')->t σ H Q
def DO(X:Cx)(E:XK)(e:Option Expr)(f:List Sl->M (Option Int)):Prop:=∃t,PO X e t/\KD X.K E t f
def bL(_:List Sl):M (Option Int):=aj none
def A8(x:Rz):M (Option Int):=
 match x.d? with
 |some (.int i)=>aj (some i)
 |_=>none
def bi(f:List Sl->M Rz)(δ:List Sl):M (Option Int):=hV (f δ) A8
theorem cN:DO X E none bL:=⟨_,Eu,λH0 σ H δ S Q r L h q=>by cases h;exact q H S .refl⟩
theorem cO{e:Expr}{f:List Sl->M Rz}(h:DE X E e f):DO X E (some e) (bi f):=by
 obtain⟨t,a,b⟩:=h;refine⟨_,Ev a,λH0 σ H δ S Q r L h q=>?_⟩
 rcases a7 h with⟨x,h1,h⟩ | ⟨C,h1,rfl⟩
 ·refine b H0 σ H δ S _ _ L h1 λv H1 S1 g1 rv=>?_
  unfold A8 at h;split at h
  ·rename_i i e
   cases h;have d:=rv.full e;cases d;exact⟨i,rfl,q H1 S1 g1⟩
  ·cases h
 ·exact b H0 σ H δ S _ _ L h1 q
def DR(K:W.Frag)(E:XK)(r:V->Option Int->Option Int->Hp->VK->Prop)(g:Rz->Option Int->Option Int->M Rz):Prop:=
 ∀(H0:Hp) (σ:L2.St) (H:Hp) (δ:List Sl) (S:Addr->Bool) (Hs:Hp) (v:V) (x:Rz) (lo hi:Option Int) (z:hU Rz) (Q:VK),aW K H0 σ H δ S->RV K Hs H S v x->g x lo hi=some z->iQ K E H S Q z->r v lo hi H Q
def cJ(g:Rz->Option Int->Option Int->M Rz)(f:List Sl->M Rz)(fl fh:List Sl->M (Option Int))(δ:List Sl):M Rz:=hV (f δ) λx=>hV (fl δ) λlo=>hV (fh δ) λhi=>g x lo hi
theorem cf{e:Expr}{lo hi:Option Expr}{p2 pos:Pos}{r:V->Option Int->Option Int->Hp->VK->Prop}{g:Rz->Option Int->Option Int->M Rz}{f:List Sl->M Rz}{fl fh:List Sl->M (Option Int)}(hr:AI X r)(hd:DR X.K E r g)(he:DE X E e f)(hl:DO X E lo fl)(hh:DO X E hi fh) :
  DE X E (.Subscript e (.Slice lo hi none p2) pos) (cJ g f fl fh):=by
 obtain⟨t,a1,a2⟩:=he;obtain⟨u,b1,b2⟩:=hl;obtain⟨w,c1,c2⟩:=hh;refine⟨_,Cl hr a1 b1 c1,λH0 σ H δ S Q z L h q=>?_⟩
 rcases a7 h with⟨x,h1,h⟩ | ⟨C,h1,rfl⟩
 ·refine a2 H0 σ H δ S _ _ L h1 λv H1 S1 g1 rv=>?_
  rcases a7 h with⟨l,h2,h⟩ | ⟨C,h2,rfl⟩
  ·refine b2 H0 σ H1 δ S1 _ _ (L.ext g1) h2 λH2 S2 g2=>?_
   rcases a7 h with⟨k,h3,h⟩ | ⟨C,h3,rfl⟩
   ·refine c2 H0 σ H2 δ S2 _ _ ((L.ext g1).ext g2) h3 λH3 S3 g3=>?_
    exact hd H0 σ H3 δ S3 H v x l k z Q (((L.ext g1).ext g2).ext g3) ((rv.ext g2).ext g3) h (q.ext ((g1.trans g2).trans g3))
   ·exact c2 H0 σ H2 δ S2 _ _ ((L.ext g1).ext g2) h3 λH' S' g=>q H' S' ((g1.trans g2).trans g)
  ·exact b2 H0 σ H1 δ S1 _ _ (L.ext g1) h2 λH' S' g=>q H' S' (g1.trans g)
 ·exact a2 H0 σ H δ S _ _ L h1 q
def gN(x:Rz)(lo hi:Option Int):M Rz:=
 match x.d? with
 |some (.list ds)=>if kept x ds=true then aj (.new (gw ds lo hi)) else none
 |_=>none
theorem lf:DR K E (GJ K) gN:=by
 intro H0 σ H δ S Hs v x lo hi z Q L rv h q;unfold gN at h
 split at h
 ·rename_i ds e
  split at h
  ·rename_i k
   cases h;obtain⟨a,xs,rfl,hs,hx,hk⟩:=iR L rv e;exact⟨a,xs,rfl,hs,λp hp=>q _ _ (ins S p) (bw.ins hp) ⟨p,_,rfl,dF,hp,bF,by rw[la hp];exact aE.cut lo hi (hk k)⟩⟩
  ·cases h
 ·cases h
def Ko(K:W.Frag)(E:XK)(H:Hp)(Q:VK):hU bN->Prop
 | .ok o=>nC K H Q o
 | .err C=>∀H',bh H H'->E (.ref (b4 C)) none H'
def bJ(K:W.Frag)(n:Nat)(f:List PyData->M bN):Sp:=λvs H Q E=>∃ds o,vs.length=n/\aE K H vs ds/\f ds=some o/\Ko K E H Q o
def qJ:List Rz->Option (List PyData)
 | []=>some []
 |x::xs=>match x.d?,qJ xs with
  |some d,some ds=>some (d::ds)
  |_,_=>none
theorem tM{Hs H:Hp}{S:Addr->Bool}: ∀{vs:List V} {zs:List Rz} {ds:List PyData},kj K Hs H S vs zs->qJ zs=some ds->aE K H vs ds
 |_,_,_,.nil,h=>by cases h;exact .nil
 |_,_,_,.cons r t,h=>by
  unfold qJ at h;split at h
  ·rename_i d ds e1 e2
   cases h;exact .cons (r.full e1) (tM t e2)
  ·cases h
def fv:bN->Rz
 | .val d=>if hI d=true then .dat d else .use d
 | .fresh ds=> .new ds
 | .mine d=> .dat d
 | .two ds es=> .dat (.tuple [.list ds,.list es])
 | .lsts ds=> .use (.list ds)
 | .newls ds=> .new ds
 | .tl d ds=> .use (.tuple [d,.list ds])
def gF(n:Nat)(f:List PyData->M bN)(zs:List Rz):M Rz:=
 match qJ zs with
 |some ds=>if ds.length=n then hV (f ds) λo=>aj (fv o) else none
 |none=>none
theorem DU{n:Nat}{f:List PyData->M bN}:gu K E (λvs H Q=>bJ K n f (vs++[]) H Q E) (gF n f):=by
 intro H0 σ H δ S Hs vs zs z Q L rs h q;unfold gF at h
 split at h
 ·rename_i ds e
  split at h
  ·rename_i hn
   have hx:=tM rs e;rw[ka]
   rcases a7 h with⟨o,h1,h⟩ | ⟨C,h1,rfl⟩
   ·cases h
    refine⟨ds,_,by rw[aE.len hx];exact hn,hx,h1,?_⟩;cases o with
    |val d=>
     intro v H' g dv;have gx:bw H S H' S:=bw.same g;refine q v H' S gx ?_;unfold fv;dsimp only;split
     ·rename_i k;exact DV.ts (L.ext gx).tk dv k
     ·exact dv
    |two xs' ys'=>
     intro c a b xs ys H' g n1 n2 n3 hc ha hb dx dy kx ky;have gx:bw H S H' S:=bw.same g;have off: ∀p,H p=none->S p=false:=λp hp=>by
      cases sp:S p with
      |true=>obtain⟨zs,hz⟩:=L.lst p sp;rw[hp] at hz;cases hz
      |false=>rfl
     exact q _ H' S gx (.tup (gH.of (by rw[cU (off c n1)];exact hc)) (.cons (.lst (cw.of (by rw[cU (off a n2)];exact ha)) (aE.ts (L.ext gx).tk dx kx)) (.cons (.lst (cw.of (by rw[cU (off b n3)];exact hb)) (aE.ts (L.ext gx).tk dy ky)) .nil)))
    |lsts es=>
     intro a xs H' g n ha hx;exact q _ H' S (bw.same g) (DV.lst (cw.of ha) (aE.same vi hx))
    |tl d es=>
     intro c a v xs H' g n1 n2 hc ha dv hx;exact q _ H' S (bw.same g) (DV.tup (gH.of hc) (.cons (DV.same vi dv) (.cons (.lst (cw.of ha) (aE.same vi hx)) .nil)))
    |newls es=>
     intro a xs H' g n ha hx;have sub:bh (bj H S) (bj H' (ins S a)):=λb o e=>by
      have hb:b≠a:=by intro z;subst z;have:=b6 _ _ e;rw[n] at this;cases this
      cases sb:S b with
      |true=>rw[gq sb] at e;cases e
      |false=>rw[cU sb] at e;rw[cU (by rw[ki hb];exact sb)];exact g _ _ e
     have gx:bw H S H' (ins S a):=⟨g,sub,λb hb=>by
      unfold ins;split
      ·rfl
      ·exact hb,λb hb=>by
      by_cases c:b=a
      ·subst c;exact .inr ⟨n,xs,ha⟩
      ·rw[ki c] at hb;exact .inl hb⟩
     refine q _ H' (ins S a) gx ⟨a,xs,rfl,dF,n,ha,aE.same (λb o e=>?_) hx⟩;have hb:b≠a:=by intro z;subst z;have:=tJ _ _ e;unfold wo at this;rw[aD rfl] at this;cases this
     cases sb:S b with
     |true=>
      obtain⟨ys,hy⟩:=L.lst b sb;unfold jh wo at e
      rw[hy] at e;dsimp only at e;rw[aK hb,g b _ hy] at e;cases e
     |false=>rw[cU (by rw[ki hb];exact sb)];exact vi _ _ (tJ _ _ e)
    |mine d=>
     intro v H' g dv;refine q v H' S (bw.same g) (DV.same (λb o e=>?_) dv);cases sb:S b with
     |true=>
      obtain⟨xs,hb⟩:=L.lst b sb;unfold jh at e
      rw[hb] at e;dsimp only at e;rw[g b _ hb] at e;cases e
     |false=>rw[cU sb];exact tJ b o e
    |fresh es=>
     intro a xs H' g ha hl dv k;have sub:bh (bj H S) (bj H' (ins S a)):=λb o e=>by
      have hb:b≠a:=by intro z;subst z;have:=b6 _ _ e;rw[ha] at this;cases this
      cases sb:S b with
      |true=>rw[gq sb] at e;cases e
      |false=>rw[cU sb] at e;rw[cU (by rw[ki hb];exact sb)];exact g _ _ e
     have gx:bw H S H' (ins S a):=⟨g,sub,λb hb=>by
      unfold ins;split
      ·rfl
      ·exact hb,λb hb=>by
      by_cases c:b=a
      ·subst c;exact .inr ⟨ha,xs,hl⟩
      ·rw[ki c] at hb;exact .inl hb⟩
     exact q _ H' (ins S a) gx ⟨a,xs,rfl,dF,ha,hl,aE.ts (L.ext gx).tk dv k⟩
   ·refine⟨ds,_,by rw[aE.len hx];exact hn,hx,h1,λH' g=>q H' S (bw.same g)⟩
  ·cases h
 ·cases h
theorem aO{k n m:Nat}{x:Str}{ps:List Str}{f:List PyData->M bN}{p pos:Pos}{e:Expr}{es:List Expr}{fa:List Sl->M (List Rz)}(Z:lA n X E)(C:d8 X.prog X.w X.K X.mg X.base (bt X.prog X.w) k x ps (bJ X.K m f))(ha:DA X E (e::es) fa)(hn:k<=n:=by decide)
  (hg:Gl X x:=by rfl) (hdb:(x ==("__debug__" :Str))=false:=by decide)
  (he:starEach (e::es) X.env=(false,eval e X.env)::starEach es X.env:=by rfl) (hpl:(backTo pos (starEach es X.env)).any (·.1)=false:=by rfl) :
  DE X E (.Call (.Name x p) (e::es) [] pos) (ag (gF m f) fa):=
 let⟨_,a,b⟩:=ha;⟨_,ED C Z.rm Z.hx a hn hg hdb he hpl,le DU b⟩
structure zh (K:W.Frag) (J:It) (Hh:Hp) (items:List PyData):Prop where
 go: ∀i H,bh Hh H->i<items.length->J.go i H
 yld: ∀i H x H' d,bh Hh H->items[i]?= some d->J.yld i H x H'->H'=H/\DV K Hh x d
 stop: ∀i H,bh Hh H->items.length<=i->J.stop i H
def JY(K:W.Frag)(E:XK)(wi:TI)(f:List Sl->M (List PyData)):Prop:=
 ∀(H0:Hp) (σ:L2.St) (H:Hp) (δ:List Sl) (S:Addr->Bool) (R:It->Hp->Prop) (r:hU (List PyData)),aW K H0 σ H δ S->f δ=some r->
  (match r with | .ok items=>∀J H' S',bw H S H' S'->zh K J (bj H' S') items->R J H' | .err C=>∀H' S',bw H S H' S'->E (.ref (b4 C)) none H')->wi σ H R
def DI(X:Cx)(E:XK)(tg iter:Expr)(f:List Sl->M (List PyData)):Prop:=∃wi,PI X tg iter wi/\JY X.K E wi f
theorem pW{Hh:Hp}{a:Addr}{xs:List V}{ds:List PyData}(hs:cw K Hh a xs)(hx:aE K Hh xs ds):zh K (Gx K a) Hh ds:=by
 refine⟨λi H g hi=>?_,λi H x H' d g e y=>?_,λi H g hi=>⟨xs,g.seq hs,by rw[aE.len hx];exact hi⟩⟩
 ·obtain⟨v,e,_⟩:=aE.get hx (gk hi)
  exact⟨xs,v,g.seq hs,e⟩
 ·obtain⟨rfl,y⟩:=y
  obtain⟨v,e1,dv⟩:=aE.get hx e;have e2:=y xs (g.seq hs);rw[e1] at e2;cases e2
  exact⟨rfl,dv⟩
def e7(x:Rz):M (List PyData):=
 match x with
 | .dat (.list ds)=>aj ds
 | .new ds=>aj ds
 |_=>none
def fI(g:Rz->M (List PyData))(f:List Sl->M Rz)(δ:List Sl):M (List PyData):=hV (f δ) g
theorem bw.del{H H1:Hp}{S S1:Addr->Bool}{a:Addr}(g:bw H S H1 S1)(n:S a=false):bw H S H1 (del S1 a):=
 ⟨g.up,g.hd.trans ly,λb h=>by
  have:b≠a:=by intro z;subst z;rw[h] at n;cases n
  rw[o0 this];exact g.sub b h,λb h=>by
  by_cases c:b=a
  ·subst c;rw[jN] at h;cases h
  ·rw[o0 c] at h;exact g.new b h⟩
theorem yl{tg e:Expr}{f:List Sl->M Rz}(h:DE X E e f):DI X E tg e (fI e7 f):=by
 obtain⟨t,a,b⟩:=h;refine⟨_,En a,λH0 σ H δ S R r L h q=>?_⟩
 rcases a7 h with⟨x,h1,h⟩ | ⟨C,h1,rfl⟩
 ·refine b H0 σ H δ S _ _ L h1 λv H1 S1 g1 rv=>?_
  unfold e7 at h;split at h
  ·rename_i ds
   cases h;have rv':DV X.K (bj H1 S1) v (.list ds):=rv;cases rv' with
   |lst hs hx=>exact⟨_,rfl,⟨_,b6.seq hs⟩,q _ H1 S1 g1 (pW hs hx)⟩
  ·rename_i ds
   cases h;obtain⟨c,xs,rfl,z,n,hl,hx⟩:=rv;have sc:S c=false:=by
    cases e:S c with
    |false=>rfl
    |true=>obtain⟨ys,w⟩:=L.lst c e;rw[n] at w;cases w
   exact⟨c,rfl,⟨xs,cw.of hl⟩,q _ H1 (D3.del S1 c) (g1.del sc) (pW (cw.of (by rw[cU jN];exact hl)) (aE.same ly hx))⟩
  ·cases h
 ·exact b H0 σ H δ S _ _ L h1 q
def f9(lo:Int)(n:Nat):List PyData:=(List.range n).map λ(i:Nat)=>PyData.int (lo+i)
theorem CP{Hh:Hp}(lo:Int)(n:Nat):zh K (DD lo n) Hh (f9 lo n):=by
 have hl:(f9 lo n).length=n:=by unfold f9;rw[cZ,Dp]
 refine⟨λi H g hi=>by rw[hl] at hi;exact hi,λi H x H' d g e y=>?_,λi H g hi=>by rw[hl] at hi;exact hi⟩;obtain⟨rfl,rfl⟩:=y;unfold f9 at e
 rw[oQ] at e
 by_cases c:i<n
 ·rw[List.getElem?_range c] at e;cases e;exact⟨rfl,.int _⟩
 ·rw[Dq (by rw[Dp];omega)] at e;cases e
def vV(zs:List Rz):M (List PyData):=
 match qJ zs with
 |some [.int j]=>if -(2^62)<=j/\j<2^62 then aj (f9 0 j.toNat) else none
 |_=>none
def fR(g:List Rz->M (List PyData))(f:List Sl->M (List Rz))(δ:List Sl):M (List PyData):=hV (f δ) g
theorem uE{tg a:Expr}{p pos:Pos}{f:List Sl->M (List Rz)}(hm:X.mg "range" =none)(ha:DA X E [a] f)(hg:Gl X "range" :=by rfl)(hs:starEach [a] X.env=[(false,eval a X.env)]:=by rfl):DI X E tg (.Call (.Name "range" p) [a] [] pos) (fR vV f):=by
 obtain⟨t,a1,b⟩:=ha;refine⟨_,AB hg hm a1 hs,λH0 σ H δ S R r L h q=>?_⟩
 rcases a7 h with⟨zs,h1,h⟩ | ⟨C,h1,rfl⟩
 ·refine b H0 σ H δ S _ _ L h1 λvs H1 S1 g1 rs=>?_
  unfold vV at h;split at h
  ·rename_i j e
   split at h
   ·rename_i hc
    cases h;have hx:=tM rs e;cases hx with
    |cons x y=>cases x;cases y;exact⟨j,rfl,hc.1,hc.2,q _ H1 S1 g1 (CP 0 _)⟩
   ·cases h
  ·cases h
 ·exact b H0 σ H δ S _ _ L h1 q
def dS(g:PyData->List Sl->Option (List Sl))(b:List Sl->Option Fl):List PyData->List Sl->Option Fl
 | [],δ=>some (.next δ)
 |d::r,δ=>match g d δ with
  |none=>none
  |some δ1=>(match b δ1 with
   |some (.next δ2)=>dS g b r δ2
   |some (.cnt δ2)=>dS g b r δ2
   |some (.brk δ2)=>some (.next δ2)
   |x=>x)
def lC(fi:List Sl->M (List PyData))(g:PyData->List Sl->Option (List Sl))(b:List Sl->Option Fl)(δ:List Sl):Option Fl:=bS (fi δ) λitems=>dS g b items δ
theorem ss{n:Nat}{tg iter:Expr}{body:List Stmt}{fi:List Sl->M (List PyData)}{g:PyData->List Sl->Option (List Sl)}{fb:List Sl->Option Fl}{pos:Pos}(Z:lA n X E)(hi:DI X E tg iter fi)(hg:DG X tg g)(hb:kn X E body fb)
  (hs: ∀x,foldedSetIterable iter X.env x=pure x:=by intro _;rfl):DS X E (.For tg iter body [] pos) (lC fi g fb):=by
 obtain⟨wi,i1,i2⟩:=hi;obtain⟨tg',g1,g2⟩:=hg;obtain⟨tb,b1,b2⟩:=hb;refine⟨_,AD Z.po Z.cm i1 g1 b1 hs,λH0 σ H δ S D fl L h q=>?_⟩
 rcases eP h with⟨items,h1,h⟩ | ⟨C,h1,rfl⟩
 ·refine i2 H0 σ H δ S _ _ L h1 λJ H1 S1 e1 it=>?_
  have L1:=(L.ext e1).ground;have base:bh H0 (bj H1 S1):=(L.ext e1).base;refine⟨λi m σ H=>m=items.length-i/\i<=items.length/\∃δ S,aW X.K (bj H1 S1) σ H δ S/\dS g fb (items.drop i) δ=some fl,⟨items.length,by simp,vw _,δ,S1,L1,h⟩,?_⟩;rintro i m σ2 H2 ⟨rfl,hi,δ2,S2,L2,hf⟩
  by_cases hlt:i<items.length
  ·have ei:items[i]?= some items[i]:=gk hlt
   rw[vy hlt] at hf;unfold dS at hf;refine .inr ⟨it.go i H2 L2.old hlt,λ σ' H'=>∃δ' S',aW X.K (bj H1 S1) σ' H' δ' S'/\dS g fb (items.drop (i+1)) δ'=some fl,λ σ' H' z=>⟨items.length- (i+1),by omega,rfl,hlt,z⟩,λx H' y=>?_⟩
   obtain⟨rfl,dx⟩:=it.yld i H2 x H' _ L2.old ei y;split at hf
   ·cases hf
   ·rename_i δ3 e3
    refine g2 _ σ2 H' δ2 δ3 S2 x _ _ L2 (DV.same L2.base dx) e3 λ σ3 L3=>?_
    split at hf
    ·rename_i δ4 e4
     exact b2 _ σ3 H' δ3 S2 _ _ L3 e4 λ σ' H' S' L'=>⟨δ4,S',L',hf⟩
    ·rename_i δ4 e4
     exact b2 _ σ3 H' δ3 S2 _ _ L3 e4 λ σ' H' S' L'=>⟨δ4,S',L',hf⟩
    ·rename_i δ4 e4
     cases hf;refine b2 _ σ3 H' δ3 S2 _ _ L3 e4 λ σ' H' S' L'=>?_
     exact q σ' H' S' ⟨base.trans L'.old,λb h=>base.free (L'.frs b h),L'.lst,L'.len,L'.dat,L'.exc,L'.own,L'.one,L'.two,L'.sep,L'.sop⟩
    ·rename_i r n1 n2 n3
     refine b2 _ σ3 H' δ3 S2 _ fl L3 hf ?_;cases fl with
     |next δ'=>exact absurd hf (n1 δ')
     |cnt δ'=>exact absurd hf (n2 δ')
     |brk δ'=>exact absurd hf (n3 δ')
     |ret o=>exact nC.up base q
     |exc C=>exact λH' s=>q H' (base.trans s)
  ·have e:i=items.length:=by omega
   subst e;rw[Ae] at hf
   cases hf;exact .inl ⟨it.stop _ H2 L2.old (cr _),q σ2 H2 S2 ⟨base.trans L2.old,λb h=>base.free (L2.frs b h),L2.lst,L2.len,L2.dat,L2.exc,L2.own,L2.one,L2.two,L2.sep,L2.sop⟩⟩
 ·exact i2 H0 σ H δ S _ _ L h1 (dZ L q)
def nG(k:Nat)(g:List PyData->Option Fl)(δ:List Sl):Option Fl:=
 match δ[k]? with
 |some (.own ds)=>g ds
 |_=>none
theorem qK{k:Nat}{g:List PyData->Option Fl}{δ:List Sl}{r:Fl}(h:nG k g δ=some r): ∃ds,δ[k]?= some (.own ds)/\g ds=some r:=by
 unfold nG at h;split at h
 ·rename_i ds e;exact⟨ds,e,h⟩
 ·cases h
def zi(k:Nat)(f:List Sl->M Rz)(δ:List Sl):Option Fl:=nG k (λds=>bS (f δ) λx=>match dU x with
 |some d=>if ds.length<sizeLine then some (.next (δ.set k (.own (ds++[d])))) else none
 |none=>none) δ
theorem A9(k:Nat){x:Str}{e:Expr}{f:List Sl->M Rz}{KU apos KJ pos:Pos}(he:DE X E e f)(hN:X.N[k]?= some x:=by rfl)(hv:mU X.env.scope x:=by first |exact Or.inl rfl |exact Or.inr (Or.inl rfl) |exact Or.inr (Or.inr rfl))(hd:(x ==("__debug__" :Str))=false:=by decide)(hcd:(x ==("__classdict__" :Str))=false:=by decide)
  (hs:swapsWith (.Call (.Attribute (.Name x KU) "append" apos) [e] [] KJ) none pos.line X.env=pure false:=by rfl)
  (KL:attributeBase (.Name x KU) "append" X.env (eval (.Name x KU) X.env)=eval (.Name x KU) X.env:=by rfl)
  (KT:((backTo KJ (starEach [e] X.env)).all (λx=>!x.1)&& (backToKw KJ (keywordEach [] X.env)).all (λx=>x.1.isSome)
   && decide ([e].length+([]:List Keyword).length+(if([]:List Keyword).isEmpty then 0 else 1)<30))=true:=by rfl)
  (KM:(apos.endLine == KJ.line)=true:=by rfl) (hst:starEach [e] X.env=(false,eval e X.env)::starEach [] X.env:=by rfl) (KN:(backTo KJ (starEach [] X.env)).any (·.1)=false:=by rfl) :
  DS X E (.Expr (.Call (.Attribute (.Name x KU) "append" apos) [e] [] KJ) pos) (zi k f):=by
 obtain⟨t,a,b⟩:=he;refine⟨_,mW (nv Dr FV FW mm (i9 hN hv hd hcd) (cg a eZ hst) KL KT KM hst KN) hs,λH0 σ H δ S D fl L h q=>?_⟩;obtain⟨ds,e2,h⟩:=qK h;obtain⟨c,xs,c1,c2,c3,c4⟩:=L.own k ds e2;refine⟨_,c1,.inl ⟨rfl,xs,cw.of c3⟩,?_⟩
 rcases eP h with⟨z,h1,h⟩ | ⟨C,h1,rfl⟩
 ·split at h
  ·rename_i d e1
   split at h
   ·rename_i hl
    cases h;refine b H0 σ H δ S _ _ L h1 λv H1 S1 g1 rv=>?_
    have L1:=L.ext g1;obtain⟨c',xs',d1,d2,d3,d4⟩:=L1.own k ds e2;rw[c1] at d1;cases d1
    refine⟨_,xs',v,rfl,rfl,d3,by rw[aE.len d4];exact hl,?_⟩;exact q _ _ S1 (L1.mut e2 c1 (aE.append (.cons (iT L1 rv e1) .nil) d4))
   ·cases h
  ·cases h
 ·exact b H0 σ H δ S _ _ L h1 (dZ L q)
def tN(k:Nat)(δ:List Sl):Option Fl:=nG k (λds=>if ds=[] then none else some (.next (δ.set k (.own ds.dropLast)))) δ
theorem Hm(k:Nat){x:Str}{KU apos KJ pos:Pos}(hN:X.N[k]?= some x:=by rfl)(hv:mU X.env.scope x:=by first |exact Or.inl rfl |exact Or.inr (Or.inl rfl) |exact Or.inr (Or.inr rfl))(hd:(x ==("__debug__" :Str))=false:=by decide)(hcd:(x ==("__classdict__" :Str))=false:=by decide)
  (hs:swapsWith (.Call (.Attribute (.Name x KU) "pop" apos) [] [] KJ) none pos.line X.env=pure false:=by rfl)
  (KL:attributeBase (.Name x KU) "pop" X.env (eval (.Name x KU) X.env)=eval (.Name x KU) X.env:=by rfl) (KM:(apos.endLine == KJ.line)=true:=by rfl) :
  DS X E (.Expr (.Call (.Attribute (.Name x KU) "pop" apos) [] [] KJ) pos) (tN k):=by
 refine⟨_,mW (GK Dr PySem.F.slot_list_pop PySem.F.type_list_pop GL (i9 hN hv hd hcd) KL KM) hs,λH0 σ H δ S D fl L h q=>?_⟩;obtain⟨ds,e2,h⟩:=qK h;obtain⟨c,xs,c1,c2,c3,c4⟩:=L.own k ds e2;split at h
 ·cases h
 ·rename_i hne
  cases h;have hl:=aE.len c4;have hpos:0<xs.length:=by rw[hl];exact oR.mpr hne
  refine⟨_,c1,.inl ⟨rfl,xs,cw.of c3⟩,c,xs,xs[xs.length-1],rfl,rfl,c3,gk _,?_⟩;exact q _ _ S (L.mut e2 c1 (aE.dropLast c4))
def mB(k:Nat)(f fi:List Sl->M Rz)(δ:List Sl):Option Fl:=bS (f δ) λx=>nG k (λds=>bS (fi δ) λy=>match dU x,y.d? with
 |some d,some (.int i)=>(match lw ds.length i with |some j=>some (.next (δ.set k (.own (ds.set j d)))) |none=>none)
 |_,_=>none) δ
theorem Ba(k:Nat){x:Str}{e i:Expr}{f fi:List Sl->M Rz}{KU spos pos:Pos}(he:DE X E e f)(hi:DE X E i fi)(hN:X.N[k]?= some x:=by rfl)(hv:mU X.env.scope x:=by first |exact Or.inl rfl |exact Or.inr (Or.inl rfl) |exact Or.inr (Or.inr rfl))(hd:(x ==("__debug__" :Str))=false:=by decide)(hcd:(x ==("__classdict__" :Str))=false:=by decide)
  (ha: ∀v,assign (.Subscript (.Name x KU) i spos) X.env v=(do
   let ov <-holding [v] (eval (.Name x KU) X.env)
   let iv <-holding [v,ov] (eval i X.env)
   standAt spos
   holding [v,ov,iv] (setItem ov iv v)
   release [v,ov,iv] []):=by intro _;rfl)
  (hs:swapsWithSole [.Subscript (.Name x KU) i spos] e pos.line X.env=pure false:=by rfl) (hw:swappedStores [.Subscript (.Name x KU) i spos] e X.env=pure none:=by rfl)
  (h1:(assignEach [.Subscript (.Name x KU) i spos] X.env).map (·.2)=[assign (.Subscript (.Name x KU) i spos) X.env]:=by rfl) :
  DS X E (.Assign [.Subscript (.Name x KU) i spos] e pos) (mB k f fi):=by
 obtain⟨t,a,b⟩:=he;obtain⟨u,c,dd⟩:=hi;refine⟨_,Ay a (Gr (i9 hN hv hd hcd) c Cm ha) hs hw h1,λH0 σ H δ S D fl L h q=>?_⟩
 rcases eP h with⟨z,h1,h⟩ | ⟨C,h1,rfl⟩
 ·refine b H0 σ H δ S _ _ L h1 λv H1 S1 g1 rv=>?_
  have L1:=L.ext g1;obtain⟨ds,e2,h⟩:=qK h;obtain⟨c,xs,c1,c2,c3,c4⟩:=L1.own k ds e2;refine⟨_,c1,?_⟩
  rcases eP h with⟨y,h2,h⟩ | ⟨C,h2,rfl⟩
  ·refine dd H0 σ H1 δ S1 _ _ L1 h2 λw H2 S2 g2 rw'=>?_
   have L2:=L1.ext g2;split at h
   ·rename_i d ii e3 e4
    split at h
    ·rename_i j e5
     cases h;have dw:=rw'.full e4;cases dw;obtain⟨c',xs',d1,d2,d3,d4⟩:=L2.own k ds e2;rw[c1] at d1;cases d1
     refine⟨_,xs',ii,j,rfl,rfl,d3,by rw[aE.len d4];exact e5,?_⟩;exact q _ _ S2 (L2.mut e2 c1 (aE.set (iT L2 (rv.ext g2) e3) j d4))
    ·cases h
   ·cases h
  ·exact dd H0 σ H1 δ S1 _ _ L1 h2 (dZ L1 q)
 ·exact b H0 σ H δ S _ _ L h1 (dZ L q)
inductive Tg where
 |non |bl |int |str |lst |tup |dct
 |exc (n:Ex)
 deriving DecidableEq
def Hn:PyData->Option Tg
 | .none=>some .non
 | .bool _=>some .bl
 | .int _=>some .int
 | .str _=>some .str
 | .list _=>some .lst
 | .tuple _=>some .tup
 | .dict _=>some .dct
def zj(x:Rz):Option Tg:=
 match x with
 | .exc n=>if tG n=true then none else some (.exc n)
 | .dat d=>Hn d
 | .use d=>Hn d
 | .new _=>some .lst
 | .var _=>some .lst
def oF:Tg->Value
 | .non=> .type "NoneType"
 | .bl=> .type "bool"
 | .int=> .type "int"
 | .str=> .type "str"
 | .lst=> .type "list"
 | .tup=> .type "tuple"
 | .dct=> .type "dict"
 | .exc n=> .ref (b4 n)
theorem pX{H:Hp}{v:V}{d:PyData}{tg:Tg}(h:DV K H v d)(e:Hn d=some tg):oB K H v (oF tg):=by
 cases h with
 |non=>cases e;exact .non
 |bl b=>cases e;exact .bl b
 |int i=>cases e;exact .int i
 |str x=>cases e;exact .str x
 |tup a b=>cases e;exact .tup a
 |lst a b=>cases e;exact .lst a
 |dct a=>cases e;exact .dct a
theorem DY{Hs H:Hp}{S:Addr->Bool}{v:V}{x:Rz}{tg:Tg}(r:RV K Hs H S v x)(e:zj x=some tg)(xk: ∀n,tg= .exc n->iB K (b4 n)):rZ K H v (oF tg):=by
 cases x with
 |exc n=>
  unfold zj at e;dsimp only at e;split at e
  ·cases e
  ·rename_i nf
   cases e;obtain⟨ea,rfl,z⟩:=r;exact .exc (xk n rfl) (b6 _ _ (z.real (by simpa using nf)))
 |dat d=>exact .of (pX (DV.same b6 r) e)
 |use d=>exact .of (pX r e)
 |new ds=>cases e;exact .of (pX (RV.full r rfl) rfl)
 |var ds=>cases e;exact .of (pX (RV.full r rfl) rfl)
def mC(ans:Tg->Option Bool)(x:Rz):M Rz:=
 match zj x with
 |some tg=>(match ans tg with |some b=>aj (.dat (.bool b)) |none=>none)
 |none=>none
theorem vW{ans:Tg->Option Bool}{x:Rz}{z:hU Rz}(h:mC ans x=some z): ∃tg b,zj x=some tg/\ans tg=some b/\z= .ok (.dat (.bool b)):=by
 unfold mC at h;split at h
 ·rename_i tg e
  split at h
  ·rename_i b e2;cases h;exact⟨tg,b,e,e2,rfl⟩
  ·cases h
 ·cases h
structure ym (K:W.Frag) (cv:V) (ans:Tg->Option Bool):Prop where
 cls:kP cv=true
 kit: ∀tg b,ans tg=some b->W.kitOne K (oF tg) (rX cv)=some b
 exc: ∀n b,ans (.exc n)=some b->iB K (b4 n)
structure CQ (K:W.Frag) (cs:List V) (ans:Tg->Option Bool):Prop where
 cls: ∀c∈cs,kP c=true
 kit: ∀tg b,ans tg=some b->W.kitAny K (oF tg) (cs.map rX)=some b
 exc: ∀n b,ans (.exc n)=some b->iB K (b4 n)
theorem su{a c:Expr}{cv:V}{ans:Tg->Option Bool}{f:List Sl->M Rz}{p pos:Pos}(hm:X.mg "isinstance" =none)(hk:ym X.K cv ans)(ha:DE X E a f)(hc:PE X c (tC cv))
  (hg:Gl X "isinstance" :=by rfl) (hs:starEach [a,c] X.env=(false,eval a X.env)::starEach [c] X.env:=by rfl) (hs2:starEach [c] X.env=(false,eval c X.env)::starEach [] X.env:=by rfl) (hpl:(backTo pos (starEach [c] X.env)).any (·.1)=false:=by rfl) :
  DE X E (.Call (.Name "isinstance" p) [a,c] [] pos) (fU (mC ans) f):=by
 obtain⟨t,a1,a2⟩:=ha;refine⟨_,qF Cz hg hm PyProof.Rows.boot_isinstance (cg a1 (cg hc eZ hs2) hs) (by decide) (by decide) hs hpl,λH0 σ H δ S Q z L h q=>?_⟩
 rcases a7 h with⟨x,h1,h⟩ | ⟨C,h1,rfl⟩
 ·refine a2 H0 σ H δ S _ _ L h1 λv H1 S1 g1 rv=>?_
  obtain⟨tg,b,e1,e2,rfl⟩:=vW h;exact⟨v,cv,oF tg,b,rfl,DY rv e1 (λn e=>by subst e;exact hk.exc n b e2),hk.cls,hk.kit tg b e2,q _ H1 S1 g1 (.bl b)⟩
 ·exact a2 H0 σ H δ S _ _ L h1 q
def Ho:List V->TA
 | []=>GC
 |c::cs=>DJ (tC c) (Ho cs)
theorem Bb{σ:L2.St}{H:Hp}: ∀{cs:List V} {Q:List V->Hp->Prop},Q cs H->Ho cs σ H Q
 | [],_,q=>q
 |c::cs,Q,q=>Bb (cs:=cs) (Q:=λxs H2=>Q (c::xs) H2) q
theorem Hq{a:Expr}{ces:List Expr}{cs:List V}{ans:Tg->Option Bool}{f:List Sl->M Rz}{p tp pos:Pos}{x1}(hm:X.mg "isinstance" =none)(hk:CQ X.K cs ans)(hl:cs.length<=sizeLine)(ha:DE X E a f)(hc:PA X ces (Ho cs))
  (hg:Gl X "isinstance" :=by rfl) (hs:starEach [a,.Tuple ces x1 tp] X.env=(false,eval a X.env)::starEach [.Tuple ces x1 tp] X.env:=by rfl) (hs2:starEach [.Tuple ces x1 tp] X.env=(false,eval (.Tuple ces x1 tp) X.env)::starEach [] X.env:=by rfl) (hpl:(backTo pos (starEach [.Tuple ces x1 tp] X.env)).any (·.1)=false:=by rfl) :
  DE X E (.Call (.Name "isinstance" p) [a,.Tuple ces x1 tp] [] pos) (fU (mC ans) f):=by
 obtain⟨t,a1,a2⟩:=ha;refine⟨_,qF CA hg hm PyProof.Rows.boot_isinstance (cg a1 (cg (AG hc) eZ hs2) hs) (by decide) (by decide) hs hpl,λH0 σ H δ S Q z L h q=>?_⟩
 rcases a7 h with⟨x,h1,h⟩ | ⟨C,h1,rfl⟩
 ·refine a2 H0 σ H δ S _ _ L h1 λv H1 S1 g1 rv=>?_
  obtain⟨tg,b,e1,e2,rfl⟩:=vW h;refine Bb ⟨hl,λp hp=>?_⟩;have g2:bw H1 S1 (bf H1 p (.tup cs)) S1:=bw.same (iP hp _);exact⟨v,p,cs,oF tg,b,rfl,bF,DY (rv.ext g2) e1 (λn e=>by subst e;exact hk.exc n b e2),hk.cls,hk.kit tg b e2,q _ _ S1 (g1.trans g2) (.bl b)⟩
 ·exact a2 H0 σ H δ S _ _ L h1 q
def dA(n m:Nat)(f:List Sl->Option Fl)(ds:List PyData):M bN:=
 if ds.length=n then(match f (ds.map Sl.dat++List.replicate m Sl.no) with
  |some (.ret o)=>some (.ok o)
  |some (.next _)=>some (.ok (.val .none))
  |some (.exc C)=>some (.err C)
  |_=>none) else none
theorem Bc{H:Hp}{vs:List V}{ds:List PyData}{N:List Str}{m:Nat}(h:aE K H vs ds)(hm:N.length-vs.length=m):aW K H (L2.a6 N vs) H (ds.map Sl.dat++List.replicate m Sl.no) (λ_=>false):=by
 have hh:bj H (λ_=>false)=H:=by funext b;exact cU rfl
 have hl:=aE.len h;have at_: ∀(i:Nat) (s:Sl),(ds.map Sl.dat++List.replicate m Sl.no)[i]?= some s->(∃d,ds[i]?= some d/\s= .dat d)\/s= .no:=λi s e=>by
  by_cases c:i<ds.length
  ·rw[oP (by rw[cZ];exact c),oQ,gk c] at e
   cases e;exact .inl ⟨_,gk c,rfl⟩
  ·rw[oO (by rw[cZ];omega),FH] at e
   split at e
   ·cases e;exact .inr rfl
   ·cases e
 refine⟨bh.refl _,(λb h=>nomatch h),(λb h=>nomatch h),?_,λi d e=>?_,λi C e=>?_,λi es e=>?_,λi j d1 d2 a e1=>?_,λi o e=>?_,λi j ds' a kd=>?_,λi j a kd=>?_⟩
 ·unfold L2.a6
  rw[bQ,bQ,cZ,cZ,rK,rK,hl,<-hm,hl]
 ·rcases at_ i _ e with⟨d',e1,e2⟩ |e2
  ·cases e2
   obtain⟨v,e3,dv⟩:=aE.get h e1;refine⟨v,?_,by rw[hh];exact dv⟩;unfold L2.a6;have:i<vs.length:=(xZ.mp e3).1;rw[oP (by rw[cZ];exact this),oQ,e3];rfl
  ·cases e2
 ·rcases at_ i _ e with⟨d',e1,e2⟩ |e2<;>cases e2
 ·rcases at_ i _ e with⟨d',e1,e2⟩ |e2<;>cases e2
 ·rcases at_ i _ e1 with⟨d',e1,e2⟩ |e2<;>cases e2
 ·rcases at_ i _ e with⟨d',e1,e2⟩ |e2<;>cases e2
 ·obtain⟨o,c,x,y,e,_⟩:=kd
  rcases at_ i _ e with⟨d',e1,e2⟩ |e2<;>cases e2
 ·obtain⟨o,c,x,y,e,_⟩:=kd
  rcases at_ i _ e with⟨d',e1,e2⟩ |e2<;>cases e2
end
theorem cE{P:Program}{w:World}{K:W.Frag}{mg:Str->Option Value}{base:Heap}{x:Str}{st:Stmt}{f:Addr}{fd:FuncData}{N ps:List Str}{k:Nat}(n m:Nat)(body:List Sl->Option Fl)(F:c7 K x x st f fd)(S:bg N ps (aH st))(hn:ps.length=n)(hm:N.length-ps.length=m)
  (hb: ∀(cdv:Value) (A:Around) (outer:List Env) (s:Shared) (H:Hp) (E:XK),lA k (jL (bt P w) P w K mg base N x (aH st) f cdv A outer s H E) E->kn (jL (bt P w) P w K mg base N x (aH st) f cdv A outer s H E) E (fX st) body) :
  b5 P w K mg base (bt P w) (k+1) f fd ps (bJ K n (dA n m body)):=by
 subst hn hm;refine KB F S (λvs H Q E h=>?_) (λcdv A outer s H vs Q E hr h=>?_)
 ·obtain⟨_,_,h,_⟩:=h;exact h
 ·obtain⟨ds,o,hl,dv,e,q⟩:=h
  obtain⟨t,a,b⟩:=hb cdv A outer s H E ⟨zf,ze,PassesOwn.leaving,rfl,hr,S.nd⟩;refine⟨t,a,?_⟩;unfold dA at e
  have hl2:ds.length=ps.length:=by rw[<-aE.len dv];exact hl
  rw[aD hl2] at e;have L:=Bc (N:=N) (m:=N.length-ps.length) dv (by rw[hl])
  split at e
  ·rename_i o' e1
   cases e;exact b H _ H _ _ _ _ L e1 q
  ·rename_i δ e1
   cases e;exact b H _ H _ _ _ _ L e1 λ σ' H' S' L'=>q .non H' L'.old .non
  ·rename_i C e1
   cases e;exact b H _ H _ _ _ _ L e1 q
  ·cases e
def tD(K:W.Frag)(E:XK)(f:List Sl->M Rz):TE:=λ σ H Q=>∃H0 δ S r,aW K H0 σ H δ S/\f δ=some r/\iQ K E H S Q r
theorem DE.pe{X:Cx}{E:XK}{e:Expr}{f:List Sl->M Rz}(h:DE X E e f):PE X e (tD X.K E f):=by
 obtain⟨t,a,b⟩:=h;intro pins s σ H Q I q;obtain⟨H0,δ,S,r,L,e,q⟩:=q;exact a pins s σ H Q I (b H0 σ H δ S Q r L e q)
def Hr(K:W.Frag)(E:XK)(f:List Sl->M Bool):TT:=λ σ H Q=>∃H0 δ S r,aW K H0 σ H δ S/\f δ=some r/\qH E H S Q r
def JZ(K:W.Frag)(E:XK)(f:List Sl->Option Fl):TS:=λD σ H=>∃H0 δ S r,aW K H0 σ H δ S/\f δ=some r/\CN K E H0 D r
theorem kn.ps{X:Cx}{E:XK}{e:List Stmt}{f:List Sl->Option Fl}(h:kn X E e f):jI X e (JZ X.K E f):=by
 obtain⟨t,a,b⟩:=h;intro pins s σ H D I q;obtain⟨H0,δ,S,r,L,e,q⟩:=q;exact a pins s σ H D I (b H0 σ H δ S D r L e q)
theorem nI{env:Env}: ∀(names:List (Str×NameKind)) (acc:List (Str×Addr)),(∀p∈names,p.2= .free->∃c,env.cells.lookup p.1=some c)->
  ∃cl:List (Str×Addr),(forIn names acc (λ(x:Str×NameKind) (r:List (Str×Addr))=>(match x with | (name,kind)=>if(kind == NameKind.free)=true then(do let a <-cellOf env name;pure (ForInStep.yield ((name,a)::r))) else pure (ForInStep.yield r)):Str×NameKind->List (Str×Addr)->Sem (ForInStep (List (Str×Addr)))))=(pure cl:Sem (List (Str×Addr)))
   /\(∀p∈cl,p∈acc\/env.cells.lookup p.1=some p.2)/\(∀p∈names,p.2= .free->∃c,(p.1,c)∈cl)/\(∀p∈acc,p∈cl)
 | [],acc,_=>⟨acc,rfl,(λp h=> .inl h),(λp h=>nomatch h),(λp h=>h)⟩
 | (n,k)::r,acc,h=>by
  by_cases c:k= .free
  ·subst c
   obtain⟨a,ea⟩:=h (n,.free) (.head _) rfl;obtain⟨cl,e,h1,h2,h3⟩:=nI r ((n,a)::acc) λp hp=>h p (.tail _ hp)
   refine⟨cl,?_,λp hp=>?_,λp hp hf=>?_,λp hp=>h3 p (.tail _ hp)⟩
   ·rw[FR]
    dsimp only;rw[aD (by rfl)];unfold cellOf;have ea':env.cells.lookup n=some a:=ea;rw[ea'];exact e
   ·rcases h1 p hp with q |q
    ·rcases fq.mp q with q |q
     ·subst q;exact .inr ea
     ·exact .inl q
    ·exact .inr q
   ·rcases fq.mp hp with q |q
    ·subst q;exact⟨a,h3 _ (.head _)⟩
    ·exact h2 p q hf
  ·obtain⟨cl,e,h1,h2,h3⟩:=nI r acc λp hp=>h p (.tail _ hp)
   refine⟨cl,?_,h1,λp hp hf=>?_,h3⟩
   ·rw[FR]
    dsimp only;rw[aK (by intro z;exact c (beq_iff_eq.mp z))];exact e
   ·rcases fq.mp hp with q |q
    ·subst q;exact absurd hf c
    ·exact h2 p q hf
def m8(N:List Str)(x:Str)(sc dsc:Scope):Bool:=
 decide (sc.kind= .function)&&decide (dsc.kind= .function)&&sc.names.all (λp=>match p.2 with
  | .cell=>false
  | .free=>decide (dsc.names.lookup p.1=some .cell)
  | .local=>decide (sc.names.lookup p.1=some .local)
  |_=>true)&&decide (sc.names.lookup x=some .local)&&!N.contains x &&
 N.all (λy=>match sc.names.lookup y with
  |some .local=>false
  |some .cell=>false
  |some .free=>decide (dsc.names.lookup y=some .cell)
  |_=>true)
theorem iw{env:Env}: ∀{names:List (Str×NameKind)} {x:Str} {k:NameKind},(names.map λ(n,k)=>if(k == NameKind.free&&env.scope.kind == .function&&env.kindOf n == some .cell) then(n,NameKind.cell) else(n,k)).lookup x=some k->
  ∃k',names.lookup x=some k'/\(k=k'\/(k'= .free/\k= .cell))
 | [],_,_,h=>by simp at h
 | (n,k0)::r,x,k,h=>by
  have ih:= @iw env r x k;have h':List.lookup x ((if(k0 == NameKind.free&&env.scope.kind == .function&&env.kindOf n == some .cell)=true then(n,NameKind.cell) else(n,k0))::_)=some k:=h
  by_cases e:x=n
  ·subst e
   refine⟨k0,by simp[List.lookup],?_⟩;split at h'
   ·rename_i c
    simp only[List.lookup,beq_self_eq_true] at h';cases h'
    simp only[ul,beq_iff_eq] at c;exact .inr ⟨c.1.1,rfl⟩
   ·simp only[List.lookup,beq_self_eq_true] at h'
    cases h';exact .inl rfl
  ·have ne:(x == n)=false:=by simp[e]
   have h2:List.lookup x (r.map λ(n,k)=>if(k == NameKind.free&&env.scope.kind == .function&&env.kindOf n == some .cell) then(n,NameKind.cell) else(n,k))=some k:=by
    split at h'<;>simpa [List.lookup,ne] using h'
   obtain⟨k',h3,h4⟩:=ih h2;exact⟨k',by simpa [List.lookup,ne] using h3,h4⟩
theorem EV{X:Cx}{x:Str}{sc:Scope}(K3: ∀y,X.env.scope.names.lookup y=some .cell->∃c,X.env.cells.lookup y=some c)(h:m8 X.N x sc X.env.scope=true): ∃cl,GW X x sc cl:=by
 unfold m8 at h;simp only[ul,decide_eq_true_eq,qu,FQ] at h;obtain⟨⟨⟨⟨⟨h1,h2⟩,h3⟩,h4⟩,h5⟩,h6⟩:=h
 have fr: ∀p∈sc.names,p.2= .free->X.env.scope.names.lookup p.1=some .cell:=λp hp e=>by
  have:=h3 p hp;rw[e] at this
  simpa using this
 obtain⟨cl,e,c1,c2,c3⟩:=nI (env:=X.env) sc.names [] λp hp hf=>K3 _ (fr p hp hf)
 have inC: ∀y c,cl.lookup y=some c->X.env.cells.lookup y=some c:=λy c hl=>by
  rcases c1 _ (uk hl) with q |q
  ·exact nomatch q
  ·exact q
 refine⟨cl,⟨?_,inC,λy hy=>?_,λp hp e=>?_,h1,λp hp e=>?_,h4,λy hy hv=>?_,?_⟩⟩
 ·unfold closureFor
  dsimp only;rw[e];rfl
 ·have key: ∀k,(relabel sc X.env).names.lookup y=some k->k= .cell\/k= .free->∃c,cl.lookup y=some c:=λk hk hkk=>by
   obtain⟨k',e1,e2⟩:=iw hk;have kf:k'= .free:=by
    rcases e2 with e2 |e2
    ·subst e2
     rcases hkk with z |z
     ·subst z
      have:=h3 _ (uk e1);simp at this
     ·exact z
    ·exact e2.1
   subst kf;obtain⟨c,hc⟩:=c2 _ (uk e1) rfl;have:(cl.lookup y).isSome=true:=by
    clear e inC c1 c2 c3 hk e1 e2
    induction cl with
    |nil=>exact nomatch hc
    |cons p r ih=>
     simp only[List.lookup]
     by_cases z:y == p.1
     ·rw[z];rfl
     ·rw[Bool.not_eq_true] at z
      rw[z]
      rcases fq.mp hc with q |q
      ·subst q;simp at z
      ·exact ih q
   exact Option.isSome_iff_exists.mp this
  rcases hy with hy |hy
  ·exact key _ hy (.inl rfl)
  ·exact key _ hy (.inr rfl)
 ·have:=h3 p hp
  rw[e] at this;simp at this
 ·have:=h3 p hp
  rw[e] at this;simpa using this
 ·have q6:=h6 y hy
  have zn: ∃k,(relabel sc X.env).names.lookup y=some k/\(k= .local\/k= .cell\/k= .free):=by
   rcases hv with z |z |z
   ·exact⟨_,z,.inl rfl⟩
   ·exact⟨_,z,.inr (.inl rfl)⟩
   ·exact⟨_,z,.inr (.inr rfl)⟩
  obtain⟨k,hk,hkk⟩:=zn;obtain⟨k',e1,e2⟩:=iw hk;rw[e1] at q6
  have kf:k'= .free:=by
   cases k' with
   | «local» =>simp at q6
   |cell=>simp at q6
   |free=>rfl
   |globalExplicit=>rcases e2 with z |z<;>rcases hkk with w |w |w<;>simp_all
   |globalImplicit=>rcases e2 with z |z<;>rcases hkk with w |w |w<;>simp_all
  subst kf;have dc:X.env.scope.names.lookup y=some .cell:=by simpa using q6
  refine⟨?_,.inl dc⟩
  rcases e2 with z |z
  ·subst z;exact .inr hk
  ·rw[z.2] at hk;exact .inl hk
 ·intro hm
  have:X.N.contains x=true:=List.contains_iff_mem.mpr hm;rw[this] at h5;cases h5
structure KE (K:W.Frag) (J:It) (Hf Hh:Hp) (items:List PyData):Prop where
 go: ∀i H,bh Hf H->i<items.length->J.go i H
 yld: ∀i H x H' d,bh Hf H->items[i]?= some d->J.yld i H x H'->H'=H/\DV K Hh x d
 stop: ∀i H,bh Hf H->items.length<=i->J.stop i H
def Ht(K:W.Frag)(E:XK)(wi:TI)(f:List Sl->M (List PyData)):Prop:=
 ∀(H0:Hp) (σ:L2.St) (H:Hp) (δ:List Sl) (S:Addr->Bool) (R:It->Hp->Prop) (r:hU (List PyData)),aW K H0 σ H δ S->f δ=some r->
  (match r with | .ok items=>∀J H' S',bw H S H' S'->KE K J H' (bj H' S') items->R J H' | .err C=>∀H' S',bw H S H' S'->E (.ref (b4 C)) none H')->wi σ H R
def J0(X:Cx)(E:XK)(tg iter:Expr)(f:List Sl->M (List PyData)):Prop:=∃wi,PI X tg iter wi/\Ht X.K E wi f
theorem DI.c{X:Cx}{E:XK}{tg iter:Expr}{f:List Sl->M (List PyData)}(h:DI X E tg iter f):J0 X E tg iter f:=by
 obtain⟨wi,a,b⟩:=h;refine⟨wi,a,λH0 σ H δ S R r L e q=>b H0 σ H δ S R r L e ?_⟩;cases r with
 |ok items=>exact λJ H' S' g it=>q J H' S' g ⟨λi H s=>it.go i H (b6.trans s),λi H x H1 d s e y=>it.yld i H x H1 d (b6.trans s) e y,λi H s=>it.stop i H (b6.trans s)⟩
 |err C=>exact q
section
variable{X:Cx}{E:XK}{K:W.Frag}
theorem gW.uncons{G:Hp}{σ:L2.St}{δ:List Sl}{v:Option V}{d:PyData}{i:Nat}{a:Addr}(k:gW G (v::σ) (.dat d::δ) i a): ∃i',i=i'+1/\gW G σ δ i' a:=by
 obtain⟨o,c,x,y,e1,e2,e3⟩:=k;cases i with
 |zero=>cases e1
 |succ i=>exact⟨i,rfl,o,c,x,y,by simpa using e1,by simpa using e2,e3⟩
theorem aW.cons{H0 H:Hp}{σ:L2.St}{δ:List Sl}{S:Addr->Bool}{v:V}{d:PyData}(L:aW K H0 σ H δ S)(h:DV K (bj H S) v d):aW K H0 (some v::σ) H (.dat d::δ) S:=by
 refine⟨L.old,L.frs,L.lst,by rw[c5,c5,L.len],λi d' e=>?_,λi C e=>?_,λi es e=>?_,λi j d1 d2 a e1 e2 e3 e4=>?_,λi o e=>?_,λi j ds a kd e=>?_,λi j a kd kd'=>?_⟩
 ·cases i with
  |zero=>cases e;exact⟨v,rfl,h⟩
  |succ i=>exact L.dat i d' (by simpa using e)
 ·cases i with
  |zero=>cases e
  |succ i=>exact L.exc i C (by simpa using e)
 ·cases i with
  |zero=>cases e
  |succ i=>exact L.own i es (by simpa using e)
 ·cases i with
  |zero=>cases e1
  |succ i=>
   cases j with
   |zero=>cases e2
   |succ j=>rw[L.one i j d1 d2 a (by simpa using e1) (by simpa using e2) (by simpa using e3) (by simpa using e4)]
 ·cases i with
  |zero=>cases e
  |succ i=>exact L.two i o (by simpa using e)
 ·obtain⟨i',rfl,kd⟩:=kd.uncons
  cases j with
  |zero=>cases e
  |succ j=>exact L.sep i' j ds a kd (by simpa using e)
 ·obtain⟨i',rfl,kd⟩:=kd.uncons
  obtain⟨j',rfl,kd'⟩:=kd'.uncons;rw[L.sop i' j' a kd kd']
theorem aW.mutX{H0 H:Hp}{σ:L2.St}{δ:List Sl}{S:Addr->Bool}{a:Addr}{xs:List V}(L:aW K H0 σ H δ S)(hS:S a=true)(hn: ∀(j:Nat) (es:List PyData),δ[j]?= some (Sl.own es)->σ[j]?≠some (some (V.ref a)))(hk: ∀j,¬gW (bj H S) σ δ j a):aW K H0 σ (bf H a (.lst xs)) δ S:=by
 have hh:=m4 (H:=H) (o:= .lst xs) hS;refine⟨λb o h=>?_,L.frs,λb h=>?_,L.len,by rw[hh];exact L.dat,by rw[hh];exact L.exc,λj es e=>?_,L.one,λj o e=>?_,by rw[hh];exact L.sep,by rw[hh];exact L.sop⟩
 ·have:b≠a:=by intro z;subst z;rw[L.frs b hS] at h;cases h
  rw[aY this];exact L.old b o h
 ·by_cases c:b=a
  ·subst c;exact⟨xs,bF⟩
  ·rw[aY c];exact L.lst b h
 ·rw[hh]
  obtain⟨b,ys,q1,q2,q3,q4⟩:=L.own j es e;have:b≠a:=by intro z;subst z;exact hn j es e q1
  exact⟨b,ys,q1,q2,by rw[aY this];exact q3,q4⟩
 ·rw[hh]
  obtain⟨c,x,y,xs',ys,q1,q2,q3,q4,q5,q6,q7⟩:=L.two j o e;obtain⟨k1,k2⟩:=gW.mk' (G:=bj H S) e q1 q2;have n1:x≠a:=λz=>hk j (z▸k1)
  have n2:y≠a:=λz=>hk j (z▸k2)
  exact⟨c,x,y,xs',ys,q1,q2,q3,q4,by rw[aY n1];exact q5,by rw[aY n2];exact q6,q7⟩
def o7(ft:List Sl->M Bool)(fe:List Sl->M Rz)(δ:List Sl):List PyData->Option (List PyData)
 | []=>some []
 |d::r=>match ft (.dat d::δ) with
  |some (.ok true)=>(match fe (.dat d::δ) with
   |some (.ok z)=>(match dU z,o7 ft fe δ r with
    |some e,some es=>some (e::es)
    |_,_=>none)
   |_=>none)
  |some (.ok false)=>o7 ft fe δ r
  |_=>none
def yn(fi:List Sl->M (List PyData))(ft:List Sl->M Bool)(fe:List Sl->M Rz)(δ:List Sl):M Rz:=hV (fi δ) λitems=>if items.length<sizeLine then(match o7 ft fe δ items with |some ds=>aj (.new ds) |none=>none) else none
def Hu(X:Cx)(ifs:List Expr)(f:List Sl->M Bool):Prop:=zg X ifs (Hr X.K E0 f)
def pY(_:List Sl):M Bool:=aj true
theorem CS:Hu X [] pY:=λpins s σ H Q I q=>by
 obtain⟨H0,δ,S,r,L,e,q⟩:=q;cases e;exact CB pins s σ H Q I (q H S .refl)
theorem vX{ft:List Sl->M Bool}{fe:List Sl->M Rz}{δ:List Sl}: ∀{items ds:List PyData},o7 ft fe δ items=some ds->ds.length<=items.length
 | [],ds,h=>by cases h;exact cr _
 |d::r,ds,h=>by
  unfold o7 at h;split at h
  ·split at h
   ·split at h
    ·rename_i e es e1 e2
     cases h;have:=vX e2;simp;omega
    ·cases h
   ·cases h
  ·have:=vX h
   simp;omega
  ·cases h
theorem Js{E':XK}{wi:TI}{fi:List Sl->M (List PyData)}{ft:List Sl->M Bool}{fe:List Sl->M Rz}(i2:Ht K E wi fi):lz K E (GX wi (Hr K E0 ft) (tD K E' fe)) (yn fi ft fe):=by
 intro H0 σ H δ S Q z L h q
 rcases a7 h with⟨items,h1,h⟩ | ⟨C,h1,rfl⟩
 ·refine i2 H0 σ H δ S _ _ L h1 λJ H1 S1 g1 it=>?_
  split at h
  ·rename_i hsz
   split at h
   ·rename_i total etot
    cases h;intro acc hacc;have L1:=L.ext g1;have ne: ∀(j:Nat) (es:List PyData),δ[j]?= some (Sl.own es)->σ[j]?≠some (some (V.ref acc)):=λj es e c=>by
     obtain⟨b,e1,e2⟩:=L1.owned j es e;rw[c] at e1;cases e1
     exact e2 hacc
    have tl:=vX etot;refine⟨λi m xs H=>m=items.length-i/\i<=items.length/\∃S es bD,aW K (bj H1 S1) σ H δ S/\S acc=true/\H acc=some (.lst xs)/\aE K (bj H S) xs es/\o7 ft fe δ (items.drop i)=some bD/\es++bD=total/\bw H1 S1 H S,
     ⟨items.length,by simp,vw _,ins S1 acc,[],total,?_,dF,bF,.nil,etot,rfl,bw.ins hacc⟩,?_⟩
    ·have:=(L1.ground).ext (bw.ins (xs:=[]) hacc)
     exact this
    ·rintro i m xs H2 ⟨rfl,hi,S2,es,bD,L2,sa,ha,hx,hr,htot,g2⟩
     refine⟨ha,?_⟩
     by_cases hlt:i<items.length
     ·have ei:items[i]?= some items[i]:=gk hlt
      rw[vy hlt] at hr;unfold o7 at hr;refine .inr ⟨it.go i H2 g2.up hlt,λy H' hy=>?_⟩
      obtain⟨rfl,dy⟩:=it.yld i H2 y H' _ g2.up ei hy;have Lc:=L2.cons (DV.same L2.base dy);split at hr
      ·rename_i et
       refine⟨_,_,S2,_,Lc,et,λH3 S3 g3=>?_⟩;refine oV ?_;split at hr
       ·rename_i zz ez
        split at hr
        ·rename_i e er e1 e2
         cases hr;refine⟨_,_,S3,_,Lc.ext g3,ez,λv H4 S4 g4 rv=>?_⟩;have L4:=(L2.ext g3).ext g4;have xe4:=(g2.trans g3).trans g4;have sa4:S4 acc=true:=g4.sub _ (g3.sub _ sa);have lx:xs.length<sizeLine:=by
          rw[aE.len hx];have:es.length+(er.length+1)=total.length:=by rw[<-htot,bQ,c5]
          omega
         refine⟨g4.up _ _ (g3.up _ _ ha),lx,items.length- (i+1),by omega,rfl,hlt,S4,es++[e],er,L4.mutX sa4 ne (λj k=>L1.kids xe4 j acc k hacc),sa4,bF,?_,e2,by rw[lq];exact htot,?_⟩
         ·rw[m4 sa4]
          exact aE.append (.cons (iT ((Lc.ext g3).ext g4) rv e1) .nil) (aE.same g4.hd (aE.same g3.hd hx))
         ·refine⟨λb o e=>?_,by rw[m4 sa4];exact xe4.hd,xe4.sub,λb hb=>?_⟩
          ·have:b≠acc:=by intro z;subst z;rw[hacc] at e;cases e
           rw[aY this];exact xe4.up b o e
          ·rcases xe4.new b hb with z | ⟨z,w⟩
           ·exact .inl z
           ·refine .inr ⟨z,?_⟩
            by_cases c:b=acc
            ·subst c;exact⟨_,bF⟩
            ·rw[aY c];exact w
        ·cases hr
       ·cases hr
      ·rename_i et
       refine⟨_,_,S2,_,Lc,et,λH3 S3 g3=>?_⟩;refine oU ?_;exact⟨items.length- (i+1),by omega,rfl,hlt,S3,es,bD,L2.ext g3,g3.sub _ sa,g3.up _ _ ha,aE.same g3.hd hx,hr,htot,g2.trans g3⟩
      ·cases hr
     ·have e:i=items.length:=by omega
      subst e;rw[Ae] at hr
      cases hr;rw[ka] at htot
      subst htot;refine .inl ⟨it.stop _ H2 g2.up (cr _),q _ H2 S2 (g1.trans g2) ⟨acc,xs,rfl,sa,g1.up.free hacc,ha,hx⟩⟩
   ·cases h
  ·cases h
 ·exact i2 H0 σ H δ S _ _ L h1 q
def qL(K:W.Frag)(B:Addr)(cs:Ex->Bool):Prop:=∀n,cs n=true->mZ K (b4 n) B/\tG n=false
def vY(j:Nat)(r:Option Fl):Option Fl:=
 match r with
 |some (.next δ)=>some (.next (δ.set j .no))
 |_=>none
def jk(i:Nat)(z:Rz)(δ:List Sl):Option (List Sl):=match lB z with |some s=>some (δ.set i s) |none=>none
end
structure nJ (K:W.Frag) (mg:Str->Option Value) (x:Str) (d:PyData):Prop where
 ex: ∃v u,mg x=some u/\bG v u/\∀H,DV K H v d
theorem gy{X:Cx}{E:XK}{x:Str}{d:PyData}{pos:Pos}(h:nJ X.K X.mg x d)(hg:Gl X x:=by rfl)(hdb:(x ==("__debug__" :Str))=false:=by decide):DE X E (.Name x pos) (fC d):=by
 obtain⟨v,u,hm,r,hd⟩:=h.ex;exact ES hm r hd hg hdb
theorem vZ{K:W.Frag}{mg:Str->Option Value}{x:Str}{i:Int}{t:Tok}(h:mg x=some (.int i t)):nJ K mg x (.int i):=⟨.int i,_,h,⟨t,rfl⟩,λ_=> .int i⟩
theorem uF{K:W.Frag}{mg:Str->Option Value}{x:Str}{a:Addr}{i j:Int}{t u:Tok}{od:Option Addr}{n:Nat}{sl:Array (Option Value)}(h:mg x=some (.ref a))(l:K.lookup a=some ⟨.type "tuple",od,.seq #[.int i t,.int j u] n,sl⟩):nJ K mg x (.tuple [.int i,.int j]):=
 ⟨.ref a,_,h,rfl,λH=> .tup (xs:=[.int i,.int j]) (.inr ⟨_,_,_,l,rfl,rfl,(by show 2<=sizeLine;decide),.cons ⟨t,rfl⟩ (.cons ⟨u,rfl⟩ .nil)⟩) (.cons (.int i) (.cons (.int j) .nil))⟩
def lE:List (Tg×Bool)->Tg->Option Bool
 | [],_=>none
 | (t,b)::r,tg=>if tg=t then some b else lE r tg
theorem lF: ∀{l:List (Tg×Bool)} {tg:Tg} {b:Bool},lE l tg=some b->(tg,b)∈l
 | [],_,_,h=>nomatch h
 | (t,b')::r,tg,b,h=>by
  unfold lE at h;split at h
  ·rename_i e;subst e;cases h;exact .head _
  ·exact .tail _ (lF h)
theorem sv{K:W.Frag}{cv:V}{l:List (Tg×Bool)}(c:kP cv=true)(h: ∀p∈l,W.kitOne K (oF p.1) (rX cv)=some p.2/\∀n,p.1= .exc n->iB K (b4 n)):ym K cv (lE l):=
 ⟨c,λtg b e=>(h _ (lF e)).1,λn b e=>(h _ (lF e)).2 n rfl⟩
theorem EW{K:W.Frag}{cs:List V}{l:List (Tg×Bool)}(c: ∀c∈cs,kP c=true)(h: ∀p∈l,W.kitAny K (oF p.1) (cs.map rX)=some p.2/\∀n,p.1= .exc n->iB K (b4 n)):CQ K cs (lE l):=
 ⟨c,λtg b e=>(h _ (lF e)).1,λn b e=>(h _ (lF e)).2 n rfl⟩
theorem CT{K:W.Frag}{B:Addr}{cs:List Ex}(h: ∀n∈cs,mZ K (b4 n) B)(hf: ∀n∈cs,tG n=false:=by decide):qL K B (λn=>decide (n∈cs)):=λn e=>⟨h n (oy e),hf n (oy e)⟩
theorem v3{K:W.Frag}{H:Hp}: ∀ns:List Int,aE K H (ns.map V.int) (ns.map PyData.int)
 | []=> .nil
 |n::r=> .cons (.int n) (v3 r)
theorem CU{P:Program}{w:World}{K:W.Frag}{mg:Str->Option Value}{base:Heap}{k:Nat}{f:Addr}{fd:FuncData}{F:List PyData->M bN}(h:b5 P w K mg base (bt P w) k f fd ["_law_script"] (bJ K 1 F))(hk:k<=40)
  (pure_: ∀ns:List Int,ns.length<=63->F [.list (ns.map PyData.int)]=some (.ok (.val (.bool true)))):b5 P w K mg base AM 40 f fd ["_law_script"] (r6 K):=by
 refine⟨λvs H Q E h=>?_,λA outer s H args us vs Q E hr e0 hb rv sp=>?_⟩
 ·obtain⟨a,ns,rfl,_⟩:=h;rfl
 ·obtain⟨a,ns,rfl,hS,hl,q⟩:=sp
  refine codeAny_mono (h.run A outer s H args us [.ref a] Q (λ_ _ _=>False) (hr.mono hk) e0 hb rv ⟨[.list (ns.map PyData.int)],_,rfl,.cons (.lst hS (v3 ns)) .nil,pure_ ns hl,?_⟩) λr s' hq=>?_
  ·intro v H' g dv
   cases dv;exact q H'
  ·cases r with
   |ok fl=>cases fl<;>exact hq
   |error e=>
    obtain⟨_,_,_,_,_,_,_,_,_,_,_,_,_,_,z⟩:=hq;exact z.elim
section
variable{X:Cx}{E:XK}{K:W.Frag}
end
end D3
namespace D3
open PySem PySem.Spec PyProof.Rows L2 L3
theorem sx:bootBuiltins "ValueError" =some (.type "ValueError"):=by decide +kernel
end D3
namespace D3
open PySem PySem.Spec PyProof.Rows L2 L3
variable [jJ]
section
variable{X:Cx}{E:XK}
end
section
variable{X:Cx}{E:XK}{K:W.Frag}
def pZ(x y:Rz):M Rz:=
 match x.d?,y.d? with
 |some (.list ds),some (.list es)=>if kept x ds=true/\kept y es=true/\ds.length+es.length<=sizeLine then aj (.new (ds++es)) else none
 |_,_=>none
theorem yo:fY K E (DM K) pZ:=by
 intro H0 σ H δ S Ha Hb v w x y z Q L rx ry h q;unfold pZ at h
 split at h
 ·rename_i ds es e1 e2
  split at h
  ·rename_i hz
   cases h;obtain⟨a,xs,rfl,ha,_,hx⟩:=iR L rx e1;obtain⟨b,ys,rfl,hb,_,hy⟩:=iR L ry e2;have hx:=hx hz.1;have hy:=hy hz.2.1;refine⟨a,b,xs,ys,rfl,rfl,ha,hb,by rw[aE.len hx,aE.len hy];exact hz.2.2,λp hp=>?_⟩;exact q _ _ (ins S p) (bw.ins hp) ⟨p,_,rfl,dF,hp,bF,by rw[la hp];exact aE.append hy hx⟩
  ·cases h
 ·cases h
def m9(neg:Bool)(x y:Rz):M Rz:=
 match x.d?,y.d? with
 |some d,some (.list ds)=>if fu d=true/\fu (.list ds)=true then aj (.dat (.bool (if neg then !(ds.any λy=>PyData.eqv y d) else ds.any λy=>PyData.eqv y d))) else none
 |some d,some (.tuple ds)=>if fu d=true/\fu (.list ds)=true then aj (.dat (.bool (if neg then !(ds.any λy=>PyData.eqv y d) else ds.any λy=>PyData.eqv y d))) else none
 |_,_=>none
theorem Jt{neg:Bool}:fY K E (GY K neg) (m9 neg):=by
 intro H0 σ H δ S Ha Hb v w x y z Q L rx ry h q;unfold m9 at h
 split at h
 ·rename_i d ds e1 e2
  split at h
  ·rename_i c
   cases h;exact⟨d,ds,rx.full e1,.inl (ry.full e2),c.1,c.2,q _ H S .refl (.bl _)⟩
  ·cases h
 ·rename_i d ds e1 e2
  split at h
  ·rename_i c
   cases h;exact⟨d,ds,rx.full e1,.inr (ry.full e2),c.1,c.2,q _ H S .refl (.bl _)⟩
  ·cases h
 ·cases h
end
theorem _root_.L2.Room.units66{k:Nat}{A:Around}(r:Room k A):A.units+66<cLine:=by have:=r.un;omega
section
variable{X:Cx}{E:XK}{K:W.Frag}
def zk(N N':List Str)(x:Str)(sc:Scope):Bool:=
 decide (N'.length=N.length)&&decide N'.Nodup&&!N'.contains x&& (N.zip N').all λp=>decide (p.1=p.2) || decide (sc.names.lookup p.2=none)
theorem CV{N':List Str}{x:Str}{sc:Scope}(K3: ∀y,X.env.scope.names.lookup y=some .cell->∃c,X.env.cells.lookup y=some c)(h:m8 N' x sc X.env.scope=true)(h2:zk X.N N' x sc=true): ∃cl,tE X N' x sc cl:=by
 obtain⟨cl,ok⟩:=EV (X:={X with N:=N'}) K3 h;unfold zk at h2
 simp only[ul,decide_eq_true_eq,FQ,qu,Bool.or_eq_true] at h2;obtain⟨⟨⟨g1,g2⟩,g3⟩,g4⟩:=h2
 have nx:x∉N':=λhm=>by
  have:N'.contains x=true:=List.contains_iff_mem.mpr hm;rw[this] at g3;cases g3
 refine⟨cl,⟨ok.clos,ok.sub,ok.has,ok.nocell,ok.kind,ok.names,ok.tgt,ok.cellv,z7.mpr ⟨nx,g2⟩,g1,λi y e v=>?_⟩⟩;have hi:i<N'.length:=by
  by_cases c:i<N'.length
  ·exact c
  ·rw[Dq (by omega)] at e;cases e
 have hi2:i<X.N.length:=by omega
 have em:(X.N[i],N'[i])∈X.N.zip N':=by
  have hz:i< (X.N.zip N').length:=by rw[List.length_zip];omega
  have:(X.N.zip N')[i]=(X.N[i],N'[i]):=List.getElem_zip;rw[<-this];exact ya hz
 have ey:N'[i]=y:=by rw[gk hi] at e;exact ow e
 rcases g4 _ em with z |z
 ·rw[gk hi2]
  exact congrArg some (z.trans ey)
 ·exfalso
  dsimp only at z;rw[ey] at z;have no: ∀k,(relabel sc X.env).names.lookup y=some k->False:=λk hk=>by
   obtain⟨k',e1,_⟩:=iw hk;rw[z] at e1;cases e1
  rcases v with v |v |v
  ·exact no _ v
  ·exact no _ v
  ·exact no _ v
theorem Hv{n:Nat}{N':List Str}{x:Str}{scope:Scope}{elt iter:Expr}{ifs:List Expr}{px pos:Pos}{fi:List Sl->M (List PyData)}{ft:List Sl->M Bool}{fe:List Sl->M Rz}(Z:lA n X E)(K3: ∀y,X.env.scope.names.lookup y=some .cell->∃c,X.env.cells.lookup y=some c)(chk:m8 N' x scope X.env.scope=true)(chk2:zk X.N N' x scope=true)
  (hi:J0 X E (.Name x px) iter fi) (ht: ∀cl C s0 H0 fp,lA n (iZ X N' x scope cl C s0 H0 fp) E0->Hu (iZ X N' x scope cl C s0 H0 fp) ifs ft) (he: ∀cl C s0 H0 fp,lA n (iZ X N' x scope cl C s0 H0 fp) E0->DE (iZ X N' x scope cl C s0 H0 fp) E0 elt fe)
  (hf: ∀v,foldedSetIterable iter X.env v=pure v:=by intro _;rfl):DE X E (.ListComp elt [⟨.Name x px,iter,ifs,0⟩] scope pos) (yn fi ft fe):=by
 obtain⟨cl,ok⟩:=CV K3 chk chk2;obtain⟨wi,i1,i2⟩:=hi;have fit: ∀C s0 H0 fp,lA n (iZ X N' x scope cl C s0 H0 fp) E0:=λC s0 H0 fp=>by
  refine⟨λpins σ H s e s' I h=>?_,λpins σ H s h' ea C' vs I hm hE=>hE.elim,PassesOwn.never,Z.cm,Z.rm,ok.nd⟩;obtain⟨_,_,_,_,_,_,_,_,_,_,_,_,_,_,z⟩:=h;exact z.elim
 exact⟨_,G0 (tt:=Hr X.K E0 ft) (te:=tD X.K E0 fe) ok Z.cm i1 (λC s0 H0 fp=>ht cl C s0 H0 fp (fit C s0 H0 fp)) (λC s0 H0 fp=>(he cl C s0 H0 fp (fit C s0 H0 fp)).pe) hf,Js i2⟩
end
def DZ(m:Nat)(f:List Sl->Option Fl)(C:Ex):M bN:=
 match f (Sl.exc C::List.replicate m Sl.no) with
  |some (.ret o)=>some (.ok o)
  |some (.next _)=>some (.ok (.val .none))
  |some (.exc C)=>some (.err C)
  |_=>none
theorem zm{K:W.Frag}{H:Hp}{ea:Addr}{C:Ex}{N:List Str}{m:Nat}(h:jd H ea C)(hm:N.length-1=m):aW K H (L2.a6 N [V.ref ea]) H (Sl.exc C::List.replicate m Sl.no) (λ_=>false):=by
 have hh:bj H (λ_=>false)=H:=by funext b;exact cU rfl
 have at_: ∀(i:Nat) (s:Sl),(Sl.exc C::List.replicate m Sl.no)[i]?= some s->(i=0/\s= .exc C)\/s= .no:=λi s e=>by
  cases i with
  |zero=>cases e;exact .inl ⟨rfl,rfl⟩
  |succ i=>
   rw[List.getElem?_cons_succ,FH] at e;split at e
   ·cases e;exact .inr rfl
   ·cases e
 refine⟨bh.refl _,(λb h=>nomatch h),(λb h=>nomatch h),?_,λi d e=>?_,λi C' e=>?_,λi es e=>?_,λi j d1 d2 a e1=>?_,λi o e=>?_,λi j ds' a kd=>?_,λi j a kd=>?_⟩
 ·unfold L2.a6
  simp only[bQ,cZ,rK,c5,vx];omega
 ·rcases at_ i _ e with⟨_,e2⟩ |e2<;>cases e2
 ·rcases at_ i _ e with⟨e1,e2⟩ |e2
  ·cases e2
   subst e1;exact⟨ea,rfl,by rw[hh];exact h⟩
  ·cases e2
 ·rcases at_ i _ e with⟨_,e2⟩ |e2<;>cases e2
 ·rcases at_ i _ e1 with⟨_,e2⟩ |e2<;>cases e2
 ·rcases at_ i _ e with⟨_,e2⟩ |e2<;>cases e2
 ·obtain⟨o,c,x,y,e,_⟩:=kd
  rcases at_ i _ e with⟨_,e2⟩ |e2<;>cases e2
 ·obtain⟨o,c,x,y,e,_⟩:=kd
  rcases at_ i _ e with⟨_,e2⟩ |e2<;>cases e2
section
variable{X:Cx}{E:XK}{K:W.Frag}
section
variable{H0 H H':Hp}{σ:L2.St}{δ:List Sl}{S S':Addr->Bool}
end
def zn{α:Type}(j:Int)(a b:α):Option α:=if j=0 then some a else if j=1 then some b else none
end
theorem CW{K:W.Frag}{mg:Str->Option Value}{x s:Str}{t:Tok}(h:mg x=some (.str s t)):nJ K mg x (.str s):=⟨.str s,_,h,⟨t,rfl⟩,λ_=> .str s⟩
section
variable{X:Cx}{E:XK}{K:W.Frag}
def qa:List PyData->Option (List Bool)
 | []=>some []
 | .bool b::r=>(match qa r with |some bs=>some (b::bs) |none=>none)
 |_=>none
theorem v4{H:Hp}: ∀{xs:List V} {ds:List PyData} {bs:List Bool},aE K H xs ds->qa ds=some bs->xs=bs.map V.bl
 |_,_,_,.nil,h=>by cases h;rfl
 |_,_,bs,.cons (d:=d) r t,h=>by
  cases r with
  |bl b=>
   unfold qa at h;split at h
   ·rename_i bs' e
    cases h;rw[v4 t e];rfl
   ·cases h
  |_=>cases h
def uG(q:List Bool->Bool)(x:Rz):M Rz:=
 match x.d? with
 |some (.list ds)=>(match qa ds with |some bs=>aj (.dat (.bool (q bs))) |none=>none)
 |_=>none
theorem Kp{q:List Bool->Bool}:gu K E (λxs H Q=>∃(p:Addr) (bs:List Bool),xs=[.ref p]/\cw K H p (bs.map V.bl)/\Q (.bl (q bs)) H) (g1 (uG q)):=by
 refine uC (r:=λv H Q=>∃(p:Addr) (bs:List Bool),[v]=[V.ref p]/\cw K H p (bs.map V.bl)/\Q (.bl (q bs)) H) (λH0 σ H δ S Hs v x z Q L rv h g=>?_) (λ_ _ _ h=>h);unfold uG at h
 split at h
 ·rename_i ds e
  split at h
  ·rename_i bs e2
   cases h;have dv:=rv.full e;cases dv with
   |lst hs hx=>
    rename_i a xs;rw[v4 hx e2] at hs
    exact⟨a,bs,rfl,hs,g _ H S .refl (.bl _)⟩
  ·cases h
 ·cases h
def tO(bs:List Bool):Bool:=bs.all id
theorem Hw:gu K E (λxs H Q=>∃(p:Addr) (bs:List Bool),xs=[.ref p]/\cw K H p (bs.map V.bl)/\Q (.bl (bs.all id)) H) (g1 (uG tO)):=Kp (q:=tO)
def Hy:Rz->Rz
 | .new ds=> .dat (.list ds)
 |x=>x
def yp(f:List Sl->M Rz)(δ:List Sl):M Rz:=hV (f δ) λx=>aj (Hy x)
theorem Ju{t:TE}{f:List Sl->M Rz}(h:lz K E t f):lz K E t (yp f):=by
 intro H0 σ H δ S Q r L e q
 rcases a7 e with⟨x,h1,e⟩ | ⟨C,h1,rfl⟩
 ·cases e
  refine h H0 σ H δ S Q _ L h1 λv H1 S1 g1 rv=>?_
  cases x with
  |new ds=>
   obtain⟨a,xs,rfl,z,n,ha,hx⟩:=rv;refine q _ H1 (del S1 a) ⟨g1.up,g1.hd.trans ly,λb hb=>?_,λb hb=>?_⟩ (.lst (cw.of (by rw[cU jN];exact ha)) (aE.same ly hx))
   ·rw[o0 (by intro z;subst z;obtain⟨ys,e⟩:=L.lst _ hb;rw[n] at e;cases e)];exact g1.sub b hb
   ·by_cases c:b=a
    ·subst c;rw[jN] at hb;cases hb
    ·rw[o0 c] at hb;exact g1.new b hb
  |dat d=>exact q _ H1 S1 g1 rv
  |use d=>exact q _ H1 S1 g1 rv
  |var d=>exact q _ H1 S1 g1 rv
  |exc d=>exact q _ H1 S1 g1 rv
 ·exact h H0 σ H δ S Q _ L h1 q
theorem D0{e:Expr}{f:List Sl->M Rz}(h:DE X E e f):DE X E e (yp f):=let⟨t,a,b⟩:=h;⟨t,a,Ju b⟩
theorem D1{δ:List Sl}{f:List Sl->M Rz}{x:Rz}(h:f δ=aj x):yp f δ=aj (Hy x):=by unfold yp;rw[h];rfl
def eB(x y:Rz):M Rz:=match x.d?,y.d? with
 |some (.str i),some (.str j)=>if i.length+j.length<=sizeLine then aj (.dat (.str (i++j))) else none
 |_,_=>none
theorem fA:fY K E (λx y H Q=>∃i j,x= .str i/\y= .str j/\i.length+j.length<=sizeLine/\Q (.str (i++j)) H) eB:=by
 intro H0 σ H δ S Ha Hb v w x y z Q L rx ry h q;unfold eB at h
 split at h
 ·rename_i i j e1 e2
  split at h
  ·rename_i hz
   cases h;have d1:=rx.full e1;have d2:=ry.full e2;cases d1;cases d2;exact⟨i,j,rfl,rfl,hz,q _ H S .refl (.str _)⟩
  ·cases h
 ·cases h
def kT(x:Rz):M Rz:=match x.d? with
 |some (.int i)=>if i.natAbs.log2<1920 then aj (.dat (.str (toString i))) else none
 |_=>none
theorem qb:gu K E (λxs H Q=>∃i,xs=[.int i]/\i.natAbs.log2<1920/\Q (.str (toString i)) H) (g1 kT):=by
 refine uC (r:=λv H Q=>∃i,[v]=[V.int i]/\i.natAbs.log2<1920/\Q (.str (toString i)) H) (λH0 σ H δ S Hs v x z Q L rv h q=>?_) (λ_ _ _ h=>h);unfold kT at h
 split at h
 ·rename_i i e
  split at h
  ·rename_i hz
   cases h;have d:=rv.full e;cases d;exact⟨i,rfl,hz,q _ H S .refl (.str _)⟩
  ·cases h
 ·cases h
def nc:List PyData->Option (List Str)
 | []=>some []
 | .str b::r=>(match nc r with |some bs=>some (b::bs) |none=>none)
 |_=>none
theorem uH{H:Hp}: ∀{xs:List V} {ds:List PyData} {bs:List Str},aE K H xs ds->nc ds=some bs->xs=bs.map V.str
 |_,_,_,.nil,h=>by cases h;rfl
 |_,_,bs,.cons (d:=d) r t,h=>by
  cases r with
  |str b=>
   unfold nc at h;split at h
   ·rename_i bs' e
    cases h;rw[uH t e];rfl
   ·cases h
  |_=>exact nomatch h
def qc(sep:Str)(x:Rz):M Rz:=match x.d? with
 |some (.list ds)=>(match nc ds with
  |some ys=>if(ys.map (λy:Str=>y.length)).sum+ys.length*sep.length<=16777216 then aj (.dat (.str (Txt.join sep ys))) else none
  |none=>none)
 |_=>none
theorem yq{sep:Str}{e:Expr}{f:List Sl->M Rz}{p0 apos KJ:Pos}{jj}(he:DE X E e f)(hs':starEach [e] X.env=(false,eval e X.env)::starEach [] X.env:=by rfl)
  (KL:attributeBase (.Constant (.str sep) jj p0) "join" X.env (eval (.Constant (.str sep) jj p0) X.env)=eval (.Constant (.str sep) jj p0) X.env:=by rfl)
  (KT:((backTo KJ (starEach [e] X.env)).all (λx=>!x.1)&& (backToKw KJ (keywordEach [] X.env)).all (λx=>x.1.isSome)
   && decide ([e].length+([]:List Keyword).length+(if([]:List Keyword).isEmpty then 0 else 1)<30))=true:=by rfl)
  (KM:(apos.endLine == KJ.line)=true:=by rfl) (KN:(backTo KJ (starEach [] X.env)).any (·.1)=false:=by rfl) :
  DE X E (.Call (.Attribute (.Constant (.str sep) jj p0) "join" apos) [e] [] KJ) (fU (qc sep) f):=by
 obtain⟨t,a,b⟩:=he;refine⟨_,nv x9 PySem.F.slot_str_join PySem.F.type_str_join EL ls (cg a eZ hs') KL KT KM hs' KN,λH0 σ H δ S Q z L h q=>?_⟩;refine⟨rfl,?_⟩
 rcases a7 h with⟨x,h1,h⟩ | ⟨C,h1,rfl⟩
 ·refine b H0 σ H δ S _ _ L h1 λv H1 S1 g1 rv=>?_
  unfold qc at h;split at h
  ·rename_i ds e1
   split at h
   ·rename_i ys e2
    split at h
    ·rename_i hz
     cases h;obtain⟨c,xs,rfl,hs,hx,_⟩:=iR (L.ext g1) rv e1;have ex:=uH hx e2;subst ex;exact⟨sep,c,ys,rfl,rfl,hs,hz,q _ H1 S1 g1 (.str _)⟩
    ·cases h
   ·cases h
  ·cases h
 ·exact b H0 σ H δ S _ _ L h1 q
def fM(neg:Bool)(x y:Rz):M Rz:=match x.d?,y.d? with
 |some (.str i),some (.str j)=>aj (.dat (.bool (if neg then !(!(Builtin.Str.occurrences j i 0 j.length 1).isEmpty) else !(Builtin.Str.occurrences j i 0 j.length 1).isEmpty)))
 |_,_=>none
theorem Be:fY K E (λx y H Q=>∃i j,x= .str i/\y= .str j/\Q (.bl (!(Builtin.Str.occurrences j i 0 j.length 1).isEmpty)) H) (fM false):=by
 intro H0 σ H δ S Ha Hb v w x y z Q L rx ry h q;unfold fM at h
 split at h
 ·rename_i i j e1 e2
  cases h;have d1:=rx.full e1;have d2:=ry.full e2;cases d1;cases d2;exact⟨i,j,rfl,rfl,q _ H S .refl (.bl _)⟩
 ·cases h
def fN(x:Rz):M Rz:=match x.d? with
 |some (.str z)=>if z.length<=sizeLine then aj (.dat (.int z.length)) else none
 |_=>none
theorem lg:gu K E (λxs H Q=>∃z,xs=[.str z]/\z.length<=sizeLine/\Q (.int z.length) H) (g1 fN):=by
 refine uC (r:=λv H Q=>∃z:Str,[v]=[V.str z]/\z.length<=sizeLine/\Q (.int z.length) H) (λH0 σ H δ S Hs v x z Q L rv h q=>?_) (λ_ _ _ h=>h);unfold fN at h
 split at h
 ·rename_i i e
  split at h
  ·rename_i hz
   cases h;have d:=rv.full e;cases d;exact⟨i,rfl,hz,q _ H S .refl (.int _)⟩
  ·cases h
 ·cases h
def nK(x:Rz):M Rz:=match x.d? with
 |some (.str z)=>(match intText? z with |some n=>if z.length<=640 then aj (.dat (.int n)) else none |none=>none)
 |_=>none
theorem yr:gu K E (λxs H Q=>∃z n,xs=[.str z]/\intText? z=some n/\z.length<=640/\Q (.int n) H) (g1 nK):=by
 refine uC (r:=λv H Q=>∃z n,[v]=[V.str z]/\intText? z=some n/\z.length<=640/\Q (.int n) H) (λH0 σ H δ S Hs v x z Q L rv h q=>?_) (λ_ _ _ h=>h);unfold nK at h
 split at h
 ·rename_i i e
  split at h
  ·rename_i n en
   split at h
   ·rename_i hz
    cases h;have d:=rv.full e;cases d;exact⟨i,n,rfl,en,hz,q _ H S .refl (.int _)⟩
   ·cases h
  ·cases h
 ·cases h
def dz(x:Rz)(lo hi:Option Int):M Rz:=match x.d?,lo,hi with
 |some (.str a),some i,none=>if(Txt.slice a (some i) none).length<=sizeLine then aj (.dat (.str (Txt.slice a (some i) none))) else none
 |_,_,_=>none
theorem kq:DR K E (λx lo hi H Q=>∃a i,x= .str a/\lo=some i/\hi=none/\(Txt.slice a (some i) none).length<=sizeLine/\Q (.str (Txt.slice a (some i) none)) H) dz:=by
 intro H0 σ H δ S Hs v x lo hi z Q L rv h q;unfold dz at h
 split at h
 ·rename_i a i e
  split at h
  ·rename_i hz
   cases h;have d:=rv.full e;cases d;exact⟨a,i,rfl,rfl,rfl,hz,q _ H S .refl (.str _)⟩
  ·cases h
 ·cases h
def dO(b:Str)(x:Rz):M Rz:=match x.d? with
 |some (.str a)=>aj (.dat (.bool (decide (0+b.length<=a.length)&&Builtin.Str.subAt a b 0)))
 |_=>none
theorem o8{b:Str}{o:Expr}{f:List Sl->M Rz}{KQ:Pos}{jj apos KJ}(ho:DE X E o f)(hs':starEach [Expr.Constant (.str b) jj KQ] X.env=(false,eval (.Constant (.str b) jj KQ) X.env)::starEach [] X.env:=by rfl)
  (KL:attributeBase o "startswith" X.env (eval o X.env)=eval o X.env:=by rfl)
  (KT:((backTo KJ (starEach [Expr.Constant (.str b) jj KQ] X.env)).all (λx=>!x.1)&& (backToKw KJ (keywordEach [] X.env)).all (λx=>x.1.isSome)
   && decide ([Expr.Constant (.str b) jj KQ].length+([]:List Keyword).length+(if([]:List Keyword).isEmpty then 0 else 1)<30))=true:=by rfl)
  (KM:(apos.endLine == KJ.line)=true:=by rfl) (KN:(backTo KJ (starEach [] X.env)).any (·.1)=false:=by rfl) :
  DE X E (.Call (.Attribute o "startswith" apos) [.Constant (.str b) jj KQ] [] KJ) (fU (dO b) f):=by
 obtain⟨t,a,k⟩:=ho;refine⟨_,nv x9 PySem.F.slot_str_startswith PySem.F.type_str_startswith AV a (cg ls eZ hs') KL KT KM hs' KN,λH0 σ H δ S Q z L h q=>?_⟩
 rcases a7 h with⟨x,h1,h⟩ | ⟨C,h1,rfl⟩
 ·refine k H0 σ H δ S _ _ L h1 λv H1 S1 g1 rv=>?_
  unfold dO at h;split at h
  ·rename_i a' e1
   cases h;have d:=rv.full e1;cases d;exact⟨rfl,a',b,rfl,rfl,q _ H1 S1 g1 (.bl _)⟩
  ·cases h
 ·exact k H0 σ H δ S _ _ L h1 q
def j0(b:Str)(x:Rz):M Rz:=match x.d? with
 |some (.str a)=>if(b.length == 0)=false/\a.length<=sizeLine then aj (.dat (.tuple [.str (Txt.partition a b).1,.str (Txt.partition a b).2.1,.str (Txt.partition a b).2.2])) else none
 |_=>none
theorem yt{b:Str}{o:Expr}{f:List Sl->M Rz}{KQ:Pos}{jj apos KJ}(ho:DE X E o f)(hs':starEach [Expr.Constant (.str b) jj KQ] X.env=(false,eval (.Constant (.str b) jj KQ) X.env)::starEach [] X.env:=by rfl)
  (KL:attributeBase o "partition" X.env (eval o X.env)=eval o X.env:=by rfl)
  (KT:((backTo KJ (starEach [Expr.Constant (.str b) jj KQ] X.env)).all (λx=>!x.1)&& (backToKw KJ (keywordEach [] X.env)).all (λx=>x.1.isSome)
   && decide ([Expr.Constant (.str b) jj KQ].length+([]:List Keyword).length+(if([]:List Keyword).isEmpty then 0 else 1)<30))=true:=by rfl)
  (KM:(apos.endLine == KJ.line)=true:=by rfl) (KN:(backTo KJ (starEach [] X.env)).any (·.1)=false:=by rfl) :
  DE X E (.Call (.Attribute o "partition" apos) [.Constant (.str b) jj KQ] [] KJ) (fU (j0 b) f):=by
 obtain⟨t,a,k⟩:=ho;refine⟨_,nv x9 PySem.F.slot_str_partition PySem.F.type_str_partition vL a (cg ls eZ hs') KL KT KM hs' KN,λH0 σ H δ S Q z L h q=>?_⟩
 rcases a7 h with⟨x,h1,h⟩ | ⟨C,h1,rfl⟩
 ·refine k H0 σ H δ S _ _ L h1 λv H1 S1 g1 rv=>?_
  unfold j0 at h;split at h
  ·rename_i a' e1
   split at h
   ·rename_i hz
    cases h;have d:=rv.full e1;cases d;refine⟨rfl,a',b,rfl,rfl,hz.1,hz.2,λp hp=>?_⟩;have L1:=L.ext g1;have g:bw H1 S1 (bf H1 p (.tup [.str (Txt.partition a' b).1,.str (Txt.partition a' b).2.1,.str (Txt.partition a' b).2.2])) S1:=bw.same (iP hp _);exact q _ _ S1 (g1.trans g) (.tup (gH.of (h7 L1.lst hp)) (.cons (.str _) (.cons (.str _) (.cons (.str _) .nil))))
   ·cases h
  ·cases h
 ·exact k H0 σ H δ S _ _ L h1 q
def Bf(z:Str):List PyData:=z.cps.toList.map λc=> .str ⟨#[c]⟩
def iG(x:Rz):M (List PyData):=match x.d? with
 |some (.str z)=>if(z.cps.all λc=>decide (c<128))=true then aj (Bf z) else none
 |_=>none
theorem Hz{Hh:Hp}(z:Str):zh K (G1 z) Hh (Bf z):=by
 have hl:(Bf z).length=z.cps.size:=by unfold Bf;rw[cZ,Dn]
 refine⟨λi H g hi=>by rw[hl] at hi;exact hi,λi H x H' d g e y=>?_,λi H g hi=>by rw[hl] at hi;exact hi⟩;obtain⟨rfl,c,hc,rfl⟩:=y;unfold Bf at e
 rw[oQ,Array.getElem?_toList,hc] at e;cases e
 exact⟨rfl,.str _⟩
theorem Bg{tg e:Expr}{f:List Sl->M Rz}(h:DE X E e f):DI X E tg e (fI iG f):=by
 obtain⟨t,a,b⟩:=h;refine⟨_,G2 a,λH0 σ H δ S R r L h q=>?_⟩
 rcases a7 h with⟨x,h1,h⟩ | ⟨C,h1,rfl⟩
 ·refine b H0 σ H δ S _ _ L h1 λv H1 S1 g1 rv=>?_
  unfold iG at h;split at h
  ·rename_i z e1
   split at h
   ·rename_i ha
    cases h;have d:=rv.full e1;cases d;exact⟨z,rfl,ha,q _ H1 S1 g1 (Hz z)⟩
   ·cases h
  ·cases h
 ·exact b H0 σ H δ S _ _ L h1 q
end
end D3
namespace D3
open PySem PySem.Spec PyProof.Rows L2 L3
def dl(H:Hp):Hp:=λb=>match H b with
 |some (.lst _)=>none
 |o=>o
section
variable{P:Program}{w:World}
end
variable [jJ]
end D3
namespace D3
open PySem PySem.Spec PyProof.Rows L2 L3
variable [jJ]
section
variable{X:Cx}{E:XK}{K:W.Frag}
end
abbrev TX:=(L2.St->XK)->iO->L2.St->Hp->Prop
def PX(X:Cx)(st:Stmt)(t:TX):Prop:=
 ∀(pins:List (Addr×Obj)) (s:Shared) (σ:L2.St) (H:Hp) (D:iO) (EX:L2.St->XK),ay X pins σ H s->t EX D σ H->wpAny (model X.prog X.w) X.A (exec st X.env) (SP X pins D) (λev s1=>∃σ',vg X pins σ' (EX σ') ev s1) s
def v5(X:Cx)(st:List Stmt)(t:TX):Prop:=
 ∀(pins:List (Addr×Obj)) (s:Shared) (σ:L2.St) (H:Hp) (D:iO) (EX:L2.St->XK),ay X pins σ H s->t EX D σ H->wpAny (model X.prog X.w) X.A (execs st X.env) (SP X pins D) (λev s1=>∃σ',vg X pins σ' (EX σ') ev s1) s
section
variable{X:Cx}{E:XK}{K:W.Frag}
theorem HA{e:Expr}{te:L2.St->Hp->VK->XK->Prop}{i:Nat}{y:Str}{p1 py:Pos}(he:JX X e te)(hN:X.N.Nodup)(hi:X.N[i]?= some y)(hli:L2.aW X.env.scope y)(hsw:swapsWith e (some (.Name y py)) p1.line X.env=pure false:=by rfl)(hf:X.fn y=true\/X.env.scope.names.lookup y=some .local:=by first |exact .inl rfl |exact .inr rfl) :
  PX X (.Assign [.Name y py] e p1) (λEX D σ H=>te σ H (λx H1=>D.nx (σ.set i (some x)) H1) (EX σ)):=by
 intro pins s σ H D EX I h;refine wpAny_Assign_Name (wpAny_mono (he pins s σ H _ _ I h) (λv s1 z=>?_) λv s1 z=>⟨σ,z⟩) hsw;obtain⟨u,H1,I1,r1,q1⟩:=z;exact iN I1 hN hi hli r1 (λs2 I2=>⟨_,H1,I2,q1⟩) hf
theorem Jv{c:Expr}{a b:List Stmt}{tc:TT}{t u:TX}{pos:Pos}(hc:PT X.nox c tc)(ha:v5 X a t)(hb:v5 X b u):PX X (.If c a b pos) (λEX D σ H=>tc σ H λd H1=>if d=true then t EX D σ H1 else u EX D σ H1):=by
 intro pins s σ H D EX I h;refine wpAny_If (wpAny_mono (hc pins s σ H _ (I.wish _) h) (λd s1 z=>?_) λ_ _ z=>z.elim);obtain⟨H1,I1,q1⟩:=z;have I1:ay X pins σ H1 s1:=I1.unwish;cases d with
 |true=>exact ha pins s1 σ H1 D EX I1 q1
 |false=>exact hb pins s1 σ H1 D EX I1 q1
theorem EY:v5 X [] (λ_ D σ H=>D.nx σ H):=λpins s σ H D EX I h=>wpAny_execs_nil ⟨σ,H,I,h⟩
theorem CY{st:Stmt}{bD:List Stmt}{t u:TX}(h1:PX X st t)(h2:v5 X bD u):v5 X (st::bD) (λEX D σ H=>t EX {D with nx:=u EX D} σ H):=by
 intro pins s σ H D EX I h;refine wpAny_execs_cons (bn (h1 pins s σ H {D with nx:=u EX D} EX I h) λf s1 q=>?_);cases f with
 |next=>
  obtain⟨σ',H',I',q⟩:=q;exact h2 pins s1 σ' H' D EX I' q
 |ret v=>exact q
 |brk=>exact q
 |cont=>exact q
def Jw(K:W.Frag)(t:TX)(B:Addr)(j:Nat)(ts:TS):TS:=λD σ H=>
 t (λ σ' C _ H'=>∃c,C= .ref c/\mZ K c B/\
  ∀ea,H' ea=none->ts {nx:=λ σ' H2=>D.nx (σ'.set j none) H2,rt:=λ_ _=>False} (σ'.set j (some (.ref ea))) (bf H' ea (oW ea (.ref c)))) {nx:=D.nx,rt:=λ_ _=>False} σ H
theorem EZ{sts:List Stmt}{t:TX}{B:Addr}{j:Nat}{ts:TS}{x n:Str}{b0:Stmt}{K0:List Stmt}{np hp pos:Pos}(hb:v5 X sts t)(hs: ∀ea xe,jI (L3.Cx.inH X ea xe) (b0::K0) ts)(hN:X.N.Nodup)(hj:X.N[j]?= some n)(hl:X.env.kindOf n=some .local)
  (hm:X.mg x=some (.ref B)) (hst:X.stack=X.env::X.outer) (hfr:X.env.frame=some X.env.locals) (hg:Gl X x:=by rfl) (hdb:(x ==("__debug__" :Str))=false:=by decide) :
  PS X (.Try sts [.ExceptHandler (some (.Name x np)) (some n) (b0::K0) hp] [] [] pos) (Jw X.K t B j ts):=by
 intro pins s σ H D I h;refine wpAny_Try_except (wpAny_mono (hb pins s σ H _ _ I h) (λf s1 z=>?_) λv s1 z=>?_)
 ·cases f with
  |next=>
   obtain⟨σ',H',I',q⟩:=z;exact wpAny_execs_nil ⟨σ',H',I',q⟩
  |ret v=>obtain⟨_,_,_,_,_,z⟩:=z;exact False.elim z
  |brk=>obtain⟨_,_,_,z⟩:=z;exact False.elim z
  |cont=>obtain⟨_,_,_,z⟩:=z;exact False.elim z
 ·obtain⟨σ',z⟩:=z
  exact AQ (tz:=λ_=>ts) hs hN hj hl hg hm hst hfr hdb (λC H' q=>q) z
inductive Xl where
 |next (δ:List Sl)
 |exc (C:Ex) (δ:List Sl)
def HB(K:W.Frag)(EX:L2.St->XK)(H0:Hp)(D:iO):Xl->Prop
 | .next δ=>∀σ H S,aW K H0 σ H δ S->D.nx σ H
 | .exc C δ=>∀σ H S,aW K H0 σ H δ S->EX σ (.ref (b4 C)) none H
def J1(K:W.Frag)(t:TX)(f:List Sl->Option Xl):Prop:=
 ∀(H0:Hp) (σ:L2.St) (H:Hp) (δ:List Sl) (S:Addr->Bool) (D:iO) (EX:L2.St->XK) (fl:Xl),aW K H0 σ H δ S->f δ=some fl->HB K EX H0 D fl->t EX D σ H
def DX(X:Cx)(st:Stmt)(f:List Sl->Option Xl):Prop:=∃t,PX X st t/\J1 X.K t f
def yu(X:Cx)(st:List Stmt)(f:List Sl->Option Xl):Prop:=∃t,v5 X st t/\J1 X.K t f
def fT(δ:List Sl):Option Xl:=some (.next δ)
def gz(f g:List Sl->Option Xl)(δ:List Sl):Option Xl:=
 match f δ with
 |some (.next δ')=>g δ'
 |r=>r
def sy(c:List Sl->M Bool)(f g:List Sl->Option Xl)(δ:List Sl):Option Xl:=
 match c δ with
 |some (.ok b)=>if b=true then f δ else g δ
 |_=>none
def ia(g:List Rz->M Rz)(fa:List Sl->M (List Rz))(k:Rz->List Sl->Option (List Sl))(δ:List Sl):Option Xl:=
 match fa δ with
 |some (.ok zs)=>(match g zs with
  |some (.ok z)=>(match k z δ with |some δ'=>some (.next δ') |none=>none)
  |some (.err C)=>some (.exc C δ)
  |none=>none)
 |_=>none
def nM(cs:Ex->Bool)(f:List Sl->Option Xl)(j:Nat)(b:List Sl->Option Fl)(δ:List Sl):Option Fl:=
 match f δ with
 |some (.next δ')=>some (.next δ')
 |some (.exc C δ')=>if cs C=true then vY j (b (δ'.set j (.exc C))) else none
 |none=>none
theorem tP:yu X [] fT:=⟨_,EY,λH0 σ H δ S D EX fl L h q=>by cases h;exact q σ H S L⟩
theorem qM{st:Stmt}{bD:List Stmt}{f g:List Sl->Option Xl}(h1:DX X st f)(h2:yu X bD g):yu X (st::bD) (gz f g):=by
 obtain⟨t,a,b⟩:=h1;obtain⟨u,c,d⟩:=h2;refine⟨_,CY a c,λH0 σ H δ S D EX fl L h q=>?_⟩;unfold gz at h
 split at h
 ·rename_i δ' e
  exact b H0 σ H δ S _ EX _ L e λ σ1 H1 S1 L1=>d H0 σ1 H1 δ' S1 D EX fl L1 h q
 ·rename_i r hr
  refine b H0 σ H δ S _ EX fl L h ?_;cases fl with
  |next δ'=>exact absurd h (hr δ')
  |exc C δ'=>exact q
theorem Jx{c:Expr}{a b:List Stmt}{fc:List Sl->M Bool}{f g:List Sl->Option Xl}{pos:Pos}(hc:DT X.nox E0 c fc)(ha:yu X a f)(hb:yu X b g):DX X (.If c a b pos) (sy fc f g):=by
 obtain⟨tc,c1,c2⟩:=hc;obtain⟨t,a1,a2⟩:=ha;obtain⟨u,b1,b2⟩:=hb;refine⟨_,Jv c1 a1 b1,λH0 σ H δ S D EX fl L h q=>?_⟩;unfold sy at h
 split at h
 ·rename_i d e
  refine c2 H0 σ H δ S _ _ L e λH1 S1 g1=>?_
  cases d with
  |true=>exact a2 H0 σ H1 δ S1 D EX fl (L.ext g1) h q
  |false=>exact b2 H0 σ H1 δ S1 D EX fl (L.ext g1) h q
 ·cases h
theorem HC{m:Nat}{f:List PyData->M bN}{fa:List Sl->M (List Rz)}{ta:TA}{H0 H:Hp}{σ:L2.St}{δ:List Sl}{S:Addr->Bool}{D:iO}{EX:L2.St->XK}{fl:Xl}{k:Rz->List Sl->Option (List Sl)}{Qn:V->Hp->Prop}
  (ra:G8 K E0 ta fa) (L:aW K H0 σ H δ S) (h:ia (gF m f) fa k δ=some fl)
  (hn: ∀z δ',k z δ=some δ'->fl= .next δ'->∀v H' S',bw H S H' S'->RV K H H' S' v z->Qn v H')
  (q:HB K EX H0 D fl):ta σ H λvs H1=>bJ K m f vs H1 Qn (EX σ):=by
 unfold ia at h;split at h
 ·rename_i zs e
  refine ra H0 σ H δ S _ _ L e λvs H1 S1 g1 rs=>?_
  have go: ∀z,gF m f zs=some z->iQ K (EX σ) H1 S1 Qn z->bJ K m f vs H1 Qn (EX σ):=λz ez en=>by
   have:=DU (K:=K) (n:=m) (f:=f) H0 σ H1 δ S1 H vs zs z Qn (L.ext g1) rs ez en;dsimp only at this
   rwa [ka] at this
  split at h
  ·rename_i z ez
   split at h
   ·rename_i δ' e2
    cases h;exact go _ ez λv H' S' g rv=>hn z δ' e2 rfl v H' S' (g1.trans g) (rv.back g1)
   ·cases h
  ·rename_i C ez
   cases h;exact go _ ez λH' S' g=>q σ H' S' ((L.ext g1).ext g)
  ·cases h
 ·cases h
theorem v6(i:Nat){kk n m:Nat}{fx y:Str}{ps:List Str}{f:List PyData->M bN}{e:Expr}{es:List Expr}{fa:List Sl->M (List Rz)}{p1 py pc fp:Pos}(Z:lA n X E)
  (C:d8 X.prog X.w X.K X.mg X.base (bt X.prog X.w) kk fx ps (bJ X.K m f)) (ha:DA X.nox E0 (e::es) fa) (hn:kk<=n:=by decide) (hi:X.N[i]?= some y:=by rfl) (hli:L2.aW X.env.scope y:=by first |exact Or.inl rfl |exact Or.inr rfl)
  (hgf:Gl X fx:=by rfl) (hdf:(fx ==("__debug__" :Str))=false:=by decide) (he:starEach (e::es) X.env=(false,eval e X.env)::starEach es X.env:=by rfl) (hpl:(backTo pc (starEach es X.env)).any (·.1)=false:=by rfl)
  (hsw:swapsWith (.Call (.Name fx fp) (e::es) [] pc) (some (.Name y py)) p1.line X.env=pure false:=by rfl) (hf:X.fn y=true\/X.env.scope.names.lookup y=some .local:=by first |exact .inl rfl |exact .inr rfl) :
  DX X (.Assign [.Name y py] (.Call (.Name fx fp) (e::es) [] pc) p1) (ia (gF m f) fa (jk i)):=by
 obtain⟨ta,a1,a2⟩:=ha;refine⟨_,HA (EF C Z.rm a1 hn hgf hdf he hpl) Z.nd hi hli hsw hf,λH0 σ H δ S D EX fl L h q=>?_⟩;refine HC a2 L h (λz δ' e1 e2 v H' S' g rv=>?_) q;subst e2;unfold jk at e1
 split at e1
 ·rename_i s es
  cases e1;exact q _ H' S' ((L.ext g).slot L.owned (L.kids g) rv es)
 ·cases e1
theorem E1(j:Nat){n:Nat}{x nm:Str}{sts:List Stmt}{fb:List Sl->Option Xl}{b:List Sl->Option Fl}{cs:Ex->Bool}{B:Addr}{b0:Stmt}{K0:List Stmt}{np hp pos:Pos}(Z:lA n X E)
  (hd:yu X sts fb) (hc:qL X.K B cs) (hm:X.mg x=some (.ref B)) (hb: ∀ea xe,kn (L3.Cx.inH X ea xe) E0 (b0::K0) b)
  (hst:X.stack=X.env::X.outer) (hfr:X.env.frame=some X.env.locals) (hj:X.N[j]?= some nm:=by rfl) (hl:X.env.kindOf nm=some .local:=by rfl)
  (hg:Gl X x:=by rfl) (hdb:(x ==("__debug__" :Str))=false:=by decide) :
  DS X E (.Try sts [.ExceptHandler (some (.Name x np)) (some nm) (b0::K0) hp] [] [] pos) (nM cs fb j b):=by
 obtain⟨t,a1,a2⟩:=hd;have pb: ∀ea xe,jI (L3.Cx.inH X ea xe) (b0::K0) (JZ X.K E0 b):=λea xe=>(hb ea xe).ps
 refine⟨_,EZ a1 pb Z.nd hj hl hm hst hfr hg hdb,λH0 σ H δ S D fl L h q=>?_⟩;unfold nM at h
 split at h
 ·rename_i δ' e
  cases h;exact a2 H0 σ H δ S _ _ _ L e λ σ' H' S' L'=>q σ' H' S' L'
 ·rename_i C δ' e
  split at h
  ·rename_i hcs
   refine a2 H0 σ H δ S _ _ _ L e λ σ' H' S' L1=>⟨_,rfl,(hc C hcs).1,λea he=>?_⟩
   have g2:bw H' S' (bf H' ea (oW ea (.ref (b4 C)))) S':=bw.same (iP he _);have L2:=(L1.ext g2).put (i:=j) (o:=some (.ref ea)) (s:= .exc C) (λ_ z=>nomatch z) (λ_ z=>nomatch z) (λC' e=>by cases e;exact⟨ea,rfl,.inl ⟨(hc C hcs).2,h7 L1.lst he⟩⟩);unfold vY at h
   split at h
   ·rename_i δ'' e3
    cases h;exact⟨H0,_,S',_,L2,e3,λ σ' H3 S3 L3=>q _ H3 S3 (L3.put (λ_ z=>nomatch z) (λ_ z=>nomatch z) (λ_ z=>nomatch z))⟩
   ·cases h
  ·cases h
 ·cases h
end
end D3
namespace D3
open PySem L2
end D3
namespace D3
open PySem PySem.Spec PyProof.Rows L2 L3
variable [jJ]
section
variable{X:Cx}{E:XK}{K:W.Frag}
theorem nN{H:Hp}: ∀l:List Str,aE K H (l.map V.str) (l.map PyData.str)
 | []=> .nil
 |x::r=> .cons (.str x) (nN r)
def c9(b:Str)(x:Rz):M Rz:=match x.d? with
 |some (.str a)=>if(b.length == 0)=false/\a.length+2<=sizeLine then aj (.new ((Txt.split a b).map PyData.str)) else none
 |_=>none
theorem qN{b:Str}{o:Expr}{f:List Sl->M Rz}{KQ:Pos}{jj apos KJ}(ho:DE X E o f)(hs':starEach [Expr.Constant (.str b) jj KQ] X.env=(false,eval (.Constant (.str b) jj KQ) X.env)::starEach [] X.env:=by rfl)
  (KL:attributeBase o "split" X.env (eval o X.env)=eval o X.env:=by rfl)
  (KT:((backTo KJ (starEach [Expr.Constant (.str b) jj KQ] X.env)).all (λx=>!x.1)&& (backToKw KJ (keywordEach [] X.env)).all (λx=>x.1.isSome)
   && decide ([Expr.Constant (.str b) jj KQ].length+([]:List Keyword).length+(if([]:List Keyword).isEmpty then 0 else 1)<30))=true:=by rfl)
  (KM:(apos.endLine == KJ.line)=true:=by rfl) (KN:(backTo KJ (starEach [] X.env)).any (·.1)=false:=by rfl) :
  DE X E (.Call (.Attribute o "split" apos) [.Constant (.str b) jj KQ] [] KJ) (fU (c9 b) f):=by
 obtain⟨t,a,k⟩:=ho;refine⟨_,nv x9 Ad PySem.F.type_str_split vM a (cg ls eZ hs') KL KT KM hs' KN,λH0 σ H δ S Q z L h q=>?_⟩
 rcases a7 h with⟨x,h1,h⟩ | ⟨C,h1,rfl⟩
 ·refine k H0 σ H δ S _ _ L h1 λv H1 S1 g1 rv=>?_
  unfold c9 at h;split at h
  ·rename_i a' e1
   split at h
   ·rename_i hz
    cases h;have d:=rv.full e1;cases d;refine⟨rfl,a',b,rfl,rfl,hz.1,hz.2,λp hp=>?_⟩;exact q _ _ (ins S1 p) (g1.trans (bw.ins hp)) ⟨p,_,rfl,dF,g1.up.free hp,bF,nN _⟩
   ·cases h
  ·cases h
 ·exact k H0 σ H δ S _ _ L h1 q
def eC(ft:List Sl->M Bool)(j:Nat)(δ:List Sl):List (List Str)->List Str->List PyData->Option (List (List Str))
 |gs,cur,[]=>some (gs++[cur])
 |gs,cur,.str w::r=>(match ft (δ.set j (.dat (.str w))) with
  |some (.ok true)=>eC ft j δ (gs++[cur]) [w] r
  |some (.ok false)=>eC ft j δ gs (cur++[w]) r
  |_=>none)
 |_,_,_=>none
def kN(gs:List (List Str)):List PyData:=gs.map λg=> .list (g.map PyData.str)
def vj(k j:Nat)(f0:List Sl->M Rz)(fi:List Sl->M (List PyData))(ft:List Sl->M Bool)(δ:List Sl):Option Fl:=bS (f0 δ) λz=>match z.d? with
 |some (.str s0)=>bS (fi (δ.set k .no)) λitems=>if items.length+2<sizeLine/\k<δ.length/\j<δ.length then(match eC ft j (δ.set k .no) [] [s0] items with
  |some gs=>some (.ret (.newls (kN gs)))
  |none=>none) else none
 |_=>none
structure kr (H1 H:Hp) (S:Addr->Bool) (a:Addr) (bs:List Addr) (b:Addr) (gs:List (List Str)) (cur:List Str):Prop where
 ha:H a=some (.lst ((bs++[b]).map V.ref))
 hb:H b=some (.lst (cur.map V.str))
 hg: ∀(i:Nat) (x:Addr) (g:List Str),bs[i]?= some x->gs[i]?= some g->H x=some (.lst (g.map V.str))
 ln:bs.length=gs.length
 ab:a≠b
 nb:b∉bs
 na:a∉bs
 sa:S a=true
 sb:S b=true
 h1:H1 a=none
 h2:H1 b=none
 h3: ∀x∈bs,H1 x=none
theorem kr.ext{H1 H H':Hp}{S S':Addr->Bool}{a b:Addr}{bs:List Addr}{gs:List (List Str)}{cur:List Str}(N:kr H1 H S a bs b gs cur)(g:bw H S H' S'):kr H1 H' S' a bs b gs cur:=
 ⟨g.up _ _ N.ha,g.up _ _ N.hb,λi x u e1 e2=>g.up _ _ (N.hg i x u e1 e2),N.ln,N.ab,N.nb,N.na,g.sub _ N.sa,g.sub _ N.sb,N.h1,N.h2,N.h3⟩
theorem kr.inn{H1 H:Hp}{S:Addr->Bool}{a b:Addr}{bs:List Addr}{gs:List (List Str)}{cur:List Str}(N:kr H1 H S a bs b gs cur)(w:Str):kr H1 (bf H b (.lst (cur.map V.str++[.str w]))) S a bs b gs (cur++[w]):=
 ⟨by rw[aY N.ab];exact N.ha,by rw[bF,mj];rfl,λi x u e1 e2=>by
  have xb:x≠b:=λz=>by subst z;exact N.nb (lm e1)
  rw[aY xb];exact N.hg i x u e1 e2,N.ln,N.ab,N.nb,N.na,N.sa,N.sb,N.h1,N.h2,N.h3⟩
theorem kr.out{H1 H:Hp}{S:Addr->Bool}{a b c:Addr}{bs:List Addr}{gs:List (List Str)}{cur:List Str}(N:kr H1 H S a bs b gs cur)(w:Str)(hc:H c=some (.lst [.str w]))(sc:S c=true)(n1:H1 c=none)(ca:a≠c)(cb:b≠c)(cs:c∉bs) :
  kr H1 (bf H a (.lst ((bs++[b]).map V.ref++[.ref c]))) S a (bs++[b]) c (gs++[cur]) [w]:=by
 refine⟨by rw[bF,mj (l₁:=bs++[b])];rfl,by rw[aY ca.symm];exact hc,λi x u e1 e2=>?_,by rw[bQ,bQ,N.ln];rfl,ca,?_,?_,N.sa,sc,N.h1,n1,?_⟩
 ·have xa:x≠a:=λz=>by
   subst z
   rcases eV.mp (lm e1) with h |h
   ·exact N.na h
   ·exact N.ab (gS.mp h)
  rw[aY xa]
  by_cases ci:i<bs.length
  ·rw[oP ci] at e1
   rw[oP (by rw[<-N.ln];exact ci)] at e2;exact N.hg i x u e1 e2
  ·rw[oO (by omega)] at e1
   rw[oO (by rw[<-N.ln];omega),<-N.ln] at e2;cases q:i-bs.length with
   |zero=>rw[q] at e1 e2;cases e1;cases e2;exact N.hb
   |succ m=>rw[q] at e1;simp at e1
 ·intro h
  rcases eV.mp h with h |h
  ·exact cs h
  ·exact cb (gS.mp h).symm
 ·intro h
  rcases eV.mp h with h |h
  ·exact N.na h
  ·exact N.ab (gS.mp h)
 ·intro x hx
  rcases eV.mp hx with h |h
  ·exact N.h3 x h
  ·rw[gS.mp h];exact N.h2
theorem kr.here{H1 H:Hp}{S:Addr->Bool}{a b:Addr}{bs:List Addr}{gs:List (List Str)}{cur:List Str}(N:kr H1 H S a bs b gs cur){x:Addr}(hx:x∈bs):H x≠none:=by
 obtain⟨i,hi,e⟩:=List.getElem_of_mem hx;have e1:bs[i]?= some x:=by rw[gk hi,e]
 obtain⟨g,eg⟩ : ∃g,gs[i]?= some g:=⟨_,gk (by rw[<-N.ln];exact hi)⟩
 rw[N.hg i x g e1 eg];exact λz=>nomatch z
theorem kr.dvs{H0 H1 H:Hp}{S:Addr->Bool}{a b:Addr}{bs:List Addr}{gs:List (List Str)}{cur:List Str}(N:kr H1 H S a bs b gs cur)(g:bh H0 H1):aE K (jh H0 (wo H a)) ((bs++[b]).map V.ref) (kN (gs++[cur])):=by
 have at_: ∀(x:Addr) (u:List Str),H1 x=none->x≠a->H x=some (.lst (u.map V.str))->DV K (jh H0 (wo H a)) (.ref x) (.list (u.map PyData.str)):=λx u n ne e=>
  .lst (cw.of (by rw[CM (g.free n)];unfold wo;rw[aK ne];exact e)) (nN u)
 have all: ∀(xs:List Addr) (us:List (List Str)),xs.length=us.length->(∀(i:Nat) (x:Addr) (u:List Str),xs[i]?= some x->us[i]?= some u->H1 x=none/\x≠a/\H x=some (.lst (u.map V.str)))->aE K (jh H0 (wo H a)) (xs.map V.ref) (kN us):=by
  intro xs
  induction xs with
  |nil=>intro us hl _;cases us with |nil=>exact .nil |cons u r=>cases hl
  |cons x r ih=>
   intro us hl h;cases us with
   |nil=>cases hl
   |cons u us=>
    obtain⟨h1,h2,h3⟩:=h 0 x u rfl rfl;exact .cons (at_ x u h1 h2 h3) (ih us (by simpa using hl) λi x' u' e1 e2=>h (i+1) x' u' e1 e2)
 refine all _ _ (by rw[bQ,bQ,N.ln];rfl) λi x u e1 e2=>?_
 by_cases ci:i<bs.length
 ·rw[oP ci] at e1
  rw[oP (by rw[<-N.ln];exact ci)] at e2;have m:=lm e1
  exact⟨N.h3 x m,λz=>N.na (z▸m),N.hg i x u e1 e2⟩
 ·rw[oO (by omega)] at e1
  rw[oO (by rw[<-N.ln];omega),<-N.ln] at e2;cases q:i-bs.length with
  |zero=>rw[q] at e1 e2;cases e1;cases e2;exact⟨N.h2,N.ab.symm,N.hb⟩
  |succ m=>rw[q] at e1;simp at e1
theorem bw.mutN{H1 H:Hp}{S1 S:Addr->Bool}{a:Addr}{xs:List V}(g:bw H1 S1 H S)(n:H1 a=none)(sa:S a=true):bw H1 S1 (bf H a (.lst xs)) S:=by
 refine⟨λb o e=>?_,by rw[m4 sa];exact g.hd,g.sub,λb hb=>?_⟩
 ·have:b≠a:=by intro z;subst z;rw[n] at e;cases e
  rw[aY this];exact g.up b o e
 ·rcases g.new b hb with z | ⟨z,w⟩
  ·exact .inl z
  ·refine .inr ⟨z,?_⟩
   by_cases c:b=a
   ·subst c;exact⟨_,bF⟩
   ·rw[aY c];exact w
theorem v7{Hh H:Hp}{a:Addr}{o:HO}(g:bh Hh H)(n:Hh a=none):bh Hh (bf H a o):=λb u e=>by
 have:b≠a:=by intro z;subst z;rw[n] at e;cases e
 rw[aY this];exact g b u e
theorem uI{α:Type}(r:List α)(a:α):L2.atI (r++[a]) (-1)=some a:=by
 unfold L2.atI;have:L2.lw (r++[a]).length (-1)=some r.length:=by
  unfold L2.lw;rw[bQ,kJ,aK (by omega),aD (by omega)];congr 1;omega
 rw[this];show(r++[a])[r.length]?= some a;rw[oO (cr _),Af];rfl
theorem CZ(k j:Nat){n:Nat}{x y:Str}{e0 it test:Expr}{f0:List Sl->M Rz}{fi:List Sl->M (List PyData)}{ft:List Sl->M Bool}{p1 p2 p3 p4 p5 p6 p7 p8 p9 p10 p11 p12 p13 p14 p15 p16 p17 p18 p19 p20 p21:Pos}{jj:Nat}(Z:lA n X E)
  (h0:DE X E e0 f0) (hi:DI X E (.Name y p5) it fi) (ht:DT X E test ft) (hjk:k≠j)
  (hk:X.N[k]?= some x:=by rfl) (hj:X.N[j]?= some y:=by rfl) (hlx:L2.aW X.env.scope x:=by first |exact Or.inl rfl |exact Or.inr rfl) (hly:L2.aW X.env.scope y:=by first |exact Or.inl rfl |exact Or.inr rfl)
  (hfx:X.fn x=true\/X.env.scope.names.lookup x=some .local:=by first |exact .inl rfl |exact .inr rfl) (hfy:X.fn y=true\/X.env.scope.names.lookup y=some .local:=by first |exact .inl rfl |exact .inr rfl)
  (hvx:mU X.env.scope x:=by first |exact Or.inl rfl |exact Or.inr (Or.inl rfl) |exact Or.inr (Or.inr rfl)) (hvy:mU X.env.scope y:=by first |exact Or.inl rfl |exact Or.inr (Or.inl rfl) |exact Or.inr (Or.inr rfl))
  (hdx:(x ==("__debug__" :Str))=false:=by decide) (hcx:(x ==("__classdict__" :Str))=false:=by decide) (hdy:(y ==("__debug__" :Str))=false:=by decide) (hcy:(y ==("__classdict__" :Str))=false:=by decide)
  (hs1:swapsWith (.List [.List [e0] p1] p2) (some (.Name x p3)) p4.line X.env=pure false:=by rfl)
  (st1:starEach [e0] X.env=(false,eval e0 X.env)::starEach [] X.env:=by rfl) (st2:starEach [.List [e0] p1] X.env=(false,eval (.List [e0] p1) X.env)::starEach [] X.env:=by rfl)
  (st3:starEach [.Name y p8] X.env=(false,eval (.Name y p8) X.env)::starEach [] X.env:=by rfl) (st4:starEach [.List [.Name y p8] p9] X.env=(false,eval (.List [.Name y p8] p9) X.env)::starEach [] X.env:=by rfl)
  (st5:starEach [.Name y p17] X.env=(false,eval (.Name y p17) X.env)::starEach [] X.env:=by rfl)
  (hs2:swapsWith (.Call (.Attribute (.Name x p6) "append" p7) [.List [.Name y p8] p9] [] p10) none p11.line X.env=pure false:=by rfl)
  (hb2:attributeBase (.Name x p6) "append" X.env (eval (.Name x p6) X.env)=eval (.Name x p6) X.env:=by rfl)
  (hw2:((backTo p10 (starEach [.List [.Name y p8] p9] X.env)).all (λx=>!x.1)&& (backToKw p10 (keywordEach [] X.env)).all (λx=>x.1.isSome)
   && decide ([Expr.List [.Name y p8] p9].length+([]:List Keyword).length+(if([]:List Keyword).isEmpty then 0 else 1)<30))=true:=by rfl)
  (hl2:(p7.endLine == p10.line)=true:=by rfl) (hp2:(backTo p10 (starEach [] X.env)).any (·.1)=false:=by rfl)
  (hs3:swapsWith (.Call (.Attribute (.Subscript (.Name x p12) (.UnaryOp .USub (.Constant (.int 1) jj p13) p14) p15) "append" p16) [.Name y p17] [] p18) none p19.line X.env=pure false:=by rfl)
  (hb3:attributeBase (.Subscript (.Name x p12) (.UnaryOp .USub (.Constant (.int 1) jj p13) p14) p15) "append" X.env (eval (.Subscript (.Name x p12) (.UnaryOp .USub (.Constant (.int 1) jj p13) p14) p15) X.env)=eval (.Subscript (.Name x p12) (.UnaryOp .USub (.Constant (.int 1) jj p13) p14) p15) X.env:=by rfl)
  (hw3:((backTo p18 (starEach [.Name y p17] X.env)).all (λx=>!x.1)&& (backToKw p18 (keywordEach [] X.env)).all (λx=>x.1.isSome)
   && decide ([Expr.Name y p17].length+([]:List Keyword).length+(if([]:List Keyword).isEmpty then 0 else 1)<30))=true:=by rfl)
  (hl3:(p16.endLine == p18.line)=true:=by rfl) (hp3:(backTo p18 (starEach [] X.env)).any (·.1)=false:=by rfl)
  (hfs: ∀v,foldedSetIterable it X.env v=pure v:=by intro _;rfl) {p22 p23:Pos} :
  kn X E [.Assign [.Name x p3] (.List [.List [e0] p1] p2) p4,
   .For (.Name y p5) it [.If test [.Expr (.Call (.Attribute (.Name x p6) "append" p7) [.List [.Name y p8] p9] [] p10) p11]
    [.Expr (.Call (.Attribute (.Subscript (.Name x p12) (.UnaryOp .USub (.Constant (.int 1) jj p13) p14) p15) "append" p16) [.Name y p17] [] p18) p19] p20] [] p21,
   .Return (some (.Name x p22)) p23] (vj k j f0 fi ft):=by
 obtain⟨t0,a0,b0⟩:=h0;obtain⟨wi,i1,i2⟩:=hi;obtain⟨tt,c1,c2⟩:=ht;refine⟨_,qD (Az Z.nd hk hlx (rS (cg (rS (cg a0 eZ st1)) eZ st2)) hs1 hfx) (qD (AD Z.po Z.cm i1 (sX Z.nd hj hly hfy)
  (mV (DC c1
   (mV (mW (nv Dr FV FW mm (i9 hk hvx hdx hcx) (cg (rS (cg (i9 hj hvy hdy hcy) eZ st3)) eZ st4) hb2 hw2 hl2 st4 hp2) hs2))
   (mV (mW (nv Dr FV FW mm (y9 vG (i9 hk hvx hdx hcx) (DH vA vz) (λ_ _=>rfl)) (cg (i9 hj hvy hdy hcy) eZ st5) hb3 hw3 hl3 st5 hp3) hs3)))) hfs)
  (mV (Au (i9 hk hvx hdx hcx)))),λH0 σ H δ S D fl L h q=>?_⟩
 have z1:(1:Nat)<=sizeLine:=by rw[sizeLine_eq];decide
 rcases eP h with⟨z,h1,h⟩ | ⟨C,h1,rfl⟩
 ·refine b0 H0 σ H δ S _ _ L h1 λv H1 S1 g1 rv=>⟨z1,λpb hpb=>⟨z1,λpa hpa=>?_⟩⟩
  split at h
  ·rename_i s0 es0
   have dv:=rv.full es0;cases dv;have L1:=L.ext g1;have pab:pa≠pb:=λz=>by subst z;rw[bF] at hpa;cases hpa
   have hpa1:H1 pa=none:=by rw[aY pab] at hpa;exact hpa
   have g2:bw H1 S1 (bf (bf H1 pb (.lst [.str s0])) pa (.lst [.ref pb])) (ins (ins S1 pb) pa):=(bw.ins hpb).trans (bw.ins hpa);have L0:aW X.K H0 (σ.set k (some (.ref pa))) H1 (δ.set k .no) S1:=L1.put (λ_ z=>nomatch z) (λ_ z=>nomatch z) (λ_ z=>nomatch z);have klen:k<σ.length\/¬k<σ.length:=Nat.lt_or_ge k σ.length |>.imp id Nat.not_lt.mpr
   rcases eP h with⟨items,h2,h⟩ | ⟨C,h2,rfl⟩
   ·refine i2 H0 _ _ _ _ _ _ (L0.ext g2) h2 λJ H3 S3 g3 io=>?_
    split at h
    ·rename_i hsz
     split at h
     ·rename_i gsT eN
      cases h;have N0:kr H1 H3 S3 pa [] pb [] [s0]:=kr.ext ⟨by rw[bF];rfl,by rw[aY pab.symm,bF];rfl,λi x u e=>by simp at e,rfl,pab,by simp,by simp,dF,by unfold ins;split<;>first |rfl |exact dF,hpa1,hpb,λx hx=>by cases hx⟩ g3;have g13:=g2.trans g3;obtain⟨hsz,kl,jl⟩:=hsz;have sl:=L.len;have Hpa:bj H3 S3 pa=none:=gq N0.sa;have Hpb:bj H3 S3 pb=none:=gq N0.sb;refine⟨λi m σ' H'=>m=items.length-i/\i<=items.length/\∃δ' S' bs b gs cur,σ'[k]?= some (some (V.ref pa))/\(∀s,δ'.set j s=(δ.set k .no).set j s)/\δ'.length=δ.length/\aW X.K H0 σ' H1 δ' S1/\aW X.K H0 σ' H' δ' S'/\bw H1 S1 H' S'/\bh (bj H3 S3) H'/\bj H3 S3 b=none/\kr H1 H' S' pa bs b gs cur/\eC ft j (δ.set k .no) gs cur (items.drop i)=some gsT/\bs.length<=i/\cur.length<=i+1,
       ⟨items.length,by simp,vw _,_,S3,[],pb,[],[s0],by rw[oN (by omega)],λ_=>rfl,by rw[ox],L0,(L0.ext g2).ext g3,g13,b6,Hpb,N0,eN,cr _,by simp⟩,?_⟩
      rintro i m σ' H' ⟨rfl,hi,δ',S',bs,b,gs,cur,hka,hδ,hln,Ls,Ld,gd,sm,Hb,N,hN,lb,lc⟩
      by_cases hlt:i<items.length
      ·have ei:items[i]?= some items[i]:=gk hlt
       rw[vy hlt] at hN;refine .inr ⟨io.go i H' sm hlt,λ σ' H'=>∃δ' S' bs b gs cur,σ'[k]?= some (some (V.ref pa))/\(∀s,δ'.set j s=(δ.set k .no).set j s)/\δ'.length=δ.length/\aW X.K H0 σ' H1 δ' S1/\aW X.K H0 σ' H' δ' S'/\bw H1 S1 H' S'/\bh (bj H3 S3) H'/\bj H3 S3 b=none/\kr H1 H' S' pa bs b gs cur/\eC ft j (δ.set k .no) gs cur (items.drop (i+1))=some gsT/\bs.length<=i+1/\cur.length<=i+1+1,
        λ σ2 H2 z=>⟨items.length- (i+1),by omega,rfl,hlt,z⟩,λv H2 hy=>?_⟩
       obtain⟨e3,dx⟩:=io.yld i H' v H2 _ sm ei hy;subst e3;unfold eC at hN
       split at hN
       ·rename_i heq;cases heq
       ·rename_i w r heq
        have e1:items[i]= .str w:=(eA heq).1;have e2:items.drop (i+1)=r:=(eA heq).2;subst e2;rw[e1] at dx
        cases dx;have put: ∀{Hx:Hp} {Sx:Addr->Bool},aW X.K H0 σ' Hx δ' Sx->aW X.K H0 (σ'.set j (some (.str w))) Hx (δ'.set j (.dat (.str w))) Sx:=λL=>L.put (λ_ z=>nomatch z) (λd e=>by cases e;exact⟨_,rfl,.str w⟩) (λ_ z=>nomatch z)
        have Ls2:=put Ls;have Ld2:=put Ld;have slen:=Ld.len;have hka2:(σ'.set j (some (V.str w)))[k]?= some (some (V.ref pa)):=by rw[iW hjk.symm];exact hka
        have hkj:(σ'.set j (some (V.str w)))[j]?= some (some (V.str w)):=by rw[oN (by omega)]
        have hδ2: ∀s,(δ'.set j (.dat (.str w))).set j s=(δ.set k .no).set j s:=λs=>by rw[List.set_set];exact hδ s
        have hln2:(δ'.set j (.dat (.str w))).length=δ.length:=by rw[ox];exact hln
        rw[<-hδ] at hN;have own: ∀(a:Addr),H1 a=none->∀(i:Nat) (es:List PyData),(δ'.set j (.dat (.str w)))[i]?= some (Sl.own es)->(σ'.set j (some (V.str w)))[i]?≠some (some (V.ref a)):=λa na i es e c=>by
         obtain⟨b,f1,f2⟩:=Ls2.owned i es e;rw[c] at f1;cases f1
         exact f2 na
        show tt _ _ _;split at hN
        ·rename_i eft
         refine c2 H0 _ _ _ S' _ _ Ld2 eft λH4 S4 g4=>oV ?_
         have L4:=Ld2.ext g4;have N4:=N.ext g4;have gd4:=gd.trans g4;refine⟨_,hka2,.inl ⟨rfl,_,cw.of N4.ha⟩,_,hkj,z1,λc hc=>?_⟩;have ca:pa≠c:=λz=>by subst z;rw[N4.ha] at hc;cases hc
         have cb:b≠c:=λz=>by subst z;rw[N4.hb] at hc;cases hc
         have cs:c∉bs:=λz=>N4.here z hc
         have n1:H1 c=none:=gd4.up.free hc;have g5:bw H4 S4 (bf H4 c (.lst [.str w])) (ins S4 c):=bw.ins hc;have N5:=N4.ext g5;have gd5:=gd4.trans g5;refine⟨pa,_,.ref c,rfl,rfl,N5.ha,by rw[cZ,bQ,kJ];omega,?_⟩;have sm4:bh (bj H3 S3) (bf H4 c (.lst [.str w])):=(sm.trans g4.up).trans g5.up;exact⟨_,ins S4 c,bs++[b],c,_,[w],hka2,hδ2,hln2,Ls2,(L4.ext g5).mutX N5.sa (own pa N.h1) (λi kd=>Ls2.kids gd5 i pa kd N.h1),gd5.mutN N.h1 N5.sa,v7 sm4 Hpa,(sm.trans g4.up).free hc,N5.out w bF dF n1 ca cb cs,hN,by rw[bQ,kJ];omega,by simp⟩
        ·rename_i eft
         refine c2 H0 _ _ _ S' _ _ Ld2 eft λH4 S4 g4=>oU ?_
         have L4:=Ld2.ext g4;have N4:=N.ext g4;have gd4:=gd.trans g4;refine⟨_,hka2,⟨1,rfl,.inl ⟨pa,_,-1,.ref b,rfl,rfl,cw.of N4.ha,by rw[mj];exact uI _ _,.inl ⟨rfl,_,cw.of N4.hb⟩,_,hkj,?_⟩⟩⟩;refine⟨b,_,.str w,rfl,rfl,N4.hb,by rw[cZ];omega,?_⟩;exact⟨_,S4,bs,b,_,_,hka2,hδ2,hln2,Ls2,L4.mutX N4.sb (own b N.h2) (λi kd=>Ls2.kids gd4 i b kd N.h2),gd4.mutN N.h2 N4.sb,v7 (sm.trans g4.up) Hb,Hb,N4.inn w,hN,by omega,by rw[bQ,kJ];omega⟩
        ·cases hN
       ·cases hN
      ·have e:i=items.length:=by omega
       subst e;rw[Ae] at hN
       cases hN;refine .inl ⟨io.stop _ H' sm (cr _),_,hka,?_⟩;exact q pa _ H' Ld.old (L1.old.free N.h1) N.ha (N.dvs L1.old)
     ·cases h
    ·cases h
   ·exact i2 H0 _ _ _ _ _ _ (L0.ext g2) h2 (dZ (L0.ext g2) q)
  ·cases h
 ·exact b0 H0 σ H δ S _ _ L h1 (dZ L q)
end
end D3
namespace D3
open PySem PySem.Spec PyProof.Rows L2 L3
section
variable{δ δ':List Sl}
theorem ah{g:Rz->Rz->M Rz}{fa fb:List Sl->M Rz}{x y z:Rz}(h1:fa δ=aj x)(h2:fb δ=aj y)(h3:g x y=aj z):f2 g fa fb δ=aj z:=by unfold f2;rw[h1,cB,h2,cB,h3]
theorem ax{f:List Sl->M Rz}{x:Rz}{b:Bool}(h1:f δ=aj x)(h2:sd x=aj b):fB f δ=aj b:=by unfold fB;rw[h1,cB,h2]
theorem sA{f:List Sl->M Bool}{b:Bool}(h1:f δ=aj b):fV f δ=aj (.dat (.bool b)):=by unfold fV;rw[h1,cB]
theorem v8{f:List Sl->M Bool}{b:Bool}(h1:f δ=aj b):fZ f δ=aj (!b):=by unfold fZ;rw[h1,cB]
theorem lh{f:List Sl->M Bool}(h1:f δ=aj false):fZ f δ=aj true:=v8 h1
theorem eD{f:List Sl->M Bool}(h1:f δ=aj true):fZ f δ=aj false:=v8 h1
theorem HD{f g:List Sl->M Bool}{a b:Bool}(h1:f δ=aj a)(h2:a=true->g δ=aj b):fL f g δ=aj (a&&b):=by
 unfold fL;rw[h1,cB];cases a with
 |true=>rw[aD rfl,h2 rfl];rfl
 |false=>rfl
theorem cX{f g:List Sl->M Bool}{b:Bool}(h1:f δ=aj true)(h2:g δ=aj b):fL f g δ=aj b:=by unfold fL;rw[h1,cB,aD rfl,h2]
theorem eE{f g:List Sl->M Bool}(h1:f δ=aj false):fL f g δ=aj false:=by unfold fL;rw[h1,cB];rfl
theorem eQ{f g:List Sl->M Bool}(h1:f δ=aj true):fE f g δ=aj true:=by unfold fE;rw[h1,cB];rfl
theorem bu{f g:List Sl->M Bool}{b:Bool}(h1:f δ=aj false)(h2:g δ=aj b):fE f g δ=aj b:=by unfold fE;rw[h1,cB,aK qr,h2]
theorem cI{g:Rz->M Rz}{f:List Sl->M Rz}{x z:Rz}(h1:f δ=aj x)(h2:g x=aj z):fU g f δ=aj z:=by unfold fU;rw[h1,cB,h2]
theorem Bh{c:List Sl->M Bool}{f g:List Sl->M Rz}{z:Rz}(hc:c δ=aj true)(h:f δ=aj z):sh c f g δ=aj z:=by unfold sh;rw[hc,cB,aD rfl,h]
theorem Bi{c:List Sl->M Bool}{f g:List Sl->M Rz}{z:Rz}(hc:c δ=aj false)(h:g δ=aj z):sh c f g δ=aj z:=by unfold sh;rw[hc,cB,aK qr,h]
theorem al{f:List Sl->M Rz}{g:List Sl->M (List Rz)}{x:Rz}{xs:List Rz}(h1:f δ=aj x)(h2:g δ=aj xs):aa f g δ=aj (x::xs):=by unfold aa;rw[h1,cB,h2,cB]
theorem ai{g:List Rz->M Rz}{fa:List Sl->M (List Rz)}{zs:List Rz}{z:Rz}(h1:fa δ=aj zs)(h2:g zs=aj z):ag g fa δ=aj z:=by unfold ag;rw[h1,cB,h2]
theorem aG{n:Nat}{F:List PyData->M bN}{zs:List Rz}{ds:List PyData}{o:bN}{z:Rz}(h0:qJ zs=some ds)(h1:ds.length=n)(h2:F ds=aj o)(h3:fv o=z):gF n F zs=aj z:=by
 unfold gF;rw[h0];dsimp only;rw[aD h1,h2,cB,h3]
theorem e9{n:Nat}{F:List PyData->M bN}{zs:List Rz}{ds:List PyData}{C:Ex}(h0:qJ zs=some ds)(h1:ds.length=n)(h2:F ds=some (.err C)):gF n F zs=some (.err C):=by
 unfold gF;rw[h0];dsimp only;rw[aD h1,h2];rfl
theorem cV{f g:List Sl->Option Fl}{r:Option Fl}(h1:f δ=some (.next δ'))(h2:g δ'=r):ar f g δ=r:=by unfold ar;rw[h1];exact h2
theorem yw{f g:List Sl->Option Fl}{o:bN}(h1:f δ=some (.ret o)):ar f g δ=some (.ret o):=by unfold ar;rw[h1]
theorem d5{f g:List Sl->Option Fl}{C:Ex}(h1:f δ=some (.exc C)):ar f g δ=some (.exc C):=by unfold ar;rw[h1]
theorem o9{i:Nat}{f:List Sl->M Rz}{x:Rz}{s:Sl}(h:f δ=aj x)(h2:lB x=some s)(h3:δ.set i s=δ'):aA i f δ=some (.next δ'):=by unfold aA;rw[h];show(match lB x with |some s=>some (Fl.next (δ.set i s)) |none=>none)=_;rw[h2];dsimp only;rw[h3]
theorem az{i:Nat}{f:List Sl->M Rz}{g:List Sl->Option Fl}{x:Rz}{s:Sl}{r:Option Fl}(h:f δ=aj x)(h2:lB x=some s)(h3:δ.set i s=δ')(h4:g δ'=r):ar (aA i f) g δ=r:=cV (o9 h h2 h3) h4
theorem ng{c:List Sl->M Bool}{f k g:List Sl->Option Fl}{b:Bool}{r:Option Fl}(hc:c δ=aj b)(h1:b=true->ar f g δ=r)(h2:b=false->ar k g δ=r):ar (aU c f k) g δ=r:=by
 unfold ar aU at *
 rw[hc];cases b with
 |true=>exact h1 rfl
 |false=>exact h2 rfl
theorem aB{c:List Sl->M Bool}{f k g:List Sl->Option Fl}{r:Option Fl}(hc:c δ=aj true)(h1:ar f g δ=r):ar (aU c f k) g δ=r:=ng hc (λ_=>h1) (λz=>nomatch z)
theorem av{c:List Sl->M Bool}{f k g:List Sl->Option Fl}{r:Option Fl}(hc:c δ=aj false)(h1:ar k g δ=r):ar (aU c f k) g δ=r:=ng hc (λz=>nomatch z) (λ_=>h1)
theorem D2{c:List Sl->M Bool}{f k:List Sl->Option Fl}{b:Bool}{r:Option Fl}(hc:c δ=aj b)(h1:b=true->f δ=r)(h2:b=false->k δ=r):aU c f k δ=r:=by
 unfold aU;rw[hc];cases b with
 |true=>exact h1 rfl
 |false=>exact h2 rfl
theorem zo{c:List Sl->M Bool}{f k:List Sl->Option Fl}{r:Option Fl}(hc:c δ=aj true)(h1:f δ=r):aU c f k δ=r:=D2 hc (λ_=>h1) (λz=>nomatch z)
theorem vk{c:List Sl->M Bool}{f k:List Sl->Option Fl}{r:Option Fl}(hc:c δ=aj false)(h1:k δ=r):aU c f k δ=r:=D2 hc (λz=>nomatch z) (λ_=>h1)
theorem au{g:List Sl->Option Fl}{r:Option Fl}(h:g δ=r):ar aR g δ=r:=h
theorem jO{f g k:List Sl->Option Fl}{r:Option Fl}(h:ar f (ar g k) δ=r):ar (ar f g) k δ=r:=by
 unfold ar at *
 cases e:f δ with
 |none=>rw[e] at h;exact h
 |some fl=>cases fl<;> (rw[e] at h;exact h)
theorem bA{f:List Sl->M Rz}{x:Rz}{o:bN}(h:f δ=aj x)(h2:sr x=some o):aT f δ=some (.ret o):=by unfold aT;rw[h];show(match sr x with |some o=>some (Fl.ret o) |none=>none)=_;rw[h2]
theorem aN{f:List Sl->M Rz}{g:List Sl->Option Fl}{x:Rz}{o:bN}(h:f δ=aj x)(h2:sr x=some o):ar (aT f) g δ=some (.ret o):=yw (bA h h2)
theorem Bj{g:PyData->List Sl->Option (List Sl)}{f:List Sl->M Rz}{x:Rz}{d:PyData}(h:f δ=aj x)(h2:dU x=some d)(h3:g d δ=some δ'):tK g f δ=some (.next δ'):=by
 unfold tK;rw[h];show(match dU x with |some d=>(match g d δ with |some δ'=>some (Fl.next δ') |none=>none) |none=>none)=_;rw[h2];dsimp only;rw[h3]
theorem HE{i j:Nat}{fa:List Sl->M (List Rz)}{x y:Rz}{d e:PyData}(h:fa δ=aj [x,y])(h1:dU x=some d)(h2:dU y=some e)(h3:(δ.set i (.dat d)).set j (.dat e)=δ'):tL i j fa δ=some (.next δ'):=by
 unfold tL;rw[h];show(match dU x,dU y with |some d,some e=>some (Fl.next ((δ.set i (.dat d)).set j (.dat e))) |_,_=>none)=_;rw[h1,h2];dsimp only;rw[h3]
theorem HF{k:Nat}{f:List Sl->M Rz}{x:Rz}{d:PyData}{ds:List PyData}(hk:δ[k]?= some (.own ds))(h:f δ=aj x)(h2:dU x=some d)(hl:ds.length<sizeLine)(h3:δ.set k (.own (ds++[d]))=δ'):zi k f δ=some (.next δ'):=by
 unfold zi nG;rw[hk];dsimp only;rw[h];show(match dU x with |some d=>if ds.length<sizeLine then some (Fl.next (δ.set k (.own (ds++[d])))) else none |none=>none)=_;rw[h2];dsimp only;rw[aD hl,h3]
theorem HG{k:Nat}{ds:List PyData}(hk:δ[k]?= some (.own ds))(hn:ds≠[])(h3:δ.set k (.own ds.dropLast)=δ'):tN k δ=some (.next δ'):=by
 unfold tN nG;rw[hk];dsimp only;rw[aK hn,h3]
theorem v9{k:Nat}{f fi:List Sl->M Rz}{x:Rz}{d:PyData}{ds:List PyData}{y:Rz}{i:Int}{j:Nat}(h:f δ=aj x)(hk:δ[k]?= some (.own ds))(hi:fi δ=aj y)(h2:dU x=some d)(hy:y.d?= some (.int i))(hj:lw ds.length i=some j)(h3:δ.set k (.own (ds.set j d))=δ'):mB k f fi δ=some (.next δ'):=by
 unfold mB;rw[h];show nG k _ δ=_;unfold nG;rw[hk];dsimp only;rw[hi];show(match dU x,y.d? with |some d,some (.int i)=>(match lw ds.length i with |some j=>some (Fl.next (δ.set k (.own (ds.set j d)))) |none=>none) |_,_=>none)=_;rw[h2,hy];dsimp only;rw[hj];dsimp only;rw[h3]
theorem aP{n m:Nat}{f:List Sl->Option Fl}{ds:List PyData}{o:bN}(hl:ds.length=n)(h:f (ds.map Sl.dat++List.replicate m Sl.no)=some (.ret o)):dA n m f ds=aj o:=by unfold dA;rw[aD hl,h];rfl
theorem cS{n m:Nat}{f:List Sl->Option Fl}{ds:List PyData}{C:Ex}(hl:ds.length=n)(h:f (ds.map Sl.dat++List.replicate m Sl.no)=some (.exc C)):dA n m f ds=some (.err C):=by unfold dA;rw[aD hl,h]
theorem lG{fi:List Sl->M (List PyData)}{g:PyData->List Sl->Option (List Sl)}{b:List Sl->Option Fl}{items:List PyData}{r:Option Fl}(h1:fi δ=aj items)(h2:dS g b items δ=r):lC fi g b δ=r:=by unfold lC;rw[h1];exact h2
theorem qO{g:PyData->List Sl->Option (List Sl)}{b:List Sl->Option Fl}(P:Nat->List Sl->Prop)(items:List PyData)(h0:P 0 δ)
  (hs: ∀i d δ,items[i]?= some d->P i δ->∃δ1 δ2,g d δ=some δ1/\(b δ1=some (.next δ2)\/b δ1=some (.cnt δ2))/\P (i+1) δ2): ∃δ',dS g b items δ=some (.next δ')/\P items.length δ':=by
 have key: ∀(bD:List PyData) (i:Nat) (δ:List Sl),items.drop i=bD->i+bD.length=items.length->P i δ->∃δ',dS g b bD δ=some (.next δ')/\P items.length δ':=by
  intro bD
  induction bD with
  |nil=>intro i δ _ hl p;exact⟨δ,rfl,by simp at hl;rw[<-hl];exact p⟩
  |cons d r ih=>
   intro i δ hd hl p;have hi:i<items.length:=by simp at hl;omega
   rw[vy hi] at hd
   injection hd with hd1 hd2
   obtain⟨δ1,δ2,e1,e2,p2⟩:=hs i d δ (by rw[gk hi,hd1]) p;obtain⟨δ',e3,p3⟩:=ih (i+1) δ2 hd2 (by simp at hl;omega) p2;refine⟨δ',?_,p3⟩;unfold dS;rw[e1];dsimp only
   rcases e2 with e2 |e2<;> (rw[e2];exact e3)
 exact key items 0 δ (by simp) (by simp) h0
theorem qd{c:List Sl->M Bool}{b:List Sl->Option Fl}(P:List Sl->Prop)(R:List Sl->Prop)(μ:List Sl->Nat)(hs: ∀δ,P δ->(c δ=aj false/\R δ)\/(c δ=aj true/\∃δ',b δ=some (.next δ')/\P δ'/\μ δ'<μ δ)) :
  P δ->∃δ',m6 c b δ=some (.next δ')/\R δ':=by
 have key: ∀(k:Nat) (δ:List Sl),μ δ<k->P δ->∃n δ',kM c b n δ=some (.next δ')/\R δ':=by
  intro k
  induction k with
  |zero=>intro δ h;exact absurd h (by omega)
  |succ k ih=>
   intro δ h p
   rcases hs δ p with⟨e,r⟩ | ⟨e,δ1,e1,p1,l⟩
   ·exact⟨1,δ,by unfold kM;rw[e];rfl,r⟩
   ·obtain⟨n,δ',e2,r⟩:=ih δ1 (by omega) p1
    exact⟨n+1,δ',by unfold kM;rw[e];unfold bS aj;dsimp only;rw[aD rfl,e1];exact e2,r⟩
 intro p;obtain⟨n,δ',e,r⟩:=key (μ δ+1) δ (by omega) p;exact⟨δ',@Hl ⟨λ_=>0⟩ _ _ _ _ _ e,r⟩
end
theorem yy{δ:List Sl}{fa:List Sl->M (List Rz)}{j:Int}{m:Nat}(h:fa δ=aj [.dat (.int j)])(h1: -(2^62)<=j)(h2:j<2^62)(hm:j.toNat=m):fR vV fa δ=aj (f9 0 m):=by
 unfold fR;rw[h,cB];show(if -(2^62)<=j/\j<2^62 then aj (f9 0 j.toNat) else none)=_;rw[aD ⟨h1,h2⟩,hm]
theorem wc{lo:Int}{m i:Nat}{d:PyData}(h:(f9 lo m)[i]?= some d):i<m/\d= .int (lo+(i:Int)):=by
 unfold f9 at h;rw[oQ] at h;have hi:i<m:=by
  by_cases c:i<m
  ·exact c
  ·rw[Dq (by rw[Dp];omega)] at h;cases h
 rw[List.getElem?_range hi] at h;cases h
 exact⟨hi,rfl⟩
theorem Bl(lo:Int)(m:Nat):(f9 lo m).length=m:=by unfold f9;rw[cZ,Dp]
theorem qe{ds:List PyData}{i:Int}{j:Nat}{d:PyData}(hi:i=(j:Int))(h:ds[j]?= some d):L2.atI ds i=some d:=by subst hi;exact L2.tf h
theorem iD{ds:List PyData}{i:Int}{j:Nat}{d:PyData}(hi:i=(j:Int))(h:ds[j]?= some d):aJ (.dat (.tuple ds)) (.dat (.int i))=aj (.dat d):=by
 unfold aJ kQ Rz.d?;dsimp only;rw[qe hi h];rfl
theorem du{ds:List PyData}{i:Int}{j:Nat}{d:PyData}(hi:i=(j:Int))(h:ds[j]?= some d):aJ (.dat (.list ds)) (.dat (.int i))=aj (.dat d):=by
 unfold aJ kQ Rz.d?;dsimp only;rw[qe hi h];rfl
theorem wd{ds:List PyData}{i:Int}{j:Nat}{d:PyData}(hi:i=(j:Int))(h:ds[j]?= some d):aJ (.var ds) (.dat (.int i))=aj (.dat d):=by
 unfold aJ kQ Rz.d?;dsimp only;rw[qe hi h];rfl
theorem sB{ds:List PyData}{i:Int}{j:Nat}{d:PyData}(hi:i=(j:Int))(h:ds[j]?= some d):aJ (.new ds) (.dat (.int i))=aj (.dat d):=by
 unfold aJ kQ Rz.d?;dsimp only;rw[qe hi h];rfl
theorem cp{p:PyData}{r:List PyData}:aJ (.dat (.tuple (p::r))) (.dat (.int 0))=aj (.dat p):=iD (j:=0) rfl rfl
theorem cY{p q:PyData}{r:List PyData}:aJ (.dat (.tuple (p::q::r))) (.dat (.int 1))=aj (.dat q):=iD (j:=1) rfl rfl
theorem yz(a b:Int):PyData.eqv (.int a) (.int b)=decide (a=b):=by simp[PyData.eqv,Bool.beq_eq_decide_eq]
theorem bW(a b:Int):aQ false (.dat (.int a)) (.dat (.int b))=aj (.dat (.bool (decide (a=b)))):=by
 have o: ∀x:Int,fu (.int x)=true:=λ_=>rfl
 simp only[aQ,Rz.d?,o,and_self,if_true,yz];rfl
theorem li(a b:Int):aQ true (.dat (.int a)) (.dat (.int b))=aj (.dat (.bool (!decide (a=b)))):=by
 have o: ∀x:Int,fu (.int x)=true:=λ_=>rfl
 simp only[aQ,Rz.d?,o,and_self,if_true,yz]
theorem kU{i j:Int}(h:IntMulOk i j):gI dY (.dat (.int i)) (.dat (.int j))=aj (.dat (.int (i*j))):=by unfold gI dY Rz.d?;dsimp only;rw[aD h]
theorem we{i j:Int}(h:j≠0)(h2:j.natAbs<2^9000):gI di (.dat (.int i)) (.dat (.int j))=aj (.dat (.int (i.fdiv j))):=by unfold gI di Rz.d?;dsimp only;rw[aD ⟨h,h2⟩]
theorem D4{i j:Int}(h:j≠0):gI bO (.dat (.int i)) (.dat (.int j))=aj (.dat (.int (i.fmod j))):=by unfold gI bO Rz.d?;dsimp only;rw[aK h]
theorem fF{i j:Int}(h:0<j):gI bO (.dat (.int i)) (.dat (.int j))=aj (.dat (.int (i%j))):=by
 rw[D4 (by omega),Int.fmod_eq_emod_of_nonneg _ (by omega)]
theorem Bm{i j:Int}(h:0<j)(h2:j<1073741824):gI di (.dat (.int i)) (.dat (.int j))=aj (.dat (.int (i/j))):=by
 rw[we (by omega) (gG (m:=2^30) (by omega) (rM (by decide) (by decide))),Int.fdiv_eq_ediv_of_nonneg _ (by omega)]
theorem vm{a b:Int}(h1: -(2^64)<a)(h2:a<2^64):IntMulOk a b:=IntMulOk.of_left (intBits_le_64 h1 h2)
theorem Jy{a b:Int}(h1: -(2^64)<b)(h2:b<2^64):IntMulOk a b:=IntMulOk.of_right (intBits_le_64 h1 h2)
end D3
namespace D3
open PySem PySem.Spec PyProof.Rows L2 L3
variable [jJ]
section
variable{X:Cx}{E:XK}{K:W.Frag}
def sC(f:Ex->M bN)(zs:List Rz):M Rz:=match zs with
 | [.exc C]=>(match f C with
  |some (.ok (.val d))=>if hI d=true then aj (.dat d) else none
  |_=>none)
 |_=>none
end
end D3
namespace L3
open PySem PySem.Spec PyProof.Rows L2
section
variable{X:Cx}{E:XK}{N':List Str}{x:Str}{scope:Scope}{cl:List (Str×Addr)}{wi:TI}{tt:TT}{te:TE}{elt iter:Expr}{ifs:List Expr}{px pos:Pos}
end
end L3
namespace D3
open PySem PySem.Spec PyProof.Rows L2 L3
variable [jJ]
section
variable{X:Cx}{E:XK}{K:W.Frag}
end
end D3
namespace L3
open PySem PySem.Spec PyProof.Rows L2
end L3
namespace D3
open PySem PySem.Spec PyProof.Rows L2 L3
variable [jJ]
section
variable{X:Cx}{E:XK}{K:W.Frag}
variable{j:Nat}{ea:Addr}
end
section
variable{X:Cx}{E:XK}{K:W.Frag}
def D5(X:Cx)(E:XK)(e:Expr)(f:List Sl->M Rz):Prop:=∃t,AW X e t/\lz X.K E t f
def J2(X:Cx)(E:XK)(tg iter:Expr)(f:List Sl->M (List PyData)):Prop:=∃wi,G5 X tg iter wi/\JY X.K E wi f
def J3(X:Cx)(E:XK)(st:Stmt)(f:List Sl->Option Fl):Prop:=∃t,G4 X st t/\vT X.K E t f
theorem C0{tg e:Expr}{f:List Sl->M Rz}(h:D5 X E e f):J2 X E tg e (fI e7 f):=by
 obtain⟨t,a,b⟩:=h;refine⟨_,CI a,λH0 σ H δ S R r L h q=>?_⟩
 rcases a7 h with⟨x,h1,h⟩ | ⟨C,h1,rfl⟩
 ·refine b H0 σ H δ S _ _ L h1 λv H1 S1 g1 rv=>?_
  unfold e7 at h;split at h
  ·rename_i ds
   cases h;have rv':DV X.K (bj H1 S1) v (.list ds):=rv;cases rv' with
   |lst hs hx=>exact⟨_,rfl,⟨_,b6.seq hs⟩,q _ H1 S1 g1 (pW hs hx)⟩
  ·rename_i ds
   cases h;obtain⟨c,xs,rfl,z,n,hl,hx⟩:=rv;have sc:S c=false:=by
    cases e:S c with
    |false=>rfl
    |true=>obtain⟨ys,w⟩:=L.lst c e;rw[n] at w;cases w
   exact⟨c,rfl,⟨xs,cw.of hl⟩,q _ H1 (D3.del S1 c) (g1.del sc) (pW (cw.of (by rw[cU jN];exact hl)) (aE.same ly hx))⟩
  ·cases h
 ·exact b H0 σ H δ S _ _ L h1 q
theorem E2{n:Nat}{tg iter:Expr}{body:List Stmt}{fi:List Sl->M (List PyData)}{g:PyData->List Sl->Option (List Sl)}{fb:List Sl->Option Fl}{pos:Pos}(Z:lA n X E)(hi:J2 X E tg iter fi)(hg:DG X tg g)(hb:kn X E body fb)
  (hs: ∀x,foldedSetIterable iter X.env x=pure x:=by intro _;rfl):J3 X E (.For tg iter body [] pos) (lC fi g fb):=by
 obtain⟨wi,i1,i2⟩:=hi;obtain⟨tg',g1,g2⟩:=hg;obtain⟨tb,b1,b2⟩:=hb;refine⟨_,EQ Z.po Z.cm i1 g1 b1 hs,λH0 σ H δ S D fl L h q=>?_⟩
 rcases eP h with⟨items,h1,h⟩ | ⟨C,h1,rfl⟩
 ·refine i2 H0 σ H δ S _ _ L h1 λJ H1 S1 e1 it=>?_
  have L1:=(L.ext e1).ground;have base:bh H0 (bj H1 S1):=(L.ext e1).base;refine⟨λi m σ H=>m=items.length-i/\i<=items.length/\∃δ S,aW X.K (bj H1 S1) σ H δ S/\dS g fb (items.drop i) δ=some fl,⟨items.length,by simp,vw _,δ,S1,L1,h⟩,?_⟩;rintro i m σ2 H2 ⟨rfl,hi,δ2,S2,L2,hf⟩
  by_cases hlt:i<items.length
  ·have ei:items[i]?= some items[i]:=gk hlt
   rw[vy hlt] at hf;unfold dS at hf;refine .inr ⟨it.go i H2 L2.old hlt,λ σ' H'=>∃δ' S',aW X.K (bj H1 S1) σ' H' δ' S'/\dS g fb (items.drop (i+1)) δ'=some fl,λ σ' H' z=>⟨items.length- (i+1),by omega,rfl,hlt,z⟩,λx H' y=>?_⟩
   obtain⟨rfl,dx⟩:=it.yld i H2 x H' _ L2.old ei y;split at hf
   ·cases hf
   ·rename_i δ3 e3
    refine g2 _ σ2 H' δ2 δ3 S2 x _ _ L2 (DV.same L2.base dx) e3 λ σ3 L3=>?_
    split at hf
    ·rename_i δ4 e4
     exact b2 _ σ3 H' δ3 S2 _ _ L3 e4 λ σ' H' S' L'=>⟨δ4,S',L',hf⟩
    ·rename_i δ4 e4
     exact b2 _ σ3 H' δ3 S2 _ _ L3 e4 λ σ' H' S' L'=>⟨δ4,S',L',hf⟩
    ·rename_i δ4 e4
     cases hf;refine b2 _ σ3 H' δ3 S2 _ _ L3 e4 λ σ' H' S' L'=>?_
     exact q σ' H' S' ⟨base.trans L'.old,λb h=>base.free (L'.frs b h),L'.lst,L'.len,L'.dat,L'.exc,L'.own,L'.one,L'.two,L'.sep,L'.sop⟩
    ·rename_i r n1 n2 n3
     refine b2 _ σ3 H' δ3 S2 _ fl L3 hf ?_;cases fl with
     |next δ'=>exact absurd hf (n1 δ')
     |cnt δ'=>exact absurd hf (n2 δ')
     |brk δ'=>exact absurd hf (n3 δ')
     |ret o=>exact nC.up base q
     |exc C=>exact λH' s=>q H' (base.trans s)
  ·have e:i=items.length:=by omega
   subst e;rw[Ae] at hf
   cases hf;exact .inl ⟨it.stop _ H2 L2.old (cr _),q σ2 H2 S2 ⟨base.trans L2.old,λb h=>base.free (L2.frs b h),L2.lst,L2.len,L2.dat,L2.exc,L2.own,L2.one,L2.two,L2.sep,L2.sop⟩⟩
 ·exact i2 H0 σ H δ S _ _ L h1 (dZ L q)
theorem Bn{b:Str}{o:Expr}{f:List Sl->M Rz}{KQ:Pos}{jj apos KJ}(ho:D5 X E o f)(hs':starEach [Expr.Constant (.str b) jj KQ] X.env=(false,eval (.Constant (.str b) jj KQ) X.env)::starEach [] X.env:=by rfl)
  (KL:attributeBase o "split" X.env (eval o X.env)=eval o X.env:=by rfl)
  (KT:((backTo KJ (starEach [Expr.Constant (.str b) jj KQ] X.env)).all (λx=>!x.1)&& (backToKw KJ (keywordEach [] X.env)).all (λx=>x.1.isSome)
   && decide ([Expr.Constant (.str b) jj KQ].length+([]:List Keyword).length+(if([]:List Keyword).isEmpty then 0 else 1)<30))=true:=by rfl)
  (KM:(apos.endLine == KJ.line)=true:=by rfl) (KN:(backTo KJ (starEach [] X.env)).any (·.1)=false:=by rfl) :
  D5 X E (.Call (.Attribute o "split" apos) [.Constant (.str b) jj KQ] [] KJ) (fU (c9 b) f):=by
 obtain⟨t,a,k⟩:=ho;refine⟨_,G6 x9 Ad PySem.F.type_str_split vM a (cg ls eZ hs') KL KT KM hs' KN,λH0 σ H δ S Q z L h q=>?_⟩
 rcases a7 h with⟨x,h1,h⟩ | ⟨C,h1,rfl⟩
 ·refine k H0 σ H δ S _ _ L h1 λv H1 S1 g1 rv=>?_
  unfold c9 at h;split at h
  ·rename_i a' e1
   split at h
   ·rename_i hz
    cases h;have d:=rv.full e1;cases d;refine⟨rfl,a',b,rfl,rfl,hz.1,hz.2,λp hp=>?_⟩;exact q _ _ (ins S1 p) (g1.trans (bw.ins hp)) ⟨p,_,rfl,dF,g1.up.free hp,bF,nN _⟩
   ·cases h
  ·cases h
 ·exact k H0 σ H δ S _ _ L h1 q
def nO(b c:Str)(x:Rz):M Rz:=match x.d? with
 |some (.str a)=>if(b == c)=false/\a.length+(a.length+1)*c.length<=16777216 then aj (.dat (.str (Txt.replace a b c))) else none
 |_=>none
theorem E3{b c:Str}{o:Expr}{f:List Sl->M Rz}{j1 j2:Nat}{q1 q2 apos KJ:Pos}(ho:DE X E o f)
  (KL:attributeBase o "replace" X.env (eval o X.env)=eval o X.env:=by rfl)
  (KT:((backTo KJ (starEach [Expr.Constant (.str b) j1 q1,.Constant (.str c) j2 q2] X.env)).all (λx=>!x.1)&& (backToKw KJ (keywordEach [] X.env)).all (λx=>x.1.isSome)
   && decide ([Expr.Constant (.str b) j1 q1,.Constant (.str c) j2 q2].length+([]:List Keyword).length+(if([]:List Keyword).isEmpty then 0 else 1)<30))=true:=by rfl)
  (KM:(apos.endLine == KJ.line)=true:=by rfl) (hs:starEach [Expr.Constant (.str b) j1 q1,.Constant (.str c) j2 q2] X.env=(false,eval (Expr.Constant (.str b) j1 q1) X.env)::starEach [.Constant (.str c) j2 q2] X.env:=by rfl)
  (hs2:starEach [Expr.Constant (.str c) j2 q2] X.env=(false,eval (Expr.Constant (.str c) j2 q2) X.env)::starEach [] X.env:=by rfl) (KN:(backTo KJ (starEach [Expr.Constant (.str c) j2 q2] X.env)).any (·.1)=false:=by rfl) :
  D5 X E (.Call (.Attribute o "replace" apos) [.Constant (.str b) j1 q1,.Constant (.str c) j2 q2] [] KJ) (fU (nO b c) f):=by
 obtain⟨t,a,k⟩:=ho;refine⟨_,ER a KL KT KM hs hs2 KN,λH0 σ H δ S Q z L h q=>?_⟩
 rcases a7 h with⟨x,h1,h⟩ | ⟨C,h1,rfl⟩
 ·refine k H0 σ H δ S _ _ L h1 λv H1 S1 g1 rv=>?_
  unfold nO at h;split at h
  ·rename_i a' e1
   split at h
   ·rename_i hz
    cases h;have d:=rv.full e1;cases d;exact⟨a',rfl,hz.1,hz.2,q _ H1 S1 g1 (.str _)⟩
   ·cases h
  ·cases h
 ·exact k H0 σ H δ S _ _ L h1 q
theorem HH(i:Nat){x:Str}{st:Stmt}{bD:List Stmt}{f g:List Sl->Option Fl}{j:Int}{jj:Nat}{p1 p2 pos pos':Pos}(nd:X.N.Nodup)(h2:J3 X E st f)(h3:kn X E bD g)
  (hi:X.N[i]?= some x:=by rfl) (hx:L2.aW X.env.scope x:=by first |exact Or.inl rfl |exact Or.inr rfl)
  (hs:swapsWith (.UnaryOp .USub (.Constant (.int j) jj p1) p2) (some (.Name x pos')) pos.line X.env=pure false:=by rfl) (hf:X.fn x=true\/X.env.scope.names.lookup x=some .local:=by first |exact .inl rfl |exact .inr rfl) :
  kn X E (.Assign [.Name x pos'] (.UnaryOp .USub (.Constant (.int j) jj p1) p2) pos::st::bD) (ar (aA i (fC (.int (-j)))) (ar f g)):=by
 obtain⟨_,a,b⟩:=h2;obtain⟨_,c,d⟩:=h3;refine⟨_,G7 nd hi hx a c hs hf,vU (A7 λH0 σ H δ S Q z L h q=>?_) (vU b d)⟩;cases h;exact⟨j,rfl,q _ H S .refl (.int _)⟩
def kE(x y:Rz):M Rz:=match x.d?,y.d? with
 |some (.str z),some (.int i)=>if z.length<=sizeLine then(match L2.atI z.cps.toList i with |some c=>aj (.dat (.str ⟨#[c]⟩)) |none=>none) else none
 |_,_=>none
theorem HI:fY K E (GI K) kE:=by
 intro H0 σ H δ S Ha Hb v w x y z Q L rx ry h q;unfold kE at h
 split at h
 ·rename_i a i e1 e2
  split at h
  ·rename_i hz
   split at h
   ·rename_i c e3
    cases h;have d1:=rx.full e1;have d2:=ry.full e2;cases d1;cases d2;exact .inr (.inr ⟨a,i,c,rfl,rfl,hz,e3,q _ H S .refl (.str _)⟩)
   ·cases h
  ·cases h
 ·cases h
theorem Bo{a b:Expr}{fa fb:List Sl->M Rz}{pos:Pos}(ha:DE X E a fa)(hb:DE X E b fb)(hs:tu b:=by exact(λ_ _=>rfl)):DE X E (.Subscript a b pos) (f2 kE fa fb):=
 let⟨_,a1,a2⟩:=ha;let⟨_,b1,b2⟩:=hb;⟨_,y9 vG a1 b1 hs,AX HI a2 b2⟩
def gO(x:Rz)(lo hi:Option Int):M Rz:=match x.d? with
 |some (.str a)=>if(Txt.slice a lo hi).length<=sizeLine then aj (.dat (.str (Txt.slice a lo hi))) else none
 |_=>none
theorem jP:DR K E (λx lo hi H Q=>∃a,x= .str a/\(Txt.slice a lo hi).length<=sizeLine/\Q (.str (Txt.slice a lo hi)) H) gO:=by
 intro H0 σ H δ S Hs v x lo hi z Q L rv h q;unfold gO at h
 split at h
 ·rename_i a e
  split at h
  ·rename_i hz
   cases h;have d:=rv.full e;cases d;exact⟨a,rfl,hz,q _ H S .refl (.str _)⟩
  ·cases h
 ·cases h
theorem E4:fY K E (λx y H Q=>∃i j,x= .str i/\y= .str j/\Q (.bl (!(!(Builtin.Str.occurrences j i 0 j.length 1).isEmpty))) H) (fM true):=by
 intro H0 σ H δ S Ha Hb v w x y z Q L rx ry h q;unfold fM at h
 split at h
 ·rename_i i j e1 e2
  cases h;have d1:=rx.full e1;have d2:=ry.full e2;cases d1;cases d2;exact⟨i,j,rfl,rfl,q _ H S .refl (.bl _)⟩
 ·cases h
theorem E5{k:Str}{i:Int}{a1 a2:Nat}{p1 p2 pos:Pos}:DE X E (.Dict [some (.Constant (.str k) a1 p1)] [.Constant (.int i) a2 p2] pos) (fC (.dict [])):=by
 refine⟨_,EO (CG ls vz EN) rfl rfl (λz=>nomatch z) (by show 1<=15;decide),λH0 σ H δ S Q z L h q p hp=>⟨bF,[(Sum.inr k,.int i)],rfl,by show 1<=15;decide,?_⟩⟩;cases h;rw[Eg];exact q _ _ S (bw.same (iP hp _)) (.dct (h7 L.lst hp))
end
structure vn (P:Program) (w:World) (K:W.Frag) (mg:Str->Option Value) (base:Heap) (k:Nat) (f:Addr) (fd:FuncData) (ps:List Str) (g:Ex->M bN):Prop where
 run: ∀(A:Around) (e0:Addr) (outer:List Env) (s:Shared) (H:Hp) (args:Args) (us:List Value) (ea:Addr) (C:Ex) (Q:VK) (d:PyData),Room k A->vE P w K mg base A outer s H->BindsTo s fd args (ps.zip us)->aZ [.ref ea] us->jd H ea C->g C=some (.ok (.val d))->
  (∀v H',bh H H'->DV K H' v d->Q v H')->codeAny (model P w) (A.mark (some (.ref e0))) (.call (.ref f) args) (λr s'=>match r with | .ok (.ret u)=>CE outer P w H s Q u s' |_=>False) s
 one:ps.length=1
structure zr (P:Program) (w:World) (K:W.Frag) (mg:Str->Option Value) (base:Heap) (k:Nat) (x:Str) (ps:List Str) (g:Ex->M bN):Prop where
 ex: ∃(f:Addr) (fd:FuncData),vn P w K mg base k f fd ps g/\nu K fd ps []/\W.keepIn K (.ref f)=true/\mg x=some (.ref f)
theorem E6{P:Program}{w:World}{K:W.Frag}{mg:Str->Option Value}{base h:Heap}{k:Nat}{x:Str}{st:Stmt}{ps:List Str}{g:Ex->M bN}(X:K.In h)(G:h.Ns mainGlobals mg)(D:bE K x st)
  (hb: ∀(kV doc pm:Value) (an:Option Addr) (cdv ct:Value) (us:List Value),us.length=ps.length->bindArgs (W.fnOf x x (iY st) (fX st) (aH st) .none kV doc pm an cdv ct) ⟨us,[]⟩ =pure (ps.zip us))
  (ok: ∀(f:Addr) (fd:FuncData),c7 K x x st f fd->vn P w K mg base k f fd ps g):zr P w K mg base k x ps g:=by
 obtain⟨f,fd,F,a⟩:=D.ex;exact⟨f,fd,ok f fd F,F.binds hb,F.kp,W.mg_of X G a⟩
theorem HJ{P:Program}{w:World}{K:W.Frag}{mg:Str->Option Value}{base:Heap}{x:Str}{st:Stmt}{f:Addr}{fd:FuncData}{N ps:List Str}{k:Nat}(m:Nat)(body:List Sl->Option Fl)(F:c7 K x x st f fd)(S:bg N ps (aH st))(hn:ps.length=1)(hm:N.length-ps.length=m)
  (hb: ∀(cdv:Value) (A:Around) (outer:List Env) (s:Shared) (H:Hp) (e0:Addr) (xe:Value->Shared->Prop),kn (L3.Cx.inH (jL (bt P w) P w K mg base N x (aH st) f cdv A outer s H E0) e0 xe) E0 (fX st) body) :
  vn P w K mg base (k+1) f fd ps (DZ m body):=by
 subst hm;obtain⟨oc,od,kV,doc,pm,an,cdv,ct,osl,rfl,lk,hcd⟩:=F.ex;refine⟨λA e0 outer s H args us ea C Q d hr v0 hbd r hx hg hq=>?_,hn⟩;have hl:[V.ref ea].length=ps.length:=hn.symm;have KX:K.In s.heap:=v0.mod.kin.keeps λb o e=>(v0.bs b o e).1
 have lim:s.heap.NoLimit:=v0.mod.nolimit.keeps λb o e=>(v0.bs b o e).1
 have hkind: ∀y∈ps.zip us,(aH st).names.lookup y.1=some .local\/((aH st).names.lookup y.1=some .cell/\((cellsFrom (s.heap.objs.size+1) (aH st).names []).lookup y.1).isSome=true):=λ⟨n,v⟩ hy=>by
  rcases S.par n (Do hy).1 with q |q
  ·exact .inl q
  ·exact .inr ⟨q,W.cellsFrom_some _ _ _ (.inl q)⟩
 refine codeAny_call_function (A:=A.mark (some (.ref e0))) hr.depth (KX _ _ lk) rfl S.co S.gen rfl (W.codeRec_of KX hcd) (hbd _ _ _ _ ?_);refine wpAny_newFunctionEnv_cells S.kind hkind λenv he s1 xc=>?_
 subst he;refine⟨lim.keeps xc.toInCall.keep,codeAny_func ?_⟩;obtain⟨t,ht,hrd⟩:=hb cdv A outer s H e0 (λ_ _=>False);have I:ay (jL (bt P w) P w K mg base N x (aH st) f cdv A outer s H E0) [] (a6 N [V.ref ea]) H s1:=uy S hr.hd v0 hl r xc;have L:=zm (K:=K) (N:=N) (m:=N.length-ps.length) hx (by rw[hn]);have hq':t {nx:=λ_ H'=>Q .non H',rt:=Q} (a6 N [V.ref ea]) H:=by
  unfold DZ at hg;split at hg
  ·rename_i o' e1
   cases hg;exact hrd H _ H _ _ _ _ L e1 hq
  ·rename_i δ e1
   cases hg;exact hrd H _ H _ _ _ _ L e1 λ σ' H' S' L'=>hq .non H' L'.old .non
  ·cases hg
  ·cases hg
 refine wpAny_mono (ht [] s1 (a6 N [V.ref ea]) H _ (L3.ay.inH I) hq') (λfl s' hs=>?_) λe s' hs=>False.elim hs
 have fin: ∀{σ':L2.St} {H':Hp} {v:V} {u:Value},ay (L3.Cx.inH (jL (bt P w) P w K mg base N x (aH st) f cdv A outer s H E0) e0 λ_ _=>False) [] σ' H' s'->bG v u->Q v H'->CE outer P w H s Q u s':=
  λ{σ' H' v u} J rv q=>⟨v,H',J.os,J.bare,J.base,J.hok,rv,q⟩
 cases fl with
 |ret u=>
  obtain⟨v,σ',H',J,rv,q⟩:=hs;exact fin J rv q
 |next=>
  obtain⟨σ',H',J,q⟩:=hs;exact fin (v:=V.non) (u:=Value.none) J rfl q
 |brk=>
  obtain⟨_,_,_,q⟩:=hs;exact False.elim q
 |cont=>
  obtain⟨_,_,_,q⟩:=hs;exact False.elim q
section
variable{X:Cx}{K:W.Frag}{ea:Addr}{xe:Value->Shared->Prop}
def rH(K:W.Frag)(f:Ex->M bN)(vs:List V)(H:Hp)(Q:VK):Prop:=∃(e1:Addr) (C:Ex) (d:PyData),vs=[.ref e1]/\jd H e1 C/\f C=some (.ok (.val d))/\∀v H',bh H H'->DV K H' v d->Q v H'
theorem E7{k n:Nat}{x:Str}{ps:List Str}{f:Ex->M bN}{p pos:Pos}{e:Expr}{es:List Expr}{t:TA}(C:zr X.prog X.w X.K X.mg X.base k x ps f)(hr:Room n X.A)(ha:PA (L3.Cx.inH X ea xe) (e::es) t)(hn:k<=n)(hg:Gl X x)(hdb:(x ==("__debug__" :Str))=false)
  (he:starEach (e::es) X.env=(false,eval e X.env)::starEach es X.env) (hpl:(backTo pos (starEach es X.env)).any (·.1)=false) :
  PE (L3.Cx.inH X ea xe) (.Call (.Name x p) (e::es) [] pos) (λ σ H Q=>t σ H λvs H1=>rH X.K f vs H1 Q):=by
 obtain⟨fa,fd,F,b,kp,m⟩:=C.ex;intro pins s σ H Q I h;refine wpAny_Call_Name_kw (k8 I hg m ?_ hdb);refine W.callWith_K (h₀:=X.base) I.ok.mod.kin kp (bn (ha pos pins s σ H _ I h) λus s1 ⟨vs,H1,I1,r,q⟩=>⟨I1.kIn,?_⟩) he hpl;obtain⟨e1,C1,d,rfl,hx,hf,hq⟩:=q;have z:=I1.env0;have hl:(us++[]).length=ps.length:=by rw[ka,<-r.length,F.one];rfl
 have hb:=b s1 us I1.kIn hl;rw[ka] at hb
 refine wpAny_call (codeAny_mono (F.run X.A ea X.stack s1 H1 ⟨us,[]⟩ us e1 C1 Q d (hr.mono hn) ⟨z.frames,z.mod,z.bs,z.bsz,z.funs,z.frf,z.hok,z.bare⟩ hb r hx hf hq) λr s' hq=>?_);cases r with
 |error e=>exact False.elim hq
 |ok fl=>
  cases fl with
  |ret u=>exact I1.after hq
  |next=>exact False.elim hq
  |brk=>exact False.elim hq
  |cont=>exact False.elim hq
theorem HL{E:XK}{f:Ex->M bN}:gu K E (rH K f) (sC f):=by
 intro H0 σ H δ S Hs vs zs z Q L rs h q;unfold sC at h
 split at h
 ·rename_i C
  split at h
  ·rename_i d e
   split at h
   ·rename_i k
    cases h;obtain⟨v,rfl,rv⟩:=CL rs;obtain⟨ea,rfl,hea⟩:=rv;refine⟨ea,C,d,rfl,jd.same b6 hea,e,λv H' g dv=>?_⟩;have gx:bw H S H' S:=bw.same g;exact q v H' S gx (DV.ts (L.ext gx).tk dv k)
   ·cases h
  ·cases h
 ·cases h
theorem E8{k n:Nat}{x:Str}{ps:List Str}{f:Ex->M bN}{p pos:Pos}{e:Expr}{es:List Expr}{fa:List Sl->M (List Rz)}(hr:Room n X.A)(C:zr X.prog X.w X.K X.mg X.base k x ps f)(ha:DA (L3.Cx.inH X ea xe) E0 (e::es) fa)(hn:k<=n:=by decide)
  (hg:Gl X x:=by rfl) (hdb:(x ==("__debug__" :Str))=false:=by decide)
  (he:starEach (e::es) X.env=(false,eval e X.env)::starEach es X.env:=by rfl) (hpl:(backTo pos (starEach es X.env)).any (·.1)=false:=by rfl) :
  DE (L3.Cx.inH X ea xe) E0 (.Call (.Name x p) (e::es) [] pos) (ag (sC f) fa):=
 let⟨_,a,b⟩:=ha;⟨_,E7 C hr a hn hg hdb he hpl,le HL b⟩
end
end D3
abbrev LR:=List Rat
abbrev LP:=List PySem.PyData
abbrev LI:=List Int
namespace Law
open PySem PySem.Spec PyProof.Rows L2 L3 D3
def eR(i:Nat):Stmt:=PySem.Challenge.pw_neverbelow_k58_no_text.main.body.getD i (.Pass ⟨0,0,0,0⟩)
abbrev ib:Stmt:=eR 14
abbrev qP:Stmt:=eR 15
abbrev tQ:Stmt:=eR 16
abbrev wf:Stmt:=eR 17
abbrev nP:Stmt:=eR 20
abbrev kF:Stmt:=eR 24
abbrev lH:Stmt:=eR 25
abbrev mD:Stmt:=eR 26
abbrev lI:Stmt:=eR 27
abbrev kW:Stmt:=eR 28
abbrev pd:Stmt:=eR 29
abbrev nQ:Stmt:=eR 30
abbrev pf:Stmt:=eR 31
abbrev jm:Stmt:=eR 32
abbrev qQ:Stmt:=eR 33
abbrev nR:Stmt:=eR 34
abbrev lJ:Stmt:=eR 35
abbrev jn:Stmt:=eR 36
abbrev kG:Stmt:=eR 37
abbrev lK:Stmt:=eR 38
abbrev lL:Stmt:=eR 40
abbrev lM:Stmt:=eR 41
abbrev mE:Stmt:=eR 42
abbrev kH:Stmt:=eR 43
abbrev lN:Stmt:=eR 44
abbrev mF:Stmt:=eR 45
abbrev lO:Stmt:=eR 46
abbrev mG:Stmt:=eR 47
abbrev mH:Stmt:=eR 48
abbrev mI:Stmt:=eR 49
abbrev lP:Stmt:=eR 50
abbrev lQ:Stmt:=eR 51
abbrev zt:Stmt:=eR 52
abbrev aX(x0 x1 x2:Bool):Tg->Option Bool:=lE [(.exc .NoNumber,x0),(.exc .NoText,x1),(.exc .TooGreat,x2)]
noncomputable section
def jo:List Sl->Option Fl:=(ar (aA 2 (fC (.int 7)))
  (ar (aU (fB (f2 (gI jK) (ag (g1 cW) (aa (ac 0) ak)) (fC (.int 0)))) (aA 2 (f2 aJ (ac 0) (f2 (gI bO) (ac 1) (ag (g1 cW) (aa (ac 0) ak))))) aR)
  (ar (aA 2 (f2 (gI bO) (f2 (gI dY) (f2 (gI dQ) (f2 (gI dQ) (f2 (gI bO) (ac 2) (fC (.int 2147483629))) (f2 (gI dY) (fC (.int 6151)) (ac 1))) (fC (.int 1))) (fC (.int 48271))) (fC (.int 2147483647))))
  (aT (f2 (gI bO) (f2 (gI dY) (ac 2) (f2 (gI dQ) (f2 (gI dQ) (f2 (gI bO) (ac 2) (fC (.int 65519))) (ac 1)) (fC (.int 2)))) (fC (.int 2147483629)))))))
def bH:LP->M bN:=dA 2 1 jo
def j3:List Sl->Option Fl:=(ar (aA 1 (ag dR (aa (fC (.str "")) (aa (fC (.str " ")) (aa (fC (.str "-")) (aa (fC (.str "+")) (aa (fC (.str "0")) (aa (fC (.str "-0")) (aa (fC (.str "00")) (aa (fC (.str "01")) (aa (fC (.str "1")) (aa (fC (.str "-1")) (aa (fC (.str "+1")) (aa (fC (.str "1/1")) (aa (fC (.str "1/0")) (aa (fC (.str "0/1")) (aa (fC (.str "0/2")) (aa (fC (.str "2/4")) (aa (fC (.str "-2/4")) ak)))))))))))))))))))
  (ar (aA 1 (f2 iS (ac 1) (ag dR (aa (fC (.str "1/2")) (aa (fC (.str "3/2")) (aa (fC (.str "-1/2")) (aa (fC (.str "1/-2")) (aa (fC (.str "1 /2")) (aa (fC (.str "1/ 2")) (aa (fC (.str "1//2")) (aa (fC (.str "1/2/3")) (aa (fC (.str "1.5")) (aa (fC (.str "1e3")) (aa (fC (.str "0x1")) (aa (fC (.str "1_0")) (aa (fC (.str "x")) ak))))))))))))))))
  (ar (aA 1 (f2 iS (ac 1) (ag dR (aa (fC (.str "-x")) (aa (fC (.str "+x")) (aa (fC (.str "- x")) (aa (fC (.str "X")) (aa (fC (.str "y")) (aa (fC (.str "1 x")) (aa (fC (.str "0 x")) (aa (fC (.str "-1 x")) (aa (fC (.str "2x")) (aa (fC (.str "2 x")) (aa (fC (.str "2  x")) (aa (fC (.str "2 x ")) (aa (fC (.str " 2 x")) (aa (fC (.str "x^0")) ak)))))))))))))))))
  (ar (aA 1 (f2 iS (ac 1) (ag dR (aa (fC (.str "x^1")) (aa (fC (.str "x^2")) (aa (fC (.str "x^02")) (aa (fC (.str "x^12")) (aa (fC (.str "x^13")) (aa (fC (.str "x ^2")) (aa (fC (.str "x^ 2")) (aa (fC (.str "x^-2")) (aa (fC (.str "x^2/3")) (aa (fC (.str "x2")) (aa (fC (.str "x^")) (aa (fC (.str "x^x")) (aa (fC (.str "x + x")) ak))))))))))))))))
  (ar (aA 1 (f2 iS (ac 1) (ag dR (aa (fC (.str "x + 1")) (aa (fC (.str "1 + x")) (aa (fC (.str "1 - x")) (aa (fC (.str "1 -x")) (aa (fC (.str "1 +x")) (aa (fC (.str "1+ x")) (aa (fC (.str "1+x")) (aa (fC (.str "1 + -x")) (aa (fC (.str "1 - -x")) (aa (fC (.str "1 + + x")) ak)))))))))))))
  (ar (aA 1 (f2 iS (ac 1) (ag dR (aa (fC (.str "1 + x +")) (aa (fC (.str "+ x")) (aa (fC (.str "1 + ")) (aa (fC (.str "1 + 0 x")) (aa (fC (.str "0 + x")) (aa (fC (.str "-0 + x")) (aa (fC (.str "1 + x + x^2")) (aa (fC (.str "1 + x^2 + x")) (aa (fC (.str "x^2 + x^2")) ak))))))))))))
  (ar (aA 1 (f2 iS (ac 1) (ag dR (aa (fC (.str "1 + 2")) (aa (fC (.str "1/2 + 1/2 x")) (aa (fC (.str "2/2 x")) (aa (fC (.str "1/3 x^3")) (aa (fC (.str "-1/3 x^3")) (aa (fC (.str "1 x^2")) (aa (fC (.str "999999999999")) (aa (fC (.str "1000000000000")) ak)))))))))))
  (ar (aA 1 (f2 iS (ac 1) (ag dR (aa (fC (.str "999999999999 x")) (aa (fC (.str "1000000000000 x")) (aa (fC (.str "1/999999999999")) (aa (fC (.str "x*x")) (aa (fC (.str "2 * x")) (aa (fC (.str "2 x 3")) (aa (fC (.str "x 2")) (aa (fC (.str "1\n")) ak)))))))))))
  (ar (aA 1 (f2 iS (ac 1) (ag dR (aa (fC (.str "1 + x\n")) (aa (fC (.str "\t1")) (aa (fC (.str "--1")) (aa (fC (.str "--x")) (aa (fC (.str "1 - 1/2 x - x^12")) (aa (fC (.str "x^2 - x^3")) ak)))))))))
  (aT (f2 aJ (ac 1) (f2 (gI bO) (ac 0) (ag (g1 cW) (aa (ac 1) ak))))))))))))))
def fO:LP->M bN:=dA 1 1 j3
def f':List Sl->Option Fl:=(aU (fZ (fB (fU (mC (lE [(.non,false),(.bl,false),(.int,false),(.lst,false),(.tup,false),(.str,true),(.dct,false)])) (ac 0)))) (iF .NoText (aa (fC (.str "what is no text isn't read")) ak)) aR)
def eo:LP->M bN:=dA 1 0 f'
def eF:List Sl->Option Fl:=(ar (aU (fB (fU (dO "-") (ac 0))) (aT (ag bV (aa (fC (.str "-")) (aa (cJ dz (ac 0) (bi (fC (.int 1))) bL) ak)))) aR)
  (aT (ag bV (aa (fC (.str "+")) (aa (ac 0) ak)))))
def dG:LP->M bN:=dA 1 0 eF
def ix:List Sl->Option Fl:=(ar (aA 1 (ag (gF 1 dG) (aa (ac 0) ak)))
  (vj 2 3 (f2 aJ (ac 1) (fC (.int 0))) (fI e7 (fU (c9 " ") (f2 aJ (ac 1) (fC (.int 1))))) (fB (f2 (m9 false) (ac 3) (ag bV (aa (fC (.str "+")) (aa (fC (.str "-")) ak)))))))
def gA:LP->M bN:=dA 1 3 ix
def sD:List Sl->Option Fl:=(ar (aU (fB (f2 (gI jK) (f2 aJ (ac 0) (fC (.int 0))) (fC (.int 0)))) (aT (fC (.int 1))) aR)
  (ar (aU (fB (f2 (gI oE) (f2 aJ (ac 0) (fC (.int 0))) (fC (.int 0)))) (aT (fU gX (fC (.int 1)))) aR)
  (aT (fC (.int 0)))))
def eS:LP->M bN:=dA 1 0 sD
def kX:List Sl->Option Fl:=(ar (aA 1 (ag (g1 cW) (aa (ac 0) ak)))
  (ar (m6 (fL (fB (f2 (gI jK) (ac 1) (fC (.int 0)))) (fB (f2 (aQ false) (ag (gF 1 eS) (aa (f2 aJ (ac 0) (f2 (gI kD) (ac 1) (fC (.int 1)))) ak)) (fC (.int 0))))) (aA 1 (f2 (gI kD) (ac 1) (fC (.int 1)))))
  (ar (aU (fB (f2 (gI jK) (ac 1) (fC (.int 13)))) (iF .TooGreat (aa (fC (.str "a curve has at most thirteen numbers")) ak)) aR)
  (aT (ag (g1 pU) (aa (cJ gN (ac 0) bL (bi (ac 1))) ak))))))
def jr:LP->M bN:=dA 1 1 kX
def eG:List Sl->Option Fl:=(aU (fB (f2 (aQ true) (ac 0) (ac 1))) (iF .NoText (aa (fC (.str "this is not how it is written")) ak)) aR)
def dH:LP->M bN:=dA 2 0 eG
def dj:List Sl->Option Fl:=(ar (aU (fE (fB (f2 (aQ false) (ac 0) (fC (.str "")))) (fE (fB (f2 (gI jK) (ag (g1 fN) (aa (ac 0) ak)) (fC (.int 12)))) (fZ (fB (ag (g1 (uG tO)) (aa (yn (fI iG (ac 0)) pY (f2 (fM false) (ac 0) (fC (.str "0123456789")))) ak)))))) (iF .NoText (aa (fC (.str "a whole number is written with one to twelve figures")) ak)) aR)
  (aT (ag (g1 nK) (aa (ac 0) ak))))
def ef:LP->M bN:=dA 1 0 dj
def fG:List Sl->Option Fl:=(ar (m6 (fB (f2 (aQ true) (ac 1) (fC (.int 0)))) (ar (aA 2 (f2 (gI bO) (ac 0) (ac 1)))
  (ar (aA 0 (ac 1))
  (aA 1 (ac 2)))))
  (aT (ag (g1 nB) (aa (ac 0) ak))))
def fH:LP->M bN:=dA 2 1 fG
def nS:List Sl->Option Fl:=(ar (aU (fB (f2 (aQ false) (ac 1) (fC (.int 0)))) (iF .NoNumber (aa (fC (.str "a number has no bottom 0")) ak)) aR)
  (ar (aA 2 (ag (gF 2 fH) (aa (ac 0) (aa (ac 1) ak))))
  (ar (aU (fB (f2 (gI oE) (ac 1) (fC (.int 0)))) (aA 2 (fU gX (ac 2))) aR)
  (aT (ag bV (aa (f2 (gI di) (ac 0) (ac 2)) (aa (f2 (gI di) (ac 1) (ac 2)) ak)))))))
def lR:LP->M bN:=dA 2 1 nS
def cP:List Sl->Option Fl:=(ar (aA 1 (fU (j0 "/") (ac 0)))
  (ar (aA 2 (ag (gF 1 ef) (aa (f2 aJ (ac 1) (fC (.int 0))) ak)))
  (ar (aU (fB (f2 (aQ false) (f2 aJ (ac 1) (fC (.int 1))) (fC (.str "")))) (aT (ag bV (aa (ac 2) (aa (fC (.int 1)) ak)))) aR)
  (ar (aA 3 (ag (gF 1 ef) (aa (f2 aJ (ac 1) (fC (.int 2))) ak)))
  (ar (aU (fB (f2 (aQ false) (ac 3) (fC (.int 0)))) (iF .NoText (aa (fC (.str "no bottom is 0")) ak)) aR)
  (aT (ag (gF 2 lR) (aa (ac 2) (aa (ac 3) ak)))))))))
def fJ:LP->M bN:=dA 1 3 cP
def cT:List Sl->Option Fl:=(ar (aU (fB (f2 (aQ false) (ac 0) (fC (.str "x")))) (aT (fC (.int 1))) aR)
  (ar (aU (fZ (fB (fU (dO "x^") (ac 0)))) (iF .NoText (aa (fC (.str "a power is written x, or x^ and figures")) ak)) aR)
  (ar (aA 1 (ag (gF 1 ef) (aa (cJ dz (ac 0) (bi (fC (.int 2))) bL) ak)))
  (ar (aU (fB (f2 (gI Hg) (ac 1) (fC (.int 13)))) (iF .NoText (aa (fC (.str "a power is at most 12")) ak)) aR)
  (aT (ac 1))))))
def gB:LP->M bN:=dA 1 1 cT
def bM:List Sl->Option Fl:=(ar (aU (fL (fB (f2 (aQ false) (ag (g1 cW) (aa (ac 0) ak)) (fC (.int 1)))) (fZ (fB (fU (dO "x") (f2 aJ (ac 0) (fC (.int 0))))))) (aT (ag bV (aa (fC (.int 0)) (aa (ag (gF 1 fJ) (aa (f2 aJ (ac 0) (fC (.int 0))) ak)) ak)))) aR)
  (ar (aU (fB (f2 (aQ false) (ag (g1 cW) (aa (ac 0) ak)) (fC (.int 1)))) (aT (ag bV (aa (ag (gF 1 gB) (aa (f2 aJ (ac 0) (fC (.int 0))) ak)) (aa (fC (.tuple [(.int 1),(.int 1)])) ak)))) aR)
  (ar (aU (fB (f2 (aQ false) (ag (g1 cW) (aa (ac 0) ak)) (fC (.int 2)))) (aT (ag bV (aa (ag (gF 1 gB) (aa (f2 aJ (ac 0) (fC (.int 1))) ak)) (aa (ag (gF 1 fJ) (aa (f2 aJ (ac 0) (fC (.int 0))) ak)) ak)))) aR)
  (iF .NoText (aa (fC (.str "a term is a number, a power, or both with a blank between")) ak)))))
def eY:LP->M bN:=dA 1 0 bM
def qf:List Sl->Option Fl:=(aT (ag (gF 2 lR) (aa (f2 (gI kD) (f2 (gI dY) (f2 aJ (ac 0) (fC (.int 0))) (f2 aJ (ac 1) (fC (.int 1)))) (f2 (gI dY) (f2 aJ (ac 1) (fC (.int 0))) (f2 aJ (ac 0) (fC (.int 1))))) (aa (f2 (gI dY) (f2 aJ (ac 0) (fC (.int 1))) (f2 aJ (ac 1) (fC (.int 1)))) ak))))
def qg:LP->M bN:=dA 2 0 qf
def jQ:List Sl->Option Fl:=(ar (aU (fB (f2 (aQ false) (ac 0) (fC (.str "-")))) (aT (ag (gF 2 qg) (aa (fC (.tuple [(.int 0),(.int 1)])) (aa (ac 1) ak)))) aR)
  (aT (ac 1)))
def fg:LP->M bN:=dA 2 0 jQ
def fD:List Sl->Option Fl:=(ar (aU (fB (f2 (aQ false) (f2 aJ (ac 0) (fC (.int 1))) (fC (.int 1)))) (aT (ag (g1 kT) (aa (f2 aJ (ac 0) (fC (.int 0))) ak))) aR)
  (aT (f2 eB (f2 eB (ag (g1 kT) (aa (f2 aJ (ac 0) (fC (.int 0))) ak)) (fC (.str "/"))) (ag (g1 kT) (aa (f2 aJ (ac 0) (fC (.int 1))) ak)))))
def dk:LP->M bN:=dA 1 0 fD
def js:List Sl->Option Fl:=(ar (aU (fB (f2 (aQ false) (ac 0) (fC (.int 1)))) (aT (fC (.str "x"))) aR)
  (aT (f2 eB (fC (.str "x^")) (ag (g1 kT) (aa (ac 0) ak)))))
def ic:LP->M bN:=dA 1 0 js
def j4:List Sl->Option Fl:=(ar (aU (fB (f2 (aQ false) (ac 1) (fC (.int 0)))) (aT (ag (gF 1 dk) (aa (ac 0) ak))) aR)
  (ar (aU (fB (f2 (aQ false) (ac 0) (fC (.tuple [(.int 1),(.int 1)])))) (aT (ag (gF 1 ic) (aa (ac 1) ak))) aR)
  (aT (f2 eB (f2 eB (ag (gF 1 dk) (aa (ac 0) ak)) (fC (.str " "))) (ag (gF 1 ic) (aa (ac 1) ak))))))
def gM:LP->M bN:=dA 2 0 j4
def jt:List Sl->Option Fl:=(ar (aA 1 (fC (.str "")))
  (ar (lC (fR vV (aa (ag (g1 cW) (aa (ac 0) ak)) ak)) (cL 2) (ar (aA 3 (f2 aJ (ac 0) (ac 2)))
  (ar (aU (fB (f2 (aQ false) (ag (gF 1 eS) (aa (ac 3) ak)) (fC (.int 0)))) CO aR)
  (ar (aU (fB (f2 (aQ true) (ac 1) (fC (.str "")))) (aA 1 (f2 eB (ac 1) (sh (fB (f2 (gI oE) (ag (gF 1 eS) (aa (ac 3) ak)) (fC (.int 0)))) (fC (.str " - ")) (fC (.str " + "))))) (aU (fB (f2 (gI oE) (ag (gF 1 eS) (aa (ac 3) ak)) (fC (.int 0)))) (aA 1 (fC (.str "-"))) aR))
  (aA 1 (f2 eB (ac 1) (ag (gF 2 gM) (aa (ag bV (aa (ag (g1 nB) (aa (f2 aJ (ac 3) (fC (.int 0))) ak)) (aa (f2 aJ (ac 3) (fC (.int 1))) ak))) (aa (ac 2) ak)))))))))
  (aT (sh (fB (f2 (aQ true) (ac 1) (fC (.str "")))) (ac 1) (fC (.str "0"))))))
def ie:LP->M bN:=dA 1 3 jt
def cK:List Sl->Option Fl:=(ar (ji (ag (gF 1 eo) (aa (ac 0) ak)))
  (ar (aA 1 (f2 tI (ag dR (aa (fC (.tuple [(.int 0),(.int 1)])) ak)) (fC (.int 13))))
  (ar (lC (fI e7 (ag (gF 1 gA) (aa (ac 0) ak))) (cL 2) (ar (aA 4 (ag (gF 1 eY) (aa (cJ gN (ac 2) (bi (fC (.int 1))) bL) ak)))
  (mB 1 (ag (gF 2 fg) (aa (f2 aJ (ac 2) (fC (.int 0))) (aa (f2 aJ (ac 4) (fC (.int 1))) ak))) (f2 aJ (ac 4) (fC (.int 0))))))
  (ar (aA 3 (ag (gF 1 jr) (aa (ac 1) ak)))
  (ar (ji (ag (gF 2 dH) (aa (ac 0) (aa (ag (gF 1 ie) (aa (ac 3) ak)) ak))))
  (aT (ac 3)))))))
def ce:LP->M bN:=dA 1 4 cK
def cx:List Sl->Option Fl:=(ar (ji (ag (gF 1 eo) (aa (ac 0) ak)))
  (ar (aA 1 (ag (gF 1 dG) (aa (ac 0) ak)))
  (ar (aA 2 (ag (gF 2 fg) (aa (f2 aJ (ac 1) (fC (.int 0))) (aa (ag (gF 1 fJ) (aa (f2 aJ (ac 1) (fC (.int 1))) ak)) ak))))
  (ar (ji (ag (gF 2 dH) (aa (ac 0) (aa (ag (gF 1 dk) (aa (ac 2) ak)) ak))))
  (aT (ac 2))))))
def bY:LP->M bN:=dA 1 2 cx
def ig:List Sl->Option Fl:=(ar (aU (fB (fU (mC (aX true false true)) (ac 0))) (aT (fC (.bool false))) aR)
  (aT (fV (fL (fB (fU (mC (aX false true false)) (ac 0))) (fB (fU (mC (aX true true true)) (ac 0)))))))
def dI:Ex->M bN:=DZ 0 ig
def gb:List Sl->Option Fl:=(ar (aA 3 (fC .none))
  (ar (aA 4 (fC (.bool false)))
  (ar (nM (λn=>decide (n∈([Ex.NoNumber,Ex.NoText,Ex.TooGreat]:List Ex))) (gz (sy (fB (ac 2)) (gz (ia (gF 1 ce) (aa (ac 0) ak) (jk 3)) fT) (gz (ia (gF 1 bY) (aa (ac 0) ak) (jk 3)) fT)) fT) 5 (aA 4 (ag (sC dI) (aa (ac 5) ak))))
  (ar (aU (fB (f2 (jf false) (ac 1) (fC .none))) (aT (fV (fL (fB (f2 (jf false) (ac 3) (fC .none))) (fB (ac 4))))) aR)
  (aT (fV (fL (fB (fU (mC (lE [(.non,false),(.bl,false),(.int,false),(.lst,false),(.tup,true),(.str,false),(.dct,false)])) (ac 3))) (fB (f2 (aQ false) (ac 3) (ac 1))))))))))
def bo:LP->M bN:=dA 3 3 gb
def j5:List Sl->Option Fl:=(ar (aA 2 (fC (.str "0123456789x^/+- ")))
  (ar (aU (fB (f2 (aQ false) (f2 (gI bO) (f2 (gI di) (ac 1) (fC (.int 5))) (fC (.int 3))) (fC (.int 0)))) (aA 2 (fC (.str "abXyz.,*()=_~!?\n\t'e"))) aR)
  (ar (aA 3 (f2 kE (ac 2) (f2 (gI bO) (f2 (gI di) (ac 1) (fC (.int 15))) (ag (g1 fN) (aa (ac 2) ak)))))
  (ar (aA 4 (f2 (gI bO) (f2 (gI di) (ac 1) (fC (.int 700))) (f2 (gI dQ) (ag (g1 fN) (aa (ac 0) ak)) (fC (.int 1)))))
  (ar (aA 5 (fU (c9 " ") (ac 0)))
  (ar (aA 6 (f2 (gI bO) (f2 (gI di) (ac 1) (fC (.int 700))) (ag (g1 cW) (aa (ac 5) ak))))
  (ar (aU (fB (f2 (aQ false) (f2 (gI bO) (ac 1) (fC (.int 5))) (fC (.int 0)))) (aT (f2 eB (cJ gO (ac 0) bL (bi (ac 4))) (cJ dz (ac 0) (bi (f2 (gI dQ) (ac 4) (fC (.int 1)))) bL))) aR)
  (ar (aU (fB (f2 (aQ false) (f2 (gI bO) (ac 1) (fC (.int 5))) (fC (.int 1)))) (aT (f2 eB (f2 eB (cJ gO (ac 0) bL (bi (ac 4))) (ac 3)) (cJ dz (ac 0) (bi (ac 4)) bL))) aR)
  (ar (aU (fB (f2 (aQ false) (f2 (gI bO) (ac 1) (fC (.int 5))) (fC (.int 2)))) (aT (f2 eB (f2 eB (cJ gO (ac 0) bL (bi (ac 4))) (ac 3)) (cJ dz (ac 0) (bi (f2 (gI dQ) (ac 4) (fC (.int 1)))) bL))) aR)
  (ar (aU (fB (f2 (aQ false) (f2 (gI bO) (ac 1) (fC (.int 5))) (fC (.int 3)))) (aT (fU (qc " ") (f2 pZ (cJ gN (ac 5) bL (bi (ac 6))) (cJ gN (ac 5) (bi (f2 (gI dQ) (ac 6) (fC (.int 1)))) bL)))) aR)
  (aT (fU (qc " ") (f2 iS (f2 pZ (cJ gN (ac 5) bL (bi (ac 6))) (ag dR (aa (f2 aJ (ag dR (aa (fC (.str "x")) (aa (fC (.str "+")) (aa (fC (.str "-")) (aa (fC (.str "2")) (aa (fC (.str "x^2")) (aa (fC (.str "1/2")) (aa (fC (.str "")) (aa (fC (.str "0")) ak))))))))) (f2 (gI bO) (f2 (gI di) (ac 1) (fC (.int 15))) (fC (.int 8)))) ak))) (cJ gN (ac 5) (bi (ac 6)) bL))))))))))))))
def dE:LP->M bN:=dA 2 5 j5
def j6:List Sl->Option Fl:=(ar (aA 1 (ag dR (aa (fC (.str "3")) (aa (fC (.str "-1/2")) (aa (fC (.str "0")) (aa (fC (.str "12/7")) (aa (fC (.str "x")) (aa (fC (.str "-x^2")) (aa (fC (.str "1 - 3/4 x")) (aa (fC (.str "-2 + x^3")) (aa (fC (.str "1/2 x + 5 x^2 - x^7")) (aa (fC (.str "7 x^10 - x^11")) ak))))))))))))
  (ar (zi 1 (fC (.str "10")))
  (aT (f2 aJ (ac 1) (f2 (gI bO) (ac 0) (ag (g1 cW) (aa (ac 1) ak)))))))
def fP:LP->M bN:=dA 1 1 j6
def dJ:List Sl->Option Fl:=(ar (aU (fE (fB (f2 (aQ false) (ag (g1 fN) (aa (ac 0) ak)) (fC (.int 0)))) (fE (fB (f2 (gI jK) (ag (g1 fN) (aa (ac 0) ak)) (fC (.int 12)))) (fL (fB (f2 (aQ false) (f2 kE (ac 0) (fC (.int 0))) (fC (.str "0")))) (fB (f2 (gI jK) (ag (g1 fN) (aa (ac 0) ak)) (fC (.int 1))))))) (aT (fC .none)) aR)
  (ar (lC (fI iG (ac 0)) (cL 1) (aU (fB (f2 (fM true) (ac 1) (fC (.str "0123456789")))) (aT (fC .none)) aR))
  (aT (ag (g1 nK) (aa (ac 0) ak)))))
def bI:LP->M bN:=dA 1 1 dJ
def cF:List Sl->Option Fl:=(ar (tK (sk (h8 (cL 5) (h8 (cL 6) (h8 (cL 7) sj))) 3) (fU (j0 "/") (ac 0)))
  (ar (aA 1 (ag (gF 1 bI) (aa (ac 5) ak)))
  (ar (aA 2 (fC (.int 1)))
  (ar (aU (fB (f2 (aQ false) (ac 6) (fC (.str "/")))) (aA 2 (ag (gF 1 bI) (aa (ac 7) ak))) aR)
  (ar (aU (fE (fB (f2 (jf false) (ac 1) (fC .none))) (fE (fB (f2 (jf false) (ac 2) (fC .none))) (fL (fB (f2 (aQ false) (ac 6) (fC (.str "/")))) (fB (f2 (gI oE) (ac 2) (fC (.int 2))))))) (aT (fC .none)) aR)
  (ar (aA 3 (ac 1))
  (ar (aA 4 (ac 2))
  (ar (m6 (fB (f2 (aQ true) (ac 4) (fC (.int 0)))) (tL 3 4 (aa (ac 4) (aa (f2 (gI bO) (ac 3) (ac 4)) ak))))
  (ar (aU (fB (f2 (aQ true) (ac 3) (fC (.int 1)))) (aT (fC .none)) aR)
  (aT (ag bV (aa (ac 1) (aa (ac 2) ak)))))))))))))
def da:LP->M bN:=dA 1 7 cF
def cy:List Sl->Option Fl:=(ar (aU (fB (f2 (aQ true) (cJ gO (ac 0) bL (bi (fC (.int 1)))) (fC (.str "-")))) (aT (ag (gF 1 da) (aa (ac 0) ak))) aR)
  (ar (aA 1 (ag (gF 1 da) (aa (cJ dz (ac 0) (bi (fC (.int 1))) bL) ak)))
  (ar (aU (fE (fB (f2 (jf false) (ac 1) (fC .none))) (fB (f2 (aQ false) (f2 aJ (ac 1) (fC (.int 0))) (fC (.int 0))))) (aT (fC .none)) aR)
  (aT (ag bV (aa (f2 (gI kD) (fC (.int 0)) (f2 aJ (ac 1) (fC (.int 0)))) (aa (f2 aJ (ac 1) (fC (.int 1))) ak)))))))
def dn:LP->M bN:=dA 1 1 cy
def db:List Sl->Option Fl:=(ar (aU (fB (f2 (aQ false) (ac 0) (fC (.str "x")))) (aT (fC (.int 1))) aR)
  (ar (aA 1 (ag (gF 1 bI) (aa (cJ dz (ac 0) (bi (fC (.int 2))) bL) ak)))
  (ar (aU (fE (fB (f2 (aQ true) (cJ gO (ac 0) bL (bi (fC (.int 2)))) (fC (.str "x^")))) (fE (fB (f2 (jf false) (ac 1) (fC .none))) (fE (fB (f2 (gI oE) (ac 1) (fC (.int 2)))) (fB (f2 (gI jK) (ac 1) (fC (.int 12))))))) (aT (fC .none)) aR)
  (aT (ac 1)))))
def eu:LP->M bN:=dA 1 1 db
def bC:List Sl->Option Fl:=(ar (aA 1 (fU (c9 " ") (ac 0)))
  (ar (aU (fL (fB (f2 (aQ false) (ag (g1 cW) (aa (ac 1) ak)) (fC (.int 1)))) (fB (f2 (aQ false) (cJ gO (ac 0) bL (bi (fC (.int 1)))) (fC (.str "x"))))) (aA 2 (ag bV (aa (ag bV (aa (fC (.int 1)) (aa (fC (.int 1)) ak))) (aa (ag (gF 1 eu) (aa (ac 0) ak)) ak)))) (aU (fB (f2 (aQ false) (ag (g1 cW) (aa (ac 1) ak)) (fC (.int 1)))) (aA 2 (ag bV (aa (ag (gF 1 da) (aa (ac 0) ak)) (aa (fC (.int 0)) ak)))) (aU (fB (f2 (aQ false) (ag (g1 cW) (aa (ac 1) ak)) (fC (.int 2)))) (ar (aA 2 (ag bV (aa (ag (gF 1 da) (aa (f2 aJ (ac 1) (fC (.int 0))) ak)) (aa (ag (gF 1 eu) (aa (f2 aJ (ac 1) (fC (.int 1))) ak)) ak))))
  (aU (fB (f2 (aQ false) (f2 aJ (ac 2) (fC (.int 0))) (ag bV (aa (fC (.int 1)) (aa (fC (.int 1)) ak))))) (aT (fC .none)) aR)) (aT (fC .none)))))
  (ar (aU (fE (fB (f2 (jf false) (f2 aJ (ac 2) (fC (.int 0))) (fC .none))) (fE (fB (f2 (jf false) (f2 aJ (ac 2) (fC (.int 1))) (fC .none))) (fB (f2 (aQ false) (f2 aJ (f2 aJ (ac 2) (fC (.int 0))) (fC (.int 0))) (fC (.int 0)))))) (aT (fC .none)) aR)
  (aT (ac 2)))))
def fQ:LP->M bN:=dA 1 2 bC
def de:List Sl->Option Fl:=(ar (aU (fB (f2 (aQ false) (ac 0) (fC (.str "0")))) (aT (ag bV ak)) aR)
  (ar (aU (fB (f2 (fM false) (fC (.str "+ -")) (ac 0))) (aT (fC .none)) aR)
  (ar (aA 1 (f2 tI (ag dR (aa (ag bV (aa (fC (.int 0)) (aa (fC (.int 1)) ak))) ak)) (fC (.int 13))))
  (ar (aA 2 (fC (.int (-1))))
  (ar (lC (fI e7 (fU (c9 " + ") (fU (nO " - " " + -") (ac 0)))) (cL 3) (ar (aA 4 (f2 (aQ false) (cJ gO (ac 3) bL (bi (fC (.int 1)))) (fC (.str "-"))))
  (ar (aA 5 (ag (gF 1 fQ) (aa (cJ dz (ac 3) (bi (ag (g1 kS) (aa (ac 4) ak))) bL) ak)))
  (ar (aU (fE (fB (f2 (jf false) (ac 5) (fC .none))) (fB (f2 (gI DP) (f2 aJ (ac 5) (fC (.int 1))) (ac 2)))) (aT (fC .none)) aR)
  (ar (aA 2 (f2 aJ (ac 5) (fC (.int 1))))
  (mB 1 (ag bV (aa (f2 (gI dY) (f2 aJ (ag dR (aa (fC (.int 1)) (aa (fU gX (fC (.int 1))) ak))) (ag (g1 kS) (aa (ac 4) ak))) (f2 aJ (f2 aJ (ac 5) (fC (.int 0))) (fC (.int 0)))) (aa (f2 aJ (f2 aJ (ac 5) (fC (.int 0))) (fC (.int 1))) ak))) (ac 2)))))))
  (ar (m6 (fB (f2 (aQ false) (f2 aJ (f2 aJ (ac 1) (fU gX (fC (.int 1)))) (fC (.int 0))) (fC (.int 0)))) (tN 1))
  (aT (ag (g1 pU) (aa (ac 1) ak)))))))))
def dL:LP->M bN:=dA 1 5 de
def vo:List Sl->Option Fl:=(ar (lC (fR vV (aa (fC (.int 4)) ak)) (cL 1) (ar (aA 3 (ag (gF 2 bH) (aa (ac 0) (aa (f2 (gI dQ) (f2 (gI dY) (fC (.int 10)) (ac 1)) (fC (.int 1))) ak))))
  (ar (aA 4 (ag (gF 1 fO) (aa (ac 3) ak)))
  (ar (aU (fB (f2 (aQ false) (f2 (gI bO) (ac 1) (fC (.int 2))) (fC (.int 1)))) (ar (aA 4 (ag (gF 2 dE) (aa (ag (gF 1 fP) (aa (ac 3) ak)) (aa (ag (gF 2 bH) (aa (ac 0) (aa (f2 (gI dQ) (f2 (gI dY) (fC (.int 10)) (ac 1)) (fC (.int 2))) ak))) ak))))
  (aU (fB (f2 (aQ false) (f2 (gI bO) (f2 (gI di) (ac 3) (fC (.int 20))) (fC (.int 3))) (fC (.int 0)))) (aA 4 (ag (gF 2 dE) (aa (ac 4) (aa (ag (gF 2 bH) (aa (ac 0) (aa (f2 (gI dQ) (f2 (gI dY) (fC (.int 10)) (ac 1)) (fC (.int 3))) ak))) ak)))) aR)) aR)
  (aU (fE (fZ (fB (ag (gF 3 bo) (aa (ac 4) (aa (ag (gF 1 dn) (aa (ac 4) ak)) (aa (fC (.bool false)) ak)))))) (fZ (fB (ag (gF 3 bo) (aa (ac 4) (aa (ag (gF 1 dL) (aa (ac 4) ak)) (aa (fC (.bool true)) ak))))))) (aT (fC (.bool false))) aR)))))
  (ar (aA 2 (f2 aJ (ag dR (aa (fC .none) (aa (fC (.int 7)) (aa (fC (.bool true)) (aa (yp (ag dR (aa (fC (.str "x")) ak))) (aa (ag bV (aa (fC (.str "x")) ak)) (aa (ag bV (aa (fC (.int 1)) (aa (fC (.int 2)) ak))) (aa (fC (.dict [])) (aa (yp (ag dR ak)) (aa (fC (.bool false)) (aa (ag bV (aa (ag bV (aa (fC (.int 1)) (aa (fC (.int 1)) ak))) ak)) ak))))))))))) (f2 (gI bO) (ag (gF 2 bH) (aa (ac 0) (aa (fC (.int 5)) ak))) (fC (.int 10)))))
  (ar (aU (fE (fZ (fB (ag (gF 3 bo) (aa (ac 2) (aa (fC .none) (aa (fC (.bool false)) ak)))))) (fZ (fB (ag (gF 3 bo) (aa (ac 2) (aa (fC .none) (aa (fC (.bool true)) ak))))))) (aT (fC (.bool false))) aR)
  (aT (fV (fL (fB (ag (gF 3 bo) (aa (fC (.str "-3/2")) (aa (ag bV (aa (fU gX (fC (.int 3))) (aa (fC (.int 2)) ak))) (aa (fC (.bool false)) ak))))) (fB (ag (gF 3 bo) (aa (fC (.str "1 - x")) (aa (ag bV (aa (ag bV (aa (fC (.int 1)) (aa (fC (.int 1)) ak))) (aa (ag bV (aa (fU gX (fC (.int 1))) (aa (fC (.int 1)) ak))) ak))) (aa (fC (.bool true)) ak)))))))))))
def D6:LP->M bN:=dA 1 4 vo
end
section
variable [jJ]
structure b7 (K:W.Frag) (mg:Str->Option Value):Prop where
 m_len:mg "len" =none
 m_isinstance:mg "isinstance" =none
 m_str:mg "str" =none
 ik_str:ym K (.ty "str") (lE [(.non,false),(.bl,false),(.int,false),(.lst,false),(.tup,false),(.str,true),(.dct,false)])
 m_NoText:mg "NoText" =some (.ref (b4 .NoText))
 q_NoText:W.excIn K (b4 .NoText) [.type "ValueError",.type "Exception",.type "BaseException",.type "object"] "ValueError.__new__" =true
 c_MOST_NUMBERS:nJ K mg "MOST_NUMBERS" (.int 13)
 m_TooGreat:mg "TooGreat" =some (.ref (b4 .TooGreat))
 q_TooGreat:W.excIn K (b4 .TooGreat) [.type "ValueError",.type "Exception",.type "BaseException",.type "object"] "ValueError.__new__" =true
 m_tuple:mg "tuple" =none
 c_MOST_FIGURES:nJ K mg "MOST_FIGURES" (.int 12)
 c_FIGURES:nJ K mg "FIGURES" (.str "0123456789")
 m_all:mg "all" =none
 m_int:mg "int" =none
 m_abs:mg "abs" =none
 m_NoNumber:mg "NoNumber" =some (.ref (b4 .NoNumber))
 q_NoNumber:W.excIn K (b4 .NoNumber) [.type "ValueError",.type "Exception",.type "BaseException",.type "object"] "ValueError.__new__" =true
 c_ONE:nJ K mg "ONE" (.tuple [(.int 1),(.int 1)])
 c_NOUGHT:nJ K mg "NOUGHT" (.tuple [(.int 0),(.int 1)])
 m_range:mg "range" =none
 m_NoCurve:mg "NoCurve" =some (.ref (b4 .NoCurve))
 m_NoName:mg "NoName" =some (.ref (b4 .NoName))
 m_NoNear:mg "NoNear" =some (.ref (b4 .NoNear))
 m_NoPieces:mg "NoPieces" =some (.ref (b4 .NoPieces))
 m_NoRow:mg "NoRow" =some (.ref (b4 .NoRow))
 m_NoStretch:mg "NoStretch" =some (.ref (b4 .NoStretch))
 ik_NoCurve_NoName_NoNear_NoNumber_NoPieces_NoRow_NoStretch_TooGreat:CQ K [(.ref (b4 .NoCurve)),(.ref (b4 .NoName)),(.ref (b4 .NoNear)),(.ref (b4 .NoNumber)),(.ref (b4 .NoPieces)),(.ref (b4 .NoRow)),(.ref (b4 .NoStretch)),(.ref (b4 .TooGreat))] (aX true false true)
 ik_NoText:ym K (.ref (b4 .NoText)) (aX false true false)
 m_ValueError:mg "ValueError" =none
 ik_ValueError:ym K (.ty "ValueError") (aX true true true)
 m_BelowError:mg "BelowError" =some (.ref (b4 .BelowError))
 ck_BelowError:qL K (b4 .BelowError) (λn=>decide (n∈([Ex.NoNumber,Ex.NoText,Ex.TooGreat]:List Ex)))
 ik_tuple:ym K (.ty "tuple") (lE [(.non,false),(.bl,false),(.int,false),(.lst,false),(.tup,true),(.str,false),(.dct,false)])
abbrev gC:List Str:=["figures"]
section
variable(P:Program)(w:World)(K:W.Frag)(mg:Str->Option Value)(base:Heap)
abbrev mq:=d8 P w K mg base (bt P w) 1 "sign_and_rest" ["text"] (bJ K 1 dG)
abbrev Bp:=d8 P w K mg base (bt P w) 1 "sign" ["one"] (bJ K 1 eS)
abbrev pg:=d8 P w K mg base (bt P w) 1 "greatest_divisor" ["one","other"] (bJ K 2 fH)
abbrev sE:=d8 P w K mg base (bt P w) 1 "whole_in" ["figures"] (bJ K 1 ef)
abbrev wg:=d8 P w K mg base (bt P w) 2 "number" ["top","bottom"] (bJ K 2 lR)
abbrev uJ:=d8 P w K mg base (bt P w) 3 "size_in" ["text"] (bJ K 1 fJ)
abbrev zu:=d8 P w K mg base (bt P w) 2 "power_in" ["word"] (bJ K 1 gB)
abbrev E9:=d8 P w K mg base (bt P w) 3 "minus" ["one","other"] (bJ K 2 qg)
abbrev oG:=d8 P w K mg base (bt P w) 1 "show_number" ["one"] (bJ K 1 dk)
abbrev wj:=d8 P w K mg base (bt P w) 1 "show_power" ["place"] (bJ K 1 ic)
abbrev xG:=d8 P w K mg base (bt P w) 2 "show_term" ["size","place"] (bJ K 2 gM)
abbrev ph:=d8 P w K mg base (bt P w) 1 "check_text" ["text"] (bJ K 1 eo)
abbrev zv:=d8 P w K mg base (bt P w) 2 "terms_in" ["text"] (bJ K 1 gA)
abbrev zw:=d8 P w K mg base (bt P w) 2 "curve_of" ["numbers"] (bJ K 1 jr)
abbrev mr:=d8 P w K mg base (bt P w) 1 "check_written" ["text","told"] (bJ K 2 dH)
abbrev Bq:=d8 P w K mg base (bt P w) 4 "term_in" ["words"] (bJ K 1 eY)
abbrev wk:=d8 P w K mg base (bt P w) 4 "signed" ["word","size"] (bJ K 2 fg)
abbrev wm:=d8 P w K mg base (bt P w) 3 "show_curve" ["curve"] (bJ K 1 ie)
abbrev wq:=d8 P w K mg base (bt P w) 5 "read_curve" ["text"] (bJ K 1 ce)
abbrev uQ:=d8 P w K mg base (bt P w) 5 "read_number" ["text"] (bJ K 1 bY)
abbrev pi:=d8 P w K mg base (bt P w) 1 "_law_whole" ["_law_text"] (bJ K 1 bI)
abbrev qv:=d8 P w K mg base (bt P w) 2 "_law_size" ["_law_text"] (bJ K 1 da)
abbrev wt:=d8 P w K mg base (bt P w) 2 "_law_power" ["_law_word"] (bJ K 1 eu)
abbrev xH:=d8 P w K mg base (bt P w) 3 "_law_term" ["_law_term_here"] (bJ K 1 fQ)
abbrev wu:=d8 P w K mg base (bt P w) 1 "_law_mixed" ["_law_script","_law_k"] (bJ K 2 bH)
abbrev xI:=d8 P w K mg base (bt P w) 1 "_law_near" ["_law_cell"] (bJ K 1 fO)
abbrev ww:=d8 P w K mg base (bt P w) 6 "_law_right" ["_law_thing","_law_due","_law_as_curve"] (bJ K 3 bo)
abbrev xJ:=d8 P w K mg base (bt P w) 1 "_law_bent" ["_law_text","_law_cell"] (bJ K 2 dE)
abbrev xK:=d8 P w K mg base (bt P w) 1 "_law_good" ["_law_cell"] (bJ K 1 fP)
abbrev uR:=d8 P w K mg base (bt P w) 3 "_law_number" ["_law_text"] (bJ K 1 dn)
abbrev wx:=d8 P w K mg base (bt P w) 4 "_law_curve" ["_law_text"] (bJ K 1 dL)
end
local macro_rules | `(tactic| walk_at "sc")=> `(tactic| exact⟨rfl,rfl,rfl,by decide +kernel,rfl,by decide +kernel,by decide +kernel⟩)
variable{P:Program}{w:World}{K:W.Frag}{mg:Str->Option Value}{base:Heap}{f:Addr}{fd:FuncData}
theorem iL:bg ["_law_script","_law_k","_law_cell"] ["_law_script","_law_k"] (aH lL):=by walk_at "sc"
theorem uS(A:b7 K mg)(F:c7 K "_law_mixed" "_law_mixed" lL f fd):b5 P w K mg base (bt P w) 1 f fd ["_law_script","_law_k"] (bJ K 2 bH):=
 cE 2 1 jo F iL rfl rfl λcdv AA outer s H E Z=>
  (aq (aL 2 iL.nd am)
  (aq (bd (aI ml mn (b8 cz f8 A.m_len i8 (ad (af 0) ap)) am) (aw (aL 2 iL.nd (a8 (af 0) (aF cM c8 (af 1) (b8 cz f8 A.m_len i8 (ad (af 0) ap)))))) aS)
  (aq (aL 2 iL.nd (aF cM c8 (aF gL iE (aF gY hZ (aF gY hZ (aF cM c8 (af 2) am) (aF gL iE am (af 1))) am) am) am))
  (aw (aM (aF cM c8 (aF gL iE (af 2) (aF gY hZ (aF gY hZ (aF cM c8 (af 2) am) (af 1)) am)) am))))))
theorem df:bg ["_law_cell","_law_some"] ["_law_cell"] (aH mG):=by walk_at "sc"
theorem wy(A:b7 K mg)(F:c7 K "_law_near" "_law_near" mG f fd):b5 P w K mg base (bt P w) 1 f fd ["_law_cell"] (bJ K 1 fO):=
 cE 1 1 j3 F df rfl rfl λcdv AA outer s H E Z=>
  (aq (aL 1 df.nd (dW (ad ao (ad ao (ad ao (ad ao (ad ao (ad ao (ad ao (ad ao (ad ao (ad ao (ad ao (ad ao (ad ao (ad ao (ad ao (ad ao (ad ao ap)))))))))))))))))))
  (aq (aL 1 df.nd (aF jc jg (af 1) (dW (ad ao (ad ao (ad ao (ad ao (ad ao (ad ao (ad ao (ad ao (ad ao (ad ao (ad ao (ad ao (ad ao ap))))))))))))))))
  (aq (aL 1 df.nd (aF jc jg (af 1) (dW (ad ao (ad ao (ad ao (ad ao (ad ao (ad ao (ad ao (ad ao (ad ao (ad ao (ad ao (ad ao (ad ao (ad ao ap)))))))))))))))))
  (aq (aL 1 df.nd (aF jc jg (af 1) (dW (ad ao (ad ao (ad ao (ad ao (ad ao (ad ao (ad ao (ad ao (ad ao (ad ao (ad ao (ad ao (ad ao ap))))))))))))))))
  (aq (aL 1 df.nd (aF jc jg (af 1) (dW (ad ao (ad ao (ad ao (ad ao (ad ao (ad ao (ad ao (ad ao (ad ao (ad ao ap)))))))))))))
  (aq (aL 1 df.nd (aF jc jg (af 1) (dW (ad ao (ad ao (ad ao (ad ao (ad ao (ad ao (ad ao (ad ao (ad ao ap))))))))))))
  (aq (aL 1 df.nd (aF jc jg (af 1) (dW (ad ao (ad ao (ad ao (ad ao (ad ao (ad ao (ad ao (ad ao ap)))))))))))
  (aq (aL 1 df.nd (aF jc jg (af 1) (dW (ad ao (ad ao (ad ao (ad ao (ad ao (ad ao (ad ao (ad ao ap)))))))))))
  (aq (aL 1 df.nd (aF jc jg (af 1) (dW (ad ao (ad ao (ad ao (ad ao (ad ao (ad ao ap)))))))))
  (aw (aM (a8 (af 1) (aF cM c8 (af 0) (b8 cz f8 A.m_len i8 (ad (af 1) ap)))))))))))))))
theorem uT:bg ["text"] ["text"] (aH lJ):=by walk_at "sc"
theorem uU(A:b7 K mg)(F:c7 K "check_text" "check_text" lJ f fd):b5 P w K mg base (bt P w) 1 f fd ["text"] (bJ K 1 eo):=
 cE 1 0 f' F uT rfl rfl λcdv AA outer s H E Z=>
  (aw (bd (km (hX (su A.m_isinstance A.ik_str (af 0) (sV (v:= .ty "str") rfl A.m_str Ag rfl)))) (aw (gv .NoText Z A.m_NoText A.q_NoText (ad ao ap))) aS))
theorem qR:bg ["text"] ["text"] (aH jm):=by walk_at "sc"
theorem qS(A:b7 K mg)(F:c7 K "sign_and_rest" "sign_and_rest" jm f fd):b5 P w K mg base (bt P w) 1 f fd ["text"] (bJ K 1 dG):=
 cE 1 0 eF F qR rfl rfl λcdv AA outer s H E Z=>
  (aq (bd (hX (o8 (af 0))) (aw (aM (cC (ad ao (ad (cf kh kq (af 0) (cO am) cN) ap))))) aS)
  (aw (aM (cC (ad ao (ad (af 0) ap))))))
theorem qw:bg ["text","parts","found","word"] ["text"] (aH nR):=by walk_at "sc"
theorem xL(A:b7 K mg)(eK:mq P w K mg base)(F:c7 K "terms_in" "terms_in" nR f fd):b5 P w K mg base (bt P w) 2 f fd ["text"] (bJ K 1 gA):=
 cE 1 3 ix F qw rfl rfl λcdv AA outer s H E Z=>
  (aq (aL 1 qw.nd (aO Z eK (ad (af 0) ap)))
  (CZ 2 3 Z (a8 (af 1) am) (yl (qN (a8 (af 1) am))) (aI (hm:=rfl) (GZ Z.rm.units66) Jt (af 3) (cC (ad ao (ad ao ap)))) (by decide)))
theorem Fa:bg ["one"] ["one"] (aH wf):=by walk_at "sc"
theorem Fb(A:b7 K mg)(F:c7 K "sign" "sign" wf f fd):b5 P w K mg base (bt P w) 1 f fd ["one"] (bJ K 1 eS):=
 cE 1 0 sD F Fa rfl rfl λcdv AA outer s H E Z=>
  (aq (bd (aI ml mn (a8 (af 0) am) am) (aw (aM am)) aS)
  (aq (bd (aI pO pS (a8 (af 0) am) am) (aw (aM (m7 am))) aS)
  (aw (aM am))))
theorem mJ:bg ["numbers","size"] ["numbers"] (aH nP):=by walk_at "sc"
theorem xM(A:b7 K mg)(kC:Bp P w K mg base)(F:c7 K "curve_of" "curve_of" nP f fd):b5 P w K mg base (bt P w) 2 f fd ["numbers"] (bJ K 1 jr):=
 cE 1 1 kX F mJ rfl rfl λcdv AA outer s H E Z=>
  (aq (aL 1 mJ.nd (b8 cz f8 A.m_len i8 (ad (af 0) ap)))
  (aq (nF Z (DW.pt (o4 (aI ml mn (af 1) am) (m5 (aI (bx Z.rm.units) bX (aO Z kC (ad (a8 (af 0) (aF rR si (af 1) am)) ap)) am)))) (aw (aL 1 mJ.nd (aF rR si (af 1) am))))
  (aq (bd (aI ml mn (af 1) (gy A.c_MOST_NUMBERS)) (aw (gv .TooGreat Z A.m_TooGreat A.q_TooGreat (ad ao ap))) aS)
  (aw (aM (eX oA vS A.m_tuple boot_tuple (ad (cf k9 lf (af 0) cN (cO (af 1))) ap)))))))
theorem qT:bg ["text","told"] ["text","told"] (aH jn):=by walk_at "sc"
theorem qU(A:b7 K mg)(F:c7 K "check_written" "check_written" jn f fd):b5 P w K mg base (bt P w) 1 f fd ["text","told"] (bJ K 2 dH):=
 cE 2 0 eG F qT rfl rfl λcdv AA outer s H E Z=>
  (aw (bd (aI (kg Z.rm.units) mo (af 0) (af 1)) (aw (gv .NoText Z A.m_NoText A.q_NoText (ad ao ap))) aS))
theorem xN:bg gC gC (aH kW):=by walk_at "sc"
theorem xO(A:b7 K mg)(F:c7 K "whole_in" "whole_in" kW f fd):b5 P w K mg base (bt P w) 1 f fd gC (bJ K 1 ef):=
 cE 1 0 dj F xN rfl rfl λcdv AA outer s H E Z=>
  (aq (bd (DW.pt (gt (aI (bx Z.rm.units) bX (af 0) ao) (gt (aI ml mn (b8 fW lg A.m_len i8 (ad (af 0) ap)) (gy A.c_MOST_FIGURES)) (je (km (hX (b8 (xD Z.cm) Hw A.m_all PyProof.Rows.boot_all (ad (Hv (N':=gC) Z (λ_ h=>qE h) (by show m8 gC _ _ (aH kW)=true;decide +kernel) (by show zk gC gC _ _=true;decide +kernel) (DI.c (Bg (af 0))) (λ_ _ _ _ _ Z=>CS) (λ_ _ _ _ _ Z=>(r9 (hm:=rfl) ur Be (af 0) (gy A.c_FIGURES)))) ap)))))))) (aw (gv .NoText Z A.m_NoText A.q_NoText (ad ao ap))) aS)
  (aw (aM (eX oC yr A.m_int boot_int (ad (af 0) ap)))))
theorem fm:bg ["one","other","rest"] ["one","other"] (aH ib):=by walk_at "sc"
theorem oK(A:b7 K mg)(F:c7 K "greatest_divisor" "greatest_divisor" ib f fd):b5 P w K mg base (bt P w) 1 f fd ["one","other"] (bJ K 2 fH):=
 cE 2 1 fG F fm rfl rfl λcdv AA outer s H E Z=>
  (aq (nF Z (aI (kg Z.rm.units) mo (af 1) am) (aq (aL 2 fm.nd (aF cM c8 (af 0) (af 1)))
  (aq (aL 0 fm.nd (af 1))
  (aw (aL 1 fm.nd (af 2))))))
  (aw (aM (b8 vD A4 A.m_abs PyProof.Rows.boot_abs (ad (af 0) ap)))))
theorem pj:bg ["top","bottom","divisor"] ["top","bottom"] (aH qP):=by walk_at "sc"
theorem Br(A:b7 K mg)(il:pg P w K mg base)(F:c7 K "number" "number" qP f fd):b5 P w K mg base (bt P w) 2 f fd ["top","bottom"] (bJ K 2 lR):=
 cE 2 1 nS F pj rfl rfl λcdv AA outer s H E Z=>
  (aq (bd (aI (bx Z.rm.units) bX (af 1) am) (aw (gv .NoNumber Z A.m_NoNumber A.q_NoNumber (ad ao ap))) aS)
  (aq (aL 2 pj.nd (aO Z il (ad (af 0) (ad (af 1) ap))))
  (aq (bd (aI pO pS (af 1) am) (aw (aL 2 pj.nd (m7 (af 2)))) aS)
  (aw (aM (cC (ad (aF gZ i4 (af 0) (af 2)) (ad (aF gZ i4 (af 1) (af 2)) ap))))))))
theorem kY:bg ["text","parts","top","bottom"] ["text"] (aH pd):=by walk_at "sc"
theorem zA(A:b7 K mg)(gE:sE P w K mg base)(jW:wg P w K mg base)(F:c7 K "size_in" "size_in" pd f fd):b5 P w K mg base (bt P w) 3 f fd ["text"] (bJ K 1 fJ):=
 cE 1 3 cP F kY rfl rfl λcdv AA outer s H E Z=>
  (aq (aL 1 kY.nd (yt (af 0)))
  (aq (aL 2 kY.nd (aO Z gE (ad (a8 (af 1) am) ap)))
  (aq (bd (aI (bx Z.rm.units) bX (a8 (af 1) am) ao) (aw (aM (cC (ad (af 2) (ad am ap))))) aS)
  (aq (aL 3 kY.nd (aO Z gE (ad (a8 (af 1) am) ap)))
  (aq (bd (aI (bx Z.rm.units) bX (af 3) am) (aw (gv .NoText Z A.m_NoText A.q_NoText (ad ao ap))) aS)
  (aw (aM (aO Z jW (ad (af 2) (ad (af 3) ap))))))))))
theorem qx:bg ["word","found"] ["word"] (aH nQ):=by walk_at "sc"
theorem xP(A:b7 K mg)(gE:sE P w K mg base)(F:c7 K "power_in" "power_in" nQ f fd):b5 P w K mg base (bt P w) 2 f fd ["word"] (bJ K 1 gB):=
 cE 1 1 cT F qx rfl rfl λcdv AA outer s H E Z=>
  (aq (bd (aI (bx Z.rm.units) bX (af 0) ao) (aw (aM am)) aS)
  (aq (bd (km (hX (o8 (af 0)))) (aw (gv .NoText Z A.m_NoText A.q_NoText (ad ao ap))) aS)
  (aq (aL 1 qx.nd (aO Z gE (ad (cf kh kq (af 0) (cO am) cN) ap)))
  (aq (bd (aI IW Jq (af 1) (gy A.c_MOST_NUMBERS)) (aw (gv .NoText Z A.m_NoText A.q_NoText (ad ao ap))) aS)
  (aw (aM (af 1)))))))
theorem zB:bg ["words"] ["words"] (aH pf):=by walk_at "sc"
theorem zC(A:b7 K mg)(ip:uJ P w K mg base)(k7:zu P w K mg base)(F:c7 K "term_in" "term_in" pf f fd):b5 P w K mg base (bt P w) 4 f fd ["words"] (bJ K 1 eY):=
 cE 1 0 bM F zB rfl rfl λcdv AA outer s H E Z=>
  (aq (bd (DW.pt (o4 (aI (bx Z.rm.units) bX (b8 cz f8 A.m_len i8 (ad (af 0) ap)) am) (m5 (km (hX (o8 (a8 (af 0) am))))))) (aw (aM (cC (ad am (ad (aO Z ip (ad (a8 (af 0) am) ap)) ap))))) aS)
  (aq (bd (aI (bx Z.rm.units) bX (b8 cz f8 A.m_len i8 (ad (af 0) ap)) am) (aw (aM (cC (ad (aO Z k7 (ad (a8 (af 0) am) ap)) (ad (gy A.c_ONE) ap))))) aS)
  (aq (bd (aI (bx Z.rm.units) bX (b8 cz f8 A.m_len i8 (ad (af 0) ap)) am) (aw (aM (cC (ad (aO Z k7 (ad (a8 (af 0) am) ap)) (ad (aO Z ip (ad (a8 (af 0) am) ap)) ap))))) aS)
  (aw (gv .NoText Z A.m_NoText A.q_NoText (ad ao ap))))))
theorem C2:bg ["one","other"] ["one","other"] (aH tQ):=by walk_at "sc"
theorem C3(A:b7 K mg)(jW:wg P w K mg base)(F:c7 K "minus" "minus" tQ f fd):b5 P w K mg base (bt P w) 3 f fd ["one","other"] (bJ K 2 qg):=
 cE 2 0 qf F C2 rfl rfl λcdv AA outer s H E Z=>
  (aw (aM (aO Z jW (ad (aF rR si (aF gL iE (a8 (af 0) am) (a8 (af 1) am)) (aF gL iE (a8 (af 1) am) (a8 (af 0) am))) (ad (aF gL iE (a8 (af 0) am) (a8 (af 1) am)) ap)))))
theorem Bs:bg ["word","size"] ["word","size"] (aH qQ):=by walk_at "sc"
theorem Bt(A:b7 K mg)(ug:E9 P w K mg base)(F:c7 K "signed" "signed" qQ f fd):b5 P w K mg base (bt P w) 4 f fd ["word","size"] (bJ K 2 fg):=
 cE 2 0 jQ F Bs rfl rfl λcdv AA outer s H E Z=>
  (aq (bd (aI (bx Z.rm.units) bX (af 0) ao) (aw (aM (aO Z ug (ad (gy A.c_NOUGHT) (ad (af 1) ap))))) aS)
  (aw (aM (af 1))))
theorem tR:bg ["one"] ["one"] (aH kF):=by walk_at "sc"
theorem tT(A:b7 K mg)(F:c7 K "show_number" "show_number" kF f fd):b5 P w K mg base (bt P w) 1 f fd ["one"] (bJ K 1 dk):=
 cE 1 0 fD F tR rfl rfl λcdv AA outer s H E Z=>
  (aq (bd (aI (bx Z.rm.units) bX (a8 (af 0) am) am) (aw (aM (eX jb qb A.m_str Ag (ad (a8 (af 0) am) ap)))) aS)
  (aw (aM (aF dh fA (aF dh fA (eX jb qb A.m_str Ag (ad (a8 (af 0) am) ap)) ao) (eX jb qb A.m_str Ag (ad (a8 (af 0) am) ap))))))
theorem uV:bg ["place"] ["place"] (aH lH):=by walk_at "sc"
theorem uW(A:b7 K mg)(F:c7 K "show_power" "show_power" lH f fd):b5 P w K mg base (bt P w) 1 f fd ["place"] (bJ K 1 ic):=
 cE 1 0 js F uV rfl rfl λcdv AA outer s H E Z=>
  (aq (bd (aI (bx Z.rm.units) bX (af 0) am) (aw (aM ao)) aS)
  (aw (aM (aF dh fA ao (eX jb qb A.m_str Ag (ad (af 0) ap))))))
theorem wA:bg ["size","place"] ["size","place"] (aH mD):=by walk_at "sc"
theorem wB(A:b7 K mg)(eO:oG P w K mg base)(jC:wj P w K mg base)(F:c7 K "show_term" "show_term" mD f fd):b5 P w K mg base (bt P w) 2 f fd ["size","place"] (bJ K 2 gM):=
 cE 2 0 j4 F wA rfl rfl λcdv AA outer s H E Z=>
  (aq (bd (aI (bx Z.rm.units) bX (af 1) am) (aw (aM (aO Z eO (ad (af 0) ap)))) aS)
  (aq (bd (aI (bx Z.rm.units) bX (af 0) (gy A.c_ONE)) (aw (aM (aO Z jC (ad (af 1) ap)))) aS)
  (aw (aM (aF dh fA (aF dh fA (aO Z eO (ad (af 0) ap)) ao) (aO Z jC (ad (af 1) ap)))))))
theorem eL:bg ["curve","found","place","one"] ["curve"] (aH lI):=by walk_at "sc"
theorem uX(A:b7 K mg)(kC:Bp P w K mg base)(mM:xG P w K mg base)(F:c7 K "show_curve" "show_curve" lI f fd):b5 P w K mg base (bt P w) 3 f fd ["curve"] (bJ K 1 ie):=
 cE 1 3 jt F eL rfl rfl λcdv AA outer s H E Z=>
  (aq (aL 1 eL.nd ao)
  (aq (ss Z (uE A.m_range (ad (b8 cz f8 A.m_len i8 (ad (af 0) ap)) ap)) (i5 2 eL.nd) (aq (aL 3 eL.nd (a8 (af 0) (af 2)))
  (aq (bd (aI (bx Z.rm.units) bX (aO Z kC (ad (af 3) ap)) am) (aw xF) aS)
  (aq (bd (aI (kg Z.rm.units) mo (af 1) ao) (aw (aL 1 eL.nd (aF dh fA (af 1) (vQ (aI pO pS (aO Z kC (ad (af 3) ap)) am) ao ao)))) (aw (bd (aI pO pS (aO Z kC (ad (af 3) ap)) am) (aw (aL 1 eL.nd ao)) aS)))
  (aw (aL 1 eL.nd (aF dh fA (af 1) (aO Z mM (ad (cC (ad (b8 vD A4 A.m_abs PyProof.Rows.boot_abs (ad (a8 (af 3) am) ap)) (ad (a8 (af 3) am) ap))) (ad (af 2) ap))))))))))
  (aw (aM (vQ (aI (kg Z.rm.units) mo (af 1) ao) (af 1) ao)))))
theorem gJ:bg ["text","numbers","words","found","term"] ["text"] (aH lK):=by walk_at "sc"
theorem uY(A:b7 K mg)(gg:ph P w K mg base)(oa:zv P w K mg base)(n9:zw P w K mg base)(eJ:mr P w K mg base)(pJ:Bq P w K mg base)(jX:wk P w K mg base)(mf:wm P w K mg base)(F:c7 K "read_curve" "read_curve" lK f fd):b5 P w K mg base (bt P w) 5 f fd ["text"] (bJ K 1 ce):=
 cE 1 4 cK F gJ rfl rfl λcdv AA outer s H E Z=>
  (aq (pV (aO Z gg (ad (af 0) ap)))
  (aq (aL 1 gJ.nd (aF AJ A3 (dW (ad (gy A.c_NOUGHT) ap)) (gy A.c_MOST_NUMBERS)))
  (aq (ss Z (yl (aO Z oa (ad (af 0) ap))) (i5 2 gJ.nd) (aq (aL 4 gJ.nd (aO Z pJ (ad (cf k9 lf (af 2) (cO am) cN) ap)))
  (aw (Ba 1 (aO Z jX (ad (a8 (af 2) am) (ad (a8 (af 4) am) ap))) (a8 (af 4) am)))))
  (aq (aL 3 gJ.nd (aO Z n9 (ad (af 1) ap)))
  (aq (pV (aO Z eJ (ad (af 0) (ad (aO Z mf (ad (af 3) ap)) ap))))
  (aw (aM (af 3))))))))
theorem jR:bg ["text","parts","found"] ["text"] (aH kG):=by walk_at "sc"
theorem tU(A:b7 K mg)(gg:ph P w K mg base)(eK:mq P w K mg base)(jX:wk P w K mg base)(eJ:mr P w K mg base)(ip:uJ P w K mg base)(eO:oG P w K mg base)(F:c7 K "read_number" "read_number" kG f fd):b5 P w K mg base (bt P w) 5 f fd ["text"] (bJ K 1 bY):=
 cE 1 2 cx F jR rfl rfl λcdv AA outer s H E Z=>
  (aq (pV (aO Z gg (ad (af 0) ap)))
  (aq (aL 1 jR.nd (aO Z eK (ad (af 0) ap)))
  (aq (aL 2 jR.nd (aO Z jX (ad (a8 (af 1) am) (ad (aO Z ip (ad (a8 (af 1) am) ap)) ap))))
  (aq (pV (aO Z eJ (ad (af 0) (ad (aO Z eO (ad (af 2) ap)) ap))))
  (aw (aM (af 2)))))))
theorem uZ:bg ["_law_error"] ["_law_error"] (aH lP):=by walk_at "sc"
theorem u0(A:b7 K mg)(F:c7 K "_law_class" "_law_class" lP f fd):vn P w K mg base 1 f fd ["_law_error"] dI:=
 HJ 0 ig F uZ rfl rfl λcdv AA outer s H e0 xe=>
  (aq (bd (hX (Hq A.m_isinstance A.ik_NoCurve_NoName_NoNear_NoNumber_NoPieces_NoRow_NoStretch_TooGreat (by show 8<=sizeLine;decide) (af 0) (cg (gK (v:= .ref (b4 .NoCurve)) rfl A.m_NoCurve rfl) (cg (gK (v:= .ref (b4 .NoName)) rfl A.m_NoName rfl) (cg (gK (v:= .ref (b4 .NoNear)) rfl A.m_NoNear rfl) (cg (gK (v:= .ref (b4 .NoNumber)) rfl A.m_NoNumber rfl) (cg (gK (v:= .ref (b4 .NoPieces)) rfl A.m_NoPieces rfl) (cg (gK (v:= .ref (b4 .NoRow)) rfl A.m_NoRow rfl) (cg (gK (v:= .ref (b4 .NoStretch)) rfl A.m_NoStretch rfl) (cg (gK (v:= .ref (b4 .TooGreat)) rfl A.m_TooGreat rfl) eZ)))))))))) (aw (aM iK)) aS)
  (aw (aM (sf (su A.m_isinstance A.ik_NoText (af 0) (gK (v:= .ref (b4 .NoText)) rfl A.m_NoText rfl)) (se (su A.m_isinstance A.ik_ValueError (af 0) (sV (v:= .ty "ValueError") rfl A.m_ValueError sx rfl)))))))
theorem iM:bg ["_law_thing","_law_due","_law_as_curve","_law_found","_law_refused","e"] ["_law_thing","_law_due","_law_as_curve"] (aH lQ):=by walk_at "sc"
theorem u6(A:b7 K mg)(me:wq P w K mg base)(kI:uQ P w K mg base)(K1:zr P w K mg base 1 "_law_class" ["_law_error"] dI)(F:c7 K "_law_right" "_law_right" lQ f fd):b5 P w K mg base (bt P w) 6 f fd ["_law_thing","_law_due","_law_as_curve"] (bJ K 3 bo):=
 cE 3 3 gb F iM rfl rfl λcdv AA outer s H E Z=>
  (aq (aL 3 iM.nd cR)
  (aq (aL 4 iM.nd iK)
  (aq (E1 5 Z (qM (Jx (hX (af 2)) (qM (v6 3 Z me (ad (af 0) ap)) tP) (qM (v6 3 Z kI (ad (af 0) ap)) tP)) tP) A.ck_BelowError A.m_BelowError (λ_ _=>(aw (aL 4 iM.nd (E8 Z.rm K1 (ad (af 5) ap))))) rfl rfl)
  (aq (bd (aI ja kR (af 1) cR) (aw (aM (sf (r9 ja kR (af 3) cR) (se (af 4))))) aS)
  (aw (aM (sf (su A.m_isinstance A.ik_tuple (af 3) (sV (v:= .ty "tuple") rfl A.m_tuple PyProof.Rows.boot_tuple rfl)) (se (r9 (bx Z.rm.units) bX (af 3) (af 1))))))))))
theorem fj:bg ["_law_text","_law_cell","_law_signs","_law_mark","_law_at","_law_words","_law_k"] ["_law_text","_law_cell"] (aH mI):=by walk_at "sc"
theorem wC(A:b7 K mg)(F:c7 K "_law_bent" "_law_bent" mI f fd):b5 P w K mg base (bt P w) 1 f fd ["_law_text","_law_cell"] (bJ K 2 dE):=
 cE 2 5 j5 F fj rfl rfl λcdv AA outer s H E Z=>
  (aq (aL 2 fj.nd ao)
  (aq (bd (aI (bx Z.rm.units) bX (aF cM c8 (aF gZ i4 (af 1) am) am) am) (aw (aL 2 fj.nd ao)) aS)
  (aq (aL 3 fj.nd (Bo (af 2) (aF cM c8 (aF gZ i4 (af 1) am) (b8 fW lg A.m_len i8 (ad (af 2) ap)))))
  (aq (aL 4 fj.nd (aF cM c8 (aF gZ i4 (af 1) am) (aF gY hZ (b8 fW lg A.m_len i8 (ad (af 0) ap)) am)))
  (aq (aL 5 fj.nd (qN (af 0)))
  (aq (aL 6 fj.nd (aF cM c8 (aF gZ i4 (af 1) am) (b8 cz f8 A.m_len i8 (ad (af 5) ap))))
  (aq (bd (aI (bx Z.rm.units) bX (aF cM c8 (af 1) am) am) (aw (aM (aF dh fA (cf jM jP (af 0) cN (cO (af 4))) (cf kh kq (af 0) (cO (aF gY hZ (af 4) am)) cN)))) aS)
  (aq (bd (aI (bx Z.rm.units) bX (aF cM c8 (af 1) am) am) (aw (aM (aF dh fA (aF dh fA (cf jM jP (af 0) cN (cO (af 4))) (af 3)) (cf kh kq (af 0) (cO (af 4)) cN)))) aS)
  (aq (bd (aI (bx Z.rm.units) bX (aF cM c8 (af 1) am) am) (aw (aM (aF dh fA (aF dh fA (cf jM jP (af 0) cN (cO (af 4))) (af 3)) (cf kh kq (af 0) (cO (aF gY hZ (af 4) am)) cN)))) aS)
  (aq (bd (aI (bx Z.rm.units) bX (aF cM c8 (af 1) am) am) (aw (aM (yq (aF yg yo (cf k9 lf (af 5) cN (cO (af 6))) (cf k9 lf (af 5) (cO (aF gY hZ (af 6) am)) cN))))) aS)
  (aw (aM (yq (aF jc jg (aF yg yo (cf k9 lf (af 5) cN (cO (af 6))) (dW (ad (a8 (dW (ad ao (ad ao (ad ao (ad ao (ad ao (ad ao (ad ao (ad ao ap))))))))) (aF cM c8 (aF gZ i4 (af 1) am) am)) ap))) (cf k9 lf (af 5) (cO (af 6)) cN)))))))))))))))
theorem pk:bg ["_law_cell","_law_some"] ["_law_cell"] (aH mH):=by walk_at "sc"
theorem wD(A:b7 K mg)(F:c7 K "_law_good" "_law_good" mH f fd):b5 P w K mg base (bt P w) 1 f fd ["_law_cell"] (bJ K 1 fP):=
 cE 1 1 j6 F pk rfl rfl λcdv AA outer s H E Z=>
  (aq (aL 1 pk.nd (dW (ad ao (ad ao (ad ao (ad ao (ad ao (ad ao (ad ao (ad ao (ad ao (ad ao ap))))))))))))
  (aq (A9 1 ao)
  (aw (aM (a8 (af 1) (aF cM c8 (af 0) (b8 cz f8 A.m_len i8 (ad (af 1) ap))))))))
theorem oH:bg ["_law_text","_law_figure"] ["_law_text"] (aH lM):=by walk_at "sc"
theorem u7(A:b7 K mg)(F:c7 K "_law_whole" "_law_whole" lM f fd):b5 P w K mg base (bt P w) 1 f fd ["_law_text"] (bJ K 1 bI):=
 cE 1 1 dJ F oH rfl rfl λcdv AA outer s H E Z=>
  (aq (bd (DW.pt (gt (aI (bx Z.rm.units) bX (b8 fW lg A.m_len i8 (ad (af 0) ap)) am) (gt (aI ml mn (b8 fW lg A.m_len i8 (ad (af 0) ap)) am) (je (DW.pt (o4 (aI (bx Z.rm.units) bX (Bo (af 0) am) ao) (m5 (aI ml mn (b8 fW lg A.m_len i8 (ad (af 0) ap)) am)))))))) (aw (aM cR)) aS)
  (aq (ss Z (Bg (af 0)) (i5 1 oH.nd) (aw (bd (aI (hm:=rfl) vC E4 (af 1) ao) (aw (aM cR)) aS)))
  (aw (aM (eX oC yr A.m_int boot_int (ad (af 0) ap))))))
theorem dg:bg ["_law_text","_law_top","_law_bottom","_law_one","_law_other","_law_first","_law_bar","_law_last"] ["_law_text"] (aH mE):=by walk_at "sc"
theorem wE(A:b7 K mg)(KR:pi P w K mg base)(F:c7 K "_law_size" "_law_size" mE f fd):b5 P w K mg base (bt P w) 2 f fd ["_law_text"] (bJ K 1 da):=
 cE 1 7 cF F dg rfl rfl λcdv AA outer s H E Z=>
  (aq (Hj (yt (af 0)) (Hi Z (qI (i5 5 dg.nd) (qI (i5 6 dg.nd) (qI (i5 7 dg.nd) ET)))))
  (aq (aL 1 dg.nd (aO Z KR (ad (af 5) ap)))
  (aq (aL 2 dg.nd am)
  (aq (bd (aI (bx Z.rm.units) bX (af 6) ao) (aw (aL 2 dg.nd (aO Z KR (ad (af 7) ap)))) aS)
  (aq (bd (DW.pt (gt (aI ja kR (af 1) cR) (gt (aI ja kR (af 2) cR) (je (DW.pt (o4 (aI (bx Z.rm.units) bX (af 6) ao) (m5 (aI pO pS (af 2) am)))))))) (aw (aM cR)) aS)
  (aq (aL 3 dg.nd (af 1))
  (aq (aL 4 dg.nd (af 2))
  (aq (nF Z (aI (kg Z.rm.units) mo (af 4) am) (aw (Hk 3 4 Z (ad (af 4) (ad (aF cM c8 (af 3) (af 4)) ap)) (λ_ h=>Gu rfl dg.nd rfl rfl (by decide) rfl rfl h rfl))))
  (aq (bd (aI (kg Z.rm.units) mo (af 3) am) (aw (aM cR)) aS)
  (aw (aM (cC (ad (af 1) (ad (af 2) ap))))))))))))))
theorem nh:bg ["_law_text","_law_found"] ["_law_text"] (aH kH):=by walk_at "sc"
theorem tV(A:b7 K mg)(KP:qv P w K mg base)(F:c7 K "_law_number" "_law_number" kH f fd):b5 P w K mg base (bt P w) 3 f fd ["_law_text"] (bJ K 1 dn):=
 cE 1 1 cy F nh rfl rfl λcdv AA outer s H E Z=>
  (aq (bd (aI (kg Z.rm.units) mo (cf jM jP (af 0) cN (cO am)) ao) (aw (aM (aO Z KP (ad (af 0) ap)))) aS)
  (aq (aL 1 nh.nd (aO Z KP (ad (cf kh kq (af 0) (cO am) cN) ap)))
  (aq (bd (DW.pt (gt (aI ja kR (af 1) cR) (je (aI (bx Z.rm.units) bX (a8 (af 1) am) am)))) (aw (aM cR)) aS)
  (aw (aM (cC (ad (aF rR si am (a8 (af 1) am)) (ad (a8 (af 1) am) ap))))))))
theorem oI:bg ["_law_word","_law_found"] ["_law_word"] (aH lN):=by walk_at "sc"
theorem u8(A:b7 K mg)(KR:pi P w K mg base)(F:c7 K "_law_power" "_law_power" lN f fd):b5 P w K mg base (bt P w) 2 f fd ["_law_word"] (bJ K 1 eu):=
 cE 1 1 db F oI rfl rfl λcdv AA outer s H E Z=>
  (aq (bd (aI (bx Z.rm.units) bX (af 0) ao) (aw (aM am)) aS)
  (aq (aL 1 oI.nd (aO Z KR (ad (cf kh kq (af 0) (cO am) cN) ap)))
  (aq (bd (DW.pt (gt (aI (kg Z.rm.units) mo (cf jM jP (af 0) cN (cO am)) ao) (gt (aI ja kR (af 1) cR) (gt (aI pO pS (af 1) am) (je (aI ml mn (af 1) am)))))) (aw (aM cR)) aS)
  (aw (aM (af 1))))))
theorem ij:bg ["_law_term_here","_law_words","_law_found"] ["_law_term_here"] (aH mF):=by walk_at "sc"
theorem wF(A:b7 K mg)(KW:wt P w K mg base)(KP:qv P w K mg base)(F:c7 K "_law_term" "_law_term" mF f fd):b5 P w K mg base (bt P w) 3 f fd ["_law_term_here"] (bJ K 1 fQ):=
 cE 1 2 bC F ij rfl rfl λcdv AA outer s H E Z=>
  (aq (aL 1 ij.nd (qN (af 0)))
  (aq (bd (DW.pt (o4 (aI (bx Z.rm.units) bX (b8 cz f8 A.m_len i8 (ad (af 1) ap)) am) (m5 (aI (bx Z.rm.units) bX (cf jM jP (af 0) cN (cO am)) ao)))) (aw (aL 2 ij.nd (cC (ad (cC (ad am (ad am ap))) (ad (aO Z KW (ad (af 0) ap)) ap))))) (aw (bd (aI (bx Z.rm.units) bX (b8 cz f8 A.m_len i8 (ad (af 1) ap)) am) (aw (aL 2 ij.nd (cC (ad (aO Z KP (ad (af 0) ap)) (ad am ap))))) (aw (bd (aI (bx Z.rm.units) bX (b8 cz f8 A.m_len i8 (ad (af 1) ap)) am) (aq (aL 2 ij.nd (cC (ad (aO Z KP (ad (a8 (af 1) am) ap)) (ad (aO Z KW (ad (a8 (af 1) am) ap)) ap))))
  (aw (bd (aI (bx Z.rm.units) bX (a8 (af 2) am) (cC (ad am (ad am ap)))) (aw (aM cR)) aS))) (aw (aM cR)))))))
  (aq (bd (DW.pt (gt (aI ja kR (a8 (af 2) am) cR) (gt (aI ja kR (a8 (af 2) am) cR) (je (aI (bx Z.rm.units) bX (a8 (a8 (af 2) am) am) am))))) (aw (aM cR)) aS)
  (aw (aM (af 2))))))
theorem eM:bg ["_law_text","_law_some","_law_last","_law_term_here","_law_below","_law_found"] ["_law_text"] (aH lO):=by walk_at "sc"
theorem u9(A:b7 K mg)(K4:xH P w K mg base)(F:c7 K "_law_curve" "_law_curve" lO f fd):b5 P w K mg base (bt P w) 4 f fd ["_law_text"] (bJ K 1 dL):=
 cE 1 5 de F eM rfl rfl λcdv AA outer s H E Z=>
  (aq (bd (aI (bx Z.rm.units) bX (af 0) ao) (aw (aM (cC ap))) aS)
  (aq (bd (aI (hm:=rfl) ur Be ao (af 0)) (aw (aM cR)) aS)
  (aq (aL 1 eM.nd (aF AJ A3 (dW (ad (cC (ad am (ad am ap))) ap)) am))
  (HH 2 eM.nd (E2 Z (C0 (Bn (E3 (af 0)))) (i5 3 eM.nd) (aq (aL 4 eM.nd (r9 (bx Z.rm.units) bX (cf jM jP (af 3) cN (cO am)) ao))
  (aq (aL 5 eM.nd (aO Z K4 (ad (cf kh kq (af 3) (cO (eX ut A5 A.m_int boot_int (ad (af 4) ap))) cN) ap)))
  (aq (bd (DW.pt (gt (aI ja kR (af 5) cR) (je (aI IV Jp (a8 (af 5) am) (af 2))))) (aw (aM cR)) aS)
  (aq (aL 2 eM.nd (a8 (af 5) am))
  (aw (Ba 1 (cC (ad (aF gL iE (a8 (dW (ad am (ad (m7 am) ap))) (eX ut A5 A.m_int boot_int (ad (af 4) ap))) (a8 (a8 (af 5) am) am)) (ad (a8 (a8 (af 5) am) am) ap))) (af 2))))))))
  (aq (nF Z (aI (bx Z.rm.units) bX (a8 (a8 (af 1) (m7 am)) am) am) (aw (Hm 1)))
  (aw (aM (eX oA vS A.m_tuple boot_tuple (ad (af 1) ap)))))))))
theorem lS:bg ["_law_script","_law_k","_law_thing","_law_cell","_law_text"] ["_law_script"] (aH zt):=by walk_at "sc"
theorem HM(A:b7 K mg)(KS:wu P w K mg base)(K5:xI P w K mg base)(KO:ww P w K mg base)(KY:xJ P w K mg base)(K6:xK P w K mg base)(KZ:uR P w K mg base)(K2:wx P w K mg base)(F:c7 K "law" "law" zt f fd):b5 P w K mg base (bt P w) 7 f fd ["_law_script"] (bJ K 1 D6):=
 cE 1 4 vo F lS rfl rfl λcdv AA outer s H E Z=>
  (aq (ss Z (uE A.m_range (ad am ap)) (i5 1 lS.nd) (aq (aL 3 lS.nd (aO Z KS (ad (af 0) (ad (aF gY hZ (aF gL iE am (af 1)) am) ap))))
  (aq (aL 4 lS.nd (aO Z K5 (ad (af 3) ap)))
  (aq (bd (aI (bx Z.rm.units) bX (aF cM c8 (af 1) am) am) (aq (aL 4 lS.nd (aO Z KY (ad (aO Z K6 (ad (af 3) ap)) (ad (aO Z KS (ad (af 0) (ad (aF gY hZ (aF gL iE am (af 1)) am) ap))) ap))))
  (aw (bd (aI (bx Z.rm.units) bX (aF cM c8 (aF gZ i4 (af 3) am) am) am) (aw (aL 4 lS.nd (aO Z KY (ad (af 4) (ad (aO Z KS (ad (af 0) (ad (aF gY hZ (aF gL iE am (af 1)) am) ap))) ap))))) aS))) aS)
  (aw (bd (DW.pt (gt (km (hX (aO Z KO (ad (af 4) (ad (aO Z KZ (ad (af 4) ap)) (ad iK ap)))))) (je (km (hX (aO Z KO (ad (af 4) (ad (aO Z K2 (ad (af 4) ap)) (ad iK ap))))))))) (aw (aM iK)) aS))))))
  (aq (aL 2 lS.nd (a8 (dW (ad cR (ad am (ad iK (ad (D0 (dW (ad ao ap))) (ad (cC (ad ao ap)) (ad (cC (ad am (ad am ap))) (ad E5 (ad (D0 (dW ap)) (ad iK (ad (cC (ad (cC (ad am (ad am ap))) ap)) ap))))))))))) (aF cM c8 (aO Z KS (ad (af 0) (ad am ap))) am)))
  (aq (bd (DW.pt (gt (km (hX (aO Z KO (ad (af 2) (ad cR (ad iK ap)))))) (je (km (hX (aO Z KO (ad (af 2) (ad cR (ad iK ap))))))))) (aw (aM iK)) aS)
  (aw (aM (sf (aO Z KO (ad ao (ad (cC (ad (m7 am) (ad am ap))) (ad iK ap)))) (se (aO Z KO (ad ao (ad (cC (ad (cC (ad am (ad am ap))) (ad (cC (ad (m7 am) (ad am ap))) ap))) (ad iK ap)))))))))))
end
end Law
set_option maxHeartbeats 1000000
set_option exponentiation.threshold 20000
namespace Law
open PySem L2 L3 D3
local macro_rules | `(tactic| walk_at "ev")=> `(tactic| first
 |assumption
 |with_reducible refine ah ?_ ?_ ?_<;>walk_at "ev"
 |with_reducible refine ax ?_ ?_<;>walk_at "ev"
 |with_reducible refine sA ?_<;>walk_at "ev"
 |with_reducible refine v8 ?_<;>walk_at "ev"
 |with_reducible refine cI ?_ ?_<;>walk_at "ev"
 |with_reducible refine al ?_ ?_<;>walk_at "ev"
 |with_reducible refine ai ?_ ?_<;>walk_at "ev"
 |with_reducible exact bW _ _
 |with_reducible exact li _ _
 |with_reducible exact cp
 |with_reducible exact cY
 |with_reducible refine kU ?_<;>walk_at "sd"
 |with_reducible refine fF ?_<;>walk_at "sd"
 |with_reducible refine Bm ?_ ?_<;>walk_at "sd"
 |with_reducible refine gPowI ?_<;>exact⟨by decide,by decide,by decide⟩
 |with_reducible refine aG rfl rfl ?_ rfl<;>walk_at "fn"
 |with_reducible rfl
 |rfl)
local macro_rules | `(tactic| walk_at "sd")=> `(tactic| first |assumption |omega |decide)
local macro_rules | `(tactic| walk_at "fn")=> `(tactic| assumption)
local macro_rules | `(tactic| walk_at "ss")=> `(tactic| (simp only[List.set_cons_succ,List.set_cons_zero]<;>rfl))
local macro_rules | `(tactic| walk_at "st")=> `(tactic| first
 |with_reducible refine az ?_ rfl ?_ ?_;rotate_left 1;(walk_at "ss");rotate_left 1)
theorem Fc(a b:Int)(r:Sl)(hb:b≠0):(ar (aA 2 (f2 (gI bO) (ac 0) (ac 1)))
  (ar (aA 0 (ac 1))
  (aA 1 (ac 2)))) [.dat (.int a),.dat (.int b),r]=some (.next [.dat (.int b),.dat (.int (a.fmod b)),.dat (.int (a.fmod b))]):=by
 refine az (ah rfl rfl (D4 hb)) rfl (by walk_at "ss") ?_;refine az rfl rfl (by walk_at "ss") ?_;exact o9 rfl rfl rfl
theorem Kq(a b:Int):fH [.int a,.int b]=aj (.val (.int (Int.gcd a b:Int))):=by
 refine aP rfl ?_;show fG [.dat (.int a),.dat (.int b),.no]=_;unfold fG;obtain⟨δ',e,x,r,rfl,hx⟩:=qd (c:=(fB (f2 (aQ true) (ac 1) (fC (.int 0))))) (b:=(ar (aA 2 (f2 (gI bO) (ac 0) (ac 1)))
  (ar (aA 0 (ac 1))
  (aA 1 (ac 2))))) (δ:=[.dat (.int a),.dat (.int b),.no])
  (λ δ=>∃(x y:Int) (r:Sl),δ=[.dat (.int x),.dat (.int y),r]/\Int.gcd x y=Int.gcd a b)
  (λ δ=>∃(x:Int) (r:Sl),δ=[.dat (.int x),.dat (.int 0),r]/\Int.gcd x 0=Int.gcd a b)
  (λ δ=>match δ with | [_,.dat (.int y),_]=>y.natAbs |_=>0)
  (by
   rintro δ ⟨x,y,r,rfl,hg⟩
   by_cases hy:y=0
   ·subst hy
    exact .inl ⟨ax (ah rfl rfl (li _ _)) rfl,x,r,rfl,hg⟩
   ·refine .inr ⟨?_,_,Fc x y r hy,⟨y,x.fmod y,_,rfl,?_⟩,NB.EB x y hy⟩
    ·have:=ax (δ:=[.dat (.int x),.dat (.int y),r]) (f:=f2 (aQ true) (ac 1) (fC (.int 0))) (ah rfl rfl (li y 0)) rfl
     rw[this,a9 hy];rfl
    ·rw[NB.Cq];exact hg) ⟨a,b,.no,rfl,rfl⟩
 refine cV e ?_;refine bA (ai rfl rfl) ?_;have e2:(if x<0 then -x else x)=(Int.gcd a b:Int):=by
  rw[<-hx,Int.gcd_zero_right];split<;>omega
 rw[e2];rfl
theorem Bu{t b:Int}(hb:b≠0)(hz:b.natAbs<2^9000):(Int.gcd t b)<2^9000:=by
 refine z9 ?_ hz;have h:=Int.natAbs_dvd_natAbs.mpr (Int.gcd_dvd_right t b);rw[kK] at h
 exact Nat.le_of_dvd (by omega) h
theorem zD(t b:Int)(hb:b≠0)(hz:b.natAbs<2^9000):lR [.int t,.int b]=aj (.val (nD (Rat.divInt t b))):=by
 refine aP rfl ?_;show nS [.dat (.int t),.dat (.int b),.no]=_;unfold nS;refine av (by rw[ax (ah rfl rfl (bW b 0)) rfl,a9 hb]) ?_;refine au ?_;refine az (ai rfl (aG rfl rfl (Kq t b) rfl)) rfl (by walk_at "ss") ?_;have gs:=Bu (t:=t) hb hz;have fin: ∀d:Int,d=(if b<0 then -(Int.gcd t b:Int) else(Int.gcd t b:Int))->(aT (ag D3.bV (aa (f2 (gI di) (ac 0) (ac 2)) (aa (f2 (gI di) (ac 1) (ac 2)) ak)))) [.dat (.int t),.dat (.int b),.dat (.int d)]=some (.ret (.val (nD (Rat.divInt t b)))):=λd hd=>by
  obtain⟨h0,e1,e2⟩:=NB.EC t b hb d hd;have hs:d.natAbs<2^9000:=by rw[hd];split<;>omega
  refine bA (ai (al (ah rfl rfl (we h0 hs)) (al (ah rfl rfl (we h0 hs)) rfl)) rfl) ?_;rw[e1,e2];rfl
 refine ng (ax (ah rfl rfl rfl) rfl) (λc=>?_) (λc=>?_)
 ·have c':b<0:=oy c
  refine az (cI rfl rfl) rfl (by walk_at "ss") ?_;exact fin _ (by rw[aD c'])
 ·have c': ¬b<0:=of_decide_eq_false c
  exact au (fin _ (by rw[aK c']))
def nT(ns:LI)(k:Int):Int:=
 (((if 0<ns.length then ns.getD (k% (ns.length:Int)).toNat 0 else 7)%2147483629+6151*k+1)*48271%2147483647) *
  ((((if 0<ns.length then ns.getD (k% (ns.length:Int)).toNat 0 else 7)%2147483629+6151*k+1)*48271%2147483647)%65519+k+2)%2147483629
def iz(ns:LI):PyData:= .list (ns.map PyData.int)
theorem Jz(ns:LI)(k:Int)(h0:0<=k)(h1:k<=1000000):bH [iz ns,.int k]=aj (.val (.int (nT ns k))):=by
 refine aP rfl ?_;show jo [.dat (iz ns),.dat (.int k),.no]=_;unfold jo;refine az rfl rfl (by walk_at "ss") ?_;have hlen:cW (.dat (iz ns))=aj (.dat (.int (ns.length:Int))):=by
  show aj (Rz.dat (PyData.int ((ns.map PyData.int).length:Int)))=_;rw[cZ]
 have fin: ∀c:Int,c=(if 0<ns.length then ns.getD (k% (ns.length:Int)).toNat 0 else 7)->(ar (aA 2 (f2 (gI bO) (f2 (gI dY) (f2 (gI dQ) (f2 (gI dQ) (f2 (gI bO) (ac 2) (fC (.int 2147483629))) (f2 (gI dY) (fC (.int 6151)) (ac 1))) (fC (.int 1))) (fC (.int 48271))) (fC (.int 2147483647))))
  (aT (f2 (gI bO) (f2 (gI dY) (ac 2) (f2 (gI dQ) (f2 (gI dQ) (f2 (gI bO) (ac 2) (fC (.int 65519))) (ac 1)) (fC (.int 2)))) (fC (.int 2147483629))))) [.dat (iz ns),.dat (.int k),.dat (.int c)]=some (.ret (.val (.int (nT ns k)))):=λc hc=>by
  have m2:=FX ((c%2147483629+6151*k+1)*48271) (b:=2147483647) (by decide);have m3:=FY ((c%2147483629+6151*k+1)*48271) (b:=2147483647) (by decide);refine az (ah (ah (ah (ah (ah rfl rfl (fF (by decide))) (ah rfl rfl (kU (vm (by decide) (by decide)))) rfl) rfl rfl) rfl (kU (Jy (by decide) (by decide)))) rfl (fF (by decide))) rfl (by walk_at "ss") ?_;refine bA (ah (ah rfl (ah (ah (ah rfl rfl (fF (by decide))) rfl rfl) rfl rfl) (kU (vm (by omega) (by omega)))) rfl (fF (by decide))) ?_
  unfold nT;rw[<-hc];rfl
 refine ng (ax (ah (ai rfl (show g1 cW [Rz.dat (iz ns)]=_ from hlen)) rfl rfl) rfl) (λc=>?_) (λc=>?_)
 ·have c':(0:Int)< (ns.length:Int):=oy c
  have cn:0<ns.length:=by omega
  have hr1:=FX k (b:=(ns.length:Int)) (by omega);have hr2:=FY k c';refine az (ah rfl (ah rfl (ai rfl (show g1 cW [Rz.dat (iz ns)]=_ from hlen)) (fF c')) (du (j:=(k% (ns.length:Int)).toNat) (d:= .int (ns.getD (k% (ns.length:Int)).toNat 0)) (by omega) ?_)) rfl (by walk_at "ss") ?_
  ·have hk:(k% (ns.length:Int)).toNat<ns.length:=by omega
   rw[oQ,gk hk,Ds,gk hk];rfl
  ·exact fin _ (by rw[aD cn])
 ·have c': ¬(0:Int)< (ns.length:Int):=of_decide_eq_false c
  have cn: ¬0<ns.length:=by omega
  exact au (fin 7 (by rw[aK cn]))
theorem ms{δ:List Sl}{g:Rz->M LP}{f:List Sl->M Rz}{x:Rz}{items:LP}(h1:f δ=aj x)(h2:g x=aj items):fI g f δ=aj items:=by unfold fI;rw[h1,cB,h2]
def cD(l:LR):PyData:= .tuple (l.map nD)
def lD(l:LR):PyData:= .list (l.map nD)
theorem yA: ∀l:LR,hJ (l.map nD)=true
 | []=>by simp[hJ]
 |q::l=>by simp only[gj,hJ,pP,yA l,Bool.and_self]
theorem wG(l:LR):hI (cD l)=true:=by unfold cD hI;exact yA l
theorem Fd(q:Rat):PyData.canLay0 (nD q)=true:=by simp[nD,PyData.canLay0,PyData.canLayAll0]
theorem Fe(q:Rat):PyData.depth (nD q)<=2:=by simp[nD,PyData.depth,PyData.depthAll]
theorem wH: ∀l:LR,PyData.canLayAll0 (l.map nD)=true
 | []=>by simp[PyData.canLayAll0]
 |q::l=>by simp only[gj,PyData.canLayAll0,Fd,wH l,Bool.and_self]
theorem wI: ∀l:LR,PyData.depthAll (l.map nD)<=2
 | []=>by simp[PyData.depthAll]
 |q::l=>by
  have h1:=Fe q;have h2:=wI l;simp only[gj,PyData.depthAll];omega
theorem Bv(l:LR):fu (cD l)=true:=by
 have h:=wI l;unfold fu SeqAt.shaped cD;have e: ∀n:Nat,n<=64->decide (n<=64)=true:=λn h=>bR h
 simp only[PyData.canLay0,wH,PyData.depth,Bool.true_and];exact e _ (by omega)
theorem wJ: ∀l m:LR,PyData.eqvAll (l.map nD) (m.map nD)=decide (l=m)
 | [],[]=>by simp[PyData.eqvAll]
 | [],q::m=>by simp[PyData.eqvAll]
 |q::l,[]=>by simp[PyData.eqvAll]
 |q::l,p::m=>by
  simp only[gj,PyData.eqvAll,EI,wJ l m]
  by_cases h1:q=p<;>by_cases h2:l=m<;>simp[h1,h2]
theorem Bw(l m:LR):PyData.eqv (cD l) (cD m)=decide (l=m):=by unfold cD;simp only[PyData.eqv];exact wJ l m
theorem wK{x y:Rz}{d e:PyData}{b:Bool}(hx:x.d?= some d)(hy:y.d?= some e)(od:fu d=true)(oe:fu e=true)(h:PyData.eqv d e=b):aQ false x y=aj (.dat (.bool b)):=by
 unfold aQ;rw[hx,hy];dsimp only;rw[aD ⟨od,oe⟩,h];rfl
theorem Kr{x y:Rz}{d e:PyData}{b:Bool}(hx:x.d?= some d)(hy:y.d?= some e)(od:fu d=true)(oe:fu e=true)(h:PyData.eqv d e=!b):aQ true x y=aj (.dat (.bool b)):=by
 unfold aQ;rw[hx,hy];dsimp only;rw[aD ⟨od,oe⟩,h];simp
theorem dr(q:Rat):fv (.val (nD q))= .dat (nD q):=by unfold fv;dsimp only;rw[aD (pP q)]
theorem wL(l:LR):fv (.val (cD l))= .dat (cD l):=by unfold fv;dsimp only;rw[aD (wG l)]
theorem wM{l:LR}{i:Nat}{q:Rat}(h:l[i]?= some q):(l.map nD)[i]?= some (nD q):=by rw[oQ,h];rfl
def ev:LR->Rat->Rat
 | [],_=>0
 |a::l,x=>a+x*ev l x
def bP(l:LR):LR:=(l.reverse.dropWhile (· == 0)).reverse
theorem kZ(l:LR):bP (l++[0])=bP l:=by unfold bP;simp
theorem ku{l:LR}{a:Rat}(h:a≠0):bP (l++[a])=l++[a]:=by
 unfold bP;simp[h]
theorem zF(l:LR)(n:Nat):bP (l++List.replicate n 0)=bP l:=by
 induction n with
 |zero=>simp
 |succ n ih=>rw[Dt,<-lq,kZ,ih]
theorem yB{P:LR->Prop}(h0:P [])(h1: ∀l a,P l->P (l++[a]))(l:LR):P l:=by
 have: ∀r:LR,P r.reverse:=λr=>by
  induction r with
  |nil=>exact h0
  |cons a r ih=>rw[List.reverse_cons];exact h1 _ a ih
 have:=this l.reverse
 rwa [List.reverse_reverse] at this
theorem yC(l:LR): ∃n,l=bP l++List.replicate n 0:=by
 refine yB (P:=λl=>∃n,l=bP l++List.replicate n 0) ⟨0,rfl⟩ (λl a ih=>?_) l
 ·by_cases h:a=0
  ·subst h
   obtain⟨n,e⟩:=ih;refine⟨n+1,?_⟩;rw[kZ,Dt,<-lq,<-e]
  ·exact⟨0,by rw[ku h];simp⟩
theorem pp(l:LR):bP l=[]\/∃m a,bP l=m++[a]/\a≠0:=by
 refine yB (P:=λl=>bP l=[]\/∃m a,bP l=m++[a]/\a≠0) (.inl rfl) (λl a ih=>?_) l
 ·by_cases h:a=0
  ·subst h;rw[kZ];exact ih
  ·exact .inr ⟨l,a,ku h,h⟩
theorem C4(l:LR):(bP l).length<=l.length:=by
 obtain⟨n,e⟩:=yC l;have:=congrArg List.length e;rw[bQ] at this
 omega
theorem Bx(l:LR):bP l=l.take (bP l).length:=by
 obtain⟨n,e⟩:=yC l;have h:l.take (bP l).length=(bP l++List.replicate n 0).take (bP l).length:=by rw[<-e]
 rw[h,List.take_left]
theorem yD(p q:Rat)(zp:NB.Sz 4000 p)(zq:NB.Sz 4000 q):qg [nD p,nD q]=aj (.val (nD (p-q))):=by
 refine aP rfl ?_;show qf [.dat (nD p),.dat (nD q)]=_;unfold qf;have m1: ∀{u v:Int},u.natAbs<2^4000->v.natAbs<2^4000->IntMulOk u v:=λhu hv=>Ja hu hv (by decide)
 have dp:((p.den:Nat):Int).natAbs<2^4000:=by rw[kK];exact zp.2
 have dq:((q.den:Nat):Int).natAbs<2^4000:=by rw[kK];exact zq.2
 have nz:(p.den:Int)*(q.den:Int)≠0:=by
  have h:=Nat.mul_ne_zero p.den_nz q.den_nz;intro z;exact h (by exact_mod_cast z)
 have bz:((p.den:Int)*(q.den:Int)).natAbs<2^9000:=by
  rw[FN];exact gG (NB.GP (m:=4000) (n:=4000) dp dq) (rM (by decide) (by decide))
 refine bA (ai (al (ah (ah (ah rfl rfl cp) (ah rfl rfl cY) (kU (m1 zp.1 dq))) (ah (ah rfl rfl cp) (ah rfl rfl cY) (kU (m1 zq.1 dp))) rfl) (al (ah (ah rfl rfl cY) (ah rfl rfl cY) (kU (m1 dp dq))) rfl)) (aG rfl rfl (zD _ _ nz bz) rfl)) ?_;rw[NB.Cr,dr];rfl
theorem By(q:Rat):eS [nD q]=aj (.val (.int (if 0<q.num then 1 else if q.num<0 then -1 else 0))):=by
 refine aP rfl ?_;show sD [.dat (nD q)]=_;unfold sD;refine ng (ax (ah (ah rfl rfl cp) rfl rfl) rfl) (λc=>?_) (λc=>?_)
 ·have c':0<q.num:=oy c
  rw[aD c'];exact aN rfl rfl
 ·have c': ¬0<q.num:=of_decide_eq_false c
  rw[aK c'];refine au (ng (ax (ah (ah rfl rfl cp) rfl rfl) rfl) (λc=>?_) (λc=>?_))
  ·have c':q.num<0:=oy c
   rw[aD c'];exact aN (cI rfl rfl) rfl
  ·have c': ¬q.num<0:=of_decide_eq_false c
   rw[aK c'];exact au (bA rfl rfl)
theorem uK(q:Rat):decide ((if 0<q.num then(1:Int) else if q.num<0 then -1 else 0)=0)=decide (q=0):=by
 by_cases h:q=0
 ·subst h;rfl
 ·have h':q.num≠0:=λz=>h (FZ.mp z)
  rw[a9 h];refine a9 λz=>h' ?_
  split at z
  ·omega
  ·split at z<;>omega
theorem C5(ds:LP)(k:Nat)(h:k<=ds.length):gw ds none (some (k:Int))=ds.take k:=by
 unfold gw;rw[HT.Ck,HT.Es,Nat.min_eq_left h];simp
theorem Ff(l:LR):m6 (fL (fB (f2 (gI jK) (ac 1) (fC (.int 0)))) (fB (f2 (aQ false) (ag (gF 1 eS) (aa (f2 aJ (ac 0) (f2 (gI D3.kD) (ac 1) (fC (.int 1)))) ak)) (fC (.int 0))))) (aA 1 (f2 (gI D3.kD) (ac 1) (fC (.int 1)))) [.dat (lD l),.dat (.int (l.length:Int))]
  = some (.next [.dat (lD l),.dat (.int ((bP l).length:Int))]):=by
 obtain⟨δ',e,k,rfl,hk⟩:=qd (c:=fL (fB (f2 (gI jK) (ac 1) (fC (.int 0)))) (fB (f2 (aQ false) (ag (gF 1 eS) (aa (f2 aJ (ac 0) (f2 (gI D3.kD) (ac 1) (fC (.int 1)))) ak)) (fC (.int 0))))) (b:=aA 1 (f2 (gI D3.kD) (ac 1) (fC (.int 1)))) (δ:=[.dat (lD l),.dat (.int (l.length:Int))])
  (λ δ=>∃k:Nat,δ=[.dat (lD l),.dat (.int (k:Int))]/\k<=l.length/\bP (l.take k)=bP l)
  (λ δ=>∃k:Nat,δ=[.dat (lD l),.dat (.int (k:Int))]/\k=(bP l).length)
  (λ δ=>match δ with | [_,.dat (.int k)]=>k.toNat |_=>0)
  (by
   rintro δ ⟨k,rfl,hk,ht⟩;have c1:fB (f2 (gI jK) (ac 1) (fC (.int 0))) [.dat (lD l),.dat (.int (k:Int))]=aj (decide ((0:Int)< (k:Int))):=ax (ah rfl rfl rfl) rfl;cases k with
   |zero=>
    refine .inl ⟨eE c1,0,rfl,?_⟩;rw[<-ht];rfl
   |succ k=>
    have hlt:k<l.length:=by omega
    have c1':fB (f2 (gI jK) (ac 1) (fC (.int 0))) [.dat (lD l),.dat (.int ((k+1:Nat):Int))]=aj true:=by rw[c1,bR (by omega)]
    have c2:fB (f2 (aQ false) (ag (gF 1 eS) (aa (f2 aJ (ac 0) (f2 (gI D3.kD) (ac 1) (fC (.int 1)))) ak)) (fC (.int 0))) [.dat (lD l),.dat (.int ((k+1:Nat):Int))]=aj (decide (l[k]=0)):=by
     rw[<-uK];exact ax (ah (ai (al (ah rfl (ah rfl rfl rfl) (du (j:=k) (d:=nD l[k]) (by omega) (wM (gk hlt)))) rfl) (aG rfl rfl (By _) rfl)) rfl (bW _ _)) rfl
    have tk:l.take (k+1)=l.take k++[l[k]]:=by rw[F0,gk hlt];rfl
    by_cases h0:l[k]=0
    ·refine .inr ⟨cX c1' (by rw[c2,bR h0]),[.dat (lD l),.dat (.int (k:Int))],?_,⟨k,rfl,by omega,?_⟩,?_⟩
     ·refine o9 (ah rfl rfl rfl) rfl ?_
      have e:((k+1:Nat):Int)-1=(k:Int):=by omega
      rw[e];rfl
     ·rw[<-ht,tk,h0,kZ]
     ·show((k:Int)).toNat< (((k+1:Nat):Int)).toNat
      omega
    ·refine .inl ⟨cX c1' (by rw[c2,a9 h0]),k+1,rfl,?_⟩
     rw[<-ht,tk,ku h0,bQ,iX,kJ];omega) ⟨l.length,rfl,cr _,by rw[F1]⟩
 rw[e,hk]
theorem sF(l:LR)(h:(bP l).length<=13):jr [lD l]=aj (.val (cD (bP l))):=by
 refine aP rfl ?_;show kX [.dat (lD l),.no]=_;unfold kX;have hlen:cW (.dat (lD l))=aj (.dat (.int (l.length:Int))):=by
  show aj (Rz.dat (PyData.int ((l.map nD).length:Int)))=_;rw[cZ]
 refine az (ai rfl (show g1 cW [Rz.dat (lD l)]=_ from hlen)) rfl (by walk_at "ss") ?_;refine cV (Ff l) ?_;refine av (by rw[ax (ah rfl rfl rfl) rfl,a9 (by omega)]) (au ?_);have hs:cJ gN (ac 0) bL (bi (ac 1)) [.dat (lD l),.dat (.int ((bP l).length:Int))]=aj (.new ((bP l).map nD)):=by
  show aj (Rz.new (gw (l.map nD) none (some ((bP l).length:Int))))=_;rw[C5 _ _ (by rw[cZ];exact C4 l),<-List.map_take,<-Bx]
 exact bA (ai (al hs rfl) rfl) rfl
def tS(n:Int):Str:=Str.ofString (toString n)
def iH(a:Str):Prop:=PyData.strOk a=true
theorem bK(s:String):iH (Str.ofString s):=by
 unfold iH PyData.strOk;rw[Str.ofString_eq_toList,Du,List.all_map,qu];intro c _;have h:=c.valid;simp only[Function.comp,decide_eq_true_eq];show c.val.toNat<1114112
 rcases h with h | ⟨_,h⟩
 ·have:c.val.toNat<55296:=h
  omega
 ·exact h
theorem qh(a b:Str):(a++b).length=a.length+b.length:=by
 show(a.cps++b.cps).size=_;rw[Array.size_append];rfl
theorem Bz(a b c:Str):a++b++c=a++(b++c):=by
 show Str.mk ((a.cps++b.cps)++c.cps)=Str.mk (a.cps++(b.cps++c.cps));rw[Array.append_assoc]
theorem Fg(a:Str):Str.empty++a=a:=by
 cases a;show Str.mk (#[]++_)=_;rw[Array.empty_append]
theorem lj{a:Str}(h:iH a):fu (.str a)=true:=by
 unfold fu SeqAt.shaped;have e:PyData.canLay0 (.str a)=true:=by simp only[PyData.canLay0];exact h
 rw[e];simp[PyData.depth]
theorem tW(a b:Str):PyData.eqv (.str a) (.str b)=decide (a=b):=by simp[PyData.eqv,Bool.beq_eq_decide_eq]
theorem gc{a b:Str}(ha:iH a)(hb:iH b):aQ false (.dat (.str a)) (.dat (.str b))=aj (.dat (.bool (decide (a=b)))):=wK rfl rfl (lj ha) (lj hb) (tW a b)
theorem tX{a b:Str}(ha:iH a)(hb:iH b):aQ true (.dat (.str a)) (.dat (.str b))=aj (.dat (.bool (!decide (a=b)))):=Kr rfl rfl (lj ha) (lj hb) (by rw[tW,Bool.not_not])
theorem iI{a b:Str}(h:a.length+b.length<=1000000):eB (.dat (.str a)) (.dat (.str b))=aj (.dat (.str (a++b))):=by
 have sl:(sizeLine:Nat)=16777216:=rfl;unfold eB Rz.d?;dsimp only;rw[aD (by omega)]
theorem pq{n:Int}(h:n.natAbs<2^1900):g1 kT [.dat (.int n)]=aj (.dat (.str (tS n))):=by
 show kT (.dat (.int n))=_;unfold kT Rz.d?;dsimp only;rw[aD]
 ·rfl
 ·by_cases z:n.natAbs=0
  ·rw[z];decide
  ·have:=(Nat.log2_lt z (k:=1900)).mpr h
   omega
theorem sG{a:Str}(h:0<a.length):a≠("" :Str):=λz=>by rw[z] at h;exact absurd h (by decide)
theorem gD(a:Str):fv (.val (.str a))= .dat (.str a):=rfl
theorem wN: ∀ys:List Str,nc (ys.map PyData.str)=some ys
 | []=>rfl
 |b::r=>by rw[gj];unfold nc;rw[wN r]
def bT(n:Nat):List Nat:=(Nat.toDigits 10 n).map Char.toNat
def ae(l:List Nat):Str:=⟨l.toArray⟩
theorem d6(l m:List Nat):ae (l++m)=ae l++ae m:=by
 show Str.mk _=Str.mk (l.toArray++m.toArray);rw[List.append_toArray]
theorem aC(l:List Nat):(ae l).length=l.length:=by
 show l.toArray.size=_;rw[gR]
theorem ge(n:Nat):tS (n:Int)=ae (bT n):=by
 unfold tS;rw[Str.ofString_eq_toList];show Str.mk _=Str.mk _;have:(toString (n:Int)).toList=Nat.toDigits 10 n:=by
  show(toString n).toList=_;rw[Nat.toString_eq_ofList_toDigits,String.toList_ofList]
 rw[this];rfl
theorem ni(n:Nat):NumText.AllDigits (bT n):=by
 intro c hc;unfold bT at hc
 obtain⟨d,hd,rfl⟩:=rN.mp hc;have h:=Nat.isDigit_of_mem_toDigits (by decide) (by decide) hd;unfold Char.isDigit at h
 rw[ul,decide_eq_true_eq,decide_eq_true_eq] at h;have h1:'0'.val.toNat<=d.val.toNat:=h.1
 have h2:d.val.toNat<='9'.val.toNat:=h.2;exact⟨h1,h2⟩
theorem vp(n:Nat):bT n≠[]:=by
 unfold bT;intro z;rw[F2] at z;exact Nat.toDigits_ne_nil z
theorem sH(n:Nat):NumText.digitsVal (bT n)=n:=by
 have h:=Nat.ofDigitChars_ten_toDigits (n:=n);unfold Nat.ofDigitChars at h
 unfold NumText.digitsVal bT;rw[List.foldl_map];refine Eq.trans ?_ h;congr 1;funext a c;show a*10+(c.toNat-48)=10*a+(c.toNat-48)
 omega
theorem ju(n k:Nat)(hk:0<k):(bT n).length<=k<->n<10^k:=by
 unfold bT;rw[cZ];exact Nat.length_toDigits_le_iff (by decide) hk
theorem qj:("/" :Str)=ae [47]:=by decide +kernel
theorem nU:("-" :Str)=ae [45]:=by decide +kernel
theorem sI{l:List Nat}{c i:Nat}(h:Builtin.Str.subAt (ae l) (ae [c]) i=true):l[i]?= some c:=by
 unfold Builtin.Str.subAt at h;have h1:=congrArg Array.toList (eq_of_beq h)
 rw[Ah,Ai] at h1;have e:(ae [c]).length=1:=rfl
 rw[e] at h1;have e2:i+1-i=1:=by omega
 rw[e2] at h1;have h2:List.take 1 (List.drop i l)=[c]:=h1
 have h3:(List.take 1 (List.drop i l))[0]?= some c:=by rw[h2];rfl
 rw[List.getElem?_take,aD (by decide),List.getElem?_drop,Nat.add_zero] at h3;exact h3
theorem wO{l:List Nat}{c i:Nat}(h:l[i]?= some c):Builtin.Str.subAt (ae l) (ae [c]) i=true:=by
 unfold Builtin.Str.subAt;have e:(ae [c]).length=1:=rfl;rw[e,beq_iff_eq];apply Dv.mp;rw[Ah,Ai];have e2:i+1-i=1:=by omega
 rw[e2];show List.take 1 (List.drop i l)=[c]
 have hlt:i<l.length:=by
  by_cases z:i<l.length
  ·exact z
  ·rw[Dq (by omega)] at h;cases h
 rw[vy hlt,List.take_succ_cons,List.take_zero];rw[gk hlt] at h;cases h;rfl
theorem tY(l:List Nat)(hl: ∀c∈l,c≠47):Txt.partition (ae l) "/" =(ae l,Str.empty,Str.empty):=by
 rcases PyProof.Rows.partition_whole (ae l) "/" with⟨h,_⟩ | ⟨i,h,hat,_⟩
 ·exact h
 ·rw[qj] at hat
  exact absurd rfl (hl 47 (lm (sI hat.2)))
theorem qV(l m:List Nat)(hl: ∀c∈l,c≠47):Txt.partition (ae (l++47::m)) "/" =(ae l,("/" :Str),ae m):=by
 have e1:("/" :Str).length=1:=by decide +kernel
 have hat0:(l++47::m)[l.length]?= some 47:=by rw[oO (cr _),Af];rfl
 rcases PyProof.Rows.partition_whole (ae (l++47::m)) "/" with⟨_,h⟩ | ⟨i,h,hat,hmin⟩
 ·exact absurd ⟨by rw[e1,aC,bQ,c5];omega,by rw[qj];exact wO hat0⟩ (h l.length)
 ·have hi:=sI (l:=l++47::m) (c:=47) (i:=i) (by rw[<-qj];exact hat.2)
  have i0:i=l.length:=by
   by_cases c:i<l.length
   ·rw[oP c] at hi
    exact absurd rfl (hl 47 (lm hi))
   ·by_cases c2:l.length<i
    ·exact absurd ⟨by rw[e1,aC,bQ,c5];omega,by rw[qj];exact wO hat0⟩ (hmin l.length c2)
    ·omega
  subst i0;rw[h,e1];have a1:Builtin.Str.strSub (ae (l++47::m)) 0 l.length=ae l:=by
   unfold Builtin.Str.strSub;show Str.mk _=Str.mk _;congr 1;apply Dv.mp;rw[Ah,Ai];show List.take (l.length-0) (List.drop 0 (l++47::m))=l;rw[rO,Dw,List.take_left' rfl]
  have a2:Builtin.Str.strSub (ae (l++47::m)) (l.length+1) (ae (l++47::m)).length=ae m:=by
   unfold Builtin.Str.strSub;show Str.mk _=Str.mk _;congr 1;apply Dv.mp;rw[Ah,Ai];show List.take ((ae (l++47::m)).length- (l.length+1)) (List.drop (l.length+1) (l++47::m))=m;rw[aC,List.drop_append,List.drop_eq_nil_of_le (by omega),lr];have e3:l.length+1-l.length=1:=by omega
   rw[e3,yb,rO,bQ,c5];exact um (by omega)
  rw[a1,a2]
theorem BA(c:Nat)(l:List Nat):Txt.slice (ae (c::l)) (some 1) none=ae l:=by
 rw[PyProof.Rows.slice_from_eq (b:=((ae (c::l)).length:Int)) (by decide) (by rw[aC,c5];omega) rfl];show Str.mk _=Str.mk _;congr 2;show List.take (((ae (c::l)).length:Int)-1).toNat (List.drop 1 (c::l))=l;rw[aC,yb,rO,c5];exact um (by omega)
theorem sJ(l:List Nat):dO "-" (.dat (.str (ae (45::l))))=aj (.dat (.bool true)):=by
 unfold dO Rz.d?;dsimp only;have e1:("-" :Str).length=1:=by decide +kernel
 rw[e1,bR (by rw[aC,c5];omega),nU,wO (by rfl)];rfl
theorem BB(l:List Nat)(h:l.head?≠some 45):dO "-" (.dat (.str (ae l)))=aj (.dat (.bool false)):=by
 unfold dO Rz.d?;dsimp only;have e:Builtin.Str.subAt (ae l) "-" 0=false:=by
  rw[Ac];intro z;rw[nU] at z;have:=sI z
  rw[<-List.head?_eq_getElem?] at this;exact h this
 rw[e,Bool.and_false]
theorem wP{α:Type}(mk g:α->PyData)(fe:List Sl->M Rz)(δ:List Sl): ∀(l:List α),(∀p∈l,∃z,fe (.dat (mk p)::δ)=aj z/\dU z=some (g p))->o7 pY fe δ (l.map mk)=some (l.map g)
 | [],_=>rfl
 |p::r,h=>by
  obtain⟨z,e,hz⟩:=h p (dP ..);have h3:=wP mk g fe δ r λd hd=>h d (eU _ hd)
  rw[gj];unfold o7;show(match fe (.dat (mk p)::δ) with |some (.ok z)=>(match dU z,o7 pY fe δ (r.map mk) with |some e,some es=>some (e::es) |_,_=>none) |_=>none)=_;rw[e];show(match dU z,o7 pY fe δ (r.map mk) with |some e,some es=>some (e::es) |_,_=>none)=_;rw[hz,h3];rfl
theorem yE: ∀bs:List Bool,qa (bs.map PyData.bool)=some bs
 | []=>rfl
 |b::r=>by rw[gj];unfold qa;rw[yE r]
theorem D7(q:List Bool->Bool)(bs:List Bool):g1 (uG q) [.new (bs.map PyData.bool)]=aj (.dat (.bool (q bs))):=by
 show uG q (.new (bs.map PyData.bool))=_;unfold uG Rz.d?;dsimp only;rw[yE]
theorem HN(c:Nat)(h:48<=c/\c<=57):fM false (.dat (.str ⟨#[c]⟩)) (.dat (.str "0123456789"))=aj (.dat (.bool true)):=by
 have key:(!(Builtin.Str.occurrences "0123456789" ⟨#[c]⟩ 0 (("0123456789" :Str)).length 1).isEmpty)=true:=by
  have:c=48\/c=49\/c=50\/c=51\/c=52\/c=53\/c=54\/c=55\/c=56\/c=57:=by omega
  rcases this with rfl |rfl |rfl |rfl |rfl |rfl |rfl |rfl |rfl |rfl<;>decide +kernel
 unfold fM Rz.d?;dsimp only;rw[aK (by decide),key]
theorem i6{l:List Nat}(h: ∀c∈l,c<1114112):iH (ae l):=by
 unfold iH PyData.strOk ae;rw[Du,qu];intro c hc;exact bR (h c hc)
theorem sK{a:Str}(h:a.length<=1000):g1 fN [.dat (.str a)]=aj (.dat (.int (a.length:Int))):=by
 have sl:(sizeLine:Nat)=16777216:=rfl;show fN (.dat (.str a))=_;unfold fN Rz.d?;dsimp only;rw[aD (by omega)]
theorem nV(n:Nat)(h:n<10^12):ef [.str (tS (n:Int))]=aj (.val (.int (n:Int))):=by
 have sl:(sizeLine:Nat)=16777216:=rfl;have hlen:=(ju n 12 (by decide)).mpr h;have hne:=vp n;have hall:=ni n;rw[ge];refine aP rfl ?_;show dj [.dat (.str (ae (bT n)))]=_;unfold dj;have sok:iH (ae (bT n)):=i6 λc hc=>by have:=hall c hc;omega
 have nemp:ae (bT n)≠("" :Str):=sG (by rw[aC];exact oR.mpr hne);refine av (bu ?_ (bu ?_ (eD ?_))) (au ?_)
 ·refine(ax (ah rfl rfl (gc sok (bK ""))) rfl).trans ?_
  rw[a9 nemp]
 ·refine(ax (b:=decide (((ae (bT n)).length:Int)>12)) (ah (ai rfl (sK (by rw[aC];omega))) rfl rfl) rfl).trans ?_
  rw[a9 (by rw[aC];omega)]
 ·refine(ax (ai (al (x:= .new (((bT n).map λ_=>true).map PyData.bool)) ?_ rfl) (D7 _ _)) rfl).trans ?_
  ·unfold yn
   have asc:((ae (bT n)).cps.all λc=>decide (c<128))=true:=by
    unfold ae;rw[Du,qu];intro c hc;have:=hall c hc;exact bR (by omega)
   have hi:fI iG (ac 0) [.dat (.str (ae (bT n)))]=aj ((bT n).map λc=>PyData.str ⟨#[c]⟩):=by
    refine ms rfl ?_;unfold iG Rz.d?;dsimp only;rw[aD asc];rfl
   rw[hi,cB,aD (by rw[cZ];omega),wP (λc=>PyData.str ⟨#[c]⟩) (λ_=>PyData.bool true) _ _ (bT n) ?_]
   ·rw[oz];rfl
   ·intro c hc
    exact⟨.dat (.bool true),ah rfl rfl (HN c (hall c hc)),rfl⟩
  ·unfold tO
   rw[List.all_map];congr 1;rw[qu];intro x _;rfl
 ·refine bA (x:= .dat (.int (n:Int))) (ai rfl ?_) rfl
  show nK (.dat (.str (ae (bT n))))=_;unfold nK Rz.d?;dsimp only;rw[PySem.intText_digits (x:=ae (bT n)) (by exact hall) (by exact hne) (by rw[aC];omega)];dsimp only;rw[aD (by rw[aC];omega)];show aj (Rz.dat (PyData.int ((NumText.digitsVal (bT n):Nat):Int)))=_;rw[sH]
theorem HQ(l:LR):g1 cW [Rz.dat (cD l)]=aj (.dat (.int (l.length:Int))):=by
 show aj (Rz.dat (PyData.int ((l.map nD).length:Int)))=_;rw[cZ]
theorem tZ{n k:Nat}{i:Int}(hi:i=(k:Int))(h:k<n):L2.lw n i=some k:=by
 subst hi;unfold L2.lw;rw[aD (by omega),aD (by omega),Int.toNat_natCast]
def br:List (List Nat)->List Nat
 | []=>[]
 | [w]=>w
 |w::v::r=>w++32::br (v::r)
theorem qW: ∀(u v:List (List Nat)),u≠[]->v≠[]->br (u++v)=br u++32::br v
 | [],_,h,_=>absurd rfl h
 | [w],v,_,h=>by
  cases v with
  |nil=>exact absurd rfl h
  |cons a r=>rfl
 |w::x::r,v,_,h=>by
  have ih:=qW (x::r) v (by simp) h;show w++32::br (x::r++v)=(w++32::br (x::r))++32::br v;rw[ih];simp
theorem BC{a b:Nat->Prop}: ∀(w v:List Nat) (x y:List Nat),32∉w->32∉v->w++32::x=v++32::y->w=v/\x=y
 | [],[],x,y,_,_,h=>by simpa using h
 | [],c::v,x,y,_,hv,h=>by
  simp only[lr,kL,mS] at h;exact absurd (h.1▸dP ..) hv
 |c::w,[],x,y,hw,_,h=>by
  simp only[lr,kL,mS] at h;exact absurd (h.1▸dP ..) hw
 |c::w,d::v,x,y,hw,hv,h=>by
  simp only[kL,mS] at h;obtain⟨e1,e2⟩:=BC (a:=a) (b:=b) w v x y (λz=>hw (eU _ z)) (λz=>hv (eU _ z)) h.2
  exact⟨by rw[h.1,e1],e2⟩
theorem qX: ∀(u v:List (List Nat)),u≠[]->v≠[]->(∀w∈u,32∉w)->(∀w∈v,32∉w)->br u=br v->u=v
 | [],_,h,_,_,_,_=>absurd rfl h
 |_::_,[],_,h,_,_,_=>absurd rfl h
 | [w],[x],_,_,_,_,h=>by rw[show w=x from h]
 | [w],x::y::r,_,_,hu,_,h=>by
  have h':w=x++32::br (y::r):=h;exact absurd (by rw[h'];simp) (hu w (dP ..))
 |w::y::r,[x],_,_,_,hv,h=>by
  have h':w++32::br (y::r)=x:=h;exact absurd (by rw[<-h'];simp) (hv x (dP ..))
 |w::w2::r,x::x2::s,_,_,hu,hv,h=>by
  obtain⟨e1,e2⟩:=BC (a:=λ_=>True) (b:=λ_=>True) w x _ _ (hu w (dP ..)) (hv x (dP ..)) (show w++32::br (w2::r)=x++32::br (x2::s) from h);rw[e1,qX (w2::r) (x2::s) (by simp) (by simp) (λw hw=>hu w (eU _ hw)) (λw hw=>hv w (eU _ hw)) e2]
theorem vq:(" " :Str)=ae [32]:=by decide +kernel
def dB(s:Str):List Nat:=s.cps.toList
theorem jS(s:Str):ae (dB s)=s:=by
 cases s;show Str.mk _=Str.mk _;unfold dB;simp
theorem cH(l:List Nat):dB (ae l)=l:=by unfold dB ae;simp
theorem mt: ∀ps:List Str,Str.join (" " :Str) ps=ae (br (ps.map dB))
 | []=>rfl
 | [p]=>(jS p).symm
 |p::q::r=>by
  show p++(" " :Str)++Str.join (" " :Str) (q::r)=_;rw[mt (q::r),vq]
  conv=>lhs;rw[<-jS p]
  rw[<-d6,<-d6];congr 1;simp[br]
theorem zG(ws:List (List Nat))(h0:ws≠[])(h: ∀w∈ws,32∉w):Txt.split (ae (br ws)) " " =ws.map ae:=by
 have h1:=PySem.StrLaws.join_split (ae (br ws)) " ";have h2: ∀p∈Txt.split (ae (br ws)) " ",32∉dB p:=by
  rw[vq];exact PySem.StrLaws.split_free (ae (br ws)) 32
 have h3:=PyProof.Rows.split_pos (ae (br ws)) " ";obtain⟨ps,hps⟩ : ∃ps,ps=Txt.split (ae (br ws)) " " :=⟨_,rfl⟩
 rw[<-hps] at h1 h2 h3⊢;rw[mt] at h1;have h4:br (ps.map dB)=br ws:=by
  have:=congrArg dB h1
  rwa [cH,cH] at this
 have h5:=qX (ps.map dB) ws (λz=>by rw[F2] at z;rw[z] at h3;simp at h3) h0 (λw hw=>by obtain⟨p,hp,rfl⟩:=rN.mp hw;exact h2 p hp) h h4;rw[<-h5,oz];have: ∀p:Str,(ae∘dB) p=p:=jS;rw[show(ae∘dB)=id from funext this,List.map_id]
def nj(t:Int):List Nat:=if t<0 then [45] else []
def cG(n b:Nat):List Nat:=bT n++(if b=1 then [] else 47::bT b)
theorem pv(n b:Nat): ∀c∈cG n b,47<=c/\c<=57:=by
 intro c hc;unfold cG at hc
 rcases eV.mp hc with hc |hc
 ·have:=ni n c hc;omega
 ·split at hc
  ·cases hc
  ·rcases fq.mp hc with rfl |hc
   ·omega
   ·have:=ni b c hc;omega
theorem zH(n b:Nat):cG n b≠[]:=λz=>by
 unfold cG at z;exact vp n (Dx.mp z).1
def dC(k:Nat):List Nat:=if k=1 then [120] else 120::94::bT k
theorem BD(k:Nat): ∀c∈dC k,48<=c/\c<=120:=by
 intro c hc;unfold dC at hc
 split at hc
 ·rw[gS] at hc;omega
 ·rcases fq.mp hc with rfl |hc
  ·omega
  ·rcases fq.mp hc with rfl |hc
   ·omega
   ·have:=ni k c hc;omega
theorem t6(k:Nat): ∃r,dC k=120::r:=by unfold dC;split<;>exact⟨_,rfl⟩
abbrev Tm:=Bool×Nat×Nat×Nat
def cQ(t:Tm):List (List Nat):=if t.2.2.2=0 then [cG t.2.1 t.2.2.1] else if t.2.1=1/\t.2.2.1=1 then [dC t.2.2.2] else [cG t.2.1 t.2.2.1,dC t.2.2.2]
theorem lT(t:Tm):cQ t≠[]:=by
 unfold cQ;split
 ·simp
 ·split<;>simp
theorem iy(t:Tm): ∀w∈cQ t,w≠[]/\∀c∈w,47<=c/\c<=120:=by
 have h1:cG t.2.1 t.2.2.1≠[]/\∀c∈cG t.2.1 t.2.2.1,47<=c/\c<=120:=⟨zH _ _,λc hc=>by have:=pv _ _ c hc;omega⟩
 have h2:dC t.2.2.2≠[]/\∀c∈dC t.2.2.2,47<=c/\c<=120:=⟨(λz=>by obtain⟨r,e⟩:=t6 t.2.2.2;rw[e] at z;cases z),(λc hc=>by have:=BD _ c hc;omega)⟩
 intro w hw;unfold cQ at hw
 split at hw
 ·rw[gS] at hw;subst hw;exact h1
 ·split at hw
  ·rw[gS] at hw;subst hw;exact h2
  ·rcases fq.mp hw with rfl |hw
   ·exact h1
   ·rw[gS] at hw;subst hw;exact h2
def bU(t:Tm):List Nat:=br (cQ t)
def cu(t:Tm):Nat:=if t.1=true then 45 else 43
def eH(t:Tm):List Nat:=if t.1=true then [45] else []
def d9:List Tm->List Nat
 | []=>[]
 |t::r=>eH t++bU t++r.flatMap λt=>[32,cu t,32]++bU t
theorem nW(A:List Tm)(t:Tm):d9 (A++[t])=if A=[] then eH t++bU t else d9 A++([32,cu t,32]++bU t):=by
 cases A with
 |nil=>simp[d9]
 |cons a r=>simp[d9,F3]
def gP:List Tm->List (List Nat)
 | []=>[]
 |t::r=>cQ t++r.flatMap λt=>[cu t]::cQ t
theorem BE(A:List Tm)(t:Tm)(h:A≠[]):gP (A++[t])=gP A++([cu t]::cQ t):=by
 cases A with
 |nil=>exact absurd rfl h
 |cons a r=>simp[gP,F3]
theorem t7(A:List Tm)(h:A≠[]):gP A≠[]:=by
 cases A with
 |nil=>exact absurd rfl h
 |cons a r=>unfold gP;intro z;exact lT a (Dx.mp z).1
theorem qY(t0:Tm)(r:List Tm):d9 (t0::r)=eH t0++br (gP (t0::r)):=by
 have: ∀r:List Tm,d9 (t0::r)=eH t0++br (gP (t0::r)):=λr=>by
  have main: ∀m (r:List Tm),r.length=m->d9 (t0::r)=eH t0++br (gP (t0::r)):=by
   intro m
   induction m with
   |zero=>intro r hr;rw[Ak.mp hr];simp[d9,gP,bU]
   |succ m ih=>
    intro r hr;have hne:r≠[]:=λz=>by rw[z] at hr;simp at hr
    obtain⟨s,a,rfl⟩ : ∃s a,r=s++[a]:=⟨r.dropLast,r.getLast hne,(Dy hne).symm⟩
    have e1:=nW (t0::s) a;rw[aK (by simp),ih s (by simp at hr;exact hr)] at e1
    have e2:=BE (t0::s) a (by simp);rw[kL] at e1 e2
    rw[e1,e2,qW _ _ (t7 _ (by simp)) (by simp)];have e3:br ([cu a]::cQ a)=[cu a]++32::bU a:=qW [[cu a]] (cQ a) (by simp) (lT a);rw[e3];simp
  exact main r.length r rfl
 exact this r
theorem qZ(A:List Tm): ∀w∈gP A,w≠[]/\∀c∈w,43<=c/\c<=120:=by
 have h1: ∀t:Tm,∀w∈cQ t,w≠[]/\∀c∈w,43<=c/\c<=120:=λt w hw=>⟨(iy t w hw).1,λc hc=>by have:=(iy t w hw).2 c hc;omega⟩
 intro w hw;cases A with
 |nil=>cases hw
 |cons a r=>
  rcases eV.mp hw with hw |hw
  ·exact h1 a w hw
  ·obtain⟨t,_,hw⟩:=F4.mp hw
   rcases fq.mp hw with rfl |hw
   ·refine⟨by simp,λc hc=>?_⟩
    rw[gS] at hc;subst hc
    unfold cu;split<;>omega
   ·exact h1 t w hw
theorem wQ: ∀(W:List (List Nat)),(∀w∈W,∀c∈w,c<=120)->∀c∈br W,c<=120
 | [],_,c,hc=>by cases hc
 | [w],h,c,hc=>h w (dP ..) c hc
 |w::v::r,h,c,hc=>by
  rcases eV.mp (show c∈w++32::br (v::r) from hc) with hc |hc
  ·exact h w (dP ..) c hc
  ·rcases fq.mp hc with rfl |hc
   ·omega
   ·exact wQ (v::r) (λw hw=>h w (eU _ hw)) c hc
theorem pw{w:List Nat}{r:List (List Nat)}(h:w≠[]):(br (w::r)).head?= w.head?:=by
 cases w with
 |nil=>exact absurd rfl h
 |cons c w=>cases r<;>rfl
theorem yF{W:List (List Nat)}(h:W≠[])(h2: ∀w∈W,w≠[]):br W≠[]:=by
 cases W with
 |nil=>exact absurd rfl h
 |cons w r=>
  have:=h2 w (dP ..);intro z;have e:=pw (r:=r) this;rw[z] at e
  cases w with
  |nil=>exact this rfl
  |cons c w=>cases e
def fK(q:Rat)(k:Nat):Tm:=(decide (q<0),q.num.natAbs,q.den,k)
def dD:Nat->LR->List Tm
 |_,[]=>[]
 |k,q::r=>if q=0 then dD (k+1) r else fK q k::dD (k+1) r
theorem nX: ∀(k:Nat) (l:LR) (q:Rat),dD k (l++[q])=dD k l++(if q=0 then [] else [fK q (k+l.length)])
 |k,[],q=>by simp[dD]
 |k,p::l,q=>by
  have ih:=nX (k+1) l q;have e:k+1+l.length=k+(l.length+1):=by omega
  rw[e] at ih;simp only[kL,dD,c5]
  split
  ·rw[ih]
  ·rw[ih];rfl
def kw(l:LR):List Nat:=if dD 0 l=[] then [48] else d9 (dD 0 l)
def mv(l:LR):List Tm:=if dD 0 l=[] then [(false,0,1,0)] else dD 0 l
theorem HR(l:LR):mv l≠[]:=by
 unfold mv;split
 ·simp
 ·assumption
theorem J4:bT 0=[48]:=by decide +kernel
theorem D8(l:LR):kw l=d9 (mv l):=by
 unfold kw mv;split
 ·show [48]=eH (false,0,1,0)++bU (false,0,1,0)++[]
  unfold eH bU cQ cG;simp[br,J4]
 ·rfl
def Bd(q:Rat):Prop:=q.num.natAbs<10^12/\q.den<10^12
def Tk(t:Tm):Prop:=t.2.1<10^12/\t.2.2.1<10^12/\1<=t.2.2.1/\t.2.2.2<=12
theorem wR: ∀(k:Nat) (l:LR),(∀q∈l,Bd q)->k+l.length<=13->∀t∈dD k l,Tk t
 |_,[],_,_,t,h=>by cases h
 |k,q::r,hb,hl,t,h=>by
  rw[c5] at hl;have hr:=wR (k+1) r (λq hq=>hb q (eU _ hq)) (by omega) t
  unfold dD at h;split at h
  ·exact hr h
  ·rcases fq.mp h with rfl |h
   ·have:=hb q (dP ..)
    exact⟨this.1,this.2,q.den_pos,by unfold fK;dsimp only;omega⟩
   ·exact hr h
theorem t9: ∀(k:Nat) (l:LR),(dD k l).length<=l.length
 |_,[]=>cr _
 |k,q::r=>by
  have:=t9 (k+1) r;unfold dD;split<;>simp<;>omega
theorem sL{n b:Nat}(hn:n<10^12)(hb:b<10^12):(cG n b).length<=25:=by
 have h1:=(ju n 12 (by decide)).mpr hn;have h2:=(ju b 12 (by decide)).mpr hb;unfold cG;rw[bQ];split
 ·simp;omega
 ·rw[c5];omega
theorem BF{k:Nat}(h:k<=12):(dC k).length<=4:=by
 have h1:=(ju k 2 (by decide)).mpr (by omega);unfold dC;split
 ·simp
 ·simp;omega
theorem BG{t:Tm}(h:Tk t):(bU t).length<=30:=by
 have h1:=sL h.1 h.2.1;have h2:=BF h.2.2.2;unfold bU cQ;split
 ·show(cG _ _).length<=30;omega
 ·split
  ·show(dC _).length<=30;omega
  ·show(cG _ _++32::dC _).length<=30
   rw[bQ,c5];omega
theorem BH: ∀(A:List Tm),(∀t∈A,Tk t)->(d9 A).length<=A.length*40
 |A,h=>by
  have main: ∀m (A:List Tm),A.length=m->(∀t∈A,Tk t)->(d9 A).length<=m*40:=by
   intro m
   induction m with
   |zero=>intro A hA _;rw[Ak.mp hA];simp[d9]
   |succ m ih=>
    intro A hA hk;have hne:A≠[]:=λz=>by rw[z] at hA;simp at hA
    obtain⟨s,a,rfl⟩ : ∃s a,A=s++[a]:=⟨A.dropLast,A.getLast hne,(Dy hne).symm⟩
    have h1:=ih s (by simp at hA;exact hA) λt ht=>hk t (zZ _ ht)
    have h2:=BG (hk a (by simp));have h3:(eH a).length<=1:=by unfold eH;split<;>simp
    rw[nW];split
    ·rw[bQ];omega
    ·rw[bQ,bQ]
     simp only[c5,vx];omega
  exact main A.length A rfl h
theorem Fh(A:List Tm): ∀c∈d9 A,c<=120:=by
 cases A with
 |nil=>intro c hc;cases hc
 |cons t r=>
  rw[qY];intro c hc
  rcases eV.mp hc with hc |hc
  ·unfold eH at hc
   split at hc
   ·rw[gS] at hc;omega
   ·cases hc
  ·exact wQ _ (λw hw c hc=>((qZ _ w hw).2 c hc).2) c hc
theorem HS(A:List Tm)(h:A≠[]):d9 A≠[]:=by
 cases A with
 |nil=>exact absurd rfl h
 |cons t r=>
  rw[qY];intro z;exact yF (t7 _ (by simp)) (λw hw=>(qZ _ w hw).1) (Dx.mp z).2
theorem ua(A:List Tm):iH (ae (d9 A)):=i6 λc hc=>by have:=Fh A c hc;omega
theorem yG(l:LR):iH (ae (kw l)):=by rw[D8];exact ua _
theorem BI{n m:Nat}{f:List Sl->Option Fl}{ds:LP}{δ':List Sl}(hl:ds.length=n)(h:f (ds.map Sl.dat++List.replicate m Sl.no)=some (.next δ')):dA n m f ds=aj (.val .none):=by unfold dA;rw[aD hl,h];rfl
theorem i7{δ:List Sl}{f:List Sl->M Rz}{x:Rz}(h:f δ=aj x):ji f δ=some (.next δ):=by unfold ji;rw[h];rfl
theorem zI{n:Nat}(h:n<10^12):((n:Int)).natAbs<2^1900:=by
 rw[kK];exact qt h (gG (show(10:Nat)^12<2^40 by decide) (rM (by decide) (by decide)))
theorem JA{n b:Nat}(hb:b≠1):tS (n:Int)++ "/" ++tS (b:Int)=ae (cG n b):=by
 rw[ge,ge,qj,<-d6,<-d6];unfold cG;rw[aK hb];simp
theorem JB(n:Nat):tS (n:Int)=ae (cG n 1):=by
 rw[ge];unfold cG;rw[aD rfl,ka]
theorem dl{n:Nat}(h:n<10^12):(tS (n:Int)).length<=12:=by
 rw[ge,aC];exact(ju n 12 (by decide)).mpr h
theorem KG:("/" :Str).length=1:=by decide +kernel
theorem vb{n b:Nat}(hn:n<10^12)(hb:b<10^12):dk [.tuple [.int (n:Int),.int (b:Int)]]=aj (.val (.str (ae (cG n b)))):=by
 refine aP rfl ?_;show fD [.dat (.tuple [.int (n:Int),.int (b:Int)])]=_;unfold fD;have e1:=ai (δ:=[.dat (.tuple [.int (n:Int),.int (b:Int)])]) (fa:=aa (f2 aJ (ac 0) (fC (.int 0))) ak) (al (ah rfl rfl cp) rfl) (pq (zI hn));have hif:fB (f2 (aQ false) (f2 aJ (ac 0) (fC (.int 1))) (fC (.int 1))) [.dat (.tuple [.int (n:Int),.int (b:Int)])]=aj (decide ((b:Int)=1)):=ax (ah (ah rfl rfl cY) rfl (bW _ _)) rfl
 have l4:=dl hn;have l5:=dl hb;have l6:=KG
 by_cases c:b=1
 ·subst c
  refine aB (by rw[hif];rfl) (aN e1 ?_);rw[JB];rfl
 ·refine av (by rw[hif,a9 (by omega)]) (au ?_)
  refine bA (ah (ah e1 rfl (iI (by omega))) (ai (al (ah rfl rfl cY) rfl) (pq (zI hb))) (iI (by rw[qh];omega))) ?_;rw[JA c];rfl
theorem yH:("x" :Str)=ae [120]:=by decide +kernel
theorem HU:("x^" :Str)=ae [120,94]:=by decide +kernel
theorem BJ:ae (dC 1)=("x" :Str):=by rw[yH];rfl
theorem Fi{k:Nat}(h:k≠1):("x^" :Str)++tS (k:Int)=ae (dC k):=by
 rw[HU,ge,<-d6];unfold dC;rw[aK h];rfl
theorem wS{k:Nat}(h:k<=12):ic [.int (k:Int)]=aj (.val (.str (ae (dC k)))):=by
 refine aP rfl ?_;show js [.dat (.int (k:Int))]=_;unfold js;have hif:fB (f2 (aQ false) (ac 0) (fC (.int 1))) [.dat (.int (k:Int))]=aj (decide ((k:Int)=1)):=ax (ah rfl rfl (bW _ _)) rfl
 by_cases c:k=1
 ·subst c
  refine aB (by rw[hif];rfl) (aN rfl ?_);rw[BJ];rfl
 ·refine av (by rw[hif,a9 (by omega)]) (au ?_)
  have l1:=dl (n:=k) (by omega);have l2:("x^" :Str).length=2:=by decide +kernel
  refine bA (ah rfl (ai rfl (pq (zI (by omega)))) (iI (by omega))) ?_;rw[Fi c];rfl
theorem yI(t b:Int):PyData.eqv (.tuple [.int t,.int b]) (.tuple [.int 1,.int 1])=decide (t=1/\b=1):=by
 simp only[PyData.eqv,PyData.eqvAll,Bool.and_true]
 by_cases h1:t=1<;>by_cases h2:b=1<;>simp[h1,h2]
theorem iU(t b:Int):fu (.tuple [.int t,.int b])=true:=by
 unfold fu SeqAt.shaped;simp[PyData.canLay0,PyData.canLayAll0,PyData.depth,PyData.depthAll]
theorem HV{t:Tm}(h0:t.2.2.2≠0)(h1: ¬(t.2.1=1/\t.2.2.1=1)):ae (cG t.2.1 t.2.2.1)++ " " ++ae (dC t.2.2.2)=ae (bU t):=by
 rw[vq,<-d6,<-d6];unfold bU cQ;rw[aK h0,aK h1];simp[br]
theorem xQ{t:Tm}(h:Tk t):gM [.tuple [.int (t.2.1:Int),.int (t.2.2.1:Int)],.int (t.2.2.2:Int)]=aj (.val (.str (ae (bU t)))):=by
 refine aP rfl ?_;show j4 [.dat (.tuple [.int (t.2.1:Int),.int (t.2.2.1:Int)]),.dat (.int (t.2.2.2:Int))]=_;unfold j4;have e1:=vb h.1 h.2.1;have e2:=wS h.2.2.2;have hif:fB (f2 (aQ false) (ac 1) (fC (.int 0))) [.dat (.tuple [.int (t.2.1:Int),.int (t.2.2.1:Int)]),.dat (.int (t.2.2.2:Int))]=aj (decide ((t.2.2.2:Int)=0)):=ax (ah rfl rfl (bW _ _)) rfl;have hif2:fB (f2 (aQ false) (ac 0) (fC (.tuple [.int 1,.int 1]))) [.dat (.tuple [.int (t.2.1:Int),.int (t.2.2.1:Int)]),.dat (.int (t.2.2.2:Int))]=aj (decide ((t.2.1:Int)=1/\(t.2.2.1:Int)=1)):=ax (ah rfl rfl (wK rfl rfl (iU _ _) (iU _ _) (yI _ _))) rfl
 by_cases c:t.2.2.2=0
 ·refine aB (by rw[hif,bR (by omega)]) (aN (ai rfl (aG rfl rfl e1 (gD _))) ?_)
  have:bU t=cG t.2.1 t.2.2.1:=by unfold bU cQ;rw[aD c];rfl
  rw[this];rfl
 ·refine av (by rw[hif,a9 (by omega)]) (au ?_)
  by_cases c2:t.2.1=1/\t.2.2.1=1
  ·refine aB (by rw[hif2,bR (by omega)]) (aN (ai rfl (aG rfl rfl e2 (gD _))) ?_)
   have:bU t=dC t.2.2.2:=by unfold bU cQ;rw[aK c,aD c2];rfl
   rw[this];rfl
  ·refine av (by rw[hif2,a9 (by omega)]) (au ?_)
   have l1:=sL h.1 h.2.1;have l2:=BF h.2.2.2;have l3:(" " :Str).length=1:=by decide +kernel
   refine bA (ah (ah (ai rfl (aG rfl rfl e1 (gD _))) rfl (iI (by rw[aC];omega))) (ai rfl (aG rfl rfl e2 (gD _))) (iI (by rw[qh,aC,aC];omega))) ?_;rw[HV c c2];rfl
theorem HW(n:Int):g1 nB [.dat (.int n)]=aj (.dat (.int (n.natAbs:Int))):=by
 show aj (Rz.dat (PyData.int (if n<0 then -n else n)))=_;congr 3;split<;>omega
theorem JC{l:LR}(hl: ∀q∈l,Bd q)(h13:l.length<=13)(i:Nat): ∀t∈dD 0 (l.take i),Tk t:=wR 0 _ (λq hq=>hl q (yc hq)) (by rw[iX];omega)
theorem Ks{l:LR}(hl: ∀q∈l,Bd q)(h13:l.length<=13)(i:Nat):(ae (d9 (dD 0 (l.take i)))).length<=520:=by
 have h1:=BH _ (JC hl h13 i);have h2:=t9 0 (l.take i);rw[iX] at h2
 rw[aC];have:=Nat.mul_le_mul_right 40 (show(dD 0 (l.take i)).length<=13 by omega);omega
theorem yJ(A:List Tm):ae (d9 A)=("" :Str)<->A=[]:=by
 constructor
 ·intro e
  by_cases c:A=[]
  ·exact c
  ·exact absurd e (sG (by rw[aC];exact oR.mpr (HS A c)))
 ·intro e;rw[e];rfl
theorem qk(q:Rat):q.num<0<->q<0:=by rw[Rat.lt_iff];simp
theorem Kt(q:Rat):(if 0<q.num then(1:Int) else if q.num<0 then -1 else 0)<0<->q<0:=by
 rw[<-qk];split
 ·omega
 ·split<;>omega
theorem HX{l:LR}{i:Nat}(hi:i<l.length):l.take (i+1)=l.take i++[l[i]]:=by rw[F0,gk hi];rfl
theorem Fj{l:LR}{i:Nat}(hi:i<l.length):dD 0 (l.take (i+1))=dD 0 (l.take i)++(if l[i]=0 then [] else [fK l[i] i]):=by
 rw[HX hi,nX,iX];have:0+min i l.length=i:=by omega
 rw[this]
theorem pA(l:LR)(hl: ∀q∈l,Bd q)(h13:l.length<=13):ie [cD l]=aj (.val (.str (ae (kw l)))):=by
 refine aP rfl ?_;show jt [.dat (cD l),.no,.no,.no]=_;unfold jt;refine az (x:= .dat (.str "")) rfl rfl (by walk_at "ss") ?_;obtain⟨δ',e,r2,r3,rfl⟩:=qO (g:=cL 2) (b:=(ar (aA 3 (f2 aJ (ac 0) (ac 2)))
  (ar (aU (fB (f2 (aQ false) (ag (gF 1 eS) (aa (ac 3) ak)) (fC (.int 0)))) CO aR)
  (ar (aU (fB (f2 (aQ true) (ac 1) (fC (.str "")))) (aA 1 (f2 eB (ac 1) (sh (fB (f2 (gI oE) (ag (gF 1 eS) (aa (ac 3) ak)) (fC (.int 0)))) (fC (.str " - ")) (fC (.str " + "))))) (aU (fB (f2 (gI oE) (ag (gF 1 eS) (aa (ac 3) ak)) (fC (.int 0)))) (aA 1 (fC (.str "-"))) aR))
  (aA 1 (f2 eB (ac 1) (ag (gF 2 gM) (aa (ag D3.bV (aa (ag (g1 nB) (aa (f2 aJ (ac 3) (fC (.int 0))) ak)) (aa (f2 aJ (ac 3) (fC (.int 1))) ak))) (aa (ac 2) ak))))))))) (δ:=[.dat (cD l),.dat (.str ("")),.no,.no])
  (λi δ=>∃r2 r3:Sl,δ=[.dat (cD l),.dat (.str (ae (d9 (dD 0 (l.take i))))),r2,r3]) (f9 0 l.length) ⟨.no,.no,rfl⟩
  (by
   rintro i d δ hd ⟨r2,r3,rfl⟩;obtain⟨hi,rfl⟩:=wc hd;have ex:(0:Int)+(i:Int)=(i:Int):=by omega
   rw[ex];have hq:=gk hi;obtain⟨q,eq_⟩ : ∃q,q=l[i]:=⟨_,rfl⟩
   rw[<-eq_] at hq;have tn:=Fj hi
   rw[<-eq_] at tn;have l1:=Ks hl h13 i
   have P1:=By q;obtain⟨A,hA⟩ : ∃A,A=dD 0 (l.take i):=⟨_,rfl⟩
   rw[<-hA] at tn l1⊢;rw[tn]
   have hif: ∀x:Sl,fB (f2 (aQ false) (ag (gF 1 eS) (aa (ac 3) ak)) (fC (.int 0))) [.dat (cD l),x,.dat (.int (i:Int)),.dat (nD q)]=aj (decide (q=0)):=λx=>by
    rw[<-uK];exact ax (ah (ai rfl (aG rfl rfl P1 rfl)) rfl (bW _ _)) rfl
   have hlt: ∀x:Sl,fB (f2 (gI oE) (ag (gF 1 eS) (aa (ac 3) ak)) (fC (.int 0))) [.dat (cD l),x,.dat (.int (i:Int)),.dat (nD q)]=aj (decide (q<0)):=λx=>by
    refine(ax (ah (ai rfl (aG rfl rfl P1 rfl)) rfl rfl) rfl).trans ?_;exact congrArg aj (decide_eq_decide.mpr (Kt q))
   by_cases c0:q=0
   ·rw[aD c0,ka]
    refine⟨_,[.dat (cD l),.dat (.str (ae (d9 A))),.dat (.int (i:Int)),.dat (nD q)],rfl,.inr ?_,_,_,rfl⟩;refine az (ah rfl rfl (iD (j:=i) rfl (wM hq))) rfl (by walk_at "ss") ?_;exact aB (by exact(hif _).trans (congrArg aj (bR c0))) rfl
   ·rw[aK c0]
    have bq:=hl q (lm hq);have tk:Tk (fK q i):=⟨bq.1,bq.2,q.den_pos,by show i<=12;omega⟩
    have l2:=BG tk;have st:=xQ tk;refine⟨_,[.dat (cD l),.dat (.str (ae (d9 (A++[fK q i])))),.dat (.int (i:Int)),.dat (nD q)],rfl,.inl ?_,_,_,rfl⟩;refine az (ah rfl rfl (iD (j:=i) rfl (wM hq))) rfl (by walk_at "ss") ?_;refine av (by exact(hif _).trans (congrArg aj (a9 c0))) (au ?_);have fin: ∀s:Str,s.length<=600->s++ae (bU (fK q i))=ae (d9 (A++[fK q i]))->(aA 1 (f2 eB (ac 1) (ag (gF 2 gM) (aa (ag bV (aa (ag (g1 nB) (aa (f2 aJ (ac 3) (fC (.int 0))) ak)) (aa (f2 aJ (ac 3) (fC (.int 1))) ak))) (aa (ac 2) ak))))) [.dat (cD l),.dat (.str s),.dat (.int (i:Int)),.dat (nD q)]=some (.next [.dat (cD l),.dat (.str (ae (d9 (A++[fK q i])))),.dat (.int (i:Int)),.dat (nD q)]):=λs hs e=>by
     refine o9 (ah rfl (ai (al (ai (al (ai (al (ah rfl rfl cp) rfl) (HW _)) (al (ah rfl rfl cY) rfl)) rfl) (al rfl rfl)) (aG rfl rfl st (gD _))) (iI (by rw[aC];omega))) rfl ?_;rw[e];rfl
    have hne:fB (f2 (aQ true) (ac 1) (fC (.str ""))) [.dat (cD l),.dat (.str (ae (d9 A))),.dat (.int (i:Int)),.dat (nD q)]=aj (!decide (ae (d9 A)= "")):=ax (ah rfl rfl (tX (ua A) (bK ""))) rfl
    by_cases cA:A=[]
    ·subst cA
     refine av (by exact hne.trans rfl) ?_;have tx1:d9 ([]++[fK q i])=eH (fK q i)++bU (fK q i):=by rw[nW,aD rfl]
     by_cases cn:q<0
     ·refine aB (by exact(hlt _).trans (congrArg aj (bR cn))) (az (x:= .dat (.str "-")) rfl rfl (by walk_at "ss") (fin "-" (by decide +kernel) ?_))
      rw[tx1,nU,<-d6];unfold eH fK;rw[bR cn,aD rfl]
     ·refine av (by exact(hlt _).trans (congrArg aj (a9 cn))) (au (fin _ (by decide +kernel) ?_))
      rw[tx1];unfold eH fK;rw[a9 cn,aK (by exact qr)];exact Fg _
    ·have tx1:d9 (A++[fK q i])=d9 A++([32,cu (fK q i),32]++bU (fK q i)):=by rw[nW,aK cA]
     have mk:(sh (fB (f2 (gI oE) (ag (gF 1 eS) (aa (ac 3) ak)) (fC (.int 0)))) (fC (.str " - ")) (fC (.str " + "))) [.dat (cD l),.dat (.str (ae (d9 A))),.dat (.int (i:Int)),.dat (nD q)]=aj (.dat (.str (ae [32,cu (fK q i),32]))):=by
      by_cases cn:q<0
      ·refine(Bh (by exact(hlt _).trans (congrArg aj (bR cn))) (z:= .dat (.str " - ")) rfl).trans ?_
       have:ae [32,cu (fK q i),32]=(" - " :Str):=by unfold cu fK;rw[bR cn,aD rfl];decide +kernel
       rw[this]
      ·refine(Bi (by exact(hlt _).trans (congrArg aj (a9 cn))) (z:= .dat (.str " + ")) rfl).trans ?_
       have:ae [32,cu (fK q i),32]=(" + " :Str):=by unfold cu fK;rw[a9 cn,aK (by exact qr)];decide +kernel
       rw[this]
     refine aB (by exact hne.trans (congrArg aj (by rw[a9 (λz=>cA ((yJ A).mp z))];rfl))) ?_;refine az (ah rfl mk (iI (by rw[aC [32,cu (fK q i),32]];simp only[c5,vx];omega))) rfl (by walk_at "ss") (fin _ (by rw[qh,aC [32,cu (fK q i),32]];simp only[c5,vx];omega) ?_);rw[tx1,d6,d6,Bz])
 rw[Bl,F1] at e;refine cV (lG (yy (m:=l.length) (al (ai rfl (HQ l)) rfl) (by omega) (by omega) (by omega)) e) ?_
 have hne:fB (f2 (aQ true) (ac 1) (fC (.str ""))) [.dat (cD l),.dat (.str (ae (d9 (dD 0 l)))),r2,r3]=aj (!decide (ae (d9 (dD 0 l))= "")):=ax (ah rfl rfl (tX (ua _) (bK ""))) rfl;unfold kw
 by_cases c:dD 0 l=[]
 ·rw[aD c]
  refine bA (Bi (by rw[hne,c];rfl) rfl) ?_;rw[show("0" :Str)=ae [48] by decide +kernel];rfl
 ·rw[aK c]
  exact bA (Bh (by rw[hne,a9 (λz=>c ((yJ _).mp z))];rfl) rfl) rfl
theorem mapP{a:Str}(h:a.length<=1000){p q r:Str}(e:Txt.partition a "/" =(p,q,r)):j0 "/" (.dat (.str a))=aj (.dat (.tuple [.str p,.str q,.str r])):=by
 have sl:(sizeLine:Nat)=16777216:=rfl;unfold j0 Rz.d?;dsimp only;rw[aD ⟨by decide +kernel,by omega⟩,e]
theorem C6(n:Nat): ∀c∈bT n,c≠47:=λc hc=>by have:=ni n c hc;omega
theorem uL{n b:Nat}(hn:n<10^12)(hb:b<10^12)(b1:1<=b):fJ [.str (ae (cG n b))]=aj (.val (nD (Rat.divInt (n:Int) (b:Int)))):=by
 refine aP rfl ?_;show cP [.dat (.str (ae (cG n b))),.no,.no,.no]=_;unfold cP;have rl:(ae (cG n b)).length<=1000:=by rw[aC];have:=sL hn hb;omega
 have wn:=nV n hn;have wb:=nV b hb
 by_cases c:b=1
 ·subst c
  have e:cG n 1=bT n:=by unfold cG;rw[aD rfl,ka]
  rw[e] at rl⊢;refine az (cI rfl (mapP rl (tY _ (C6 n)))) rfl (by walk_at "ss") ?_
  rw[ge] at wn;refine az (x:= .dat (.int (n:Int))) (ai (al (ah rfl rfl cp) rfl) (aG rfl rfl wn rfl)) rfl (by walk_at "ss") ?_
  refine aB ((ax (ah (ah rfl rfl cY) rfl (gc (a:=Str.empty) (b:= "") (bK "") (bK ""))) rfl).trans rfl) ?_;refine aN (ai rfl rfl) ?_;have:Rat.divInt (n:Int) ((1:Nat):Int)=((n:Int):Rat):=by
   rw[Rat.divInt_eq_div];show((n:Int):Rat)/1=_;grind
  rw[this];rfl
 ·have e:cG n b=bT n++47::bT b:=by unfold cG;rw[aK c]
  rw[e] at rl⊢;refine az (cI rfl (mapP rl (qV _ _ (C6 n)))) rfl (by walk_at "ss") ?_
  rw[ge] at wn wb;refine az (x:= .dat (.int (n:Int))) (ai (al (ah rfl rfl cp) rfl) (aG rfl rfl wn rfl)) rfl (by walk_at "ss") ?_
  refine av ((ax (ah (ah rfl rfl cY) rfl (gc (a:= "/") (b:= "") (bK "/") (bK ""))) rfl).trans (by rw[a9 (by decide +kernel)])) (au ?_);refine az (x:= .dat (.int (b:Int))) (ai (al (ah rfl rfl (iD (j:=2) rfl rfl)) rfl) (aG rfl rfl wb rfl)) rfl (by walk_at "ss") ?_;refine av ((ax (ah rfl rfl (bW _ _)) rfl).trans (by rw[a9 (by omega)])) (au ?_);exact bA (ai (al rfl (al rfl rfl)) (aG rfl rfl (zD (n:Int) (b:Int) (by omega) (by rw[kK];exact qt hb (gG (show(10:Nat)^12<2^40 by decide) (rM (by decide) (by decide))))) (dr _))) rfl
theorem jv(a:Str):eo [.str a]=aj (.val .none):=by
 refine BI (δ':=[.dat (.str a)]) rfl ?_;show f' [.dat (.str a)]=_;unfold f';exact vk (eD (ax (cI rfl rfl) rfl)) rfl
theorem jw(a:Str)(h:iH a):dH [.str a,.str a]=aj (.val .none):=by
 refine BI (δ':=[.dat (.str a),.dat (.str a)]) rfl ?_;show eG [.dat (.str a),.dat (.str a)]=_;unfold eG;refine vk ((ax (ah rfl rfl (tX h h)) rfl).trans ?_) rfl;rw[bR rfl];rfl
theorem zJ:("+" :Str)=ae [43]:=by decide +kernel
theorem wT(t:Tm)(p:Rat)(zp:NB.Sz 100 p):fg [.str (ae [cu t]),nD p]=aj (.val (nD (if t.1=true then 0-p else p))):=by
 refine aP rfl ?_;show jQ [.dat (.str (ae [cu t])),.dat (nD p)]=_;unfold jQ cu
 by_cases c:t.1=true
 ·rw[aD c,aD c,<-nU]
  refine aB ((ax (ah rfl rfl (gc (a:= "-") (b:= "-") (bK "-") (bK "-"))) rfl).trans (by rw[bR rfl])) ?_;exact aN (ai (al (x:= .dat (nD 0)) rfl (al rfl rfl)) (aG rfl rfl (yD 0 p ⟨by decide +kernel,by decide +kernel⟩ (zp.mono (by decide))) (dr _))) rfl
 ·rw[aK c,aK c,<-zJ]
  refine av ((ax (ah rfl rfl (gc (a:= "+") (b:= "-") (bK "+") (bK "-"))) rfl).trans (by rw[a9 (by decide +kernel)])) (au ?_);exact bA rfl rfl
theorem nY(a b:Str):fv (.val (.tuple [.str a,.str b]))= .dat (.tuple [.str a,.str b]):=by
 unfold fv;dsimp only;rw[aD (by simp[hI,hJ])]
theorem jx(t:Tm)(R:List Nat)(h:R.head?≠some 45)(hl:R.length<=1000):dG [.str (ae (eH t++R))]=aj (.val (.tuple [.str (ae [cu t]),.str (ae R)])):=by
 have sl:(sizeLine:Nat)=16777216:=rfl;refine aP rfl ?_;show eF [.dat (.str (ae (eH t++R)))]=_;unfold eF eH cu
 by_cases c:t.1=true
 ·rw[aD c,aD c,<-nU]
  refine aB (ax (cI rfl (sJ _)) rfl) (aN (ai (al rfl (al (x:= .dat (.str (ae R))) ?_ rfl)) rfl) rfl);show dz (.dat (.str (ae (45::R)))) (some 1) none=_;unfold dz Rz.d?;dsimp only;rw[BA,aD (by rw[aC];omega)]
 ·rw[aK c,aK c,<-zJ,lr]
  exact av (ax (cI rfl (BB _ h)) rfl) (au (bA (ai rfl rfl) rfl))
theorem Fk(b r:List Nat):Builtin.Str.subAt (ae (b++r)) (ae b) 0=true:=by
 unfold Builtin.Str.subAt;rw[beq_iff_eq];apply Dv.mp;rw[Ah,Ai];show List.take (0+(ae b).length-0) (List.drop 0 (b++r))=b;rw[aC,rO,Nat.zero_add,Dw,List.take_left' rfl]
theorem sM{s:Str}{b:List Nat}(hs:s=ae b)(r:List Nat):dO s (.dat (.str (ae (b++r))))=aj (.dat (.bool true)):=by
 unfold dO Rz.d?;dsimp only;rw[hs,Fk,bR (by rw[aC,aC,bQ];omega)];rfl
theorem xR(l:List Nat)(h:l.head?≠some 120):dO "x" (.dat (.str (ae l)))=aj (.dat (.bool false)):=by
 unfold dO Rz.d?;dsimp only;have e:Builtin.Str.subAt (ae l) "x" 0=false:=by
  rw[Ac];intro z;rw[yH] at z;have:=sI z
  rw[<-List.head?_eq_getElem?] at this;exact h this
 rw[e,Bool.and_false]
theorem HY(c d:Nat)(l:List Nat):Txt.slice (ae (c::d::l)) (some 2) none=ae l:=by
 rw[PyProof.Rows.slice_from_eq (b:=((ae (c::d::l)).length:Int)) (by decide) (by rw[aC,c5,c5];omega) rfl];show Str.mk _=Str.mk _;congr 2;show List.take (((ae (c::d::l)).length:Int)-2).toNat (List.drop 2 (c::d::l))=l;rw[aC,yb,yb,rO,c5,c5];exact um (by omega)
theorem zK{k:Nat}(h:k<=12):gB [.str (ae (dC k))]=aj (.val (.int (k:Int))):=by
 have sl:(sizeLine:Nat)=16777216:=rfl;refine aP rfl ?_;show cT [.dat (.str (ae (dC k))),.no]=_;unfold cT;have sp:iH (ae (dC k)):=i6 λc hc=>by have:=BD _ c hc;omega
 have hif:fB (f2 (aQ false) (ac 0) (fC (.str "x"))) [.dat (.str (ae (dC k))),.no]=aj (decide (ae (dC k)= "x")):=ax (ah rfl rfl (gc sp (bK "x"))) rfl
 by_cases c:k=1
 ·subst c
  exact aB (by rw[hif,bR BJ]) (aN rfl rfl)
 ·have e:dC k=120::94::bT k:=by unfold dC;rw[aK c]
  have ne:ae (dC k)≠ "x" :=λz=>by
   rw[yH] at z;have:=congrArg dB z
   rw[cH,cH,e] at this;simp at this
  refine av (by rw[hif,a9 ne]) (au ?_);rw[e];refine av (eD (ax (cI rfl (sM (b:=[120,94]) HU (bT k))) rfl)) (au ?_);have wn:=nV k (by omega);rw[ge] at wn
  have dlen:=(ju k 12 (by decide)).mpr (by omega);have hsl:(cJ dz (ac 0) (bi (fC (.int 2))) bL) [.dat (.str (ae (120::94::bT k))),.no]=aj (.dat (.str (ae (bT k)))):=by
   show dz (.dat (.str (ae (120::94::bT k)))) (some 2) none=_;unfold dz Rz.d?;dsimp only;rw[HY,aD (by rw[aC];omega)]
  refine az (x:= .dat (.int (k:Int))) (ai (al hsl rfl) (aG rfl rfl wn rfl)) rfl (by walk_at "ss") ?_;refine av ((ax (ah rfl rfl rfl) rfl).trans (?_:aj (decide ((k:Int)>=13))=aj false)) (au (bA rfl rfl));rw[a9 (by omega)]
def kz(t:Tm):Rat:=Rat.divInt (t.2.1:Int) (t.2.2.1:Int)
theorem Ku(ds:LP):g1 cW [Rz.dat (.list ds)]=aj (.dat (.int (ds.length:Int))):=rfl
theorem yK(k:Int)(p:Rat):fv (.val (.tuple [.int k,nD p]))= .dat (.tuple [.int k,nD p]):=by
 unfold fv;dsimp only;rw[aD (by simp[hI,hJ,pP])]
theorem BK{t:Tm}(h:Tk t):eY [.list ((cQ t).map λw=> .str (ae w))]=aj (.val (.tuple [.int (t.2.2.2:Int),nD (kz t)])):=by
 refine aP rfl ?_;show bM [.dat (.list ((cQ t).map λw=> .str (ae w)))]=_;unfold bM;have e1:=uL h.1 h.2.1 h.2.2.1;have e2:=zK h.2.2.2
 by_cases c:t.2.2.2=0
 ·have e:cQ t=[cG t.2.1 t.2.2.1]:=by unfold cQ;rw[aD c]
  rw[e];have nx:(cG t.2.1 t.2.2.1).head?≠some 120:=λz=>by have:=pv _ _ 120 (List.mem_of_mem_head? z);omega
  refine aB (cX (ax (ah (ai rfl rfl) rfl (bW _ _)) rfl) (lh (ax (cI (ah rfl rfl (du (j:=0) rfl rfl)) (xR _ nx)) rfl))) ?_;refine aN (ai (al rfl (al (ai (al (ah rfl rfl (du (j:=0) rfl rfl)) rfl) (aG rfl rfl e1 (dr _))) rfl)) rfl) ?_;rw[c];rfl
 ·obtain⟨pr,hpr⟩:=t6 t.2.2.2
  by_cases c2:t.2.1=1/\t.2.2.1=1
  ·have e:cQ t=[dC t.2.2.2]:=by unfold cQ;rw[aK c,aD c2]
   rw[e];have yx:dO "x" (.dat (.str (ae (dC t.2.2.2))))=aj (.dat (.bool true)):=by rw[hpr];exact sM (b:=[120]) yH pr
   refine av (cX (ax (ah (ai rfl rfl) rfl (bW _ _)) rfl) (eD (ax (cI (ah rfl rfl (du (j:=0) rfl rfl)) yx) rfl))) (au ?_);refine aB (ax (ah (ai rfl rfl) rfl (bW _ _)) rfl) ?_;refine aN (ai (al (ai (al (ah rfl rfl (du (j:=0) rfl rfl)) rfl) (aG rfl rfl e2 rfl)) (al rfl rfl)) rfl) ?_;have:nD (kz t)= .tuple [.int 1,.int 1]:=by
    unfold kz;rw[c2.1,c2.2];show nD (Rat.divInt 1 1)=_;rw[show Rat.divInt 1 1=1 by decide +kernel];rfl
   rw[this];rfl
  ·have e:cQ t=[cG t.2.1 t.2.2.1,dC t.2.2.2]:=by unfold cQ;rw[aK c,aK c2]
   rw[e];refine av (eE (ax (ah (ai rfl rfl) rfl (bW _ _)) rfl)) (au ?_);refine av (ax (ah (ai rfl rfl) rfl (bW _ _)) rfl) (au ?_);refine aB (ax (ah (ai rfl rfl) rfl (bW _ _)) rfl) ?_;exact aN (ai (al (ai (al (ah rfl rfl (du (j:=1) rfl rfl)) rfl) (aG rfl rfl e2 rfl)) (al (ai (al (ah rfl rfl (du (j:=0) rfl rfl)) rfl) (aG rfl rfl e1 (dr _))) rfl)) rfl) rfl
theorem Fm(δ:List Sl)(w:List Nat)(hw: ∀c∈w,c<=120)(h3:δ[3]?= some (.dat (.str (ae w)))):(fB (f2 (D3.m9 false) (ac 3) (ag D3.bV (aa (fC (.str "+")) (aa (fC (.str "-")) ak))))) δ=aj (decide (w=[43]) || decide (w=[45])):=by
 have sw:iH (ae w):=i6 λc hc=>by have:=hw c hc;omega
 have ok2:fu (.list [.str "+",.str "-"])=true:=by decide +kernel
 have hv:ac 3 δ=aj (.dat (.str (ae w))):=by unfold ac;rw[h3]
 have inj: ∀v:List Nat,PyData.eqv (.str (ae v)) (.str (ae w))=decide (w=v):=λv=>by
  rw[tW];exact decide_eq_decide.mpr ⟨λz=>by have:=congrArg dB z;rw[cH,cH] at this;exact this.symm,λz=>by rw[z]⟩
 refine ax (x:= .dat (.bool (decide (w=[43]) || decide (w=[45])))) (ah hv (y:= .dat (.tuple [.str "+",.str "-"])) rfl ?_) rfl;unfold D3.m9 Rz.d?;dsimp only;rw[aD ⟨lj sw,ok2⟩,zJ,nU];simp only[FU,List.any_nil,inj,FI];rfl
def iC(t:Tm):List Str:=ae [cu t]::(cQ t).map ae
theorem nZ(ft:List Sl->M Bool)(δ:List Sl)(ht: ∀w:List Nat,(∀c∈w,c<=120)->ft (δ.set 3 (.dat (.str (ae w))))=aj (decide (w=[43]) || decide (w=[45])))(bD:LP) :
  ∀(W:List (List Nat)),(∀w∈W,w≠[]/\∀c∈w,47<=c/\c<=120)->∀(gs:List (List Str)) (cur:List Str),eC ft 3 δ gs cur ((W.map λw=>PyData.str (ae w))++bD)=eC ft 3 δ gs (cur++W.map ae) bD
 | [],_,gs,cur=>by simp
 |w::W,h,gs,cur=>by
  obtain⟨h1,h2⟩:=h w (dP ..);have n1:w≠[43]:=λz=>by have:=h2 43 (by rw[z];simp);omega
  have n2:w≠[45]:=λz=>by have:=h2 45 (by rw[z];simp);omega
  rw[gj,kL]
  conv=>lhs;unfold eC
  rw[ht w (λc hc=>(h2 c hc).2),a9 n1,a9 n2];show eC ft 3 δ gs (cur++[ae w]) _=_;rw[nZ ft δ ht bD W (λw hw=>h w (eU _ hw)) gs (cur++[ae w])];simp
theorem sN(ft:List Sl->M Bool)(δ:List Sl)(ht: ∀w:List Nat,(∀c∈w,c<=120)->ft (δ.set 3 (.dat (.str (ae w))))=aj (decide (w=[43]) || decide (w=[45]))) :
  ∀(r:List Tm) (gs:List (List Str)) (cur:List Str),eC ft 3 δ gs cur ((r.flatMap λt=>[cu t]::cQ t).map λw=>PyData.str (ae w))=some (gs++[cur]++r.map iC)
 | [],gs,cur=>by simp[eC]
 |t::r,gs,cur=>by
  have hs:cu t=43\/cu t=45:=by unfold cu;split<;>simp
  rw[mT,mj,gj,kL]
  conv=>lhs;unfold eC
  rw[ht [cu t] (λc hc=>by rw[gS] at hc;rcases hs with e |e<;>omega)];have e1:(decide ([cu t]=[43]) || decide ([cu t]=[45]))=true:=by rcases hs with e |e<;>rw[e]<;>rfl
  rw[e1];show eC ft 3 δ (gs++[cur]) [ae [cu t]] _=_;rw[nZ ft δ ht _ (cQ t) (iy t),sN ft δ ht r];simp[iC]
theorem zL(t0:Tm)(r:List Tm)(hk: ∀t∈t0::r,Tk t)(h13:(t0::r).length<=13):gA [.str (ae (d9 (t0::r)))]=aj (.newls (kN ((t0::r).map iC))):=by
 have sl:(sizeLine:Nat)=16777216:=rfl;refine aP rfl ?_;show ix [.dat (.str (ae (d9 (t0::r)))),.no,.no,.no]=_;unfold ix;have len1:=BH _ hk;have len2:=Nat.mul_le_mul_right 40 h13;rw[qY] at len1⊢
 rw[bQ] at len1;have hW:=qZ (t0::r)
 have hne:=t7 (t0::r) (by simp);have hd:(br (gP (t0::r))).head?≠some 45:=by
  have h0:=lT t0;cases e:cQ t0 with
  |nil=>exact absurd e h0
  |cons w v=>
   have h1:=iy t0 w (by rw[e];simp);have e2:gP (t0::r)=w::(v++r.flatMap λt=>[cu t]::cQ t):=by show cQ t0++_=_;rw[e];rfl
   rw[e2,pw h1.1];intro z;have:=h1.2 45 (List.mem_of_mem_head? z);omega
 refine az (ai rfl (aG rfl rfl (jx t0 (br (gP (t0::r))) hd (by omega)) (nY _ _))) rfl (by walk_at "ss") ?_;have spl:=zG (gP (t0::r)) hne λw hw z=>by have:=(hW w hw).2 32 z;omega
 have e0:gP (t0::r)=cQ t0++r.flatMap λt=>[cu t]::cQ t:=rfl
 obtain⟨W,hWd⟩ : ∃W,W=gP (t0::r):=⟨_,rfl⟩
 have wl:W.length<=1000:=by
  have h1:=PyProof.Rows.split_le (ae (br W)) " ";rw[hWd,spl,cZ,aC] at h1
  rw[hWd];omega
 obtain⟨δ0,hδ⟩ : ∃δ0:List Sl,δ0=[.dat (.str (ae (eH t0++br (gP (t0::r))))),.dat (.tuple [.str (ae [cu t0]),.str (ae (br (gP (t0::r))))]),.no,.no]:=⟨_,rfl⟩
 have hsp:(fI e7 (fU (c9 " ") (f2 aJ (ac 1) (fC (.int 1))))) δ0=aj (W.map λw=>PyData.str (ae w)):=by
  rw[hδ];refine ms (cI (ah rfl rfl cY) (z:= .new (W.map λw=>PyData.str (ae w))) ?_) rfl;unfold c9 Rz.d?;dsimp only;rw[aD ⟨by decide +kernel,by rw[aC];omega⟩,spl,hWd,oz];rfl
 have hn:eC (fB (f2 (D3.m9 false) (ac 3) (ag D3.bV (aa (fC (.str "+")) (aa (fC (.str "-")) ak))))) 3 δ0 [] [ae [cu t0]] (W.map λw=>PyData.str (ae w))=some ((t0::r).map iC):=by
  have ht: ∀w:List Nat,(∀c∈w,c<=120)->(fB (f2 (D3.m9 false) (ac 3) (ag D3.bV (aa (fC (.str "+")) (aa (fC (.str "-")) ak))))) (δ0.set 3 (.dat (.str (ae w))))=aj (decide (w=[43]) || decide (w=[45])):=λw hw=>Fm _ w hw (by rw[hδ];rfl)
  rw[hWd,e0,mj,nZ _ _ ht _ (cQ t0) (iy t0),sN _ _ ht];simp[iC]
 have hset:δ0.set 2 .no=δ0:=by rw[hδ];rfl
 unfold vj;rw[<-hδ,show(f2 aJ (ac 1) (fC (.int 0))) δ0=aj (.dat (.str (ae [cu t0]))) by rw[hδ];exact ah rfl rfl cp];show bS ((fI e7 (fU (c9 " ") (f2 aJ (ac 1) (fC (.int 1))))) (δ0.set 2 .no)) _=_;rw[hset,hsp];show(if(W.map λw=>PyData.str (ae w)).length+2<sizeLine/\2<δ0.length/\3<δ0.length then _ else _)=_;rw[aD ⟨by rw[cZ];omega,by rw[hδ];show 2<4;decide,by rw[hδ];show 3<4;decide⟩];show(match eC (fB (f2 (D3.m9 false) (ac 3) (ag D3.bV (aa (fC (.str "+")) (aa (fC (.str "-")) ak))))) 3 δ0 [] [ae [cu t0]] (W.map λw=>PyData.str (ae w)) with |some gs=>some (Fl.ret (.newls (kN gs))) |none=>none)=_
 rw[hn]
def iA(t:Tm):Rat:=if t.1=true then 0-kz t else kz t
def fy(N:LR)(t:Tm):LR:=N.set t.2.2.2 (iA t)
theorem JD{t:Tm}(h:Tk t):NB.Sz 100 (kz t):=by
 have l40:(10:Nat)^12<2^100:=by decide +kernel
 exact NB.Sz.divInt (by have:=h.2.2.1;omega) (by rw[kK];exact qt h.1 l40) (by rw[kK];exact qt h.2.1 l40)
theorem Fn(a:Str)(N:LR)(t:Tm)(h:Tk t)(hN:N.length=13)(r3 r4:Sl):(ar (aA 4 (ag (gF 1 eY) (aa (cJ gN (ac 2) (bi (fC (.int 1))) bL) ak)))
  (mB 1 (ag (gF 2 fg) (aa (f2 aJ (ac 2) (fC (.int 0))) (aa (f2 aJ (ac 4) (fC (.int 1))) ak))) (f2 aJ (ac 4) (fC (.int 0))))) [.dat (.str a),.own (N.map nD),.dat (.list ((iC t).map PyData.str)),r3,r4]=some (.next [.dat (.str a),.own ((fy N t).map nD),.dat (.list ((iC t).map PyData.str)),r3,.dat (.tuple [.int (t.2.2.2:Int),nD (kz t)])]):=by
 have hs:(cJ gN (ac 2) (bi (fC (.int 1))) bL) [.dat (.str a),.own (N.map nD),.dat (.list ((iC t).map PyData.str)),r3,r4]=aj (.new ((cQ t).map λw=> .str (ae w))):=by
  show aj (Rz.new (gw ((iC t).map PyData.str) (some 1) none))=_;have:gw ((iC t).map PyData.str) (some 1) none=(cQ t).map λw=> .str (ae w):=by
   have e:(iC t).map PyData.str= .str (ae [cu t])::(cQ t).map λw=> .str (ae w):=by unfold iC;rw[gj,oz];rfl
   rw[e];unfold gw HT.gU;dsimp only;rw[aK (by decide)];have e1:min (1:Int).toNat (PyData.str (ae [cu t])::(cQ t).map λw=>PyData.str (ae w)).length=1:=by rw[c5];show min 1 _=1;omega
   first
    | (rw[e1,yb,rO,c5];exact um (by omega))
    | (simp)
  rw[this]
 have ht:=BK h;refine az (x:= .dat (.tuple [.int (t.2.2.2:Int),nD (kz t)])) (ai (al hs rfl) (aG rfl rfl ht (yK _ _))) rfl (by walk_at "ss") ?_;have hsg:=wT t (kz t) (JD h);refine v9 (d:=nD (iA t)) (ds:=N.map nD) (j:=t.2.2.2) (y:= .dat (.int (t.2.2.2:Int))) (i:=(t.2.2.2:Int)) (ai (al (ah rfl rfl (du (j:=0) rfl rfl)) (al (ah rfl rfl cY) rfl)) (aG rfl rfl hsg (dr _))) rfl (ah rfl rfl cp) rfl rfl (tZ rfl (by rw[cZ,hN];have:=h.2.2.2;omega)) ?_
 unfold fy;rw[List.map_set];rfl
theorem Fo(a:Str)(A:List Tm)(hk: ∀t∈A,Tk t)(N:LR)(hN:N.length=13): ∃r2 r4:Sl,dS (cL 2) (ar (aA 4 (ag (gF 1 eY) (aa (cJ gN (ac 2) (bi (fC (.int 1))) bL) ak)))
  (mB 1 (ag (gF 2 fg) (aa (f2 aJ (ac 2) (fC (.int 0))) (aa (f2 aJ (ac 4) (fC (.int 1))) ak))) (f2 aJ (ac 4) (fC (.int 0))))) (kN (A.map iC)) [.dat (.str a),.own (N.map nD),.no,.no,.no]=some (.next [.dat (.str a),.own ((A.foldl fy N).map nD),r2,.no,r4]):=by
 obtain⟨δ',e,r2,r4,rfl,_⟩:=qO (g:=cL 2) (b:=(ar (aA 4 (ag (gF 1 eY) (aa (cJ gN (ac 2) (bi (fC (.int 1))) bL) ak)))
  (mB 1 (ag (gF 2 fg) (aa (f2 aJ (ac 2) (fC (.int 0))) (aa (f2 aJ (ac 4) (fC (.int 1))) ak))) (f2 aJ (ac 4) (fC (.int 0)))))) (δ:=[.dat (.str a),.own (N.map nD),.no,.no,.no])
  (λi δ=>∃r2 r4:Sl,δ=[.dat (.str a),.own (((A.take i).foldl fy N).map nD),r2,.no,r4]/\((A.take i).foldl fy N).length=13) (kN (A.map iC)) ⟨.no,.no,rfl,hN⟩
  (by
   rintro i d δ hd ⟨r2,r4,rfl,hl⟩;unfold kN at hd
   rw[oQ,oQ,Option.map_map,Option.map_eq_some_iff] at hd;obtain⟨t,ht,rfl⟩:=hd
   have e1:A.take (i+1)=A.take i++[t]:=by rw[F0,ht];rfl
   refine⟨_,_,rfl,.inl (Fn a _ t (hk t (lm ht)) hl .no r4),.dat (.list ((iC t).map PyData.str)),.dat (.tuple [.int (t.2.2.2:Int),nD (kz t)]),?_,?_⟩
   ·rw[e1,F5];rfl
   ·rw[e1,F5]
    show(fy _ t).length=13;unfold fy;rw[ox];exact hl)
 have e2:(kN (A.map iC)).length=A.length:=by unfold kN;rw[cZ,cZ]
 rw[e2,F1] at e;exact⟨r2,r4,e⟩
theorem JE{q:Rat}(k:Nat):iA (fK q k)=q:=by
 unfold iA kz fK;dsimp only;have e:=F6 q
 by_cases c:q<0
 ·have cn:=(qk q).mpr c
  rw[bR c,aD rfl];have e1:(q.num.natAbs:Int)= - q.num:=by omega
  rw[e1,<-Rat.neg_divInt,e];grind
 ·have cn: ¬q.num<0:=λz=>c ((qk q).mp z)
  rw[a9 c,aK (by exact qr)];have e1:(q.num.natAbs:Int)=q.num:=by omega
  rw[e1,e]
theorem yL: ∀(l:LR) (pre:LR) (m:Nat),(dD pre.length l).foldl fy (pre++List.replicate (l.length+m) 0)=pre++l++List.replicate m 0
 | [],pre,m=>by simp[dD]
 |q::l,pre,m=>by
  have ih:=yL l (pre++[q]) m;rw[bQ,kJ] at ih
  have e:(q::l).length+m=(l.length+m)+1:=by rw[c5];omega
  rw[e,rL];unfold dD
  by_cases c:q=0
  ·rw[aD c]
   subst c;simp only[lq,List.singleton_append] at ih
   rw[ih];simp
  ·rw[aK c,FJ]
   have e2:fy (pre++0::List.replicate (l.length+m) 0) (fK q pre.length)=pre++[q]++List.replicate (l.length+m) 0:=by
    unfold fy;rw[JE];show(pre++0::List.replicate (l.length+m) 0).set pre.length q=_;rw[List.set_append_right _ _ (cr _),Af];simp
   rw[e2,ih];simp
theorem wU: ∀(k:Nat) (l:LR),dD k l=[]->∀q∈l,q=0
 |_,[],_,q,h=>by cases h
 |k,p::l,e,q,h=>by
  unfold dD at e;split at e
  ·rename_i c
   rcases fq.mp h with rfl |h
   ·exact c
   ·exact wU (k+1) l e q h
  ·cases e
theorem pB(l:LR)(hl: ∀q∈l,Bd q)(h13:l.length<=13)(ht:bP l=l):ce [.str (ae (kw l))]=aj (.val (cD l)):=by
 have sl:(sizeLine:Nat)=16777216:=rfl;refine aP rfl ?_;show cK [.dat (.str (ae (kw l))),.no,.no,.no,.no]=_;unfold cK;refine cV (i7 (ai rfl (aG rfl rfl (jv _) rfl))) ?_;refine az (x:= .new ((List.replicate 13 (0:Rat)).map nD)) (ah (ai rfl rfl) rfl rfl) rfl (by walk_at "ss") ?_;have hk: ∀t∈mv l,Tk t:=by
  unfold mv;split
  ·intro t h;rw[gS] at h;subst h;exact⟨by decide,by decide,by decide,by decide⟩
  ·exact wR 0 l hl (by omega)
 have hlen:(mv l).length<=13:=by
  unfold mv;split
  ·simp
  ·have:=t9 0 l;omega
 have hfold:bP ((mv l).foldl fy (List.replicate 13 0))=l:=by
  have hp:=yL l [] (13-l.length);have e1:l.length+(13-l.length)=13:=by omega
  rw[vx,e1,lr,lr] at hp;unfold mv
  split
  ·rename_i c
   have hz:=wU 0 l c;have l0:l=[]:=by
    rcases pp l with h | ⟨m,a,h1,h2⟩
    ·rw[ht] at h;exact h
    ·rw[ht] at h1
     exact absurd (hz a (by rw[h1];simp)) h2
   rw[l0];decide +kernel
  ·rw[hp,zF,ht]
 obtain⟨t0,r,er⟩ : ∃t0 r,mv l=t0::r:=by
  cases e:mv l with
  |nil=>exact absurd e (HR l)
  |cons t0 r=>exact⟨t0,r,rfl⟩
 have hti:=zL t0 r (by rw[<-er];exact hk) (by rw[<-er];exact hlen);rw[<-er,<-D8] at hti
 obtain⟨r2,r4,el⟩:=Fo (ae (kw l)) (mv l) hk (List.replicate 13 0) (by simp);refine cV (lG (ms (ai rfl (aG rfl rfl hti rfl)) rfl) el) ?_;have hco:=sF ((mv l).foldl fy (List.replicate 13 0)) (by rw[hfold];exact h13);rw[hfold] at hco
 refine az (ai rfl (aG rfl rfl hco (wL _))) rfl (by walk_at "ss") ?_;refine cV (i7 (ai (al rfl (al (ai rfl (aG rfl rfl (pA l hl h13) (gD _))) rfl)) (aG rfl rfl (jw _ (yG l)) rfl))) ?_;exact bA rfl rfl
def oJ(sep x:List Nat)(k:Nat):Prop:=(x.drop k).take sep.length=sep
inductive Sp (sep:List Nat):List Nat->List (List Nat)->Prop
 |one {x:List Nat}:(∀k,¬oJ sep x k)->Sp sep x [x]
 |cut {x a b:List Nat} {ps:List (List Nat)}:x=a++sep++b->(∀k,k<a.length->¬oJ sep x k)->Sp sep b ps->Sp sep x (a::ps)
def aV(z:List Nat):List (List Nat)->List Nat
 | []=>[]
 |p::r=>p++r.flatMap λq=>z++q
theorem jy(z p:List Nat){ps:List (List Nat)}(h:ps≠[]):aV z (p::ps)=p++z++aV z ps:=by
 cases ps with
 |nil=>exact absurd rfl h
 |cons q r=>simp[aV,lq]
theorem Sp.ne{sep x:List Nat}{ps:List (List Nat)}(h:Sp sep x ps):ps≠[]:=by cases h<;>simp
theorem Sp.join{sep x:List Nat}{ps:List (List Nat)}(h:Sp sep x ps):aV sep ps=x:=by
 induction h with
 |one _=>simp[aV]
 |cut e _ hb ih=>rw[jy _ _ hb.ne,ih,e]
theorem lU{sep a b:List Nat}:oJ sep (a++sep++b) a.length:=by
 unfold oJ;rw[lq,List.drop_left,List.take_left]
theorem Sp.det{sep x:List Nat}{ps qs:List (List Nat)}(h:Sp sep x ps)(g:Sp sep x qs):ps=qs:=by
 induction h generalizing qs with
 |one n=>
  cases g with
  |one _=>rfl
  |cut e _ _=>rw[e] at n;exact absurd lU (n _)
 | @cut x a b ps e n hb ih=>
  cases g with
  |one n2=>rw[e] at n2;exact absurd lU (n2 _)
  | @cut _ a2 b2 ps2 e2 n2 hb2=>
   have hl:a.length=a2.length:=by
    rcases Nat.lt_trichotomy a.length a2.length with z |z |z
    ·exact absurd (by rw[e];exact lU) (n2 _ z)
    ·exact z
    ·exact absurd (by rw[e2];exact lU) (n _ z)
   rw[e,lq,lq] at e2;obtain⟨e3,e4⟩:=List.append_inj e2 hl
   have e5:=List.append_cancel_left e4;subst e3 e5;rw[ih hb2]
theorem pC(x sep:List Nat)(hs:sep≠[])(k:Nat):PySem.StrLaws.At (ae x) (ae sep) (ae x).length k<->oJ sep x k:=by
 unfold PySem.StrLaws.At oJ;rw[PySem.StrLaws.subAt_eq];show k+(ae sep).length<=(ae x).length/\((dB (ae x)).drop k |>.take (ae sep).length) == dB (ae sep)<->_;rw[cH,cH,aC,aC,beq_iff_eq];constructor
 ·exact λh=>h.2
 ·intro h
  refine⟨?_,h⟩;have:=congrArg List.length h;rw[iX,ke] at this
  have:0<sep.length:=oR.mpr hs;omega
theorem yM(x:List Nat)(i j:Nat):dB (Builtin.Str.strSub (ae x) i j)=(x.drop i).take (j-i):=by
 have:=PySem.StrLaws.strSub_toList (ae x) i j;have e:(ae x).cps.toList=x:=cH x;rw[e] at this
 exact this
theorem wV(sep x:List Nat)(a k:Nat):oJ sep (x.drop a) k<->oJ sep x (a+k):=by unfold oJ;rw[Dz]
theorem wW(x sep:List Nat)(hs:sep≠[]): ∀(cuts:List Nat) (a f:Nat),PySem.StrLaws.ChainG (ae x) (ae sep) (ae x).length a cuts f->(∀k,f<=k->¬PySem.StrLaws.At (ae x) (ae sep) (ae x).length k)->
  Sp sep (x.drop a) ((PySem.StrLaws.partsFrom (ae x) (ae sep).length a cuts).map dB)
 | [],a,f,h,hn=>by
  have e:f=a:=h;subst e;show Sp sep (x.drop f) [dB (Builtin.Str.strSub (ae x) f (ae x).length)];rw[yM,aC,um (by rw[ke];exact cr _)];exact .one λk z=>hn (f+k) (Nat.le_add_right _ _) ((pC x sep hs _).mpr ((wV sep x f k).mp z))
 |c::r,a,f,h,hn=>by
  obtain⟨h1,h2,h3,h4⟩:=h;have ih:=wW x sep hs r _ f h4 hn;show Sp sep (x.drop a) (dB (Builtin.Str.strSub (ae x) a c)::_);rw[yM];have oc:=(pC x sep hs c).mp h2;have hcl:c+sep.length<=x.length:=by have:=h2.1;rw[aC,aC] at this;exact this
  rw[aC] at ih;have e1:x.drop a=(x.drop a).take (c-a)++x.drop c:=by
   conv=>lhs;rw[<-yd (c-a) (x.drop a)]
   rw[Dz];congr 2;omega
  have e2:x.drop c=sep++x.drop (c+sep.length):=by
   conv=>lhs;rw[<-yd sep.length (x.drop c)]
   rw[Dz];congr 1
  refine .cut (b:=x.drop (c+sep.length)) (by rw[lq,<-e2];exact e1) (λk hk z=>?_) ih;rw[iX,ke] at hk
  exact h3 (a+k) (Nat.le_add_right _ _) (by omega) ((pC x sep hs _).mpr ((wV sep x a k).mp z))
theorem wX(x sep:List Nat)(hs:sep≠[]):Sp sep x ((PySem.StrLaws.partsFrom (ae x) (ae sep).length 0 (Builtin.Str.occurrences (ae x) (ae sep) 0 (ae x).length ((ae x).length+1))).map dB):=by
 obtain⟨f,h1,h2⟩:=PySem.StrLaws.occ_tight (ae x) (ae sep) (by rw[aC];exact oR.mpr hs);exact wW x sep hs _ 0 f h1 h2
theorem qy(ps:List Str):(ps.map dB).map ae=ps:=by
 rw[oz,show(ae∘dB)=id from funext jS,List.map_id]
theorem sO(x sep:List Nat)(hs:sep≠[])(h:x.length<sep.length): ∀k,¬oJ sep x k:=λk z=>by
 have:=congrArg List.length z;rw[iX,ke] at this
 have:0<sep.length:=oR.mpr hs;omega
theorem C7(x sep:List Nat)(hs:sep≠[])(hk:Builtin.Str.strKind (ae sep)=1): ∃ps,Txt.split (ae x) (ae sep)=ps.map ae/\Sp sep x ps:=by
 have hp:=wX x sep hs;have k0:decide (Builtin.Str.strKind (ae x)<Builtin.Str.strKind (ae sep))=false:=by rw[hk];refine a9 ?_;unfold Builtin.Str.strKind;split<;> (try split)<;>omega
 cases h1:decide ((ae x).length< (ae sep).length) with
 |true=>
  refine⟨[x],?_,.one (sO x sep hs (by have:=oy h1;rw[aC,aC] at this;exact this))⟩;unfold Txt.split;rw[aD (by rw[h1];rfl)];rfl
 |false=>
  cases hf:(Builtin.Str.occurrences (ae x) (ae sep) 0 (ae x).length ((ae x).length+1)).isEmpty with
  |true=>
   refine⟨[x],?_,?_⟩
   ·unfold Txt.split
    rw[aK (by rw[h1,k0];simp),aD hf];rfl
   ·rw[List.isEmpty_iff] at hf
    rw[hf] at hp;have:(PySem.StrLaws.partsFrom (ae x) (ae sep).length 0 []).map dB=[x]:=by
     show [dB (Builtin.Str.strSub (ae x) 0 (ae x).length)]=[x]
     rw[PySem.StrLaws.sub_whole,cH]
    rw[this] at hp;exact hp
  |false=>
   refine⟨_,?_,hp⟩;unfold Txt.split;rw[aK (by rw[h1,k0];simp),aK (by rw[hf];simp),PySem.StrLaws.partsBetween_eq,qy]
theorem BL(z:List Nat): ∀ps:List Str,Str.join (ae z) ps=ae (aV z (ps.map dB))
 | []=>rfl
 | [p]=>by show p=ae (dB p++[]);rw[ka,jS]
 |p::q::r=>by
  show p++ae z++Str.join (ae z) (q::r)=ae (aV z (dB p::(q::r).map dB));rw[BL z (q::r),jy _ _ (by simp)]
  conv=>lhs;rw[<-jS p]
  rw[<-d6,<-d6]
theorem Fp(x y z:List Nat)(hy:y≠[]): ∃ps,Sp y x ps/\Txt.replace (ae x) (ae y) (ae z)=ae (aV z ps):=by
 have hp:=wX x y hy;have y0:((ae y).length == 0)=false:=by rw[aC];exact beq_eq_false_iff_ne.mpr (Nat.ne_of_gt (oR.mpr hy))
 refine⟨_,hp,?_⟩;unfold Txt.replace;rw[y0,Bool.false_and,FI];cases hf:(Builtin.Str.occurrences (ae x) (ae y) 0 (ae x).length ((ae x).length+1)).isEmpty with
 |true=>
  rw[aD rfl];rw[List.isEmpty_iff] at hf;rw[hf]
  have:(PySem.StrLaws.partsFrom (ae x) (ae y).length 0 []).map dB=[x]:=by
   show [dB (Builtin.Str.strSub (ae x) 0 (ae x).length)]=[x]
   rw[PySem.StrLaws.sub_whole,cH]
  rw[this];simp[aV]
 |false=>
  rw[aK (by simp),PySem.StrLaws.glued_eq_join,PySem.StrLaws.partsBetween_eq,BL]
theorem ql{c x y:Nat}{l:List Nat}{k:Nat}(h:oJ [x,c,y] l k):l[k+1]?= some c/\l[k]?= some x/\l[k+2]?= some y:=by
 unfold oJ at h;have at_: ∀i,i<3->l[k+i]?=[x,c,y][i]?:=λi hi=>by
  rw[<-h,List.getElem?_take,aD (by simpa using hi),List.getElem?_drop]
 exact⟨at_ 1 (by decide),at_ 0 (by decide),at_ 2 (by decide)⟩
theorem yN: ∀(P:List (List Nat)),P≠[]->(∀p∈P,43∉p)->Sp [32,43,32] (aV [32,43,32] P) P
 | [],h,_=>absurd rfl h
 | [p],_,h=>by
  have e:aV [32,43,32] [p]=p:=by simp[aV]
  rw[e];refine .one λk z=>h p (dP ..) (lm (ql z).1)
 |p::q::r,_,h=>by
  have ih:=yN (q::r) (by simp) λw hw=>h w (eU _ hw)
  refine .cut (jy _ _ (by simp)) (λk hk z=>?_) ih;have h1:=(ql z).1;rw[jy _ _ (by simp),lq] at h1
  by_cases c:k+1<p.length
  ·rw[oP c] at h1
   exact h p (dP ..) (lm h1)
  ·have e:k+1=p.length:=by omega
   rw[e,oO (cr _),Af] at h1;cases h1
theorem yO(t:Tm): ∀c∈bU t,c=32\/47<=c:=by
 have: ∀W:List (List Nat),(∀w∈W,∀c∈w,47<=c)->∀c∈br W,c=32\/47<=c:=by
  intro W
  induction W with
  |nil=>intro _ c hc;cases hc
  |cons w r ih=>
   intro h c hc;cases r with
   |nil=>exact .inr (h w (dP ..) c hc)
   |cons v s=>
    rcases eV.mp (show c∈w++32::br (v::s) from hc) with hc |hc
    ·exact .inr (h w (dP ..) c hc)
    ·rcases fq.mp hc with rfl |hc
     ·exact .inl rfl
     ·exact ih (λu hu=>h u (eU _ hu)) c hc
 exact this _ λw hw c hc=>((iy t w hw).2 c hc).1
theorem zM(t:Tm):45∉bU t:=λz=>by have:=yO t 45 z;omega
theorem C8(t:Tm):43∉bU t:=λz=>by have:=yO t 43 z;omega
theorem ub: ∀(bD:List Tm) (p:List Nat),(∀k,p[k+1]?≠some 45)->∃qs,Sp [32,45,32] (p++bD.flatMap λt=>[32,cu t,32]++bU t) qs/\aV [32,43,32,45] qs=p++bD.flatMap λt=>[32,43,32]++(eH t++bU t)
 | [],p,h=>by
  refine⟨[p],?_,by simp[aV]⟩;rw[List.flatMap_nil,ka];exact .one λk z=>h k (ql z).1
 |t::bD,p,h=>by
  by_cases ct:t.1=true
  ·obtain⟨qs,h1,h2⟩:=ub bD (bU t) λk z=>zM t (lm z)
   refine⟨p::qs,.cut (b:=bU t++bD.flatMap λt=>[32,cu t,32]++bU t) ?_ (λk hk z=>?_) h1,?_⟩
   ·rw[mT]
    unfold cu;rw[aD ct];simp
   ·have h3:=(ql z).1
    by_cases c:k+1<p.length
    ·rw[oP c] at h3
     exact h k h3
    ·have e:k+1=p.length:=by omega
     rw[e,oO (cr _),Af,mT] at h3;cases h3
   ·rw[jy _ _ h1.ne,h2,mT]
    unfold eH;rw[aD ct];simp
  ·obtain⟨qs,h1,h2⟩:=ub bD (p++([32,43,32]++bU t)) λk z=>by
    by_cases c:k+1<p.length
    ·rw[oP c] at z;exact h k z
    ·rw[oO (by omega)] at z
     rcases eV.mp (lm z) with z |z
     ·simp at z
     ·exact zM t z
   refine⟨qs,?_,?_⟩
   ·rw[mT]
    have e:cu t=43:=by unfold cu;rw[aK ct]
    rw[e];have e2:p++([32,43,32]++bU t++bD.flatMap λt=>[32,cu t,32]++bU t)=p++([32,43,32]++bU t)++bD.flatMap λt=>[32,cu t,32]++bU t:=by simp
    rw[e2];exact h1
   ·rw[h2,mT]
    have e:eH t=[]:=by unfold eH;rw[aK ct]
    rw[e];simp
theorem jT{c:Nat}: ∀(a b x y:List Nat),c∉a->c∉b->a++c::x=b++c::y->a=b/\x=y
 | [],[],x,y,_,_,h=>by simpa using h
 | [],d::b,x,y,_,hb,h=>by
  simp only[lr,kL,mS] at h;exact absurd (h.1▸dP ..) hb
 |d::a,[],x,y,ha,_,h=>by
  simp only[lr,kL,mS] at h;exact absurd (h.1▸dP ..) ha
 |d::a,e::b,x,y,ha,hb,h=>by
  simp only[kL,mS] at h;obtain⟨e1,e2⟩:=jT a b x y (λz=>ha (eU _ z)) (λz=>hb (eU _ z)) h.2
  exact⟨by rw[h.1,e1],e2⟩
theorem lV{c:Nat}: ∀(l:List Nat),c∈l->∃a b,l=a++c::b/\c∉a
 | [],h=>nomatch h
 |d::l,h=>by
  by_cases e:d=c
  ·exact⟨[],l,by rw[e];rfl,by simp⟩
  ·obtain⟨a,b,e1,e2⟩:=lV l ((fq.mp h).resolve_left (λz=>e z.symm))
   exact⟨d::a,b,by rw[e1];rfl,λz=>(fq.mp z).elim (λz=>e z.symm) e2⟩
def mK(q:List Nat):Prop:=∀a b,q≠a++43::32::45::b
def mw(p:List Nat):List Nat:=if p.head?= some 45 then [32,45,32]++p.tail else [32,43,32]++p
theorem zN: ∀(ps:List (List Nat)) (p0 q0:List Nat) (qs:List (List Nat)),43∉p0->(∀p∈ps,p≠[]/\43∉p/\p.head?≠some 32)->mK q0->(∀q∈qs,mK q)->
  aV [32,43,32] (p0::ps)=aV [32,43,32,45] (q0::qs)->aV [32,45,32] (q0::qs)=p0++ps.flatMap mw
 | [],p0,q0,qs,h0,_,_,_,h=>by
  cases qs with
  |nil=>
   have e:p0=q0:=by simpa [aV] using h
   subst e;simp[aV]
  |cons q r=>
   have e:p0=q0++([32,43,32,45]++q++r.flatMap λq=>[32,43,32,45]++q):=by simpa [aV] using h
   exact absurd (by rw[e];simp) h0
 |p1::ps,p0,q0,qs,h0,hp,hq0,hq,h=>by
  obtain⟨n1,n2,n3⟩:=hp p1 (dP ..);have hp':=λp hp'=>hp p (eU _ hp')
  have e:(p0++[32])++43::32::aV [32,43,32] (p1::ps)=aV [32,43,32,45] (q0::qs):=by rw[<-h];simp[aV]
  have z1:43∉p0++[32]:=by simp[h0]
  by_cases c:43∈q0
  ·obtain⟨a,b,rfl,ha⟩:=lV q0 c
   have e2:(p0++[32])++43::32::aV [32,43,32] (p1::ps)=a++43::(b++qs.flatMap λq=>[32,43,32,45]++q):=by rw[e];simp[aV]
   obtain⟨rfl,e3⟩:=jT _ _ _ _ z1 ha e2;cases b with
   |nil=>
    cases qs with
    |nil=>simp at e3
    |cons q r=>
     rw[lr,mT] at e3;simp only[kL,mS,true_and] at e3;cases p1 with
     |nil=>exact absurd rfl n1
     |cons d p1=>
      simp only[aV,kL,mS] at e3;exact absurd (e3.1▸dP ..) n2
   |cons d b=>
    simp only[kL,mS] at e3;obtain⟨rfl,e3⟩:=e3
    have e4:aV [32,43,32] (p1::ps)=aV [32,43,32,45] (b::qs):=e3;have nb:mK b:=λu v z=>hq0 ((p0++[32])++43::32::u) v (by rw[z];simp)
    have ih:=zN ps p1 b qs n2 hp' nb hq e4;have hd:p1.head?≠some 45:=by
     intro z;cases p1 with
     |nil=>exact n1 rfl
     |cons d p1=>
      cases z;cases b with
      |nil=>
       cases qs with
       |nil=>simp[aV] at e4
       |cons q r=>simp[aV] at e4
      |cons d b=>
       simp only[aV,kL,mS] at e4;exact hq0 (p0++[32]) b (by rw[<-e4.1])
    have e5:aV [32,45,32] (((p0++[32])++43::32::b)::qs)=p0++[32,43,32]++aV [32,45,32] (b::qs):=by simp[aV]
    rw[e5,ih,mT];unfold mw;rw[aK hd];simp
  ·cases qs with
   |nil=>
    have:aV [32,43,32,45] [q0]=q0:=by simp[aV]
    rw[this] at e;exact absurd (by rw[<-e];simp) c
   |cons q r=>
    have e2:(p0++[32])++43::32::aV [32,43,32] (p1::ps)=(q0++[32])++43::32::45::aV [32,43,32,45] (q::r):=by rw[e];simp[aV]
    obtain⟨e3,e4⟩:=jT _ _ _ _ z1 (by simp[c]) e2;have e3:=List.append_cancel_right e3;subst e3;simp only[mS,true_and] at e4
    cases p1 with
    |nil=>exact absurd rfl n1
    |cons d p1=>
     simp only[aV,kL,mS] at e4;obtain⟨rfl,e4⟩:=e4
     have ih:=zN ps p1 q r (λz=>n2 (eU _ z)) hp' (hq q (dP ..)) (λw hw=>hq w (eU _ hw)) e4;have e5:aV [32,45,32] (p0::q::r)=p0++[32,45,32]++aV [32,45,32] (q::r):=by simp[aV]
     rw[e5,ih,mT,show mw (45::p1)=[32,45,32]++p1 by simp[mw]];simp
theorem BM{sep:List Nat}{ps:List (List Nat)}(h:mK (aV sep ps)): ∀p∈ps,mK p:=by
 intro p hp a b e;obtain⟨u,v,rfl⟩:=List.append_of_mem hp;have: ∃x y,aV sep (u++p::v)=x++p++y:=by
  cases u with
  |nil=>exact⟨[],v.flatMap λq=>sep++q,by simp[aV]⟩
  |cons w u=>exact⟨w++(u.flatMap λq=>sep++q)++sep,v.flatMap λq=>sep++q,by simp[aV]⟩
 obtain⟨x,y,z⟩:=this;exact h (x++a) (b++y) (by rw[z,e];simp)
theorem Fq(l:List Nat):fM false (.dat (.str (ae [43,32,45]))) (.dat (.str (ae l)))=aj (.dat (.bool false))/\mK l\/fM false (.dat (.str (ae [43,32,45]))) (.dat (.str (ae l)))=aj (.dat (.bool true))/\¬mK l:=by
 have hf:=PySem.StrLaws.found_iff (ae l) (ae [43,32,45]);have key:(∃i,i+(ae [43,32,45]).length<=(ae l).length/\Builtin.Str.subAt (ae l) (ae [43,32,45]) i=true)<->¬mK l:=by
  constructor
  ·rintro⟨i,hi⟩ h
   have oc:=(pC l [43,32,45] (by simp) i).mp hi;refine h (l.take i) (l.drop (i+3)) ?_;have e:l.drop i=[43,32,45]++l.drop (i+3):=by
    conv=>lhs;rw[<-yd 3 (l.drop i)]
    rw[Dz];congr 1
   conv=>lhs;rw[<-yd i l,e]
   rfl
  ·intro h
   by_cases c: ∃a b,l=a++43::32::45::b
   ·obtain⟨a,b,rfl⟩:=c
    refine⟨a.length,(pC _ [43,32,45] (by simp) _).mpr ?_⟩;have:=lU (sep:=[43,32,45]) (a:=a) (b:=b);simpa using this
   ·exact absurd (λa b e=>c ⟨a,b,e⟩) h
 unfold fM Rz.d?;dsimp only;rw[aK (by decide)];cases hc:(!(Builtin.Str.occurrences (ae l) (ae [43,32,45]) 0 (ae l).length 1).isEmpty) with
 |true=>exact .inr ⟨rfl,key.mp (hf.mp hc)⟩
 |false=>
  refine .inl ⟨rfl,?_⟩;intro a b e;have:=hf.mpr (key.mpr λh=>h a b e);rw[hc] at this
  cases this
def As(l:List Nat):Prop:=(∀c∈l,c<128)/\l.length<=200
theorem As.sok{l:List Nat}(h:As l):iH (ae l):=i6 λc hc=>by have:=h.1 c hc;omega
theorem As.len{l:List Nat}(h:As l):(ae l).length<=200:=by rw[aC];exact h.2
theorem As.sub{l m:List Nat}(h:As l)(hs: ∀c∈m,c∈l)(hl:m.length<=l.length):As m:=⟨λc hc=>h.1 c (hs c hc),iV hl h.2⟩
theorem As.items{l:List Nat}(h:As l):iG (.dat (.str (ae l)))=aj (l.map λc=>PyData.str ⟨#[c]⟩):=by
 unfold iG Rz.d?;dsimp only;have asc:((ae l).cps.all λc=>decide (c<128))=true:=by
  unfold ae;rw[Du,qu];intro c hc;exact bR (h.1 c hc)
 rw[aD asc];rfl
theorem wY(m:List Nat)(d:Nat):NumText.digitsVal (m++[d])=10*NumText.digitsVal m+(d-48):=by
 unfold NumText.digitsVal;rw[F5];show _*10+(d-48)=_;omega
theorem wZ{d:Nat}(h:d<10):bT d=[d+48]:=by
 unfold bT;rw[Nat.toDigits_of_lt_base h];have:d=0\/d=1\/d=2\/d=3\/d=4\/d=5\/d=6\/d=7\/d=8\/d=9:=by omega
 rcases this with rfl |rfl |rfl |rfl |rfl |rfl |rfl |rfl |rfl |rfl<;>rfl
theorem BN{n d:Nat}(hn:0<n)(h:d<10):bT (10*n+d)=bT n++[d+48]:=by
 rw[<-wZ h];unfold bT;rw[<-Nat.toDigits_append_toDigits (by decide) hn h,mj]
theorem C9: ∀(k:Nat) (l:List Nat),l.length=k->l≠[]->(∀c∈l,48<=c/\c<=57)->(l.length<=1\/l.head?≠some 48)->bT (NumText.digitsVal l)=l:=by
 intro k
 induction k with
 |zero=>intro l hl hn;exact absurd (Ak.mp hl) hn
 |succ k ih=>
  intro l hl hn ha hz;obtain⟨m,d,rfl⟩ : ∃m d,l=m++[d]:=⟨l.dropLast,l.getLast hn,(Dy hn).symm⟩
  have hd:=ha d (by simp);rw[wY]
  by_cases c:m=[]
  ·subst c
   show bT (10*0+(d-48))=[d]
   rw[Nat.mul_zero,Nat.zero_add,wZ (by omega)];congr 1;omega
  ·have hm:m.length=k:=by simpa using hl
   have hh:m.head?≠some 48:=by
    rcases hz with z |z
    ·have:=oR.mpr c
     rw[bQ,kJ] at z;omega
    ·intro e
     cases m with
     |nil=>exact c rfl
     |cons a r=>exact z e
   have im:=ih m hm c (λx hx=>ha x (by simp[hx])) (.inr hh);have pos:0<NumText.digitsVal m:=by
    rcases Nat.eq_zero_or_pos (NumText.digitsVal m) with z |z
    ·rw[z,J4] at im
     rw[<-im] at hh;exact absurd rfl hh
    ·exact z
   rw[BN pos (by omega),im];congr 2;omega
theorem Fr(n:Nat):(bT n).length<=1\/(bT n).head?≠some 48:=by
 induction n using Nat.strongRecOn with
 |ind n ih=>
  by_cases c:n<10
  ·rw[wZ c];exact .inl (by simp)
  ·have e:n=10*(n/10)+n%10:=by omega
   rw[e,BN (by omega) (by omega)];have h0:=vp (n/10)
   rcases ih (n/10) (by omega) with h |h
   ·refine .inr ?_
    obtain⟨d,hd⟩ : ∃d,bT (n/10)=[d]:=by
     cases z:bT (n/10) with
     |nil=>exact absurd z h0
     |cons a r=>
      rw[z] at h;cases r with
      |nil=>exact⟨a,rfl⟩
      |cons b s=>simp at h
    rw[hd];intro z;have z:d=48:=by simpa using z
    subst z;have:=sH (n/10);rw[hd] at this
    have:n/10=0:=by rw[<-this];rfl
    omega
   ·refine .inr ?_
    cases z:bT (n/10) with
    |nil=>exact absurd z h0
    |cons a r=>rw[z] at h;exact h
theorem HZ{l:List Nat}(ha: ∀c∈l,48<=c/\c<=57):NumText.digitsVal l<10^l.length:=by
 have: ∀k (l:List Nat),l.length=k->(∀c∈l,48<=c/\c<=57)->NumText.digitsVal l<10^k:=by
  intro k
  induction k with
  |zero=>intro l hl _;rw[Ak.mp hl];decide
  |succ k ih=>
   intro l hl ha;have hn:l≠[]:=λz=>by rw[z] at hl;cases hl
   obtain⟨m,d,rfl⟩ : ∃m d,l=m++[d]:=⟨l.dropLast,l.getLast hn,(Dy hn).symm⟩
   have:=ih m (by simpa using hl) λc hc=>ha c (by simp[hc])
   have hd:=ha d (by simp);rw[wY,Nat.pow_succ];omega
 exact this _ l rfl ha
theorem sP{l:List Nat}(ha: ∀c∈l,48<=c/\c<=57)(h:l.length<=12):NumText.digitsVal l<10^12:=gG (HZ ha) (rM (by decide) h)
theorem Kv:("0123456789" :Str).cps.toList=[48,49,50,51,52,53,54,55,56,57]:=by decide +kernel
theorem yP(c:Nat):(!(Builtin.Str.occurrences "0123456789" ⟨#[c]⟩ 0 (("0123456789" :Str)).length 1).isEmpty)=decide (48<=c/\c<=57):=by
 rw[PySem.StrLaws.found_one,Kv];apply decide_eq_decide.mpr;simp;omega
theorem Fs(c:Nat):fM false (.dat (.str ⟨#[c]⟩)) (.dat (.str "0123456789"))=aj (.dat (.bool (decide (48<=c/\c<=57)))):=by
 unfold fM Rz.d?;dsimp only;rw[aK (by decide),yP]
theorem Ft(c:Nat):fM true (.dat (.str ⟨#[c]⟩)) (.dat (.str "0123456789"))=aj (.dat (.bool (!decide (48<=c/\c<=57)))):=by
 unfold fM Rz.d?;dsimp only;rw[aD rfl,yP]
theorem yQ{l:List Nat}(ha: ∀c∈l,48<=c/\c<=57)(hn:l≠[])(h:l.length<=12):g1 nK [.dat (.str (ae l))]=aj (.dat (.int (NumText.digitsVal l:Nat))):=by
 show nK (.dat (.str (ae l)))=_;unfold nK Rz.d?;dsimp only;rw[PySem.intText_digits (x:=ae l) (by exact ha) (by exact hn) (by rw[aC];omega)];dsimp only;rw[aD (by rw[aC];omega)];rfl
theorem qm(l:List Nat):ae l=("" :Str)<->l=[]:=by
 constructor
 ·intro z
  have:=congrArg Str.length z;rw[aC] at this
  exact Ak.mp (this.trans (by decide))
 ·intro z;subst z;rfl
theorem j7(l:List Nat)(h:As l):ef [.str (ae l)]=some (.err .NoText)\/((∀c∈l,48<=c/\c<=57)/\l≠[]/\l.length<=12/\ef [.str (ae l)]=aj (.val (.int (NumText.digitsVal l:Nat)))):=by
 have hl:=h.len;have t1: ∀δ:List Sl,δ=[.dat (.str (ae l))]->fB (f2 (aQ false) (ac 0) (fC (.str ""))) δ=aj (decide (ae l=("" :Str))):=λ δ e=>by subst e;exact ax (ah rfl rfl (gc h.sok (bK ""))) rfl
 have t2: ∀δ:List Sl,δ=[.dat (.str (ae l))]->fB (f2 (gI jK) (ag (g1 fN) (aa (ac 0) ak)) (fC (.int 12))) δ=aj (decide (((ae l).length:Int)>12)):=λ δ e=>by subst e;exact ax (ah (ai rfl (sK (by omega))) rfl rfl) rfl
 by_cases c1:l=[]
 ·refine .inl (cS rfl ?_)
  show dj [.dat (.str (ae l))]=_;unfold dj;exact aB (eQ ((t1 _ rfl).trans (by rw[bR ((qm l).mpr c1)]))) (d5 rfl)
 by_cases c2:12<l.length
 ·refine .inl (cS rfl ?_)
  show dj [.dat (.str (ae l))]=_;unfold dj;exact aB (bu ((t1 _ rfl).trans (by rw[a9 (λz=>c1 ((qm l).mp z))])) (eQ ((t2 _ rfl).trans (by rw[bR (by rw[aC];omega)])))) (d5 rfl)
 have t3: ∀b,((l.map λc=>decide (48<=c/\c<=57)).all id)=b->fB (ag (g1 (uG tO)) (aa (yn (fI iG (ac 0)) pY (f2 (fM false) (ac 0) (fC (.str "0123456789")))) ak)) [.dat (.str (ae l))]=aj b:=λb e=>by
  refine(ax (ai (al (x:= .new ((l.map λc=>decide (48<=c/\c<=57)).map PyData.bool)) ?_ rfl) (D7 _ _)) rfl).trans ?_
  ·unfold yn
   have sl:(sizeLine:Nat)=16777216:=rfl;rw[ms rfl h.items,cB,aD (by rw[cZ];have:=h.2;omega),wP (λc=>PyData.str ⟨#[c]⟩) (λc=>PyData.bool (decide (48<=c/\c<=57))) _ _ l ?_]
   ·rw[oz];rfl
   ·intro c _
    exact⟨_,ah rfl rfl (Fs c),rfl⟩
  ·unfold tO
   rw[<-e]
 by_cases c3: ∀c∈l,48<=c/\c<=57
 ·refine .inr ⟨c3,c1,by omega,aP rfl ?_⟩
  show dj [.dat (.str (ae l))]=_;unfold dj;refine av (bu ((t1 _ rfl).trans (by rw[a9 (λz=>c1 ((qm l).mp z))])) (bu ((t2 _ rfl).trans (by rw[a9 (by rw[aC];omega)])) (eD (t3 true ?_)))) (au ?_)
  ·rw[qu]
   intro b hb;obtain⟨c,hc,rfl⟩:=rN.mp hb;exact bR (c3 c hc)
  ·exact bA (ai rfl (yQ c3 c1 (by omega))) rfl
 ·refine .inl (cS rfl ?_)
  show dj [.dat (.str (ae l))]=_;unfold dj;refine aB (bu ((t1 _ rfl).trans (by rw[a9 (λz=>c1 ((qm l).mp z))])) (bu ((t2 _ rfl).trans (by rw[a9 (by rw[aC];omega)])) (lh (t3 false ?_)))) (d5 rfl);rw[Ac];intro z;rw[qu] at z
  exact c3 λc hc=>oy (z _ (rN.mpr ⟨c,hc,rfl⟩))
theorem yR{g:PyData->List Sl->Option (List Sl)}{b:List Sl->Option Fl}(o:bN): ∀(items:LP) (P:Nat->List Sl->Prop) (q:Nat->Bool) (δ:List Sl),P 0 δ->
  (∀i d δ,items[i]?= some d->P i δ->∃δ1,g d δ=some δ1/\((q i=true/\∃δ2,b δ1=some (.next δ2)/\P (i+1) δ2)\/(q i=false/\b δ1=some (.ret o))))->
  ((∀i,i<items.length->q i=true)/\∃δ',dS g b items δ=some (.next δ')/\P items.length δ')\/((∃i,i<items.length/\q i=false)/\dS g b items δ=some (.ret o))
 | [],P,q,δ,h0,_=> .inl ⟨λi h=>by simp at h,δ,rfl,h0⟩
 |d::r,P,q,δ,h0,hs=>by
  obtain⟨δ1,e1,h1⟩:=hs 0 d δ rfl h0;unfold dS;rw[e1];dsimp only
  rcases h1 with⟨q0,δ2,e2,p2⟩ | ⟨q0,e2⟩
  ·rw[e2]
   dsimp only
   rcases yR o r (λi δ=>P (i+1) δ) (λi=>q (i+1)) δ2 p2 (λi d' δ' h p=>hs (i+1) d' δ' h p) with⟨a,δ',e,p⟩ | ⟨⟨i,hi,qi⟩,e⟩
   ·exact .inl ⟨λi hi=>by cases i with |zero=>exact q0 |succ i=>exact a i (by simpa using hi),δ',e,p⟩
   ·exact .inr ⟨⟨i+1,by simpa using hi,qi⟩,e⟩
  ·rw[e2]
   exact .inr ⟨⟨0,by simp,q0⟩,rfl⟩
theorem Da{l:List Nat}(ha: ∀c∈l,48<=c/\c<=57)(hn:l≠[])(h:l.length<=12)(hz:l.length<=1\/l.head?≠some 48):NumText.digitsVal l<10^12/\l=bT (NumText.digitsVal l):=⟨sP ha h,(C9 _ l rfl hn ha hz).symm⟩
theorem JF{c:Nat}{l:List Nat}(h:(c::l).length<=200):kE (.dat (.str (ae (c::l)))) (.dat (.int 0))=aj (.dat (.str ⟨#[c]⟩)):=by
 have sl:(sizeLine:Nat)=16777216:=rfl;unfold kE Rz.d?;dsimp only;rw[aD (by rw[aC];omega)];have e:(ae (c::l)).cps.toList=c::l:=cH _;have e2:atI (c::l) (0:Int)=some c:=L2.tf (j:=0) rfl;rw[e,e2]
theorem Ic(c d:Nat):(⟨#[c]⟩ :Str)=⟨#[d]⟩<->c=d:=by
 constructor
 ·intro h
  have:=congrArg dB h;simpa [dB] using this
 ·intro h;rw[h]
theorem JG:("0" :Str)=⟨#[48]⟩:=by decide +kernel
theorem nk(l:List Nat)(h:As l):(∃n,n<10^12/\l=bT n/\bI [.str (ae l)]=aj (.val (.int (n:Int))))\/((∀n,n<10^12->l≠bT n)/\bI [.str (ae l)]=aj (.val .none)):=by
 have hl:=h.len;have len:g1 fN [.dat (.str (ae l))]=aj (.dat (.int ((ae l).length:Int))):=sK (by omega);have t1:fB (f2 (aQ false) (ag (g1 fN) (aa (ac 0) ak)) (fC (.int 0))) [.dat (.str (ae l)),.no]=aj (decide (((ae l).length:Int)=0)):=ax (ah (ai rfl len) rfl (bW _ _)) rfl;have t2:fB (f2 (gI jK) (ag (g1 fN) (aa (ac 0) ak)) (fC (.int 12))) [.dat (.str (ae l)),.no]=aj (decide (((ae l).length:Int)>12)):=ax (ah (ai rfl len) rfl rfl) rfl
 have t4:fB (f2 (gI jK) (ag (g1 fN) (aa (ac 0) ak)) (fC (.int 1))) [.dat (.str (ae l)),.no]=aj (decide (((ae l).length:Int)>1)):=ax (ah (ai rfl len) rfl rfl) rfl;have none_:(∀n,n<10^12->l≠bT n)->dJ [.dat (.str (ae l)),.no]=some (.ret (.val .none))->(∃n,n<10^12/\l=bT n/\bI [.str (ae l)]=aj (.val (.int (n:Int))))\/((∀n,n<10^12->l≠bT n)/\bI [.str (ae l)]=aj (.val .none)):=λa b=> .inr ⟨a,aP rfl b⟩
 by_cases c1:l=[]
 ·refine none_ (λn _ z=>vp n (z.symm.trans c1)) ?_
  unfold dJ;exact aB (eQ (t1.trans (by rw[c1];rfl))) (aN rfl rfl)
 have p1:=oR.mpr c1;have f1:=t1.trans (by rw[a9 (by rw[aC];omega)])
 by_cases c2:12<l.length
 ·refine none_ (λn hn z=>?_) ?_
  ·have:=(ju n 12 (by decide)).mpr hn
   rw[<-z] at this;omega
  ·unfold dJ
   exact aB (bu f1 (eQ (t2.trans (by rw[bR (by rw[aC];omega)])))) (aN rfl rfl)
 have f2':=t2.trans (by rw[a9 (by rw[aC];omega)]);have t3:fB (f2 (aQ false) (f2 kE (ac 0) (fC (.int 0))) (fC (.str "0"))) [.dat (.str (ae l)),.no]=aj (decide (l.head?= some 48)):=by
  cases l with
  |nil=>exact absurd rfl c1
  |cons c r=>
   refine(ax (ah (ah rfl rfl (JF h.2)) rfl (gc (i6 (l:=[c]) λx hx=>by rw[gS.mp hx];have:=h.1 c (dP ..);omega) (bK "0"))) rfl).trans ?_;rw[JG];have:(⟨#[c]⟩ :Str)=⟨#[48]⟩<->(c::r).head?= some 48:=by rw[Ic];simp
   exact congrArg aj (decide_eq_decide.mpr this)
 by_cases c3:l.head?= some 48/\1<l.length
 ·refine none_ (λn hn z=>?_) ?_
  ·rcases Fr n with w |w
   ·rw[<-z] at w;omega
   ·rw[<-z] at w;exact w c3.1
  ·unfold dJ
   exact aB (bu f1 (bu f2' (cX (t3.trans (by rw[bR c3.1])) (t4.trans (by rw[bR (by rw[aC];have:=c3.2;omega)]))))) (aN rfl rfl)
 have f3:fL (fB (f2 (aQ false) (f2 kE (ac 0) (fC (.int 0))) (fC (.str "0")))) (fB (f2 (gI jK) (ag (g1 fN) (aa (ac 0) ak)) (fC (.int 1)))) [.dat (.str (ae l)),.no]=aj false:=by
  refine(HD t3 λ_=>t4).trans ?_;congr 2;rw[aC,Bool.and_eq_false_iff]
  by_cases z:l.head?= some 48
  ·exact .inr (a9 λw=>c3 ⟨z,by omega⟩)
  ·exact .inl (a9 z)
 have hz:l.length<=1\/l.head?≠some 48:=by
  by_cases z:l.head?= some 48
  ·exact .inl (by
    by_cases w:1<l.length
    ·exact absurd ⟨z,w⟩ c3
    ·omega)
  ·exact .inr z
 have lp:=yR (g:=cL 1) (b:=(aU (fB (f2 (fM true) (ac 1) (fC (.str "0123456789")))) (aT (fC .none)) aR)) (.val .none) (l.map λc=>PyData.str ⟨#[c]⟩) (λ_ δ=>∃r:Sl,δ=[.dat (.str (ae l)),r]) (λi=>decide (48<=l.getD i 0/\l.getD i 0<=57)) [.dat (.str (ae l)),.no] ⟨_,rfl⟩
  (by
   rintro i d δ hd ⟨r,rfl⟩;rw[oQ,Option.map_eq_some_iff] at hd
   obtain⟨c,hc,rfl⟩:=hd;have e:l.getD i 0=c:=by rw[Ds,hc];rfl
   rw[e];have tt:fB (f2 (fM true) (ac 1) (fC (.str "0123456789"))) [.dat (.str (ae l)),.dat (.str ⟨#[c]⟩)]=aj (!decide (48<=c/\c<=57)):=ax (ah rfl rfl (Ft c)) rfl;refine⟨[.dat (.str (ae l)),.dat (.str ⟨#[c]⟩)],rfl,?_⟩
   by_cases z:48<=c/\c<=57
   ·rw[bR z] at tt⊢
    exact .inl ⟨rfl,_,vk tt rfl,_,rfl⟩
   ·rw[a9 z] at tt⊢
    exact .inr ⟨rfl,zo tt rfl⟩)
 have items:fI iG (ac 0) [.dat (.str (ae l)),.no]=aj (l.map λc=>PyData.str ⟨#[c]⟩):=ms rfl h.items
 rcases lp with⟨ok,δ',e,r,rfl⟩ | ⟨⟨i,hi,bad⟩,e⟩
 ·have ha: ∀c∈l,48<=c/\c<=57:=λc hc=>by
   obtain⟨i,hi,e⟩:=List.getElem_of_mem hc;have:=oy (ok i (by rw[cZ];exact hi));rw[Ds,gk hi,e] at this
   exact this
  obtain⟨w1,w2⟩:=Da ha c1 (by omega) hz;refine .inl ⟨_,w1,w2,aP rfl ?_⟩;show dJ [.dat (.str (ae l)),.no]=_;unfold dJ;exact av (bu f1 (bu f2' f3)) (au (cV (lG items e) (bA (ai rfl (yQ ha c1 (by omega))) rfl)))
 ·refine none_ (λn _ z=>?_) ?_
  ·rw[cZ] at hi
   have z2:=of_decide_eq_false bad;rw[Ds,gk hi] at z2
   exact z2 (ni n _ (by rw[<-z];exact ya hi))
  ·unfold dJ
   exact av (bu f1 (bu f2' f3)) (au (yw (lG items e)))
def pr(t:Int)(b:Nat):PyData:= .tuple [.int t,.int (b:Int)]
def Sg(t b:Nat):Prop:=t<10^12/\b<10^12/\1<=b/\Nat.gcd t b=1
theorem uc(t:Int)(b:Nat):fv (.val (pr t b))= .dat (pr t b):=rfl
theorem jz{a b:Nat}(h:bT a=bT b):a=b:=by rw[<-sH a,h,sH]
theorem lW(n:Nat):cG n 1=bT n:=by unfold cG;rw[aD rfl,ka]
theorem lX{n b:Nat}(h:b≠1):cG n b=bT n++47::bT b:=by unfold cG;rw[aK h]
theorem ud(n:Nat):47∉bT n:=λz=>C6 n 47 z rfl
theorem pD{t b:Nat}{a c:List Nat}(ha:47∉a)(h:a++47::c=cG t b):b≠1/\a=bT t/\c=bT b:=by
 by_cases e:b=1
 ·subst e
  rw[lW] at h;exact absurd (by rw[<-h];simp) (ud t)
 ·rw[lX e] at h
  obtain⟨e1,e2⟩:=jT _ _ _ _ ha (ud t) h;exact⟨e,e1,e2⟩
theorem yS(x0 x1 x2 x5 x6 x7:Sl)(a b:Nat):m6 (fB (f2 (aQ true) (ac 4) (fC (.int 0)))) (tL 3 4 (aa (ac 4) (aa (f2 (gI bO) (ac 3) (ac 4)) ak))) [x0,x1,x2,.dat (.int (a:Int)),.dat (.int (b:Int)),x5,x6,x7]=some (.next [x0,x1,x2,.dat (.int (Nat.gcd a b:Nat)),.dat (.int 0),x5,x6,x7]):=by
 obtain⟨δ',e,rfl⟩:=qd (c:=fB (f2 (aQ true) (ac 4) (fC (.int 0)))) (b:=tL 3 4 (aa (ac 4) (aa (f2 (gI bO) (ac 3) (ac 4)) ak))) (δ:=[x0,x1,x2,.dat (.int (a:Int)),.dat (.int (b:Int)),x5,x6,x7])
  (λ δ=>∃(x y:Nat),δ=[x0,x1,x2,.dat (.int (x:Int)),.dat (.int (y:Int)),x5,x6,x7]/\Nat.gcd x y=Nat.gcd a b)
  (λ δ=>δ=[x0,x1,x2,.dat (.int (Nat.gcd a b:Nat)),.dat (.int 0),x5,x6,x7])
  (λ δ=>match δ with | [_,_,_,_,.dat (.int y),_,_,_]=>y.natAbs |_=>0)
  (by
   rintro δ ⟨x,y,rfl,hg⟩;have tt:fB (f2 (aQ true) (ac 4) (fC (.int 0))) [x0,x1,x2,.dat (.int (x:Int)),.dat (.int (y:Int)),x5,x6,x7]=aj (!decide ((y:Int)=0)):=ax (ah rfl rfl (li _ _)) rfl
   by_cases hy:y=0
   ·subst hy
    exact .inl ⟨tt,by rw[<-hg,Nat.gcd_zero_right];rfl⟩
   ·refine .inr ⟨tt.trans (by rw[a9 (by omega)];rfl),_,HE (al rfl (al (ah rfl rfl (fF (i:=(x:Int)) (j:=(y:Int)) (by omega))) rfl)) rfl rfl (by walk_at "ss"),⟨y,x%y,rfl,?_⟩,?_⟩
    ·rw[<-hg,Nat.gcd_comm x y,Nat.gcd_rec y x,Nat.gcd_comm]
    ·show((x:Int)% (y:Int)).natAbs< ((y:Int)).natAbs
     have:=Nat.mod_lt x (show 0<y by omega);omega) ⟨a,b,rfl,rfl⟩
 exact e
theorem BO:(Str.empty:Str)≠("/" :Str):=by decide +kernel
theorem sQ(l:List Nat)(h:As l):(∃t b,Sg t b/\l=cG t b/\da [.str (ae l)]=aj (.val (pr t b)))\/((∀t b,Sg t b->l≠cG t b)/\da [.str (ae l)]=aj (.val .none)):=by
 have hl:=h.len
 by_cases c:47∈l
 ·obtain⟨a,b,rfl,ha⟩:=lV l c
  have Aa:As a:=h.sub (λx hx=>by simp[hx]) (by simp);have Ab:As b:=h.sub (λx hx=>by simp[hx]) (by simp;omega);have a6: ∀{g:List Sl->Option Fl} {r:Option Fl} {d1 d2:PyData},bI [.str (ae a)]=aj (.val d1)->bI [.str (ae b)]=aj (.val d2)->hI d1=true->hI d2=true->
    g [.dat (.str (ae (a++47::b))),.dat d1,.dat d2,.no,.no,.dat (.str (ae a)),.dat (.str "/"),.dat (.str (ae b))]=r->
    ar (tK (sk (h8 (cL 5) (h8 (cL 6) (h8 (cL 7) sj))) 3) (fU (j0 "/") (ac 0))) (ar (aA 1 (ag (gF 1 bI) (aa (ac 5) ak))) (ar (aA 2 (fC (.int 1))) (ar (aU (fB (f2 (aQ false) (ac 6) (fC (.str "/")))) (aA 2 (ag (gF 1 bI) (aa (ac 7) ak))) aR) g)))
     [.dat (.str (ae (a++47::b))),.no,.no,.no,.no,.no,.no,.no]=r:=by
   intro g r d1 d2 e1 e2 n1 n2 hg;refine cV (Bj (cI rfl (mapP (by omega) (qV a b (λx hx z=>ha (z▸hx))))) rfl rfl) ?_;refine az (x:= .dat d1) (ai (al rfl rfl) (aG rfl rfl e1 (by unfold fv;dsimp only;rw[aD n1]))) rfl (by walk_at "ss") ?_;refine az rfl rfl (by walk_at "ss") ?_;refine aB ((ax (ah rfl rfl (gc (bK "/") (bK "/"))) rfl).trans rfl) ?_;exact az (x:= .dat d2) (ai (al rfl rfl) (aG rfl rfl e2 (by unfold fv;dsimp only;rw[aD n2]))) rfl (by walk_at "ss") hg
  rcases nk a Aa with⟨t,ht,ea,fa⟩ | ⟨na,fa⟩
  ·rcases nk b Ab with⟨m,hm,eb,fb⟩ | ⟨nb,fb⟩
   ·have tb:fB (f2 (aQ false) (ac 6) (fC (.str "/"))) [.dat (.str (ae (a++47::b))),.dat (.int (t:Int)),.dat (.int (m:Int)),.no,.no,.dat (.str (ae a)),.dat (.str "/"),.dat (.str (ae b))]=aj true:=(ax (ah rfl rfl (gc (bK "/") (bK "/"))) rfl).trans rfl
    have un: ∀t' b',Sg t' b'->a++47::b=cG t' b'->b'≠1/\t=t'/\m=b':=λt' b' _ e=>by
     obtain⟨z1,z2,z3⟩:=pD ha e;exact⟨z1,jz (ea.symm.trans z2),jz (eb.symm.trans z3)⟩
    by_cases c2:m<2
    ·refine .inr ⟨λt' b' s e=>?_,aP rfl ?_⟩
     ·obtain⟨z1,_,z3⟩:=un t' b' s e
      have:=s.2.2.1;omega
     ·show cF [.dat (.str (ae (a++47::b))),.no,.no,.no,.no,.no,.no,.no]=_
      unfold cF;refine a6 fa fb rfl rfl ?_;exact aB (bu (ax (ah rfl rfl rfl) rfl) (bu (ax (ah rfl rfl rfl) rfl) (cX tb ((ax (ah rfl rfl rfl) rfl).trans (by rw[bR (show(m:Int)<2 by omega)]))))) (aN rfl rfl)
    ·have lp:cF [.dat (.str (ae (a++47::b))),.no,.no,.no,.no,.no,.no,.no]=some (.ret (.val (if Nat.gcd t m=1 then pr t m else .none))):=by
      unfold cF;refine a6 fa fb rfl rfl ?_;refine av (bu (ax (ah rfl rfl rfl) rfl) (bu (ax (ah rfl rfl rfl) rfl) (cX tb ((ax (ah rfl rfl rfl) rfl).trans (by rw[a9 (show ¬(m:Int)<2 by omega)]))))) (au ?_);refine az rfl rfl (by walk_at "ss") (az rfl rfl (by walk_at "ss") (cV (yS _ _ _ _ _ _ t m) ?_));have tg:fB (f2 (aQ true) (ac 3) (fC (.int 1))) [.dat (.str (ae (a++47::b))),.dat (.int (t:Int)),.dat (.int (m:Int)),.dat (.int (Nat.gcd t m:Nat)),.dat (.int 0),.dat (.str (ae a)),.dat (.str "/"),.dat (.str (ae b))]=aj (!decide (((Nat.gcd t m:Nat):Int)=1)):=ax (ah rfl rfl (li _ _)) rfl
      by_cases g:Nat.gcd t m=1
      ·rw[aD g]
       exact av (tg.trans (by rw[bR (by omega)];rfl)) (au (bA (ai rfl rfl) rfl))
      ·rw[aK g]
       exact aB (tg.trans (by rw[a9 (by omega)];rfl)) (aN rfl rfl)
     by_cases g:Nat.gcd t m=1
     ·rw[aD g] at lp
      exact .inl ⟨t,m,⟨ht,hm,by omega,g⟩,by rw[lX (by omega),ea,eb],aP rfl lp⟩
     ·rw[aK g] at lp
      refine .inr ⟨λt' b' s e=>?_,aP rfl lp⟩;obtain⟨_,z2,z3⟩:=un t' b' s e;subst z2 z3;exact g s.2.2.2
   ·refine .inr ⟨λt' b' s e=>nb b' s.2.1 (pD ha e).2.2,aP rfl ?_⟩
    show cF [.dat (.str (ae (a++47::b))),.no,.no,.no,.no,.no,.no,.no]=_;unfold cF;refine a6 fa fb rfl rfl ?_;exact aB (bu (ax (ah rfl rfl rfl) rfl) (eQ (ax (ah rfl rfl rfl) rfl))) (aN rfl rfl)
  ·refine .inr ⟨λt' b' s e=>na t' s.1 (pD ha e).2.1,aP rfl ?_⟩
   show cF [.dat (.str (ae (a++47::b))),.no,.no,.no,.no,.no,.no,.no]=_;unfold cF
   rcases nk b Ab with⟨m,hm,eb,fb⟩ | ⟨nb,fb⟩
   ·refine a6 fa fb rfl rfl ?_
    exact aB (eQ (ax (ah rfl rfl rfl) rfl)) (aN rfl rfl)
   ·refine a6 fa fb rfl rfl ?_
    exact aB (eQ (ax (ah rfl rfl rfl) rfl)) (aN rfl rfl)
 ·have a6: ∀{g:List Sl->Option Fl} {r:Option Fl} {d1:PyData},bI [.str (ae l)]=aj (.val d1)->hI d1=true->
    g [.dat (.str (ae l)),.dat d1,.dat (.int 1),.no,.no,.dat (.str (ae l)),.dat (.str Str.empty),.dat (.str Str.empty)]=r->
    ar (tK (sk (h8 (cL 5) (h8 (cL 6) (h8 (cL 7) sj))) 3) (fU (j0 "/") (ac 0))) (ar (aA 1 (ag (gF 1 bI) (aa (ac 5) ak))) (ar (aA 2 (fC (.int 1))) (ar (aU (fB (f2 (aQ false) (ac 6) (fC (.str "/")))) (aA 2 (ag (gF 1 bI) (aa (ac 7) ak))) aR) g)))
     [.dat (.str (ae l)),.no,.no,.no,.no,.no,.no,.no]=r:=by
   intro g r d1 e1 n1 hg;refine cV (Bj (cI rfl (mapP (by omega) (tY l (λx hx z=>c (z▸hx))))) rfl rfl) ?_;refine az (x:= .dat d1) (ai (al rfl rfl) (aG rfl rfl e1 (by unfold fv;dsimp only;rw[aD n1]))) rfl (by walk_at "ss") ?_;refine az rfl rfl (by walk_at "ss") ?_;exact av ((ax (ah rfl rfl (gc (a:=Str.empty) (bK "") (bK "/"))) rfl).trans (by rw[a9 BO])) (au hg)
  rcases nk l h with⟨t,ht,e,f⟩ | ⟨n,f⟩
  ·refine .inl ⟨t,1,⟨ht,by decide,by decide,Nat.gcd_one_right t⟩,by rw[lW];exact e,aP rfl ?_⟩
   show cF [.dat (.str (ae l)),.no,.no,.no,.no,.no,.no,.no]=_;unfold cF;refine a6 f rfl ?_;refine av (bu (ax (ah rfl rfl rfl) rfl) (bu (ax (ah rfl rfl rfl) rfl) (eE ((ax (ah rfl rfl (gc (a:=Str.empty) (bK "") (bK "/"))) rfl).trans (by rw[a9 BO]))))) (au ?_);refine az rfl rfl (by walk_at "ss") (az rfl rfl (by walk_at "ss") (cV (yS _ _ _ _ _ _ t 1) ?_));rw[Nat.gcd_one_right];exact av ((ax (ah rfl rfl (li _ _)) rfl).trans rfl) (au (bA (ai rfl rfl) rfl))
  ·refine .inr ⟨λt' b' s e=>?_,aP rfl ?_⟩
   ·by_cases z:b'=1
    ·subst z;rw[lW] at e;exact n t' s.1 e
    ·rw[lX z] at e;exact c (by rw[e];simp)
   ·show cF [.dat (.str (ae l)),.no,.no,.no,.no,.no,.no,.no]=_
    unfold cF;refine a6 f rfl ?_;exact aB (eQ (ax (ah rfl rfl rfl) rfl)) (aN rfl rfl)
theorem jU{δ:List Sl}{i:Nat}{f:List Sl->M Rz}{g:List Sl->Option Fl}{C:Ex}(h:f δ=some (.err C)):ar (aA i f) g δ=some (.exc C):=d5 (by unfold aA;rw[h];rfl)
theorem lY{δ:List Sl}{g:List Rz->M Rz}{fa:List Sl->M (List Rz)}{C:Ex}(h1:fa δ=some (.err C)):ag g fa δ=some (.err C):=by unfold ag;rw[h1];rfl
theorem c6{δ:List Sl}{g:List Rz->M Rz}{fa:List Sl->M (List Rz)}{zs:List Rz}{C:Ex}(h1:fa δ=aj zs)(h2:g zs=some (.err C)):ag g fa δ=some (.err C):=by unfold ag;rw[h1,cB,h2]
theorem kA{δ:List Sl}{f:List Sl->M Rz}{g:List Sl->M (List Rz)}{C:Ex}(h1:f δ=some (.err C)):aa f g δ=some (.err C):=by unfold aa;rw[h1];rfl
theorem pE{δ:List Sl}{f:List Sl->M Rz}{g:List Sl->M (List Rz)}{x:Rz}{C:Ex}(h1:f δ=aj x)(h2:g δ=some (.err C)):aa f g δ=some (.err C):=by unfold aa;rw[h1,cB,h2];rfl
theorem n4{δ:List Sl}{f:List Sl->M Rz}{C:Ex}(h:f δ=some (.err C)):ji f δ=some (.exc C):=by unfold ji;rw[h];rfl
theorem qo{δ:List Sl}{f:List Sl->M Rz}{C:Ex}(h:f δ=some (.err C)):aT f δ=some (.exc C):=by unfold aT;rw[h];rfl
theorem w4{g:PyData->List Sl->Option (List Sl)}{b:List Sl->Option Fl}(C:Ex)(P:List Sl->Prop): ∀(items:LP) (δ:List Sl),P δ->
  (∀d∈items,∀δ,P δ->∃δ1,g d δ=some δ1/\((∃δ2,b δ1=some (.next δ2)/\P δ2)\/b δ1=some (.exc C)))->(∃δ',dS g b items δ=some (.next δ')/\P δ')\/dS g b items δ=some (.exc C)
 | [],δ,h,_=> .inl ⟨δ,rfl,h⟩
 |d::r,δ,h,hs=>by
  obtain⟨δ1,e1,h1⟩:=hs d (dP ..) δ h;unfold dS;rw[e1];dsimp only
  rcases h1 with⟨δ2,e2,p2⟩ |e2
  ·rw[e2]
   exact w4 C P r δ2 p2 λd hd=>hs d (eU _ hd)
  ·rw[e2]
   exact .inr rfl
def lZ(t:Int)(b:Nat):List Nat:=nj t++cG t.natAbs b
theorem w6(t:Int):tS t=ae (nj t++bT t.natAbs):=by
 unfold nj
 by_cases c:t<0
 ·rw[aD c]
  have e:(0:Int)-t=(t.natAbs:Int):=by omega
  unfold tS;rw[PyProof.Rows.toString_neg c,e,Str.ofString_eq_toList,String.toList_append,mj];have h:=ge t.natAbs;unfold tS at h
  rw[Str.ofString_eq_toList] at h;have h2:((toString (t.natAbs:Int)).toList.map Char.toNat)=bT t.natAbs:=by
   have:=congrArg (λs:Str=>s.cps.toList) h;simpa [ae] using this
  rw[h2];rfl
 ·rw[aK c]
  have e:t=(t.natAbs:Int):=by omega
  rw[lr,<-ge,<-e]
theorem Ie(t:Int)(b:Nat)(ht:t.natAbs<10^100)(hb:b<10^100):(lZ t b).length<=300/\(nj t).length<=1/\(bT t.natAbs).length<=100/\(bT b).length<=100:=by
 have h1:=(ju t.natAbs 100 (by decide)).mpr ht;have h2:=(ju b 100 (by decide)).mpr hb;have h3:(nj t).length<=1:=by unfold nj;split<;>simp
 unfold lZ cG;rw[bQ,bQ];refine⟨?_,h3,h1,h2⟩;split
 ·simp;omega
 ·rw[c5];omega
theorem BP{n:Int}(h:n.natAbs<10^100):n.natAbs<2^1900:=qt h (gG (show(10:Nat)^100<2^400 by decide +kernel) (rM (by decide) (by decide)))
theorem Ig(t:Int):tS t=ae (lZ t 1):=by
 rw[w6];unfold lZ cG;rw[aD rfl,ka]
theorem Ih(t:Int)(b:Nat)(hb:b≠1):tS t++ "/" ++tS (b:Int)=ae (lZ t b):=by
 rw[w6,ge,qj,<-d6,<-d6];unfold lZ cG;rw[aK hb];simp
theorem zO(t:Int)(b:Nat)(ht:t.natAbs<10^100)(hb:b<10^100):dk [.tuple [.int t,.int (b:Int)]]=aj (.val (.str (ae (lZ t b)))):=by
 refine aP rfl ?_;show fD [.dat (.tuple [.int t,.int (b:Int)])]=_;unfold fD;have e1:=ai (δ:=[.dat (.tuple [.int t,.int (b:Int)])]) (fa:=aa (f2 aJ (ac 0) (fC (.int 0))) ak) (al (ah rfl rfl cp) rfl) (pq (BP ht));have hif:fB (f2 (aQ false) (f2 aJ (ac 0) (fC (.int 1))) (fC (.int 1))) [.dat (.tuple [.int t,.int (b:Int)])]=aj (decide ((b:Int)=1)):=ax (ah (ah rfl rfl cY) rfl (bW _ _)) rfl;obtain⟨l0,l1,l2,l3⟩:=Ie t b ht hb
 have l4:(tS t).length<=101:=by rw[w6,aC,bQ];omega
 have l5:(tS (b:Int)).length<=100:=by rw[ge,aC];omega
 have l6:("/" :Str).length=1:=by decide +kernel
 by_cases c:b=1
 ·subst c
  refine aB (by rw[hif];rfl) (aN e1 ?_);rw[Ig];rfl
 ·refine av (by rw[hif,a9 (by omega)]) (au ?_)
  refine bA (ah (ah e1 rfl (iI (by omega))) (ai (al (ah rfl rfl cY) rfl) (pq (BP (by rw[kK];exact hb)))) (iI (by rw[qh];omega))) ?_;rw[Ih t b c];rfl
def jA(q:Rat):List Nat:=lZ q.num q.den
theorem BQ{n:Nat}(h:n<10^12):n<10^100:=qt h (by decide +kernel)
theorem w8{q:Rat}(h:Bd q):dk [nD q]=aj (.val (.str (ae (jA q)))):=zO q.num q.den (BQ h.1) (BQ h.2)
theorem Ii(q:Rat): ∀c∈jA q,c<=120:=by
 intro c hc;unfold jA lZ at hc
 rcases eV.mp hc with hc |hc
 ·unfold nj at hc
  split at hc
  ·rw[gS] at hc;omega
  ·cases hc
 ·have:=pv _ _ c hc;omega
theorem BR(q:Rat):iH (ae (jA q)):=i6 λc hc=>by have:=Ii q c hc;omega
theorem BS{n b:Nat}(hn:n<10^12)(hb:b<10^12)(b1:1<=b):Bd (Rat.divInt (n:Int) (b:Int)):=by
 unfold Bd;rw[FK,FM,aK (by omega)];have hs:(b:Int).sign=1:=FL (by omega);rw[hs,Int.one_mul,kK];have e:((n:Int)/ (((b:Int).gcd (n:Int):Nat):Int)).natAbs=n/ ((b:Int).gcd (n:Int)):=by rw[<-Int.natCast_ediv,kK]
 rw[e];exact⟨z9 (FO _ _) hn,z9 (FO _ _) hb⟩
theorem BT{q:Rat}(h:Bd q):Bd (0-q):=by
 have e:0-q= -q:=by grind
 rw[e];exact⟨by show(-q).num.natAbs<_;rw[Rat.neg_num];have:=h.1;omega,by show(-q).den<_;rw[Rat.neg_den];exact h.2⟩
theorem Ij{n:Nat}(h:n<10^12):Bd (n:Rat):=⟨by show((n:Rat).num).natAbs<_;rw[Rat.num_natCast];omega,by show(n:Rat).den<_;rw[Rat.den_natCast];decide⟩
theorem D9{q:Rat}(h:Bd q):NB.Sz 100 q:=by
 have l40:(10:Nat)^12<2^100:=by decide +kernel
 exact⟨qt h.1 l40,qt h.2 l40⟩
theorem n5(l:List Nat)(h:As l):fJ [.str (ae l)]=some (.err .NoText)\/∃q,Bd q/\fJ [.str (ae l)]=aj (.val (nD q)):=by
 have hl:=h.len
 by_cases c:47∈l
 ·obtain⟨a,b,rfl,ha⟩:=lV l c
  have Aa:As a:=h.sub (λx hx=>by simp[hx]) (by simp);have Ab:As b:=h.sub (λx hx=>by simp[hx]) (by simp;omega);have a6: ∀{g:List Sl->Option Fl} {r:Option Fl},g [.dat (.str (ae (a++47::b))),.dat (.tuple [.str (ae a),.str "/",.str (ae b)]),.no,.no]=r->ar (aA 1 (fU (j0 "/") (ac 0))) g [.dat (.str (ae (a++47::b))),.no,.no,.no]=r:=λhg=>
   az (cI rfl (mapP (by omega) (qV a b (λx hx z=>ha (z▸hx))))) rfl (by walk_at "ss") hg
  rcases j7 a Aa with fa | ⟨a1,a2,a3,fa⟩
  ·refine .inl (cS rfl ?_)
   show cP [.dat (.str (ae (a++47::b))),.no,.no,.no]=_;unfold cP;exact a6 (jU (c6 (al (ah rfl rfl cp) rfl) (e9 rfl rfl fa)))
  ·have two: ∀{g:List Sl->Option Fl} {r:Option Fl},g [.dat (.str (ae (a++47::b))),.dat (.tuple [.str (ae a),.str "/",.str (ae b)]),.dat (.int (NumText.digitsVal a:Nat)),.no]=r->ar (aA 2 (ag (gF 1 ef) (aa (f2 aJ (ac 1) (fC (.int 0))) ak))) (ar (aU (fB (f2 (aQ false) (f2 aJ (ac 1) (fC (.int 1))) (fC (.str "")))) (aT (ag bV (aa (ac 2) (aa (fC (.int 1)) ak)))) aR) g) [.dat (.str (ae (a++47::b))),.dat (.tuple [.str (ae a),.str "/",.str (ae b)]),.no,.no]=r:=λhg=>by
    refine az (x:= .dat (.int (NumText.digitsVal a:Nat))) (ai (al (ah rfl rfl cp) rfl) (aG rfl rfl fa rfl)) rfl (by walk_at "ss") ?_;exact av ((ax (ah (ah rfl rfl cY) rfl (gc (a:= "/") (b:= "") (bK "/") (bK ""))) rfl).trans (by rw[a9 (by decide +kernel)])) (au hg)
   rcases j7 b Ab with fb | ⟨b1,b2,b3,fb⟩
   ·refine .inl (cS rfl ?_)
    show cP [.dat (.str (ae (a++47::b))),.no,.no,.no]=_;unfold cP;exact a6 (two (jU (c6 (al (ah rfl rfl (iD (j:=2) rfl rfl)) rfl) (e9 rfl rfl fb))))
   ·have v1:=sP a1 a3
    have v2:=sP b1 b3
    by_cases z:NumText.digitsVal b=0
    ·refine .inl (cS rfl ?_)
     show cP [.dat (.str (ae (a++47::b))),.no,.no,.no]=_;unfold cP;refine a6 (two (az (x:= .dat (.int (NumText.digitsVal b:Nat))) (ai (al (ah rfl rfl (iD (j:=2) rfl rfl)) rfl) (aG rfl rfl fb rfl)) rfl (by walk_at "ss") ?_));exact aB ((ax (ah rfl rfl (bW _ _)) rfl).trans (by rw[bR (by omega)])) (d5 rfl)
    ·refine .inr ⟨_,BS v1 v2 (by omega),aP rfl ?_⟩
     show cP [.dat (.str (ae (a++47::b))),.no,.no,.no]=_;unfold cP;refine a6 (two (az (x:= .dat (.int (NumText.digitsVal b:Nat))) (ai (al (ah rfl rfl (iD (j:=2) rfl rfl)) rfl) (aG rfl rfl fb rfl)) rfl (by walk_at "ss") ?_));refine av ((ax (ah rfl rfl (bW _ _)) rfl).trans (by rw[a9 (by omega)])) (au ?_);exact bA (ai (al rfl (al rfl rfl)) (aG rfl rfl (zD _ _ (by omega) (by rw[kK];exact qt v2 (gG (show(10:Nat)^12<2^40 by decide) (rM (by decide) (by decide))))) (dr _))) rfl
 ·have a6: ∀{g:List Sl->Option Fl} {r:Option Fl},g [.dat (.str (ae l)),.dat (.tuple [.str (ae l),.str Str.empty,.str Str.empty]),.no,.no]=r->ar (aA 1 (fU (j0 "/") (ac 0))) g [.dat (.str (ae l)),.no,.no,.no]=r:=λhg=>
   az (cI rfl (mapP (by omega) (tY l (λx hx z=>c (z▸hx))))) rfl (by walk_at "ss") hg
  rcases j7 l h with fa | ⟨a1,a2,a3,fa⟩
  ·refine .inl (cS rfl ?_)
   show cP [.dat (.str (ae l)),.no,.no,.no]=_;unfold cP;exact a6 (jU (c6 (al (ah rfl rfl cp) rfl) (e9 rfl rfl fa)))
  ·refine .inr ⟨((NumText.digitsVal l:Nat):Rat),Ij (sP a1 a3),aP rfl ?_⟩
   show cP [.dat (.str (ae l)),.no,.no,.no]=_;unfold cP;refine a6 (az (x:= .dat (.int (NumText.digitsVal l:Nat))) (ai (al (ah rfl rfl cp) rfl) (aG rfl rfl fa rfl)) rfl (by walk_at "ss") ?_);refine aB ((ax (ah (ah rfl rfl cY) rfl (gc (a:=Str.empty) (b:= "") (bK "") (bK ""))) rfl).trans rfl) ?_;refine aN (ai rfl rfl) ?_;rfl
theorem pF(w:Str)(hw:iH w)(p:Rat)(zp:Bd p):fg [.str w,nD p]=aj (.val (nD (if w= "-" then 0-p else p))):=by
 refine aP rfl ?_;show jQ [.dat (.str w),.dat (nD p)]=_;unfold jQ;have tt:fB (f2 (aQ false) (ac 0) (fC (.str "-"))) [.dat (.str w),.dat (nD p)]=aj (decide (w= "-")):=ax (ah rfl rfl (gc hw (bK "-"))) rfl
 by_cases c:w= "-"
 ·rw[aD c]
  refine aB (tt.trans (by rw[bR c])) ?_;exact aN (ai (al (x:= .dat (nD 0)) rfl (al rfl rfl)) (aG rfl rfl (yD 0 p ⟨by decide +kernel,by decide +kernel⟩ ((D9 zp).mono (by decide))) (dr _))) rfl
 ·rw[aK c]
  exact av (tt.trans (by rw[a9 c])) (au (bA rfl rfl))
theorem uM(a b:Str)(ha:iH a)(hb:iH b):(a=b/\dH [.str a,.str b]=aj (.val .none))\/dH [.str a,.str b]=some (.err .NoText):=by
 have tt:fB (f2 (aQ true) (ac 0) (ac 1)) [.dat (.str a),.dat (.str b)]=aj (!decide (a=b)):=ax (ah rfl rfl (tX ha hb)) rfl
 by_cases c:a=b
 ·subst c;exact .inl ⟨rfl,jw a ha⟩
 ·refine .inr (cS rfl ?_)
  show eG [.dat (.str a),.dat (.str b)]=_;unfold eG;exact zo (tt.trans (by rw[a9 c];rfl)) rfl
theorem BU(l:List Nat)(h:As l): ∃w R,(w=ae [45]\/w=ae [43])/\As R/\dG [.str (ae l)]=aj (.val (.tuple [.str w,.str (ae R)])):=by
 by_cases c:l.head?= some 45
 ·cases l with
  |nil=>cases c
  |cons x R=>
   cases c;have AR:As R:=h.sub (λx hx=>eU _ hx) (by simp);refine⟨ae [45],R,.inl rfl,AR,?_⟩;refine aP rfl ?_;show eF [.dat (.str (ae (45::R)))]=_;unfold eF;have sl:(sizeLine:Nat)=16777216:=rfl;rw[<-nU];refine aB (ax (cI rfl (sJ _)) rfl) (aN (ai (al rfl (al (x:= .dat (.str (ae R))) ?_ rfl)) rfl) rfl);show dz (.dat (.str (ae (45::R)))) (some 1) none=_;unfold dz Rz.d?;dsimp only;rw[BA,aD (by rw[aC];have:=AR.2;omega)]
 ·refine⟨ae [43],l,.inr rfl,h,?_⟩
  have:=jx (false,0,0,0) l c (by have:=h.2;omega);exact this
theorem JH{w:Str}(h:w=ae [45]\/w=ae [43]):iH w:=by rcases h with rfl |rfl<;>exact i6 (by simp)
theorem xf(l:List Nat)(h:As l):bY [.str (ae l)]=some (.err .NoText)\/∃q,Bd q/\l=jA q/\bY [.str (ae l)]=aj (.val (nD q)):=by
 obtain⟨w,R,hw,AR,fr⟩:=BU l h;have a6: ∀{g:List Sl->Option Fl} {r:Option Fl},g [.dat (.str (ae l)),.dat (.tuple [.str w,.str (ae R)]),.no]=r->ar (ji (ag (gF 1 eo) (aa (ac 0) ak))) (ar (aA 1 (ag (gF 1 dG) (aa (ac 0) ak))) g) [.dat (.str (ae l)),.no,.no]=r:=λhg=>
  cV (i7 (ai rfl (aG rfl rfl (jv _) rfl))) (az (ai rfl (aG rfl rfl fr (nY _ _))) rfl (by walk_at "ss") hg)
 rcases n5 R AR with fs | ⟨p,bp,fs⟩
 ·refine .inl (cS rfl ?_)
  show cx [.dat (.str (ae l)),.no,.no]=_;unfold cx;exact a6 (jU (lY (pE (ah rfl rfl cp) (kA (c6 (al (ah rfl rfl cY) rfl) (e9 rfl rfl fs))))))
 ·obtain⟨q,hq⟩ : ∃q,q=if w= "-" then 0-p else p:=⟨_,rfl⟩
  have bq:Bd q:=by rw[hq];split;exact BT bp;exact bp
  have hsg:=pF w (JH hw) p bp;rw[<-hq] at hsg
  have two: ∀{g:List Sl->Option Fl} {r:Option Fl},g [.dat (.str (ae l)),.dat (.tuple [.str w,.str (ae R)]),.dat (nD q)]=r->ar (aA 2 (ag (gF 2 fg) (aa (f2 aJ (ac 1) (fC (.int 0))) (aa (ag (gF 1 fJ) (aa (f2 aJ (ac 1) (fC (.int 1))) ak)) ak)))) g [.dat (.str (ae l)),.dat (.tuple [.str w,.str (ae R)]),.no]=r:=λhg=>
   az (x:= .dat (nD q)) (ai (al (ah rfl rfl cp) (al (ai (al (ah rfl rfl cY) rfl) (aG rfl rfl fs (dr _))) rfl)) (aG rfl rfl hsg (dr _))) rfl (by walk_at "ss") hg
  have fsh:(aa (ac 0) (aa (ag (gF 1 dk) (aa (ac 2) ak)) ak)) [.dat (.str (ae l)),.dat (.tuple [.str w,.str (ae R)]),.dat (nD q)]=aj [.dat (.str (ae l)),.dat (.str (ae (jA q)))]:=al rfl (al (ai rfl (aG (ds:=[nD q]) rfl rfl (w8 bq) (gD _))) rfl)
  rcases uM (ae l) (ae (jA q)) h.sok (BR q) with⟨e,fw⟩ |fw
  ·refine .inr ⟨q,bq,by have:=congrArg dB e;rwa [cH,cH] at this,aP rfl ?_⟩
   show cx [.dat (.str (ae l)),.no,.no]=_;unfold cx;exact a6 (two (cV (i7 (ai fsh (aG rfl rfl fw rfl))) (bA rfl rfl)))
  ·refine .inl (cS rfl ?_)
   show cx [.dat (.str (ae l)),.no,.no]=_;unfold cx;exact a6 (two (d5 (n4 (c6 fsh (e9 rfl rfl fw)))))
theorem ue(n b:Nat):(cG n b).head?≠some 45:=by
 intro z;cases e:cG n b with
 |nil=>exact zH n b e
 |cons c r=>
  rw[e] at z;have:=pv n b c (by rw[e];simp)
  cases z;omega
theorem pG(q:Rat)(h:Bd q):bY [.str (ae (jA q))]=aj (.val (nD q)):=by
 have b1:1<=q.den:=q.den_pos;have rl:=sL h.1 h.2;refine aP rfl ?_;show cx [.dat (.str (ae (jA q))),.no,.no]=_;unfold cx;refine cV (i7 (ai rfl (aG rfl rfl (jv _) rfl))) ?_;have fr:=jx (decide (q.num<0),0,0,0) (cG q.num.natAbs q.den) (ue _ _) (by omega);have e1:eH (decide (q.num<0),0,0,0)++cG q.num.natAbs q.den=jA q:=by
  unfold eH jA lZ nj
  by_cases c:q.num<0
  ·simp[c]
  ·simp[c]
 rw[e1] at fr;refine az (ai rfl (aG rfl rfl fr (nY _ _))) rfl (by walk_at "ss") ?_
 have hs:=uL h.1 h.2 b1;have hq:(if decide (q.num<0)=true then 0-Rat.divInt (q.num.natAbs:Int) (q.den:Int) else Rat.divInt (q.num.natAbs:Int) (q.den:Int))=q:=by
  have e:=F6 q
  by_cases c:q.num<0
  ·rw[aD (bR c)]
   have e1:(q.num.natAbs:Int)= - q.num:=by omega
   rw[e1,<-Rat.neg_divInt,e];grind
  ·rw[aK (by simp[c])]
   have e1:(q.num.natAbs:Int)=q.num:=by omega
   rw[e1,e]
 have hsg:=wT (decide (q.num<0),0,0,0) _ (D9 (BS h.1 h.2 b1));rw[show(if((decide (q.num<0),0,0,0):Tm).1=true then 0-Rat.divInt (q.num.natAbs:Int) (q.den:Int) else Rat.divInt (q.num.natAbs:Int) (q.den:Int))=q from hq] at hsg
 refine az (x:= .dat (nD q)) (ai (al (ah rfl rfl cp) (al (ai (al (ah rfl rfl cY) rfl) (aG rfl rfl hs (dr _))) rfl)) (aG rfl rfl hsg (dr _))) rfl (by walk_at "ss") ?_;refine cV (i7 (ai (al rfl (al (ai rfl (aG (ds:=[nD q]) rfl rfl (w8 h) (gD _))) rfl)) (aG rfl rfl (jw _ (BR _)) rfl))) ?_;exact bA rfl rfl
theorem nl(k n:Nat):(max (0:Int) (min (if(k:Int)<0 then(k:Int)+(n:Int) else(k:Int)) (n:Int)))=((min k n:Nat):Int):=by
 rw[aK (by omega)];omega
theorem Db(l:List Nat)(k:Nat):Txt.slice (ae l) none (some (k:Int))=ae (l.take k):=by
 have e:Builtin.Str.strSliceIndices none (some (k:Int)) 1 (ae l).length=Builtin.Str.strSliceIndices (some ((0:Nat):Int)) (some ((min k l.length:Nat):Int)) 1 (ae l).length:=by
  rw[aC];unfold Builtin.Str.strSliceIndices;dsimp only;rw[aD (by decide),nl,nl,nl];congr 1<;>omega
 have h:=PySem.StrLaws.sliceText_nat (ae l) (a:=0) (b:=min k l.length) (vw _) (by rw[aC];omega);show PySem.StrLaws.sliceText (ae l) none (some (k:Int))=_;unfold PySem.StrLaws.sliceText at h⊢
 rw[e,h];show Str.mk _=Str.mk _;congr 2;have e2:(ae l).cps.toList=l:=cH l;rw[e2,rO,Dw,List.take_eq_take_iff];omega
theorem zP(l:List Nat)(k:Nat):Txt.slice (ae l) (some (k:Int)) none=ae (l.drop k):=by
 have e:Builtin.Str.strSliceIndices (some (k:Int)) none 1 (ae l).length=Builtin.Str.strSliceIndices (some ((min k l.length:Nat):Int)) (some ((l.length:Nat):Int)) 1 (ae l).length:=by
  rw[aC];unfold Builtin.Str.strSliceIndices;dsimp only;rw[aD (by decide),nl,nl,nl,aD (by decide)];congr 1
  ·omega
  ·omega
 have h:=PySem.StrLaws.sliceText_nat (ae l) (a:=min k l.length) (b:=l.length) (by omega) (by rw[aC];omega);show PySem.StrLaws.sliceText (ae l) (some (k:Int)) none=_;unfold PySem.StrLaws.sliceText at h⊢
 rw[e,h];show Str.mk _=Str.mk _;congr 2;have e2:(ae l).cps.toList=l:=cH l;rw[e2]
 by_cases c:k<=l.length
 ·rw[Nat.min_eq_left c]
  exact um (by rw[ke];exact cr _)
 ·rw[Nat.min_eq_right (by omega),Ae,List.drop_eq_nil_of_le (by omega)];simp
theorem BV{l:List Nat}(h:l.length<=1000){k:Int}(n:Nat)(e:k=(n:Int)):gO (.dat (.str (ae l))) none (some k)=aj (.dat (.str (ae (l.take n)))):=by
 have sl:(sizeLine:Nat)=16777216:=rfl;subst e;unfold gO Rz.d?;dsimp only;rw[Db,aD (by rw[aC,iX];omega)]
theorem n6{l:List Nat}(h:l.length<=1000){k:Int}(n:Nat)(e:k=(n:Int)):dz (.dat (.str (ae l))) (some k) none=aj (.dat (.str (ae (l.drop n)))):=by
 have sl:(sizeLine:Nat)=16777216:=rfl;subst e;unfold dz Rz.d?;dsimp only;rw[zP,aD (by rw[aC,ke];omega)]
theorem jV{l m:List Nat}:ae l=ae m<->l=m:=by
 constructor
 ·intro h
  have:=congrArg dB h
  rwa [cH,cH] at this
 ·intro h;rw[h]
theorem As.drop{l:List Nat}(h:As l)(k:Nat):As (l.drop k):=h.sub (λ_ hc=>Al hc) (by rw[ke];omega)
theorem As.take{l:List Nat}(h:As l)(k:Nat):As (l.take k):=h.sub (λ_ hc=>yc hc) (by rw[iX];omega)
theorem zQ(l:List Nat)(c:Nat):l.take 1=[c]<->l.head?= some c:=by cases l<;>simp
theorem Dc(l:List Nat)(h:As l):(∃q,Bd q/\l=jA q/\dn [.str (ae l)]=aj (.val (nD q)))\/((∀q,Bd q->l≠jA q)/\dn [.str (ae l)]=aj (.val .none)):=by
 have h1000:l.length<=1000:=by have:=h.2;omega
 have tt:fB (f2 (aQ true) (cJ gO (ac 0) bL (bi (fC (.int 1)))) (fC (.str "-"))) [.dat (.str (ae l)),.no]=aj (!decide (l.head?= some 45)):=by
  refine(ax (ah (show _=aj (Rz.dat (.str (ae (l.take 1)))) from BV h1000 1 rfl) rfl (tX (h.take 1).sok (bK "-"))) rfl).trans ?_;have:ae (l.take 1)=("-" :Str)<->l.head?= some 45:=by rw[nU,jV];exact zQ l 45
  rw[decide_eq_decide.mpr this]
 by_cases c:l.head?= some 45
 ·obtain⟨R,rfl⟩ : ∃R,l=45::R:=by
   cases l with
   |nil=>cases c
   |cons x R=>cases c;exact⟨R,rfl⟩
  have f0:=tt.trans (by rw[bR c]);have fd:(cJ dz (ac 0) (bi (fC (.int 1))) bL) [.dat (.str (ae (45::R))),.no]=aj (.dat (.str (ae R))):=n6 h1000 1 rfl
  rcases sQ R (h.drop 1) with⟨t,b,s,e,f⟩ | ⟨n,f⟩
  ·have two: ∀{g:List Sl->Option Fl} {r:Option Fl},g [.dat (.str (ae (45::R))),.dat (pr t b)]=r->ar (aA 1 (ag (gF 1 da) (aa (cJ dz (ac 0) (bi (fC (.int 1))) bL) ak))) g [.dat (.str (ae (45::R))),.no]=r:=λhg=>
    az (ai (al fd rfl) (aG rfl rfl f (uc _ _))) rfl (by walk_at "ss") hg
   have t0:fB (f2 (aQ false) (f2 aJ (ac 1) (fC (.int 0))) (fC (.int 0))) [.dat (.str (ae (45::R))),.dat (pr t b)]=aj (decide ((t:Int)=0)):=ax (ah (ah rfl rfl cp) rfl (bW _ _)) rfl
   by_cases z:t=0
   ·refine .inr ⟨λq bq e2=>?_,aP rfl ?_⟩
    ·unfold jA lZ nj at e2
     by_cases cq:q.num<0
     ·rw[aD cq] at e2
      have e3:R=cG q.num.natAbs q.den:=(eA e2).2;rw[e,z] at e3
      have:(0:Nat)=q.num.natAbs:=by
       by_cases cb:b=1
       ·subst cb
        rw[lW] at e3
        by_cases cd:q.den=1
        ·rw[cd,lW] at e3;exact jz e3
        ·rw[lX cd] at e3;exact absurd (by rw[e3];simp) (ud 0)
       ·rw[lX cb] at e3
        exact jz (pD (ud 0) e3).2.1
      omega
     ·rw[aK cq,lr] at e2
      exact ue _ _ (by rw[<-e2];rfl)
    ·show cy [.dat (.str (ae (45::R))),.no]=_
     unfold cy;refine av f0 (au (two ?_));exact aB (bu (ax (ah rfl rfl rfl) rfl) (t0.trans (by rw[bR (by omega)]))) (aN rfl rfl)
   ·have cop:Nat.Coprime (-(t:Int)).natAbs b:=by rw[Int.natAbs_neg,kK];exact s.2.2.2
    obtain⟨q,q1,q2⟩ : ∃q:Rat,q.num= -(t:Int)/\q.den=b:=⟨⟨-(t:Int),b,by have:=s.2.2.1;omega,cop⟩,rfl,rfl⟩
    refine .inl ⟨q,⟨by rw[q1];have:=s.1;omega,by rw[q2];exact s.2.1⟩,?_,aP rfl ?_⟩
    ·unfold jA lZ nj
     rw[q1,q2,aD (by omega),Int.natAbs_neg,kK,e];rfl
    ·show cy [.dat (.str (ae (45::R))),.no]=_
     unfold cy;refine av f0 (au (two ?_));refine av (bu (ax (ah rfl rfl rfl) rfl) (t0.trans (by rw[a9 (by omega)]))) (au ?_);refine bA (ai (al (x:= .dat (.int (-(t:Int)))) (ah rfl (ah rfl rfl cp) ?_) (al (ah rfl rfl cY) rfl)) rfl) ?_
     ·show aj (Rz.dat (PyData.int (0- (t:Int))))=_
      rw[Int.zero_sub]
     ·unfold nD;rw[q1,q2];rfl
  ·refine .inr ⟨λq bq e2=>?_,aP rfl ?_⟩
   ·unfold jA lZ nj at e2
    by_cases cq:q.num<0
    ·rw[aD cq] at e2
     have e3:R=cG q.num.natAbs q.den:=(eA e2).2;exact n _ _ ⟨bq.1,bq.2,q.den_pos,q.reduced⟩ e3
    ·rw[aK cq,lr] at e2
     exact ue _ _ (by rw[<-e2];rfl)
   ·show cy [.dat (.str (ae (45::R))),.no]=_
    unfold cy;refine av f0 (au (az (x:= .dat .none) (ai (al fd rfl) (aG rfl rfl f rfl)) rfl (by walk_at "ss") ?_));exact aB (eQ (ax (ah rfl rfl rfl) rfl)) (aN rfl rfl)
 ·have f0:=tt.trans (by rw[a9 c])
  rcases sQ l h with⟨t,b,s,e,f⟩ | ⟨n,f⟩
  ·obtain⟨q,q1,q2⟩ : ∃q:Rat,q.num=(t:Int)/\q.den=b:=⟨⟨(t:Int),b,by have:=s.2.2.1;omega,by rw[kK];exact s.2.2.2⟩,rfl,rfl⟩
   refine .inl ⟨q,⟨by rw[q1];have:=s.1;omega,by rw[q2];exact s.2.1⟩,?_,aP rfl ?_⟩
   ·unfold jA lZ nj
    rw[q1,q2,aK (by omega),kK,e];rfl
   ·show cy [.dat (.str (ae l)),.no]=_
    unfold cy;refine aB f0 (aN (ai rfl (aG rfl rfl f (uc _ _))) ?_);unfold nD;rw[q1,q2];rfl
  ·refine .inr ⟨λq bq e2=>?_,aP rfl ?_⟩
   ·unfold jA lZ nj at e2
    by_cases cq:q.num<0
    ·rw[aD cq] at e2
     exact c (by rw[e2];rfl)
    ·rw[aK cq,lr] at e2
     exact n _ _ ⟨bq.1,bq.2,q.den_pos,q.reduced⟩ e2
   ·show cy [.dat (.str (ae l)),.no]=_
    unfold cy;exact aB f0 (aN (x:= .dat .none) (ai rfl (aG rfl rfl f rfl)) rfl)
theorem uf(l:List Nat)(h:As l):(∃k,1<=k/\k<=12/\l=dC k/\eu [.str (ae l)]=aj (.val (.int (k:Int))))\/((∀k,1<=k->k<=12->l≠dC k)/\eu [.str (ae l)]=aj (.val .none)):=by
 have h1000:l.length<=1000:=by have:=h.2;omega
 have t1:fB (f2 (aQ false) (ac 0) (fC (.str "x"))) [.dat (.str (ae l)),.no]=aj (decide (l=[120])):=by
  refine(ax (ah rfl rfl (gc h.sok (bK "x"))) rfl).trans ?_;have:ae l=("x" :Str)<->l=[120]:=by rw[yH,jV]
  rw[decide_eq_decide.mpr this]
 by_cases c:l=[120]
 ·refine .inl ⟨1,by decide,by decide,by rw[c];rfl,aP rfl ?_⟩
  show db [.dat (.str (ae l)),.no]=_;unfold db;exact aB (t1.trans (by rw[bR c])) (aN rfl rfl)
 have f1:=t1.trans (by rw[a9 c]);have fd:(cJ dz (ac 0) (bi (fC (.int 2))) bL) [.dat (.str (ae l)),.no]=aj (.dat (.str (ae (l.drop 2)))):=n6 h1000 2 rfl;have t2: ∀r,fB (f2 (aQ true) (cJ gO (ac 0) bL (bi (fC (.int 2)))) (fC (.str "x^"))) [.dat (.str (ae l)),r]=aj (!decide (l.take 2=[120,94])):=λr=>by
  refine(ax (ah (show _=aj (Rz.dat (.str (ae (l.take 2)))) from BV h1000 2 rfl) rfl (tX (h.take 2).sok (bK "x^"))) rfl).trans ?_;have:ae (l.take 2)=("x^" :Str)<->l.take 2=[120,94]:=by rw[HU,jV]
  rw[decide_eq_decide.mpr this]
 have nope: ∀k,1<=k->l=dC k->l.take 2=[120,94]/\l.drop 2=bT k/\k≠1:=λk _ e=>by
  unfold dC at e
  by_cases z:k=1
  ·rw[aD z] at e;exact absurd e c
  ·rw[aK z] at e
   rw[e];exact⟨rfl,rfl,z⟩
 rcases nk (l.drop 2) (h.drop 2) with⟨n,hn,e,f⟩ | ⟨no,f⟩
 ·have two: ∀{g:List Sl->Option Fl} {r:Option Fl},g [.dat (.str (ae l)),.dat (.int (n:Int))]=r->ar (aA 1 (ag (gF 1 bI) (aa (cJ dz (ac 0) (bi (fC (.int 2))) bL) ak))) g [.dat (.str (ae l)),.no]=r:=λhg=>
   az (x:= .dat (.int (n:Int))) (ai (al fd rfl) (aG rfl rfl f rfl)) rfl (by walk_at "ss") hg
  have t3:fB (f2 (gI oE) (ac 1) (fC (.int 2))) [.dat (.str (ae l)),.dat (.int (n:Int))]=aj (decide ((n:Int)<2)):=ax (ah rfl rfl rfl) rfl;have t4:fB (f2 (gI jK) (ac 1) (fC (.int 12))) [.dat (.str (ae l)),.dat (.int (n:Int))]=aj (decide ((12:Int)< (n:Int))):=ax (ah rfl rfl rfl) rfl
  by_cases ok:l.take 2=[120,94]/\2<=n/\n<=12
  ·refine .inl ⟨n,by omega,ok.2.2,?_,aP rfl ?_⟩
   ·unfold dC
    rw[aK (by omega),<-e]
    conv=>lhs;rw[<-yd 2 l,ok.1]
    rfl
   ·show db [.dat (.str (ae l)),.no]=_
    unfold db;refine av f1 (au (two ?_));refine av (bu ((t2 _).trans (by rw[bR ok.1];rfl)) (bu (ax (ah rfl rfl rfl) rfl) (bu (t3.trans (by rw[a9 (show ¬(n:Int)<2 by omega)])) (t4.trans (by rw[a9 (show ¬(12:Int)<n by omega)]))))) (au (bA rfl rfl))
  ·refine .inr ⟨λk k1 k2 e2=>?_,aP rfl ?_⟩
   ·obtain⟨z1,z2,z3⟩:=nope k k1 e2
    have:n=k:=jz (e.symm.trans z2);exact ok ⟨z1,by omega,by omega⟩
   ·show db [.dat (.str (ae l)),.no]=_
    unfold db;refine av f1 (au (two ?_));refine aB ?_ (aN rfl rfl)
    by_cases z1:l.take 2=[120,94]
    ·refine bu ((t2 _).trans (by rw[bR z1];rfl)) (bu (ax (ah rfl rfl rfl) rfl) ?_)
     by_cases z2:n<2
     ·exact eQ (t3.trans (by rw[bR (by omega)]))
     ·exact bu (t3.trans (by rw[a9 (by omega)])) (t4.trans (by
       have w:12<n:=by
        by_cases w:n<=12
        ·exact absurd ⟨z1,by omega,w⟩ ok
        ·omega
       rw[bR (by omega)]))
    ·exact eQ ((t2 _).trans (by rw[a9 z1];rfl))
 ·refine .inr ⟨λk k1 k2 e2=>no k (by omega) (nope k k1 e2).2.1,aP rfl ?_⟩
  show db [.dat (.str (ae l)),.no]=_;unfold db;refine av f1 (au (az (x:= .dat .none) (ai (al fd rfl) (aG rfl rfl f rfl)) rfl (by walk_at "ss") ?_));refine aB ?_ (aN rfl rfl)
  by_cases z1:l.take 2=[120,94]
  ·exact bu ((t2 _).trans (by rw[bR z1];rfl)) (eQ (ax (ah rfl rfl rfl) rfl))
  ·exact eQ ((t2 _).trans (by rw[a9 z1];rfl))
theorem pH{t b t' b':Nat}(h:cG t b=cG t' b'):t=t'/\b=b':=by
 by_cases c:b=1
 ·subst c
  rw[lW] at h
  by_cases d:b'=1
  ·subst d;rw[lW] at h;exact⟨jz h,rfl⟩
  ·rw[lX d] at h;exact absurd (by rw[h];simp) (ud t)
 ·rw[lX c] at h
  obtain⟨z1,z2,z3⟩:=pD (ud t) h;exact⟨jz z2,jz z3⟩
theorem zR(n b:Nat):(cG n b).head?≠some 120:=by
 intro z;cases e:cG n b with
 |nil=>exact zH n b e
 |cons c r=>
  rw[e] at z;have:=pv n b c (by rw[e];simp)
  cases z;omega
theorem vt(k:Nat):(dC k).head?= some 120:=by obtain⟨r,e⟩:=t6 k;rw[e];rfl
theorem mL(l:List Nat): ∃ws,ws≠[]/\(∀w∈ws,32∉w)/\br ws=l/\Txt.split (ae l) " " =ws.map ae:=by
 have h1:=PySem.StrLaws.join_split (ae l) " ";have h2: ∀p∈Txt.split (ae l) " ",32∉dB p:=by
  rw[vq];exact PySem.StrLaws.split_free (ae l) 32
 have h3:=PyProof.Rows.split_pos (ae l) " ";obtain⟨ps,hps⟩ : ∃ps,ps=Txt.split (ae l) " " :=⟨_,rfl⟩
 rw[<-hps] at h1 h2 h3⊢;rw[mt] at h1;refine⟨ps.map dB,λz=>by rw[F2] at z;rw[z] at h3;simp at h3,λw hw=>by obtain⟨p,hp,rfl⟩:=rN.mp hw;exact h2 p hp,?_,(qy ps).symm⟩
 have:=congrArg dB h1
 rwa [cH,cH] at this
theorem rb: ∀(ws:List (List Nat)) (w:List Nat),w∈ws->(∀c∈w,c∈br ws)/\w.length<=(br ws).length
 | [],w,h=>nomatch h
 | [v],w,h=>by rw[gS] at h;subst h;exact⟨λc hc=>hc,cr _⟩
 |v::u::r,w,h=>by
  have e:br (v::u::r)=v++32::br (u::r):=rfl
  rcases fq.mp h with rfl |h
  ·rw[e]
   exact⟨λc hc=>zZ _ hc,by rw[bQ];omega⟩
  ·obtain⟨h1,h2⟩:=rb (u::r) w h
   rw[e];exact⟨λc hc=>j9 _ (eU _ (h1 c hc)),by rw[bQ,c5];omega⟩
theorem As.word{l:List Nat}(h:As l){ws:List (List Nat)}(e:br ws=l){w:List Nat}(hw:w∈ws):As w:=by
 subst e;exact h.sub (rb ws w hw).1 (rb ws w hw).2
theorem rd{l:List Nat}(h:As l){ws:List (List Nat)}(e:Txt.split (ae l) " " =ws.map ae):c9 " " (.dat (.str (ae l)))=aj (.new (ws.map λw=>PyData.str (ae w))):=by
 have sl:(sizeLine:Nat)=16777216:=rfl;unfold c9 Rz.d?;dsimp only;rw[aD ⟨by decide +kernel,by have:=h.len;omega⟩,e,oz];rfl
theorem D'(t:Tm): ∀w∈cQ t,32∉w:=λw hw z=>by have:=(iy t w hw).2 32 z;omega
theorem xg{t:Tm}{ws:List (List Nat)}(h0:ws≠[])(h: ∀w∈ws,32∉w)(e:br ws=bU t):ws=cQ t:=qX ws (cQ t) h0 (lT t) h (D' t) e
def Ea(n b k:Nat):Prop:=Sg n b/\n≠0/\k<=12
def tD(n b k:Nat):PyData:= .tuple [pr n b,.int (k:Int)]
theorem Fu(n b k:Nat):fv (.val (tD n b k))= .dat (tD n b k):=rfl
theorem Ik(l:List Nat)(h:As l):(∃n b k,Ea n b k/\l=bU (false,n,b,k)/\fQ [.str (ae l)]=aj (.val (tD n b k)))\/((∀n b k,Ea n b k->l≠bU (false,n,b,k))/\fQ [.str (ae l)]=aj (.val .none)):=by
 obtain⟨ws,hne,h32,hg,hsp⟩:=mL l;have h1000:l.length<=1000:=by have:=h.2;omega
 have wrd: ∀n b k,l=bU (false,n,b,k)->ws=cQ (false,n,b,k):=λn b k e=>xg hne h32 (hg.trans e)
 have a6: ∀{g:List Sl->Option Fl} {r:Option Fl},g [.dat (.str (ae l)),.own (ws.map λw=>PyData.str (ae w)),.no]=r->ar (aA 1 (fU (c9 " ") (ac 0))) g [.dat (.str (ae l)),.no,.no]=r:=λhg=>
  az (cI rfl (rd h hsp)) rfl (by walk_at "ss") hg
 have tl: ∀(m:Int),fB (f2 (aQ false) (ag (g1 cW) (aa (ac 1) ak)) (fC (.int m))) [.dat (.str (ae l)),.own (ws.map λw=>PyData.str (ae w)),.no]=aj (decide ((ws.length:Int)=m)):=λm=>by
  refine(ax (ah (ai rfl (show _=aj (Rz.dat (.int ((ws.map λw=>PyData.str (ae w)).length:Int))) from rfl)) rfl (bW _ _)) rfl).trans ?_;rw[cZ]
 have tx:fB (f2 (aQ false) (cJ gO (ac 0) bL (bi (fC (.int 1)))) (fC (.str "x"))) [.dat (.str (ae l)),.own (ws.map λw=>PyData.str (ae w)),.no]=aj (decide (l.head?= some 120)):=by
  refine(ax (ah (show _=aj (Rz.dat (.str (ae (l.take 1)))) from BV h1000 1 rfl) rfl (gc (h.take 1).sok (bK "x"))) rfl).trans ?_;have:ae (l.take 1)=("x" :Str)<->l.head?= some 120:=by rw[yH,jV];exact zQ l 120
  rw[decide_eq_decide.mpr this]
 have fin: ∀(d0 d1:PyData),(ar (aU (fE (fB (f2 (jf false) (f2 aJ (ac 2) (fC (.int 0))) (fC .none))) (fE (fB (f2 (jf false) (f2 aJ (ac 2) (fC (.int 1))) (fC .none))) (fB (f2 (aQ false) (f2 aJ (f2 aJ (ac 2) (fC (.int 0))) (fC (.int 0))) (fC (.int 0)))))) (aT (fC .none)) aR)
  (aT (ac 2))) [.dat (.str (ae l)),.own (ws.map λw=>PyData.str (ae w)),.dat (.tuple [d0,d1])]=(match d0,d1 with
   | .tuple [.int n,.int b],.int k=>if n=0 then some (.ret (.val .none)) else some (.ret (.val (.tuple [d0,d1])))
   | .none,_=>some (.ret (.val .none))
   | .tuple [.int n,.int b],.none=>some (.ret (.val .none))
   |d0,d1=>(ar (aU (fE (fB (f2 (jf false) (f2 aJ (ac 2) (fC (.int 0))) (fC .none))) (fE (fB (f2 (jf false) (f2 aJ (ac 2) (fC (.int 1))) (fC .none))) (fB (f2 (aQ false) (f2 aJ (f2 aJ (ac 2) (fC (.int 0))) (fC (.int 0))) (fC (.int 0)))))) (aT (fC .none)) aR)
  (aT (ac 2))) [.dat (.str (ae l)),.own (ws.map λw=>PyData.str (ae w)),.dat (.tuple [d0,d1])]):=by
  intro d0 d1;split
  ·rename_i n b k
   have a1:fB (f2 (jf false) (f2 aJ (ac 2) (fC (.int 0))) (fC .none)) [.dat (.str (ae l)),.own (ws.map λw=>PyData.str (ae w)),.dat (.tuple [.tuple [.int n,.int b],.int k])]=aj false:=ax (ah (ah rfl rfl cp) rfl rfl) rfl;have a2:fB (f2 (jf false) (f2 aJ (ac 2) (fC (.int 1))) (fC .none)) [.dat (.str (ae l)),.own (ws.map λw=>PyData.str (ae w)),.dat (.tuple [.tuple [.int n,.int b],.int k])]=aj false:=ax (ah (ah rfl rfl cY) rfl rfl) rfl
   have a3:fB (f2 (aQ false) (f2 aJ (f2 aJ (ac 2) (fC (.int 0))) (fC (.int 0))) (fC (.int 0))) [.dat (.str (ae l)),.own (ws.map λw=>PyData.str (ae w)),.dat (.tuple [.tuple [.int n,.int b],.int k])]=aj (decide (n=0)):=ax (ah (ah (ah rfl rfl cp) rfl cp) rfl (bW _ _)) rfl
   by_cases z:n=0
   ·rw[aD z]
    exact aB (bu a1 (bu a2 (a3.trans (by rw[bR z])))) (aN rfl rfl)
   ·rw[aK z]
    exact av (bu a1 (bu a2 (a3.trans (by rw[a9 z])))) (au (bA rfl rfl))
  ·exact aB (eQ (ax (ah (ah rfl rfl cp) rfl rfl) rfl)) (aN rfl rfl)
  ·exact aB (bu (ax (ah (ah rfl rfl cp) rfl rfl) rfl) (eQ (ax (ah (ah rfl rfl cY) rfl rfl) rfl))) (aN rfl rfl)
  ·rfl
 match ws,hne with
 | [w],_=>
  have ew:w=l:=hg;subst ew;have one: ∀n b k,w=bU (false,n,b,k)->(k=0/\w=cG n b)\/(k≠0/\n=1/\b=1/\w=dC k):=λn b k e=>by
   have z:=wrd n b k e;unfold cQ at z
   dsimp only at z;split at z
   ·rename_i k0;exact .inl ⟨k0,(eA z).1⟩
   ·rename_i k0
    split at z
    ·rename_i k1;exact .inr ⟨k0,k1.1,k1.2,(eA z).1⟩
    ·cases (eA z).2
  have l1:=(tl 1).trans (by rw[bR (by rfl)])
  by_cases c:w.head?= some 120
  ·have t0:=tx.trans (by rw[bR c])
   rcases uf w h with⟨k,k1,k2,e,f⟩ | ⟨no,f⟩
   ·refine .inl ⟨1,1,k,⟨⟨by decide,by decide,by decide,by decide⟩,by decide,k2⟩,?_,aP rfl ?_⟩
    ·rw[e]
     unfold bU cQ;dsimp only;rw[aK (by omega),aD ⟨rfl,rfl⟩];rfl
    ·show bC [.dat (.str (ae w)),.no,.no]=_
     unfold bC;refine a6 (aB (cX l1 t0) (az (x:= .dat (.tuple [pr 1 1,.int (k:Int)])) (ai (al (x:= .dat (pr 1 1)) (ai rfl rfl) (al (x:= .dat (.int (k:Int))) (ai rfl (aG rfl rfl f rfl)) rfl)) rfl) rfl (by walk_at "ss") ?_));exact(fin (.tuple [.int 1,.int 1]) (.int (k:Int))).trans (aK (by decide))
   ·refine .inr ⟨λn b k tg e=>?_,aP rfl ?_⟩
    ·rcases one n b k e with⟨_,e2⟩ | ⟨k0,_,_,e2⟩
     ·rw[e2] at c;exact zR n b c
     ·exact no k (by omega) tg.2.2 e2
    ·show bC [.dat (.str (ae w)),.no,.no]=_
     unfold bC;refine a6 (aB (cX l1 t0) (az (x:= .dat (.tuple [pr 1 1,.none])) (ai (al (x:= .dat (pr 1 1)) (ai rfl rfl) (al (x:= .dat .none) (ai rfl (aG rfl rfl f rfl)) rfl)) rfl) rfl (by walk_at "ss") ?_));exact fin (.tuple [.int 1,.int 1]) .none
  ·have t0:=tx.trans (by rw[a9 c])
   rcases sQ w h with⟨t,b,s,e,f⟩ | ⟨no,f⟩
   ·have ev:bC [.dat (.str (ae w)),.no,.no]=if(t:Int)=0 then some (.ret (.val .none)) else some (.ret (.val (tD t b 0))):=by
     unfold bC;refine a6 (av (cX l1 t0) (aB l1 (az (x:= .dat (.tuple [pr t b,.int 0])) (ai (al (x:= .dat (pr t b)) (ai rfl (aG rfl rfl f (uc _ _))) (al rfl rfl)) rfl) rfl (by walk_at "ss") ?_)));exact fin (.tuple [.int (t:Int),.int (b:Int)]) (.int 0)
    by_cases z:t=0
    ·rw[aD (by omega)] at ev
     refine .inr ⟨λn b' k tg e2=>?_,aP rfl ev⟩
     rcases one n b' k e2 with⟨_,e3⟩ | ⟨k0,_,_,e3⟩
     ·exact tg.2.1 (((pH (e.symm.trans e3)).1).symm.trans z)
     ·rw[e3] at c;exact c (vt k)
    ·rw[aK (by omega)] at ev
     refine .inl ⟨t,b,0,⟨s,z,by decide⟩,?_,aP rfl ev⟩;rw[e];rfl
   ·refine .inr ⟨λn b k tg e=>?_,aP rfl ?_⟩
    ·rcases one n b k e with⟨_,e2⟩ | ⟨k0,_,_,e2⟩
     ·exact no n b tg.1 e2
     ·rw[e2] at c;exact c (vt k)
    ·show bC [.dat (.str (ae w)),.no,.no]=_
     unfold bC;refine a6 (av (cX l1 t0) (aB l1 (az (x:= .dat (.tuple [.none,.int 0])) (ai (al (x:= .dat .none) (ai rfl (aG rfl rfl f rfl)) (al rfl rfl)) rfl) rfl (by walk_at "ss") ?_)));exact fin .none (.int 0)
 | [w0,w1],_=>
  have A0:As w0:=h.word hg (by simp);have A1:As w1:=h.word hg (by simp);have two: ∀n b k,l=bU (false,n,b,k)->k≠0/\¬(n=1/\b=1)/\w0=cG n b/\w1=dC k:=λn b k e=>by
   have z:=wrd n b k e;unfold cQ at z
   dsimp only at z;split at z
   ·cases (eA z).2
   ·rename_i k0
    split at z
    ·cases (eA z).2
    ·rename_i k1;exact⟨k0,k1,(eA z).1,(eA (eA z).2).1⟩
  have l1:=(tl 1).trans (by rw[a9 (by show ¬(2:Int)=1;decide)]);have l2:=(tl 2).trans (by rw[bR (by rfl)]);have go: ∀{g:List Sl->Option Fl} {r:Option Fl} {d0 d1:PyData},da [.str (ae w0)]=aj (.val d0)->hI d0=true->eu [.str (ae w1)]=aj (.val d1)->hI d1=true->
    g [.dat (.str (ae l)),.own ([w0,w1].map λw=>PyData.str (ae w)),.dat (.tuple [d0,d1])]=r->ar (aA 2 (ag bV (aa (ag (gF 1 da) (aa (f2 aJ (ac 1) (fC (.int 0))) ak)) (aa (ag (gF 1 eu) (aa (f2 aJ (ac 1) (fC (.int 1))) ak)) ak)))) g [.dat (.str (ae l)),.own ([w0,w1].map λw=>PyData.str (ae w)),.no]=r:=by
   intro g r d0 d1 f0 n0 f1 n1 hg;exact az (x:= .dat (.tuple [d0,d1])) (ai (al (x:= .dat d0) (ai (al (ah rfl rfl (wd (j:=0) rfl rfl)) rfl) (aG rfl rfl f0 (by unfold fv;dsimp only;rw[aD n0]))) (al (x:= .dat d1) (ai (al (ah rfl rfl (wd (j:=1) rfl rfl)) rfl) (aG rfl rfl f1 (by unfold fv;dsimp only;rw[aD n1]))) rfl)) rfl) rfl (by walk_at "ss") hg
  have te: ∀(t b:Nat) (d1:PyData),fB (f2 (aQ false) (f2 aJ (ac 2) (fC (.int 0))) (ag bV (aa (fC (.int 1)) (aa (fC (.int 1)) ak)))) [.dat (.str (ae l)),.own ([w0,w1].map λw=>PyData.str (ae w)),.dat (.tuple [pr t b,d1])]=aj (decide ((t:Int)=1/\(b:Int)=1)):=λt b d1=>
   ax (ah (ah rfl rfl cp) (ai rfl rfl) (wK rfl rfl (iU _ _) (iU 1 1) (yI _ _))) rfl
  have tn: ∀(d1:PyData),fB (f2 (aQ false) (f2 aJ (ac 2) (fC (.int 0))) (ag bV (aa (fC (.int 1)) (aa (fC (.int 1)) ak)))) [.dat (.str (ae l)),.own ([w0,w1].map λw=>PyData.str (ae w)),.dat (.tuple [.none,d1])]=aj false:=λd1=>
   ax (ah (ah rfl rfl cp) (ai rfl rfl) (wK (b:=false) rfl rfl rfl (iU 1 1) (by simp[PyData.eqv]))) rfl
  rcases sQ w0 A0 with⟨t,b,s,e0,f0⟩ | ⟨no0,f0⟩
  ·rcases uf w1 A1 with⟨k,k1,k2,e1,f1⟩ | ⟨no1,f1⟩
   ·by_cases c1:t=1/\b=1
    ·refine .inr ⟨λn b' k' tg e=>?_,aP rfl ?_⟩
     ·obtain⟨_,z2,z3,_⟩:=two n b' k' e
      obtain⟨y1,y2⟩:=pH (e0.symm.trans z3);exact z2 ⟨y1▸c1.1,y2▸c1.2⟩
     ·show bC [.dat (.str (ae l)),.no,.no]=_
      unfold bC;refine a6 (av (eE l1) (av l1 (aB l2 (jO (go f0 rfl f1 rfl ?_)))));exact aB ((te t b _).trans (by rw[bR ⟨by omega,by omega⟩])) (aN rfl rfl)
    ·have ev:bC [.dat (.str (ae l)),.no,.no]=if(t:Int)=0 then some (.ret (.val .none)) else some (.ret (.val (tD t b k))):=by
      unfold bC;refine a6 (av (eE l1) (av l1 (aB l2 (jO (go f0 rfl f1 rfl ?_)))));refine av ((te t b _).trans (by rw[a9 (λz=>c1 ⟨by omega,by omega⟩)])) (au ?_);exact fin (.tuple [.int (t:Int),.int (b:Int)]) (.int (k:Int))
     by_cases z:t=0
     ·rw[aD (by omega)] at ev
      refine .inr ⟨λn b' k' tg e=>?_,aP rfl ev⟩;obtain⟨_,_,z3,_⟩:=two n b' k' e;exact tg.2.1 (((pH (e0.symm.trans z3)).1).symm.trans z)
     ·rw[aK (by omega)] at ev
      refine .inl ⟨t,b,k,⟨s,z,k2⟩,?_,aP rfl ev⟩;unfold bU cQ;dsimp only;rw[aK (by omega),aK c1,<-hg,e0,e1]
   ·refine .inr ⟨λn b' k' tg e=>?_,aP rfl ?_⟩
    ·obtain⟨z1,_,_,z4⟩:=two n b' k' e
     exact no1 k' (by omega) tg.2.2 z4
    ·show bC [.dat (.str (ae l)),.no,.no]=_
     unfold bC;refine a6 (av (eE l1) (av l1 (aB l2 (jO (go f0 rfl f1 rfl ?_)))))
     by_cases c1:t=1/\b=1
     ·exact aB ((te t b _).trans (by rw[bR ⟨by omega,by omega⟩])) (aN rfl rfl)
     ·refine av ((te t b _).trans (by rw[a9 (λz=>c1 ⟨by omega,by omega⟩)])) (au ?_)
      exact fin (.tuple [.int (t:Int),.int (b:Int)]) .none
  ·refine .inr ⟨λn b' k' tg e=>no0 n b' tg.1 (two n b' k' e).2.2.1,aP rfl ?_⟩
   show bC [.dat (.str (ae l)),.no,.no]=_;unfold bC
   rcases uf w1 A1 with⟨k,k1,k2,e1,f1⟩ | ⟨no1,f1⟩
   ·refine a6 (av (eE l1) (av l1 (aB l2 (jO (go f0 rfl f1 rfl (av (tn _) (au ?_)))))))
    exact fin .none (.int (k:Int))
   ·refine a6 (av (eE l1) (av l1 (aB l2 (jO (go f0 rfl f1 rfl (av (tn _) (au ?_)))))))
    exact fin .none .none
 |w0::w1::w2::r,_=>
  have l1:=(tl 1).trans (by rw[a9 (by simp only[c5];omega)]);have l2:=(tl 2).trans (by rw[a9 (by simp only[c5];omega)]);refine .inr ⟨λn b k tg e=>?_,aP rfl ?_⟩
  ·have z:=wrd n b k e
   unfold cQ at z;dsimp only at z;split at z
   ·cases (eA z).2
   ·split at z
    ·cases (eA z).2
    ·cases (eA (eA z).2).2
  ·show bC [.dat (.str (ae l)),.no,.no]=_
   unfold bC;exact a6 (av (eE l1) (av l1 (av l2 (aN rfl rfl))))
abbrev Tq(t:Tm):Prop:=Ea t.2.1 t.2.2.1 t.2.2.2
theorem BW{k k':Nat}(h:dC k=dC k'):k=k':=by
 unfold dC at h
 by_cases c:k=1
 ·rw[aD c] at h
  by_cases d:k'=1
  ·omega
  ·rw[aK d] at h;cases (eA h).2
 ·rw[aK c] at h
  by_cases d:k'=1
  ·rw[aD d] at h;cases (eA h).2
  ·rw[aK d] at h
   exact jz (eA (eA h).2).2
theorem Il{t u:Tm}(h:bU t=bU u):t.2=u.2:=by
 have z:cQ t=cQ u:=xg (lT t) (D' t) h;obtain⟨s,n,b,k⟩:=t;obtain⟨s',n',b',k'⟩:=u;unfold cQ at z
 dsimp only at z⊢
 by_cases c1:k=0
 ·rw[aD c1] at z
  by_cases d1:k'=0
  ·rw[aD d1] at z
   obtain⟨e1,e2⟩:=pH (eA z).1;subst e1 e2 c1 d1;rfl
  ·rw[aK d1] at z
   by_cases d2:n'=1/\b'=1
   ·rw[aD d2] at z
    exact absurd (by rw[(eA z).1];exact vt k') (zR n b)
   ·rw[aK d2] at z;cases (eA z).2
 ·rw[aK c1] at z
  by_cases c2:n=1/\b=1
  ·rw[aD c2] at z
   by_cases d1:k'=0
   ·rw[aD d1] at z
    exact absurd (by rw[<-(eA z).1];exact vt k) (zR n' b')
   ·rw[aK d1] at z
    by_cases d2:n'=1/\b'=1
    ·rw[aD d2] at z
     have:=BW (eA z).1;rw[c2.1,c2.2,d2.1,d2.2,this]
    ·rw[aK d2] at z;cases (eA z).2
  ·rw[aK c2] at z
   by_cases d1:k'=0
   ·rw[aD d1] at z;cases (eA z).2
   ·rw[aK d1] at z
    by_cases d2:n'=1/\b'=1
    ·rw[aD d2] at z;cases (eA z).2
    ·rw[aK d2] at z
     obtain⟨e1,e2⟩:=pH (eA z).1;have:=BW (eA (eA z).2).1;rw[e1,e2,this]
theorem JI(t:Tm):bU t≠[]:=yF (lT t) λw hw=>(iy t w hw).1
theorem xh(t:Tm): ∃c r,bU t=c::r/\47<=c:=by
 have h0:=lT t;cases e:cQ t with
 |nil=>exact absurd e h0
 |cons w r=>
  obtain⟨h1,h2⟩:=iy t w (by rw[e];simp);have h3:=pw (r:=r) h1;unfold bU;rw[e];cases e2:br (w::r) with
  |nil=>rw[e2] at h3;cases w with |nil=>exact absurd rfl h1 |cons a b=>cases h3
  |cons c s=>
   refine⟨c,s,rfl,?_⟩;rw[e2] at h3
   cases w with
   |nil=>exact absurd rfl h1
   |cons a b=>cases h3;exact(h2 c (dP ..)).1
def dX(t:Tm):List Nat:=eH t++bU t
theorem ll(t:Tm):(dX t).head?= some 45<->t.1=true:=by
 obtain⟨c,r,e,h⟩:=xh t;unfold dX eH;rw[e]
 by_cases z:t.1=true
 ·rw[aD z];simp[z]
 ·rw[aK z];simp[z];omega
theorem BX{t u:Tm}(h:dX t=dX u):t=u:=by
 have h1:t.1=u.1:=by
  have:=ll t;rw[h,ll u] at this
  cases a:t.1<;>cases b:u.1<;>simp_all
 have h2:bU t=bU u:=by
  unfold dX eH at h;rw[h1] at h;exact List.append_cancel_left h
 exact Prod.ext h1 (Il h2)
theorem vv(t:Tm):dX t≠[]/\43∉dX t/\(dX t).head?≠some 32:=by
 obtain⟨c,r,e,h⟩:=xh t;refine⟨λz=>?_,λz=>?_,?_⟩
 ·unfold dX at z;exact JI t (Dx.mp z).2
 ·unfold dX at z
  rcases eV.mp z with z |z
  ·unfold eH at z;split at z<;>simp at z
  ·exact C8 t z
 ·unfold dX eH
  rw[e];split
  ·simp
  ·simp;omega
theorem Fv(t:Tm):mw (dX t)=[32,cu t,32]++bU t:=by
 unfold mw cu
 by_cases z:t.1=true
 ·rw[aD ((ll t).mpr z),aD z]
  unfold dX eH;rw[aD z];rfl
 ·rw[aK (λw=>z ((ll t).mp w)),aK z]
  unfold dX eH;rw[aK z];rfl
theorem JJ(t:Tm)(r:List Tm):d9 (t::r)=dX t++(r.map dX).flatMap mw:=by
 have e:((r.map dX).flatMap mw)=r.flatMap λt=>[32,cu t,32]++bU t:=by
  rw[List.flatMap_map];exact congrArg (λf=>List.flatMap f r) (funext Fv)
 rw[e];rfl
theorem re: ∀(r:List Tm) (p:List Nat),43∉p->mK (p++r.flatMap λt=>[32,cu t,32]++bU t)
 | [],p,h,a,b,e=>by
  rw[List.flatMap_nil,ka] at e;exact h (by rw[e];simp)
 |t::r,p,h,a,b,e=>by
  rw[mT] at e
  by_cases z:t.1=true
  ·have ih:=re r (p++([32,cu t,32]++bU t)) (by
    have e1:cu t=45:=by unfold cu;rw[aD z]
    rw[e1];intro w
    rcases eV.mp w with w |w
    ·exact h w
    ·rcases eV.mp w with w |w
     ·simp at w
     ·exact C8 t w) a b
   exact ih (by rw[lq];exact e)
  ·have e1:cu t=43:=by unfold cu;rw[aK z]
   rw[e1] at e;have e2:(p++[32])++43::(32::(bU t++r.flatMap λt=>[32,cu t,32]++bU t))=a++43::32::45::b:=by rw[<-e];simp
   by_cases ca:43∈a
   ·obtain⟨a1,a2,rfl,ha⟩:=lV a ca
    have e3:(p++[32])++43::(32::(bU t++r.flatMap λt=>[32,cu t,32]++bU t))=a1++43::(a2++43::32::45::b):=by rw[e2];simp
    obtain⟨_,e4⟩:=jT _ _ _ _ (by simp[h]) ha e3;exact re r (32::bU t) (by
     intro w
     rcases fq.mp w with w |w
     ·cases w
     ·exact C8 t w) a2 b (by rw[<-e4];rfl)
   ·obtain⟨_,e4⟩:=jT _ _ _ _ (by simp[h]) ca e2
    obtain⟨c,s,e5,h5⟩:=xh t;rw[e5] at e4
    simp only[kL,mS,true_and] at e4;omega
theorem Fw(A:List Tm):mK (d9 A):=by
 cases A with
 |nil=>intro a b e;cases a<;>cases e
 |cons t r=>exact re r (eH t++bU t) (vv t).2.1
def qz:Int->List Tm->Prop
 |_,[]=>True
 |k,t::r=>k< (t.2.2.2:Int)/\qz (t.2.2.2:Int) r
theorem qz.mono: ∀{A:List Tm} {k j:Int},j<=k->qz k A->qz j A
 | [],_,_,_,_=>True.intro
 |_::_,_,_,h,⟨h1,h2⟩=>⟨by omega,h2⟩
theorem BY: ∀(k:Nat) (l:LR),qz ((k:Int)-1) (dD k l)
 |_,[]=>True.intro
 |k,q::r=>by
  have ih:=BY (k+1) r;have e:((k+1:Nat):Int)-1=(k:Int):=by omega
  rw[e] at ih;unfold dD
  split
  ·exact ih.mono (by omega)
  ·exact⟨by show(k:Int)-1< (k:Int);omega,ih⟩
theorem Eb: ∀(k:Nat) (l:LR),(∀q∈l,Bd q)->k+l.length<=13->∀t∈dD k l,Tq t
 |_,[],_,_,t,h=>by cases h
 |k,q::r,hb,hl,t,h=>by
  rw[c5] at hl;have hr:=Eb (k+1) r (λq hq=>hb q (eU _ hq)) (by omega) t
  unfold dD at h;split at h
  ·exact hr h
  ·rename_i c
   rcases fq.mp h with rfl |h
   ·have:=hb q (dP ..)
    refine⟨⟨this.1,this.2,q.den_pos,q.reduced⟩,λz=>c ?_,by show k<=12;omega⟩;have z:q.num.natAbs=0:=z;exact FZ.mp (by omega)
   ·exact hr h
theorem Im{t:Tm}(h:Tq t):(kz t).num=(t.2.1:Int)/\(kz t).den=t.2.2.1:=by
 obtain⟨q,q1,q2⟩ : ∃q:Rat,q.num=(t.2.1:Int)/\q.den=t.2.2.1:=⟨⟨(t.2.1:Int),t.2.2.1,by have:=h.1.2.2.1;omega,by rw[kK];exact h.1.2.2.2⟩,rfl,rfl⟩
 have e:kz t=q:=by
  unfold kz;rw[<-q1,<-q2];exact F6 q
 rw[e];exact⟨q1,q2⟩
theorem sR{t:Tm}(h:Tq t):(iA t).num=(if t.1=true then -(t.2.1:Int) else(t.2.1:Int))/\(iA t).den=t.2.2.1:=by
 obtain⟨h1,h2⟩:=Im h;unfold iA
 by_cases z:t.1=true
 ·rw[aD z,aD z]
  have e:0-kz t= -kz t:=by grind
  rw[e];exact⟨by rw[Rat.neg_num,h1],by rw[Rat.neg_den,h2]⟩
 ·rw[aK z,aK z];exact⟨h1,h2⟩
theorem Io{t:Tm}(h:Tq t):Bd (iA t):=by
 obtain⟨h1,h2⟩:=sR h;refine⟨?_,by rw[h2];exact h.1.2.1⟩;rw[h1];have:=h.1.1;split<;>omega
theorem BZ{t:Tm}(h:Tq t):iA t≠0:=λz=>by
 have h1:=(sR h).1;rw[z] at h1
 have h1:(0:Int)=if t.1=true then -(t.2.1:Int) else(t.2.1:Int):=h1
 have:=h.2.1;split at h1<;>omega
theorem Fx{t:Tm}(h:Tq t):fK (iA t) t.2.2.2=t:=by
 obtain⟨h1,h2⟩:=sR h;have n0:=h.2.1;have hn:decide (iA t<0)=t.1:=by
  have:=qk (iA t);rw[h1] at this
  cases z:t.1 with
  |true=>rw[z] at this;exact bR (this.mp (by rw[aD rfl];omega))
  |false=>rw[z] at this;exact a9 λw=>by have:=this.mpr w;rw[aK (by simp)] at this;omega
 have h3:(iA t).num.natAbs=t.2.1:=by rw[h1];split<;>omega
 unfold fK;rw[hn,h2,h3]
theorem xi: ∀(m k:Nat) (l:LR),dD k (l++List.replicate m 0)=dD k l
 |0,k,l=>by simp
 |m+1,k,l=>by
  rw[Dt,<-lq,nX,aD rfl,ka];exact xi m k l
theorem yT: ∀(A:List Tm) (N:LR),(∀t∈A,Tq t)->qz ((N.length:Int)-1) A->N.length<=13->(∀q∈N,Bd q)->∃L,A.foldl fy (N++List.replicate (13-N.length) 0)=L++List.replicate (13-L.length) 0/\L.length<=13/\dD 0 L=dD 0 N++A/\(∀q∈L,Bd q)/\(A≠[]\/bP N=N->bP L=L)
 | [],N,_,_,h13,hb=>⟨N,rfl,h13,by simp,hb,λh=>h.elim (λz=>absurd rfl z) id⟩
 |t::A,N,ht,⟨i1,i2⟩,h13,hb=>by
  have tq:=ht t (dP ..);have k12:=tq.2.2;have hk:N.length<=t.2.2.2:=by omega
  have e1:fy (N++List.replicate (13-N.length) 0) t=(N++List.replicate (t.2.2.2-N.length) 0++[iA t])++List.replicate (13- (N++List.replicate (t.2.2.2-N.length) 0++[iA t]).length) 0:=by
   unfold fy;have e2:List.replicate (13-N.length) (0:Rat)=List.replicate (t.2.2.2-N.length) 0++0::List.replicate (12-t.2.2.2) 0:=by
    have e:13-N.length=(t.2.2.2-N.length)+((12-t.2.2.2)+1):=by omega
    rw[e,<-List.replicate_append_replicate,rL]
   rw[e2,<-lq,List.set_append_right _ _ (by rw[bQ,rK];omega)];have e3:t.2.2.2- (N++List.replicate (t.2.2.2-N.length) (0:Rat)).length=0:=by rw[bQ,rK];omega
   rw[e3,List.set_cons_zero];have e4:13- (N++List.replicate (t.2.2.2-N.length) (0:Rat)++[iA t]).length=12-t.2.2.2:=by
    rw[bQ,bQ,rK,kJ];omega
   rw[e4];simp
  have hl:(N++List.replicate (t.2.2.2-N.length) (0:Rat)++[iA t]).length=t.2.2.2+1:=by rw[bQ,bQ,rK,kJ];omega
  have i3:qz (((N++List.replicate (t.2.2.2-N.length) (0:Rat)++[iA t]).length:Int)-1) A:=by
   have e:((t.2.2.2+1:Nat):Int)-1=(t.2.2.2:Int):=by omega
   rw[hl,e];exact i2
  obtain⟨L,f1,f2,f3,f4,f5⟩:=yT A (N++List.replicate (t.2.2.2-N.length) 0++[iA t]) (λu hu=>ht u (eU _ hu)) i3 (by omega) (λq hq=>by
   rcases eV.mp hq with hq |hq
   ·rcases eV.mp hq with hq |hq
    ·exact hb q hq
    ·rw[List.eq_of_mem_replicate hq];exact⟨by decide,by decide⟩
   ·rw[gS] at hq;rw[hq];exact Io tq)
  refine⟨L,by rw[FJ,e1];exact f1,f2,?_,f4,λ_=>f5 (.inr (ku (BZ tq)))⟩;rw[f3,nX,aK (BZ tq),xi];have e5:0+(N++List.replicate (t.2.2.2-N.length) (0:Rat)).length=t.2.2.2:=by rw[bQ,rK];omega
  rw[e5,Fx tq];simp
noncomputable def LB:List Sl->Option Fl:=(ar (aA 4 (f2 (aQ false) (cJ gO (ac 3) bL (bi (fC (.int 1)))) (fC (.str "-")))) (ar (aA 5 (ag (gF 1 fQ) (aa (cJ dz (ac 3) (bi (ag (g1 kS) (aa (ac 4) ak))) bL) ak))) (ar (aU (fE (fB (f2 (jf false) (ac 5) (fC .none))) (fB (f2 (gI DP) (f2 aJ (ac 5) (fC (.int 1))) (ac 2)))) (aT (fC .none)) aR) (ar (aA 2 (f2 aJ (ac 5) (fC (.int 1)))) (mB 1 (ag bV (aa (f2 (gI dY) (f2 aJ (ag dR (aa (fC (.int 1)) (aa (fU gX (fC (.int 1))) ak))) (ag (g1 kS) (aa (ac 4) ak))) (f2 aJ (f2 aJ (ac 5) (fC (.int 0))) (fC (.int 0)))) (aa (f2 aJ (f2 aJ (ac 5) (fC (.int 0))) (fC (.int 1))) ak))) (ac 2))))))
theorem JK{t:Tm}(h:Tq t):nD (iA t)= .tuple [.int (if t.1=true then -(t.2.1:Int) else(t.2.1:Int)),.int (t.2.2.1:Int)]:=by
 obtain⟨h1,h2⟩:=sR h;unfold nD;rw[h1,h2]
theorem Fy(x0:Sl)(p:List Nat)(h:As p)(N:LR)(hN:N.length=13)(last:Int)(r4 r5:Sl) :
  (∃t:Tm,Tq t/\p=dX t/\((last< (t.2.2.2:Int)/\∃s4 s5,LB [x0,.own (N.map nD),.dat (.int last),.dat (.str (ae p)),r4,r5]=some (.next [x0,.own ((fy N t).map nD),.dat (.int (t.2.2.2:Int)),.dat (.str (ae p)),s4,s5]))\/((t.2.2.2:Int)<=last/\LB [x0,.own (N.map nD),.dat (.int last),.dat (.str (ae p)),r4,r5]=some (.ret (.val .none)))))
  \/((∀t,Tq t->p≠dX t)/\LB [x0,.own (N.map nD),.dat (.int last),.dat (.str (ae p)),r4,r5]=some (.ret (.val .none))):=by
 have h1000:p.length<=1000:=by have:=h.2;omega
 obtain⟨b,hb⟩ : ∃b,b=decide (p.head?= some 45):=⟨_,rfl⟩
 have t1:(f2 (aQ false) (cJ gO (ac 3) bL (bi (fC (.int 1)))) (fC (.str "-"))) [x0,.own (N.map nD),.dat (.int last),.dat (.str (ae p)),r4,r5]=aj (.dat (.bool b)):=by
  refine(ah (show _=aj (Rz.dat (.str (ae (p.take 1)))) from BV h1000 1 rfl) rfl (gc (h.take 1).sok (bK "-"))).trans ?_;have:ae (p.take 1)=("-" :Str)<->p.head?= some 45:=by rw[nU,jV];exact zQ p 45
  rw[decide_eq_decide.mpr this,hb]
 obtain⟨R,hR⟩ : ∃R,R=p.drop (if b=true then 1 else 0):=⟨_,rfl⟩
 have AR:As R:=by rw[hR];exact h.drop _
 have pR: ∀n b' k,Ea n b' k->R=bU (false,n,b',k)->p=dX (b,n,b',k):=λn b' k _ e=>by
  unfold dX eH;show p=(if b=true then [45] else [])++bU (false,n,b',k);rw[<-e,hR]
  by_cases z:b=true
  ·rw[aD z,aD z]
   rw[hb] at z;have z:=oy z
   cases p with
   |nil=>cases z
   |cons c r=>cases z;rfl
  ·rw[aK z,aK z];rfl
 have Rp: ∀t:Tm,p=dX t->R=bU (false,t.2.1,t.2.2.1,t.2.2.2):=λt e=>by
  have hh:b=t.1:=by
   rw[hb,e];cases z:t.1 with
   |true=>exact bR ((ll t).mpr z)
   |false=>exact a9 λw=>by rw[(ll t).mp w] at z;cases z
  show R=bU t;rw[hR,e,hh];unfold dX eH
  by_cases z:t.1=true
  ·rw[aD z,aD z];rfl
  ·rw[aK z,aK z];rfl
 have fd:(cJ dz (ac 3) (bi (ag (g1 kS) (aa (ac 4) ak))) bL) [x0,.own (N.map nD),.dat (.int last),.dat (.str (ae p)),.dat (.bool b),r5]=aj (.dat (.str (ae R))):=by
  rw[hR];cases b with
  |true=>exact n6 h1000 1 rfl
  |false=>exact n6 h1000 0 rfl
 unfold LB
 rcases Ik R AR with⟨n,b',k,tg,e,f⟩ | ⟨no,f⟩
 ·refine .inl ⟨(b,n,b',k),tg,pR n b' k tg e,?_⟩
  have two: ∀{g:List Sl->Option Fl} {r:Option Fl},g [x0,.own (N.map nD),.dat (.int last),.dat (.str (ae p)),.dat (.bool b),.dat (tD n b' k)]=r->ar (aA 4 (f2 (aQ false) (cJ gO (ac 3) bL (bi (fC (.int 1)))) (fC (.str "-")))) (ar (aA 5 (ag (gF 1 fQ) (aa (cJ dz (ac 3) (bi (ag (g1 kS) (aa (ac 4) ak))) bL) ak))) g) [x0,.own (N.map nD),.dat (.int last),.dat (.str (ae p)),r4,r5]=r:=λhg=>
   az t1 rfl (by walk_at "ss") (az (ai (al fd rfl) (aG rfl rfl f (Fu _ _ _))) rfl (by walk_at "ss") hg)
  have tn:fB (f2 (jf false) (ac 5) (fC .none)) [x0,.own (N.map nD),.dat (.int last),.dat (.str (ae p)),.dat (.bool b),.dat (tD n b' k)]=aj false:=ax (ah rfl rfl rfl) rfl;have tl:fB (f2 (gI DP) (f2 aJ (ac 5) (fC (.int 1))) (ac 2)) [x0,.own (N.map nD),.dat (.int last),.dat (.str (ae p)),.dat (.bool b),.dat (tD n b' k)]=aj (decide ((k:Int)<=last)):=ax (ah (ah rfl rfl cY) rfl rfl) rfl
  by_cases z:(k:Int)<=last
  ·exact .inr ⟨z,two (aB (bu tn (tl.trans (by rw[bR z]))) (aN rfl rfl))⟩
  ·refine .inl ⟨by show last< (k:Int);omega,.dat (.bool b),.dat (tD n b' k),two (av (bu tn (tl.trans (by rw[a9 z]))) (au ?_))⟩
   refine az (x:= .dat (.int (k:Int))) (ah rfl rfl cY) rfl (by walk_at "ss") ?_;have sg:(f2 aJ (ag dR (aa (fC (.int 1)) (aa (fU gX (fC (.int 1))) ak))) (ag (g1 kS) (aa (ac 4) ak))) [x0,.own (N.map nD),.dat (.int (k:Int)),.dat (.str (ae p)),.dat (.bool b),.dat (tD n b' k)]=aj (.dat (.int (if b=true then -1 else 1))):=by
    cases b with
    |true=>exact ah (ai (al rfl (al rfl rfl)) rfl) (ai rfl rfl) (sB (j:=1) rfl rfl)
    |false=>exact ah (ai (al rfl (al rfl rfl)) rfl) (ai rfl rfl) (sB (j:=0) rfl rfl)
   refine v9 (d:=nD (iA (b,n,b',k))) (ds:=N.map nD) (j:=k) (y:= .dat (.int (k:Int))) (i:=(k:Int)) (x:= .dat (nD (iA (b,n,b',k)))) ?_ rfl rfl rfl rfl (tZ rfl (by rw[cZ,hN];have:=tg.2.2;omega)) ?_
   ·rw[JK (t:=(b,n,b',k)) tg]
    refine ai (al (x:= .dat (.int (if b=true then -(n:Int) else(n:Int)))) (ah sg (ah (ah rfl rfl cp) rfl cp) ((kU (vm (by split<;>decide) (by split<;>decide))).trans ?_)) (al (ah (ah rfl rfl cp) rfl cY) rfl)) rfl;cases b with
    |true=>rw[aD rfl,aD rfl,Int.neg_one_mul]
    |false=>rw[aK (by simp),aK (by simp),Int.one_mul]
   ·unfold fy
    rw[List.map_set];rfl
 ·refine .inr ⟨λt tq e=>no _ _ _ tq (Rp t e),?_⟩
  refine az t1 rfl (by walk_at "ss") (az (x:= .dat .none) (ai (al fd rfl) (aG rfl rfl f rfl)) rfl (by walk_at "ss") ?_);exact aB (eQ (ax (ah rfl rfl rfl) rfl)) (aN rfl rfl)
theorem yU(x0:Sl): ∀(ps:List (List Nat)) (N:LR) (last:Int) (r3 r4 r5:Sl),(∀p∈ps,As p)->N.length=13->
  (∃A:List Tm,ps=A.map dX/\(∀t∈A,Tq t)/\qz last A/\∃l' s3 s4 s5,dS (cL 3) LB (ps.map λp=>PyData.str (ae p)) [x0,.own (N.map nD),.dat (.int last),r3,r4,r5]=some (.next [x0,.own ((A.foldl fy N).map nD),.dat (.int l'),s3,s4,s5]))
  \/((∀A:List Tm,(∀t∈A,Tq t)->qz last A->ps≠A.map dX)/\dS (cL 3) LB (ps.map λp=>PyData.str (ae p)) [x0,.own (N.map nD),.dat (.int last),r3,r4,r5]=some (.ret (.val .none)))
 | [],N,last,r3,r4,r5,_,_=> .inl ⟨[],rfl,λt h=>(nomatch h),True.intro,last,r3,r4,r5,rfl⟩
 |p::ps,N,last,r3,r4,r5,hA,hN=>by
  have hA': ∀q∈ps,As q:=λq hq=>hA q (eU _ hq)
  have step:dS (cL 3) LB ((p::ps).map λp=>PyData.str (ae p)) [x0,.own (N.map nD),.dat (.int last),r3,r4,r5]=(match LB [x0,.own (N.map nD),.dat (.int last),.dat (.str (ae p)),r4,r5] with
   |some (.next δ)=>dS (cL 3) LB (ps.map λp=>PyData.str (ae p)) δ
   |some (.cnt δ)=>dS (cL 3) LB (ps.map λp=>PyData.str (ae p)) δ
   |some (.brk δ)=>some (.next δ)
   |r=>r):=by
   rw[gj]
   conv=>lhs;unfold dS
   rfl
  rcases Fy x0 p (hA p (dP ..)) N hN last r4 r5 with⟨t,tq,e,⟨hl,s4,s5,f⟩ | ⟨hl,f⟩⟩ | ⟨no,f⟩
  ·rw[f] at step
   have hN2:(fy N t).length=13:=by unfold fy;rw[ox];exact hN
   rcases yU x0 ps (fy N t) (t.2.2.2:Int) (.dat (.str (ae p))) s4 s5 hA' hN2 with⟨A,a1,a2,a3,l',u3,u4,u5,a4⟩ | ⟨no,a4⟩
   ·exact .inl ⟨t::A,by rw[gj,<-e,a1],λu hu=>(fq.mp hu).elim (λz=>z▸tq) (a2 u),⟨hl,a3⟩,l',u3,u4,u5,step.trans a4⟩
   ·refine .inr ⟨λA ha hi z=>?_,step.trans a4⟩
    cases A with
    |nil=>cases z
    |cons u A=>
     rw[gj] at z;obtain⟨z1,z2⟩:=eA z
     have:t=u:=BX (e.symm.trans z1);subst this;exact no A (λw hw=>ha w (eU _ hw)) hi.2 z2
  ·rw[f] at step
   refine .inr ⟨λA ha hi z=>?_,step⟩;cases A with
   |nil=>cases z
   |cons u A=>
    rw[gj] at z;have:t=u:=BX (e.symm.trans (eA z).1)
    subst this;have:=hi.1;omega
  ·rw[f] at step
   refine .inr ⟨λA ha hi z=>?_,step⟩;cases A with
   |nil=>cases z
   |cons u A=>
    rw[gj] at z;exact no u (ha u (dP ..)) (eA z).1
theorem B0{α:Type}(r:List α)(a:α):L2.atI (r++[a]) (-1)=some a:= @D3.uI ⟨λ_=>0⟩ α r a
theorem Dd(x0 x2 x3 x4 x5:Sl)(c:LR)(hc:bP c=c)(h0:c≠[]): ∀m:Nat,(m6 (fB (f2 (aQ false) (f2 aJ (f2 aJ (ac 1) (fU gX (fC (.int 1)))) (fC (.int 0))) (fC (.int 0)))) (tN 1)) [x0,.own ((c++List.replicate m 0).map nD),x2,x3,x4,x5]=some (.next [x0,.own (c.map nD),x2,x3,x4,x5]):=by
 intro m;obtain⟨u,a,ea,ha⟩ : ∃u a,c=u++[a]/\a≠0:=by
  rcases pp c with h | ⟨u,a,h1,h2⟩
  ·rw[hc] at h;exact absurd h h0
  ·rw[hc] at h1;exact⟨u,a,h1,h2⟩
 have test: ∀(v:LR) (q:Rat),fB (f2 (aQ false) (f2 aJ (f2 aJ (ac 1) (fU gX (fC (.int 1)))) (fC (.int 0))) (fC (.int 0))) [x0,.own ((v++[q]).map nD),x2,x3,x4,x5]=aj (decide (q.num=0)):=λv q=>by
  have e1:(f2 aJ (ac 1) (fU gX (fC (.int 1)))) [x0,.own ((v++[q]).map nD),x2,x3,x4,x5]=aj (.dat (nD q)):=by
   refine ah (x:= .var ((v++[q]).map nD)) rfl (y:= .dat (.int (-1))) rfl ?_;unfold aJ kQ Rz.d?;dsimp only;rw[mj];show(match L2.atI (v.map nD++[nD q]) (-1) with |some d=>aj (vh _ d) |none=>none)=_;rw[B0];rfl
  exact ax (ah (ah e1 rfl cp) rfl (bW _ _)) rfl
 obtain⟨δ',e,rfl⟩:=qd (c:=fB (f2 (aQ false) (f2 aJ (f2 aJ (ac 1) (fU gX (fC (.int 1)))) (fC (.int 0))) (fC (.int 0)))) (b:=tN 1) (δ:=[x0,.own ((c++List.replicate m 0).map nD),x2,x3,x4,x5])
  (λ δ=>∃m:Nat,δ=[x0,.own ((c++List.replicate m 0).map nD),x2,x3,x4,x5])
  (λ δ=>δ=[x0,.own (c.map nD),x2,x3,x4,x5])
  (λ δ=>match δ with | [_,.own ds,_,_,_,_]=>ds.length |_=>0)
  (by
   rintro δ ⟨m,rfl⟩;cases m with
   |zero=>
    have e:c++List.replicate 0 (0:Rat)=u++[a]:=by rw[ea];simp
    rw[e];exact .inl ⟨(test u a).trans (by rw[a9 (λz=>ha (FZ.mp z))]),by rw[ea]⟩
   |succ m=>
    have e:c++List.replicate (m+1) (0:Rat)=(c++List.replicate m 0)++[0]:=by rw[Dt,lq]
    rw[e];refine .inr ⟨(test _ 0).trans (by rw[bR (by rfl)]),_,HG rfl (by simp) rfl,⟨m,?_⟩,?_⟩
    ·rw[mj,List.map_singleton,List.dropLast_concat];rfl
    ·show(((c++List.replicate m 0)++[0]).map nD).dropLast.length< (((c++List.replicate m 0)++[0]).map nD).length
     rw[List.length_dropLast,cZ,bQ];simp) ⟨m,rfl⟩
 exact e
def Gd(c:LR):Prop:=(∀q∈c,Bd q)/\c.length<=13/\bP c=c
theorem JL:(" + " :Str)=ae [32,43,32]:=by decide +kernel
theorem Ip:(" - " :Str)=ae [32,45,32]:=by decide +kernel
theorem JM:(" + -" :Str)=ae [32,43,32,45]:=by decide +kernel
theorem J7:("+ -" :Str)=ae [43,32,45]:=by decide +kernel
theorem De(z w:List Nat)(n:Nat)(hw:w.length<=2*z.length): ∀(ps:List (List Nat)),(aV w ps).length<=2*(aV z ps).length:=by
 have fl: ∀ps:List (List Nat),(ps.flatMap λq=>w++q).length<=2*(ps.flatMap λq=>z++q).length:=by
  intro ps
  induction ps with
  |nil=>simp
  |cons p r ih=>
   rw[mT,mT,bQ,bQ,bQ,bQ];omega
 intro ps;cases ps with
 |nil=>simp[aV]
 |cons p r=>
  unfold aV;rw[bQ,bQ];have:=fl r;omega
theorem Df(z:List Nat)(ps:List (List Nat)): ∀c∈aV z ps,c∈z\/∃p∈ps,c∈p:=by
 intro c hc;cases ps with
 |nil=>cases hc
 |cons p r=>
  unfold aV at hc
  rcases eV.mp hc with hc |hc
  ·exact .inr ⟨p,dP ..,hc⟩
  ·obtain⟨q,hq,hc⟩:=F4.mp hc
   rcases eV.mp hc with hc |hc
   ·exact .inl hc
   ·exact .inr ⟨q,eU _ hq,hc⟩
theorem xj(z:List Nat){ps:List (List Nat)}{p:List Nat}(hp:p∈ps):(∀c∈p,c∈aV z ps)/\p.length<=(aV z ps).length:=by
 cases ps with
 |nil=>cases hp
 |cons q r=>
  unfold aV
  rcases fq.mp hp with rfl |hp
  ·exact⟨λc hc=>zZ _ hc,by rw[bQ];omega⟩
  ·obtain⟨u,v,rfl⟩:=List.append_of_mem hp
   refine⟨λc hc=>j9 _ (F4.mpr ⟨p,by simp,j9 _ hc⟩),?_⟩;rw[bQ,F3,mT,bQ,bQ,bQ];omega
theorem Fz(l:List Nat)(h:As l)(h90:l.length<=90):(∃c,Gd c/\l=kw c/\dL [.str (ae l)]=aj (.val (cD c)))\/((∀c,Gd c->l≠kw c)/\dL [.str (ae l)]=aj (.val .none)):=by
 have sl:(sizeLine:Nat)=16777216:=rfl;have t1:fB (f2 (aQ false) (ac 0) (fC (.str "0"))) [.dat (.str (ae l)),.no,.no,.no,.no,.no]=aj (decide (l=[48])):=by
  refine(ax (ah rfl rfl (gc h.sok (bK "0"))) rfl).trans ?_;have:ae l=("0" :Str)<->l=[48]:=by rw[show("0" :Str)=ae [48] by decide +kernel,jV]
  rw[decide_eq_decide.mpr this]
 by_cases c1:l=[48]
 ·refine .inl ⟨[],⟨λq h=>(nomatch h),by decide,rfl⟩,by rw[c1];rfl,aP rfl ?_⟩
  show de [.dat (.str (ae l)),.no,.no,.no,.no,.no]=_;unfold de;exact aB (t1.trans (by rw[bR c1])) (aN (ai rfl rfl) rfl)
 have f1:=t1.trans (by rw[a9 c1]);have can: ∀c,Gd c->l=kw c->∃t r,dD 0 c=t::r/\l=d9 (t::r)/\(∀u∈t::r,Tq u)/\qz (-1) (t::r):=λc g e=>by
  unfold kw at e;split at e
  ·exact absurd e c1
  ·rename_i z
   cases e2:dD 0 c with
   |nil=>exact absurd e2 z
   |cons t r=>
    rw[e2] at e;refine⟨t,r,rfl,e,λu hu=>Eb 0 c g.1 (by have:=g.2.1;omega) u (by rw[e2];exact hu),?_⟩
    have:=BY 0 c;rw[e2] at this
    exact this
 rcases Fq l with⟨pm,npm⟩ | ⟨pm,npm⟩
 ·have f2':fB (f2 (fM false) (fC (.str "+ -")) (ac 0)) [.dat (.str (ae l)),.no,.no,.no,.no,.no]=aj false:=ax (ah (x:= .dat (.str "+ -")) rfl rfl (by rw[J7];exact pm)) rfl
  obtain⟨qs,sq,rq⟩:=Fp l [32,45,32] [32,43,32,45] (by simp);obtain⟨ps,ep,sp⟩:=C7 (aV [32,43,32,45] qs) [32,43,32] (by simp) (by decide +kernel);have jq:=sq.join;have jp:=sp.join;have len2:(aV [32,43,32,45] qs).length<=180:=by
   have:=De [32,45,32] [32,43,32,45] 0 (by decide) qs;rw[jq] at this
   omega
  have Aj:As (aV [32,43,32,45] qs):=⟨λc hc=>by
   rcases Df _ _ c hc with hc | ⟨q,hq,hc⟩
   ·simp at hc;omega
   ·exact h.1 c (by rw[<-jq];exact(xj [32,45,32] hq).1 c hc),by omega⟩
  have Ap: ∀p∈ps,As p:=λp hp=>by
   have:=xj [32,43,32] hp;rw[jp] at this
   exact Aj.sub this.1 this.2
  have gr:nO " - " " + -" (.dat (.str (ae l)))=aj (.dat (.str (ae (aV [32,43,32,45] qs)))):=by
   unfold nO Rz.d?;dsimp only;have e4:(" + -" :Str).length=4:=by decide +kernel
   rw[aD ⟨by decide +kernel,by rw[e4,aC];omega⟩,Ip,JM,rq]
  have gs:c9 " + " (.dat (.str (ae (aV [32,43,32,45] qs))))=aj (.new (ps.map λp=>PyData.str (ae p))):=by
   unfold c9 Rz.d?;dsimp only;rw[aD ⟨by decide +kernel,by rw[aC];omega⟩,JL,ep,oz];rfl
  have a6: ∀{g:List Sl->Option Fl} {fl:Option Fl},dS (cL 3) LB (ps.map λp=>PyData.str (ae p)) [.dat (.str (ae l)),.own ((List.replicate 13 (0:Rat)).map nD),.dat (.int (-1)),.no,.no,.no]=fl->∀{r:Option Fl},(match fl with |some (.next δ)=>g δ |r=>r)=r->
    ar (aU (fB (f2 (aQ false) (ac 0) (fC (.str "0")))) (aT (ag bV ak)) aR) (ar (aU (fB (f2 (fM false) (fC (.str "+ -")) (ac 0))) (aT (fC .none)) aR) (ar (aA 1 (f2 tI (ag dR (aa (ag bV (aa (fC (.int 0)) (aa (fC (.int 1)) ak))) ak)) (fC (.int 13)))) (ar (aA 2 (fC (.int (-1)))) (ar (lC (fI e7 (fU (c9 " + ") (fU (nO " - " " + -") (ac 0)))) (cL 3) LB) g)))) [.dat (.str (ae l)),.no,.no,.no,.no,.no]=r:=by
   intro g fl e r hr;refine av f1 (au (av f2' (au ?_)));refine az (x:= .new ((List.replicate 13 (0:Rat)).map nD)) (ah (ai (al (ai rfl rfl) rfl) rfl) rfl rfl) rfl (by walk_at "ss") ?_;refine az rfl rfl (by walk_at "ss") ?_;have it:fI e7 (fU (c9 " + ") (fU (nO " - " " + -") (ac 0))) [.dat (.str (ae l)),.own ((List.replicate 13 (0:Rat)).map nD),.dat (.int (-1)),.no,.no,.no]=aj (ps.map λp=>PyData.str (ae p)):=ms (cI (cI rfl gr) gs) rfl
   unfold ar;rw[lG it e];exact hr
  have z13:(List.replicate 13 (0:Rat)).length=13:=by simp
  rcases yU (.dat (.str (ae l))) ps (List.replicate 13 0) (-1) .no .no .no Ap z13 with⟨A,a1,a2,a3,l',s3,s4,s5,a4⟩ | ⟨no,a4⟩
  ·cases A with
   |nil=>exact absurd a1 sp.ne
   |cons t r=>
    obtain⟨c,f1',f2'',f3,f4,f5⟩:=yT (t::r) [] a2 a3 (by simp) (λq h=>(nomatch h));have f5:=f5 (.inl (by simp));have f3:dD 0 c=t::r:=f3;have cne:c≠[]:=λz=>by rw[z] at f3;cases f3
    refine .inl ⟨c,⟨f4,f2'',f5⟩,?_,aP rfl ?_⟩
    ·obtain⟨q0,q1,eq⟩ : ∃q0 q1,qs=q0::q1:=by
      cases e:qs with
      |nil=>exact absurd e sq.ne
      |cons a b=>exact⟨a,b,rfl⟩
     have npq:=BM (sep:=[32,45,32]) (ps:=qs) (by rw[jq];exact npm);have ps2:ps=dX t::r.map dX:=a1;have u:=zN (r.map dX) (dX t) q0 q1 (vv t).2.1 (λp hp=>by obtain⟨w,_,rfl⟩:=rN.mp hp;exact vv w) (npq q0 (by rw[eq];simp)) (λq hq=>npq q (by rw[eq];simp[hq])) (by rw[<-ps2,<-eq];exact jp);rw[<-eq,jq,<-JJ] at u
     rw[u];unfold kw;rw[f3,aK (by simp)]
    ·show de [.dat (.str (ae l)),.no,.no,.no,.no,.no]=_
     unfold de;refine a6 a4 ?_;have e13:(t::r).foldl fy (List.replicate 13 0)=c++List.replicate (13-c.length) 0:=f1';rw[e13];refine cV (Dd _ _ _ _ _ c f5 cne _) ?_;exact bA (ai rfl rfl) rfl
  ·refine .inr ⟨λc g e=>?_,aP rfl ?_⟩
   ·obtain⟨t,r,e1,e2,e3,e4⟩:=can c g e
    obtain⟨qs',sq',jq'⟩:=ub r (dX t) (λk z=>by
     unfold dX eH at z
     by_cases w:t.1=true
     ·rw[aD w] at z
      exact zM t (lm (show(bU t)[k]?= some 45 from z))
     ·rw[aK w,lr] at z
      exact zM t (lm z))
    have e5:(dX t++r.flatMap λt=>[32,cu t,32]++bU t)=l:=by rw[e2];rfl
    rw[e5] at sq';have:=sq'.det sq
    subst this;have e6:aV [32,43,32,45] qs'=aV [32,43,32] ((t::r).map dX):=by
     rw[jq',gj];show dX t++_=dX t++(r.map dX).flatMap λq=>[32,43,32]++q
     rw[List.flatMap_map];rfl
    have sp':=yN ((t::r).map dX) (by simp) (λp hp=>by obtain⟨w,_,rfl⟩:=rN.mp hp;exact(vv w).2.1);rw[<-e6] at sp'
    exact no (t::r) e3 e4 (sp.det sp')
   ·show de [.dat (.str (ae l)),.no,.no,.no,.no,.no]=_
    unfold de;exact a6 a4 rfl
 ·refine .inr ⟨λc g e=>?_,aP rfl ?_⟩
  ·obtain⟨t,r,e1,e2,_⟩:=can c g e
   exact npm (by rw[e2];exact Fw _)
  ·show de [.dat (.str (ae l)),.no,.no,.no,.no,.no]=_
   unfold de;exact av f1 (au (aB (ax (ah (x:= .dat (.str "+ -")) rfl rfl (by rw[J7];exact pm)) rfl) (aN rfl rfl)))
theorem qA(l:List Nat)(h:As l):gB [.str (ae l)]=some (.err .NoText)\/∃k:Nat,k<=12/\gB [.str (ae l)]=aj (.val (.int (k:Int))):=by
 have h1000:l.length<=1000:=by have:=h.2;omega
 have t1:fB (f2 (aQ false) (ac 0) (fC (.str "x"))) [.dat (.str (ae l)),.no]=aj (decide (ae l=("x" :Str))):=ax (ah rfl rfl (gc h.sok (bK "x"))) rfl
 by_cases c1:ae l=("x" :Str)
 ·refine .inr ⟨1,by decide,aP rfl ?_⟩
  show cT [.dat (.str (ae l)),.no]=_;unfold cT;exact aB (t1.trans (by rw[bR c1])) (aN rfl rfl)
 have f1:=t1.trans (by rw[a9 c1]);obtain⟨b,hb⟩ : ∃b,fB (fU (dO "x^") (ac 0)) [.dat (.str (ae l)),.no]=aj b:=⟨_,ax (cI rfl rfl) rfl⟩
 cases b with
 |false=>
  refine .inl (cS rfl ?_);show cT [.dat (.str (ae l)),.no]=_;unfold cT;exact av f1 (au (aB (lh hb) (d5 rfl)))
 |true=>
  have fd:(cJ dz (ac 0) (bi (fC (.int 2))) bL) [.dat (.str (ae l)),.no]=aj (.dat (.str (ae (l.drop 2)))):=n6 h1000 2 rfl
  rcases j7 (l.drop 2) (h.drop 2) with f | ⟨_,_,_,f⟩
  ·refine .inl (cS rfl ?_)
   show cT [.dat (.str (ae l)),.no]=_;unfold cT;exact av f1 (au (av (eD hb) (au (jU (c6 (al fd rfl) (e9 rfl rfl f))))))
  ·obtain⟨n,hn⟩ : ∃n,n=NumText.digitsVal (l.drop 2):=⟨_,rfl⟩
   rw[<-hn] at f;have two: ∀{g:List Sl->Option Fl} {r:Option Fl},g [.dat (.str (ae l)),.dat (.int (n:Int))]=r->ar (aA 1 (ag (gF 1 ef) (aa (cJ dz (ac 0) (bi (fC (.int 2))) bL) ak))) g [.dat (.str (ae l)),.no]=r:=λhg=>
    az (x:= .dat (.int (n:Int))) (ai (al fd rfl) (aG rfl rfl f rfl)) rfl (by walk_at "ss") hg
   have t2:fB (f2 (gI Hg) (ac 1) (fC (.int 13))) [.dat (.str (ae l)),.dat (.int (n:Int))]=aj (decide ((13:Int)<=(n:Int))):=ax (ah rfl rfl rfl) rfl
   by_cases c2:n<=12
   ·refine .inr ⟨n,c2,aP rfl ?_⟩
    show cT [.dat (.str (ae l)),.no]=_;unfold cT;exact av f1 (au (av (eD hb) (au (two (av (t2.trans (by rw[a9 (show ¬(13:Int)<=n by omega)])) (au (bA rfl rfl)))))))
   ·refine .inl (cS rfl ?_)
    show cT [.dat (.str (ae l)),.no]=_;unfold cT;exact av f1 (au (av (eD hb) (au (two (aB (t2.trans (by rw[bR (show(13:Int)<=n by omega)])) (d5 rfl))))))
theorem zS(ws:List (List Nat))(h: ∀w∈ws,As w):eY [.list (ws.map λw=> .str (ae w))]=some (.err .NoText)\/∃(k:Nat) (q:Rat),k<=12/\Bd q/\eY [.list (ws.map λw=> .str (ae w))]=aj (.val (.tuple [.int (k:Int),nD q])):=by
 have tl: ∀m:Int,fB (f2 (aQ false) (ag (g1 cW) (aa (ac 0) ak)) (fC (.int m))) [.dat (.list (ws.map λw=> .str (ae w)))]=aj (decide ((ws.length:Int)=m)):=λm=>by
  refine(ax (ah (ai rfl (Ku _)) rfl (bW _ _)) rfl).trans ?_;rw[cZ]
 match ws,h with
 | [w],h=>
  have Aw:=h w (by simp);have l1:=(tl 1).trans (by rw[bR (by rfl)]);obtain⟨b,hb⟩ : ∃b,fB (fU (dO "x") (f2 aJ (ac 0) (fC (.int 0)))) [.dat (.list ([w].map λw=> .str (ae w)))]=aj b:=⟨_,ax (cI (ah rfl rfl (du (j:=0) rfl rfl)) rfl) rfl⟩
  cases b with
  |false=>
   rcases n5 w Aw with f | ⟨q,bq,f⟩
   ·refine .inl (cS rfl ?_)
    show bM [.dat (.list ([w].map λw=> .str (ae w)))]=_;unfold bM;exact aB (cX l1 (lh hb)) (d5 (qo (lY (pE rfl (kA (c6 (al (ah rfl rfl (du (j:=0) rfl rfl)) rfl) (e9 rfl rfl f)))))))
   ·refine .inr ⟨0,q,by decide,bq,aP rfl ?_⟩
    show bM [.dat (.list ([w].map λw=> .str (ae w)))]=_;unfold bM;exact aB (cX l1 (lh hb)) (aN (ai (al rfl (al (ai (al (ah rfl rfl (du (j:=0) rfl rfl)) rfl) (aG rfl rfl f (dr _))) rfl)) rfl) rfl)
  |true=>
   rcases qA w Aw with f | ⟨k,k12,f⟩
   ·refine .inl (cS rfl ?_)
    show bM [.dat (.list ([w].map λw=> .str (ae w)))]=_;unfold bM;exact av (cX l1 (eD hb)) (au (aB l1 (d5 (qo (lY (kA (c6 (al (ah rfl rfl (du (j:=0) rfl rfl)) rfl) (e9 rfl rfl f))))))))
   ·refine .inr ⟨k,1,k12,⟨by decide,by decide⟩,aP rfl ?_⟩
    show bM [.dat (.list ([w].map λw=> .str (ae w)))]=_;unfold bM;exact av (cX l1 (eD hb)) (au (aB l1 (aN (ai (al (x:= .dat (.int (k:Int))) (ai (al (ah rfl rfl (du (j:=0) rfl rfl)) rfl) (aG rfl rfl f rfl)) (al rfl rfl)) rfl) rfl)))
 | [w0,w1],h=>
  have l1:=(tl 1).trans (by rw[a9 (by show ¬(2:Int)=1;decide)]);have l2:=(tl 2).trans (by rw[bR (by rfl)])
  rcases qA w1 (h w1 (by simp)) with f | ⟨k,k12,f⟩
  ·refine .inl (cS rfl ?_)
   show bM [.dat (.list ([w0,w1].map λw=> .str (ae w)))]=_;unfold bM;exact av (eE l1) (au (av l1 (au (aB l2 (d5 (qo (lY (kA (c6 (al (ah rfl rfl (du (j:=1) rfl rfl)) rfl) (e9 rfl rfl f))))))))))
  ·rcases n5 w0 (h w0 (by simp)) with g | ⟨q,bq,g⟩
   ·refine .inl (cS rfl ?_)
    show bM [.dat (.list ([w0,w1].map λw=> .str (ae w)))]=_;unfold bM;exact av (eE l1) (au (av l1 (au (aB l2 (d5 (qo (lY (pE (x:= .dat (.int (k:Int))) (ai (al (ah rfl rfl (du (j:=1) rfl rfl)) rfl) (aG rfl rfl f rfl)) (kA (c6 (al (ah rfl rfl (du (j:=0) rfl rfl)) rfl) (e9 rfl rfl g)))))))))))
   ·refine .inr ⟨k,q,k12,bq,aP rfl ?_⟩
    show bM [.dat (.list ([w0,w1].map λw=> .str (ae w)))]=_;unfold bM;exact av (eE l1) (au (av l1 (au (aB l2 (aN (ai (al (x:= .dat (.int (k:Int))) (ai (al (ah rfl rfl (du (j:=1) rfl rfl)) rfl) (aG rfl rfl f rfl)) (al (ai (al (ah rfl rfl (du (j:=0) rfl rfl)) rfl) (aG rfl rfl g (dr _))) rfl)) rfl) rfl)))))
 | [],h=>
  have l1:=(tl 1).trans (by rw[a9 (by show ¬(0:Int)=1;decide)]);have l2:=(tl 2).trans (by rw[a9 (by show ¬(0:Int)=2;decide)]);refine .inl (cS rfl ?_);show bM [.dat (.list (([]:List (List Nat)).map λw=> .str (ae w)))]=_;unfold bM;exact av (eE l1) (au (av l1 (au (av l2 (au rfl)))))
 |w0::w1::w2::r,h=>
  have l1:=(tl 1).trans (by rw[a9 (by simp only[c5];omega)]);have l2:=(tl 2).trans (by rw[a9 (by simp only[c5];omega)]);refine .inl (cS rfl ?_);show bM [.dat (.list ((w0::w1::w2::r).map λw=> .str (ae w)))]=_;unfold bM;exact av (eE l1) (au (av l1 (au (av l2 (au rfl)))))
theorem Iq(δ:List Sl)(w:List Nat)(hw:As w)(h3:δ[3]?= some (.dat (.str (ae w)))): ∃b,(fB (f2 (D3.m9 false) (ac 3) (ag D3.bV (aa (fC (.str "+")) (aa (fC (.str "-")) ak))))) δ=aj b:=by
 have ok2:fu (.list [.str "+",.str "-"])=true:=by decide +kernel
 have hv:ac 3 δ=aj (.dat (.str (ae w))):=by unfold ac;rw[h3]
 have: ∃b,D3.m9 false (.dat (.str (ae w))) (.dat (.tuple [.str "+",.str "-"]))=aj (.dat (.bool b)):=by
  unfold D3.m9 Rz.d?;dsimp only;rw[aD ⟨lj hw.sok,ok2⟩];exact⟨_,rfl⟩
 obtain⟨b,e⟩:=this;exact⟨b,ax (ah hv (y:= .dat (.tuple [.str "+",.str "-"])) rfl e) rfl⟩
def xl(g:List (List Nat)):Prop:=g≠[]/\∀w∈g,As w
theorem rf(ft:List Sl->M Bool)(δ:List Sl)(ht: ∀w:List Nat,As w->∃b,ft (δ.set 3 (.dat (.str (ae w))))=aj b) :
  ∀(W:List (List Nat)),(∀w∈W,As w)->∀(gs:List (List (List Nat))) (cur:List (List Nat)),(∀g∈gs,xl g)->xl cur->
   ∃G:List (List (List Nat)),eC ft 3 δ (gs.map λg=>g.map ae) (cur.map ae) (W.map λw=>PyData.str (ae w))=some (G.map λg=>g.map ae)/\∀g∈G,xl g
 | [],_,gs,cur,hg,hc=>⟨gs++[cur],by simp[eC],λg h=>(eV.mp h).elim (hg g) (λz=>by rw[gS] at z;rw[z];exact hc)⟩
 |w::W,hW,gs,cur,hg,hc=>by
  obtain⟨b,hb⟩:=ht w (hW w (dP ..));have hW':=λv hv=>hW v (eU _ hv)
  rw[gj];unfold eC;rw[hb];cases b with
  |true=>
   have:=rf ft δ ht W hW' (gs++[cur]) [w] (λg h=>(eV.mp h).elim (hg g) (λz=>by rw[gS] at z;rw[z];exact hc)) ⟨by simp,λv hv=>by rw[gS] at hv;rw[hv];exact hW w (dP ..)⟩;rw[mj] at this
   exact this
  |false=>
   have:=rf ft δ ht W hW' gs (cur++[w]) hg ⟨by simp,λv hv=>(eV.mp hv).elim (hc.2 v) (λz=>by rw[gS] at z;rw[z];exact hW w (dP ..))⟩;rw[mj] at this
   exact this
theorem xS(l:List Nat)(h:As l): ∃G:List (List (List Nat)),gA [.str (ae l)]=aj (.newls (kN (G.map λg=>g.map ae)))/\∀g∈G,xl g:=by
 have sl:(sizeLine:Nat)=16777216:=rfl;obtain⟨w,R,hw,AR,fr⟩:=BU l h;obtain⟨ws,hne,h32,hg,hsp⟩:=mL R;obtain⟨v,ev,Av⟩ : ∃v,w=ae v/\As v:=by rcases hw with rfl |rfl<;>exact⟨_,rfl,by simp[As]⟩
 have wl:ws.length<=300:=by
  have h1:=PyProof.Rows.split_le (ae R) " ";rw[hsp,cZ,aC] at h1
  have:=AR.2;omega
 obtain⟨δ0,hδ⟩ : ∃δ0:List Sl,δ0=[.dat (.str (ae l)),.dat (.tuple [.str w,.str (ae R)]),.no,.no]:=⟨_,rfl⟩
 have hit:(fI e7 (fU (c9 " ") (f2 aJ (ac 1) (fC (.int 1))))) δ0=aj (ws.map λw=>PyData.str (ae w)):=by
  rw[hδ];exact ms (cI (ah rfl rfl cY) (rd AR hsp)) rfl
 obtain⟨G,hn,hG⟩:=rf (fB (f2 (D3.m9 false) (ac 3) (ag D3.bV (aa (fC (.str "+")) (aa (fC (.str "-")) ak))))) δ0 (λx hx=>Iq _ x hx (by rw[hδ];rfl)) ws (λx hx=>AR.word hg hx) [] [v] (λg h=>(nomatch h)) ⟨by simp,λx hx=>by rw[gS] at hx;rw[hx];exact Av⟩;refine⟨G,aP rfl ?_,hG⟩;show ix [.dat (.str (ae l)),.no,.no,.no]=_;unfold ix;refine az (ai rfl (aG rfl rfl fr (nY _ _))) rfl (by walk_at "ss") ?_
 have hset:δ0.set 2 .no=δ0:=by rw[hδ];rfl
 unfold vj;rw[<-hδ,show(f2 aJ (ac 1) (fC (.int 0))) δ0=aj (.dat (.str w)) by rw[hδ];exact ah rfl rfl cp];show bS ((fI e7 (fU (c9 " ") (f2 aJ (ac 1) (fC (.int 1))))) (δ0.set 2 .no)) _=_;rw[hset,hit];show(if(ws.map λw=>PyData.str (ae w)).length+2<sizeLine/\2<δ0.length/\3<δ0.length then _ else _)=_;rw[aD ⟨by rw[cZ];omega,by rw[hδ];show 2<4;decide,by rw[hδ];show 3<4;decide⟩];show(match eC (fB (f2 (D3.m9 false) (ac 3) (ag D3.bV (aa (fC (.str "+")) (aa (fC (.str "-")) ak))))) 3 δ0 [] [w] (ws.map λw=>PyData.str (ae w)) with |some gs=>some (Fl.ret (.newls (kN gs))) |none=>none)=_
 rw[ev];rw[show([]:List (List Str))=([]:List (List (List Nat))).map (λg=>g.map ae) from rfl,show [ae v]=[v].map ae from rfl,hn]
theorem Kw(d:PyData)(r:LP):gw (d::r) (some 1) none=r:=by
 unfold gw HT.gU;dsimp only;rw[aK (by decide)];have e1:min (1:Int).toNat (d::r).length=1:=by rw[c5];show min 1 _=1;omega
 first
  | (rw[e1,yb,rO,c5];exact um (by omega))
  | (simp)
noncomputable def RB:List Sl->Option Fl:=λ δ=>(ar (aA 4 (ag (gF 1 eY) (aa (cJ gN (ac 2) (bi (fC (.int 1))) bL) ak)))
  (mB 1 (ag (gF 2 fg) (aa (f2 aJ (ac 2) (fC (.int 0))) (aa (f2 aJ (ac 4) (fC (.int 1))) ak))) (f2 aJ (ac 4) (fC (.int 0))))) δ
theorem FA(x0 r3 r4:Sl)(g:List (List Nat))(hg:xl g)(N:LR)(hN:N.length=13/\∀q∈N,Bd q) :
  (∃(M:LR) (s4:Sl),(M.length=13/\∀q∈M,Bd q)/\RB [x0,.own (N.map nD),.dat (.list ((g.map ae).map PyData.str)),r3,r4]=some (.next [x0,.own (M.map nD),.dat (.list ((g.map ae).map PyData.str)),r3,s4]))\/RB [x0,.own (N.map nD),.dat (.list ((g.map ae).map PyData.str)),r3,r4]=some (.exc .NoText):=by
 obtain⟨w,ws,rfl⟩ : ∃w ws,g=w::ws:=by
  cases g with
  |nil=>exact absurd rfl hg.1
  |cons w ws=>exact⟨w,ws,rfl⟩
 have eg:((w::ws).map ae).map PyData.str= .str (ae w)::ws.map λw=> .str (ae w):=by rw[gj,gj,oz];rfl
 rw[eg];have hs:(cJ gN (ac 2) (bi (fC (.int 1))) bL) [x0,.own (N.map nD),.dat (.list (.str (ae w)::ws.map λw=> .str (ae w))),r3,r4]=aj (.new (ws.map λw=> .str (ae w))):=by
  show aj (Rz.new (gw (.str (ae w)::ws.map λw=> .str (ae w)) (some 1) none))=_;rw[Kw]
 unfold RB
 rcases zS ws (λx hx=>hg.2 x (eU _ hx)) with f | ⟨k,q,k12,bq,f⟩
 ·exact .inr (jU (c6 (al hs rfl) (e9 rfl rfl f)))
 ·obtain⟨v,hv⟩ : ∃v,v=if ae w=("-" :Str) then 0-q else q:=⟨_,rfl⟩
  have bv:Bd v:=by rw[hv];split;exact BT bq;exact bq
  have fs:=pF (ae w) (hg.2 w (dP ..)).sok q bq;rw[<-hv] at fs
  refine .inl ⟨N.set k v,.dat (.tuple [.int (k:Int),nD q]),⟨by rw[ox];exact hN.1,λp hp=>(List.mem_or_eq_of_mem_set hp).elim (hN.2 p) (λz=>z▸bv)⟩,?_⟩;refine az (x:= .dat (.tuple [.int (k:Int),nD q])) (ai (al hs rfl) (aG rfl rfl f (yK _ _))) rfl (by walk_at "ss") ?_;refine v9 (d:=nD v) (ds:=N.map nD) (j:=k) (y:= .dat (.int (k:Int))) (i:=(k:Int)) (ai (al (ah rfl rfl (du (j:=0) rfl rfl)) (al (ah rfl rfl cY) rfl)) (aG rfl rfl fs (dr _))) rfl (ah rfl rfl cp) rfl rfl (tZ rfl (by rw[cZ,hN.1];omega)) ?_
  rw[List.map_set];rfl
theorem Dg(l:LR):(∀q∈bP l,q∈l)/\(bP l).length<=l.length:=by
 have h:bP l <+: l:=by
  unfold bP;have:=List.dropWhile_suffix (l:=l.reverse) (· == 0);have:=List.reverse_prefix.mpr this
  rwa [List.reverse_reverse] at this
 exact⟨λq hq=>h.subset hq,h.length_le⟩
theorem B1(l:LR):bP (bP l)=bP l:=by
 rcases pp l with h | ⟨m,a,h1,h2⟩
 ·rw[h];rfl
 ·rw[h1];exact ku h2
theorem xT(l:List Nat)(h:As l):ce [.str (ae l)]=some (.err .NoText)\/∃c,Gd c/\l=kw c/\ce [.str (ae l)]=aj (.val (cD c)):=by
 obtain⟨G,ft,hG⟩:=xS l h;have a6: ∀{g:List Sl->Option Fl} {fl:Option Fl},dS (cL 2) RB (kN (G.map λg=>g.map ae)) [.dat (.str (ae l)),.own ((List.replicate 13 (0:Rat)).map nD),.no,.no,.no]=fl->∀{r:Option Fl},(match fl with |some (.next δ)=>g δ |r=>r)=r->
   ar (ji (ag (gF 1 eo) (aa (ac 0) ak))) (ar (aA 1 (f2 tI (ag dR (aa (fC (.tuple [(.int 0),(.int 1)])) ak)) (fC (.int 13)))) (ar (lC (fI e7 (ag (gF 1 gA) (aa (ac 0) ak))) (cL 2) RB) g)) [.dat (.str (ae l)),.no,.no,.no,.no]=r:=by
  intro g fl e r hr;refine cV (i7 (ai rfl (aG rfl rfl (jv _) rfl))) ?_;refine az (x:= .new ((List.replicate 13 (0:Rat)).map nD)) (ah (ai rfl rfl) rfl rfl) rfl (by walk_at "ss") ?_;have it:fI e7 (ag (gF 1 gA) (aa (ac 0) ak)) [.dat (.str (ae l)),.own ((List.replicate 13 (0:Rat)).map nD),.no,.no,.no]=aj (kN (G.map λg=>g.map ae)):=ms (ai rfl (aG rfl rfl ft rfl)) rfl;unfold ar;rw[lG it e];exact hr
 have lp:=w4 (g:=cL 2) (b:=RB) .NoText (λ δ=>∃(N:LR) (r2 r4:Sl),(N.length=13/\∀q∈N,Bd q)/\δ=[.dat (.str (ae l)),.own (N.map nD),r2,.no,r4]) (kN (G.map λg=>g.map ae)) [.dat (.str (ae l)),.own ((List.replicate 13 (0:Rat)).map nD),.no,.no,.no]
  ⟨_,_,_,⟨by simp,λq hq=>by rw[List.eq_of_mem_replicate hq];exact⟨by decide,by decide⟩⟩,rfl⟩
  (by
   rintro d hd δ ⟨N,r2,r4,hN,rfl⟩;unfold kN at hd
   obtain⟨u,hu,rfl⟩:=rN.mp hd;obtain⟨g,hg,rfl⟩:=rN.mp hu;refine⟨_,rfl,?_⟩
   rcases FA (.dat (.str (ae l))) .no r4 g (hG g hg) N hN with⟨M,s4,hM,e⟩ |e
   ·exact .inl ⟨_,e,M,_,s4,hM,rfl⟩
   ·exact .inr e)
 rcases lp with⟨δ',e,N,r2,r4,hN,rfl⟩ |e
 ·have tm:=Dg N
  have hl:(bP N).length<=13:=by have:=tm.2;omega
  have hb: ∀q∈bP N,Bd q:=λq hq=>hN.2 q (tm.1 q hq)
  have hco:=sF N hl;have two: ∀{g:List Sl->Option Fl} {r:Option Fl},g [.dat (.str (ae l)),.own (N.map nD),r2,.dat (cD (bP N)),r4]=r->ar (aA 3 (ag (gF 1 jr) (aa (ac 1) ak))) g [.dat (.str (ae l)),.own (N.map nD),r2,.no,r4]=r:=λhg=>
   az (ai rfl (aG rfl rfl hco (wL _))) rfl (by walk_at "ss") hg
  have fsh:(aa (ac 0) (aa (ag (gF 1 ie) (aa (ac 3) ak)) ak)) [.dat (.str (ae l)),.own (N.map nD),r2,.dat (cD (bP N)),r4]=aj [.dat (.str (ae l)),.dat (.str (ae (kw (bP N))))]:=al rfl (al (ai rfl (aG rfl rfl (pA (bP N) hb hl) (gD _))) rfl)
  rcases uM (ae l) (ae (kw (bP N))) h.sok (yG _) with⟨ew,fw⟩ |fw
  ·refine .inr ⟨bP N,⟨hb,hl,B1 N⟩,jV.mp ew,aP rfl ?_⟩
   show cK [.dat (.str (ae l)),.no,.no,.no,.no]=_;unfold cK;refine a6 e ?_;exact two (cV (i7 (ai fsh (aG rfl rfl fw rfl))) (bA rfl rfl))
  ·refine .inl (cS rfl ?_)
   show cK [.dat (.str (ae l)),.no,.no,.no,.no]=_;unfold cK;refine a6 e ?_;exact two (d5 (n4 (c6 fsh (e9 rfl rfl fw))))
 ·refine .inl (cS rfl ?_)
  show cK [.dat (.str (ae l)),.no,.no,.no,.no]=_;unfold cK;exact a6 e rfl
def l7(d:PyData):Bool:=match d with | .str z=>z.cps.all (λc=>decide (c<128))&&decide (z.cps.size<=20) |_=>false
theorem FB{d:PyData}(h:l7 d=true): ∃l:List Nat,(∀c∈l,c<128)/\l.length<=20/\d= .str (ae l):=by
 unfold l7 at h;split at h
 ·rename_i z
  rw[ul] at h;refine⟨dB z,λc hc=>?_,by have:=oy h.2;unfold dB;rw[Dn];exact this,by rw[jS]⟩
  have:=Array.all_eq_true_iff_forall_mem.mp h.1 c (Array.mem_toList_iff.mp hc);exact oy this
 ·cases h
theorem nq(c:Int)(n:Nat)(h:0<n): ∃j:Nat,j<n/\c% (n:Int)=(j:Int):=by
 have h1:=FX c (show(n:Int)≠0 by omega);have h2:=FY c (show(0:Int)<n by omega);exact⟨(c% (n:Int)).toNat,by omega,by omega⟩
theorem zn(c:Int)(ds:LP)(h:0<ds.length): ∃d∈ds,(f2 aJ (ac 1) (f2 (gI bO) (ac 0) (ag (g1 cW) (aa (ac 1) ak)))) [.dat (.int c),.own ds]=aj (.dat d):=by
 obtain⟨j,hj,e⟩:=nq c ds.length h;refine⟨ds[j],ya hj,ah rfl (ah rfl (ai rfl (show _=aj (Rz.dat (.int (ds.length:Int))) from rfl)) (fF (by omega))) (wd (j:=j) e (gk hj))⟩
theorem xm(c:Int)(ds:LP)(h:0<ds.length)(ha:ds.all l7=true): ∃l:List Nat,(∀c∈l,c<128)/\l.length<=20/\aT (f2 aJ (ac 1) (f2 (gI bO) (ac 0) (ag (g1 cW) (aa (ac 1) ak)))) [.dat (.int c),.own ds]=some (.ret (.val (.str (ae l)))):=by
 obtain⟨d,hd,e⟩:=zn c ds h;obtain⟨l,l1,l2,rfl⟩:=FB (qu.mp ha d hd);exact⟨l,l1,l2,bA e rfl⟩
theorem Ir(c:Int): ∃l:List Nat,(∀c∈l,c<128)/\l.length<=20/\fP [.int c]=aj (.val (.str (ae l))):=by
 have key: ∃l:List Nat,(∀c∈l,c<128)/\l.length<=20/\j6 [.dat (.int c),.no]=some (.ret (.val (.str (ae l)))):=by
  unfold j6;obtain⟨l,h1,h2,e⟩:=xm c ([.str "3",.str "-1/2",.str "0",.str "12/7",.str "x",.str "-x^2",.str "1 - 3/4 x",.str "-2 + x^3",.str "1/2 x + 5 x^2 - x^7",.str "7 x^10 - x^11"]++[.str "10"]) (by decide) (by decide +kernel);refine⟨l,h1,h2,?_⟩;refine az (x:= .new [.str "3",.str "-1/2",.str "0",.str "12/7",.str "x",.str "-x^2",.str "1 - 3/4 x",.str "-2 + x^3",.str "1/2 x + 5 x^2 - x^7",.str "7 x^10 - x^11"]) (ai rfl rfl) rfl (by walk_at "ss") ?_
  exact cV (HF (ds:=[.str "3",.str "-1/2",.str "0",.str "12/7",.str "x",.str "-x^2",.str "1 - 3/4 x",.str "-2 + x^3",.str "1/2 x + 5 x^2 - x^7",.str "7 x^10 - x^11"]) rfl rfl rfl (by decide) rfl) e
 obtain⟨l,h1,h2,e⟩:=key;exact⟨l,h1,h2,aP rfl e⟩
theorem gl{c:Int}{ds es:LP}{fa:List Sl->M (List Rz)}{g:List Sl->Option Fl}{r:Option Fl}(h1:ag dR fa [.dat (.int c),.own ds]=aj (.new es))(hl:ds.length+es.length<=1000)(hg:g [.dat (.int c),.own (ds++es)]=r):ar (aA 1 (f2 iS (ac 1) (ag dR fa))) g [.dat (.int c),.own ds]=r:=by
 have sl:(sizeLine:Nat)=16777216:=rfl;refine az (x:= .new (ds++es)) (ah rfl h1 ?_) rfl (by walk_at "ss") hg;unfold iS pT;dsimp only;rw[aD (by omega)]
theorem ik{ds es:LP}(h1:ds.all l7=true)(h2:es.all l7=true):(ds++es).all l7=true:=by rw[List.all_append,h1,h2];rfl
def pI:LP:=[.str "",.str " ",.str "-",.str "+",.str "0",.str "-0",.str "00",.str "01",.str "1",.str "-1",.str "+1",.str "1/1",.str "1/0",.str "0/1",.str "0/2",.str "2/4",.str "-2/4"]
theorem Iu:pI.all l7=true:=by decide +kernel
def qB : LP := [.str "1/2", .str "3/2", .str "-1/2", .str "1/-2", .str "1 /2", .str "1/ 2", .str "1//2", .str "1/2/3", .str "1.5", .str "1e3", .str "0x1", .str "1_0", .str "x"]
theorem Iv:qB.all l7=true:=by decide +kernel
def sS:LP:=[.str "-x",.str "+x",.str "- x",.str "X",.str "y",.str "1 x",.str "0 x",.str "-1 x",.str "2x",.str "2 x",.str "2  x",.str "2 x ",.str " 2 x",.str "x^0"]
theorem Iw:sS.all l7=true:=by decide +kernel
def uN:LP:=[.str "x^1",.str "x^2",.str "x^02",.str "x^12",.str "x^13",.str "x ^2",.str "x^ 2",.str "x^-2",.str "x^2/3",.str "x2",.str "x^",.str "x^x",.str "x + x"]
theorem Ix:uN.all l7=true:=by decide +kernel
def xn:LP:=[.str "x + 1",.str "1 + x",.str "1 - x",.str "1 -x",.str "1 +x",.str "1+ x",.str "1+x",.str "1 + -x",.str "1 - -x",.str "1 + + x"]
theorem Iy:xn.all l7=true:=by decide +kernel
def yV:LP:=[.str "1 + x +",.str "+ x",.str "1 + ",.str "1 + 0 x",.str "0 + x",.str "-0 + x",.str "1 + x + x^2",.str "1 + x^2 + x",.str "x^2 + x^2"]
theorem Iz:yV.all l7=true:=by decide +kernel
def B2:LP:=[.str "1 + 2",.str "1/2 + 1/2 x",.str "2/2 x",.str "1/3 x^3",.str "-1/3 x^3",.str "1 x^2",.str "999999999999",.str "1000000000000"]
theorem IA:B2.all l7=true:=by decide +kernel
def Ec:LP:=[.str "999999999999 x",.str "1000000000000 x",.str "1/999999999999",.str "x*x",.str "2 * x",.str "2 x 3",.str "x 2",.str "1\n"]
theorem IB:Ec.all l7=true:=by decide +kernel
def IC:LP:=[.str "1 + x\n",.str "\t1",.str "--1",.str "--x",.str "1 - 1/2 x - x^12",.str "x^2 - x^3"]
theorem ID:IC.all l7=true:=by decide +kernel
theorem IE(c:Int): ∃l:List Nat,(∀c∈l,c<128)/\l.length<=20/\fO [.int c]=aj (.val (.str (ae l))):=by
 obtain⟨l,h1,h2,e⟩:=xm c ((((((((pI++qB)++sS)++uN)++xn)++yV)++B2)++Ec)++IC) (by decide) (ik (ik (ik (ik (ik (ik (ik (ik Iu Iv) Iw) Ix) Iy) Iz) IA) IB) ID);refine⟨l,h1,h2,aP rfl ?_⟩;show j3 [.dat (.int c),.no]=_;unfold j3;refine az (x:= .new pI) (ai rfl rfl) rfl (by walk_at "ss") ?_;refine gl (ds:=pI) (es:=qB) (ai rfl rfl) (by decide) ?_;refine gl (ds:=(pI++qB)) (es:=sS) (ai rfl rfl) (by decide) ?_
 refine gl (ds:=((pI++qB)++sS)) (es:=uN) (ai rfl rfl) (by decide) ?_;refine gl (ds:=(((pI++qB)++sS)++uN)) (es:=xn) (ai rfl rfl) (by decide) ?_;refine gl (ds:=((((pI++qB)++sS)++uN)++xn)) (es:=yV) (ai rfl rfl) (by decide) ?_;refine gl (ds:=(((((pI++qB)++sS)++uN)++xn)++yV)) (es:=B2) (ai rfl rfl) (by decide) ?_;refine gl (ds:=((((((pI++qB)++sS)++uN)++xn)++yV)++B2)) (es:=Ec) (ai rfl rfl) (by decide) ?_
 refine gl (ds:=(((((((pI++qB)++sS)++uN)++xn)++yV)++B2)++Ec)) (es:=IC) (ai rfl rfl) (by decide) ?_;exact e
def wz(ws:List (List Nat)):Nat:=(ws.map List.length).sum+ws.length
theorem qp: ∀(ws:List (List Nat)),(br ws).length<=wz ws/\(ws≠[]->(br ws).length+1=wz ws)
 | []=>⟨cr _,λh=>absurd rfl h⟩
 | [w]=>by unfold wz;simp[br]
 |w::v::r=>by
  obtain⟨_,h2⟩:=qp (v::r);have h2:=h2 (by simp);have e:(br (w::v::r)).length=w.length+(1+(br (v::r)).length):=by
   show(w++32::br (v::r)).length=_;rw[bQ,c5];omega
  have e2:wz (w::v::r)=w.length+1+wz (v::r):=by unfold wz;simp only[gj,List.sum_cons,c5];omega
  exact⟨by omega,λ_=>by omega⟩
theorem l8(u v:List (List Nat)):wz (u++v)=wz u+wz v:=by unfold wz;rw[mj,List.sum_append,bQ];omega
theorem rg: ∀(ws:List (List Nat)),(∀w∈ws,∀c∈w,c<128)->∀c∈br ws,c<128
 | [],_,c,hc=>nomatch hc
 | [w],h,c,hc=>h w (dP ..) c hc
 |w::v::r,h,c,hc=>by
  rcases eV.mp (show c∈w++32::br (v::r) from hc) with hc |hc
  ·exact h w (dP ..) c hc
  ·rcases fq.mp hc with rfl |hc
   ·decide
   ·exact rg (v::r) (λu hu=>h u (eU _ hu)) c hc
theorem B3(ws:List (List Nat))(h:wz ws<=1000):qc " " (.new (ws.map λw=>PyData.str (ae w)))=aj (.dat (.str (ae (br ws)))):=by
 unfold qc Rz.d?;dsimp only;have e:(ws.map λw=>PyData.str (ae w))=(ws.map ae).map PyData.str:=by rw[oz];rfl
 rw[e,wN];dsimp only;have e1:((ws.map ae).map λy:Str=>y.length).sum=(ws.map List.length).sum:=by
  rw[oz];exact congrArg List.sum (List.map_congr_left λw _=>aC w)
 have e2:(" " :Str).length=1:=by decide +kernel
 unfold wz at h;rw[aD (by rw[e1,e2,cZ];omega)]
 unfold Txt.join;rw[PySem.StrLaws.glued_eq_join,mt,oz];have:(dB∘ae)=id:=funext cH;rw[this,List.map_id]
theorem IF(ds:LP)(k:Nat)(h:k<=ds.length):gw ds none (some (k:Int))=ds.take k:=by
 unfold gw HT.gU;dsimp only;rw[aK (by omega),rO,Dw];congr 1;omega
theorem xo(ds:LP)(k:Nat)(h:k<=ds.length):gw ds (some (k:Int)) none=ds.drop k:=by
 unfold gw HT.gU;dsimp only;rw[aK (by omega)];have e:min (k:Int).toNat ds.length=k:=by omega
 rw[e];exact um (by rw[ke];exact cr _)
theorem JN(s:List Nat)(c:Int)(h:0<s.length)(h2:s.length<=100): ∃m∈s,kE (.dat (.str (ae s))) (.dat (.int (c% (s.length:Int))))=aj (.dat (.str (ae [m]))):=by
 have sl:(sizeLine:Nat)=16777216:=rfl;obtain⟨j,hj,e⟩:=nq c s.length h;refine⟨s[j],ya hj,?_⟩;unfold kE Rz.d?;dsimp only;rw[aD (by rw[aC];omega),e];have e2:(ae s).cps.toList=s:=cH s;rw[e2,L2.tf (gk hj)];rfl
theorem KH:("0123456789x^/+- " :Str)=ae [48,49,50,51,52,53,54,55,56,57,120,94,47,43,45,32]:=by decide +kernel
theorem KI:("abXyz.,*()=_~!?\n\t'e" :Str)=ae [97,98,88,121,122,46,44,42,40,41,61,95,126,33,63,10,9,39,101]:=by decide +kernel
theorem qq{c:Int}{n:Nat}(hn:0<n)(h:n<10000):gI di (.dat (.int c)) (.dat (.int (n:Int)))=aj (.dat (.int (c/ (n:Int)))):=Bm (by omega) (by omega)
theorem B4{a b:List Nat}(h:a.length+b.length<=1000):eB (.dat (.str (ae a))) (.dat (.str (ae b)))=aj (.dat (.str (ae (a++b)))):=by
 rw[iI (by rw[aC,aC];omega),d6]
theorem B5(l:List Nat)(h: ∀c∈l,c<128)(hl:l.length<=100)(c:Int): ∃l':List Nat,(∀c∈l',c<128)/\l'.length<=l.length+4/\dE [.str (ae l),.int c]=aj (.val (.str (ae l'))):=by
 have sl:(sizeLine:Nat)=16777216:=rfl;have A:As l:=⟨h,by omega⟩
 have key: ∃l':List Nat,(∀c∈l',c<128)/\l'.length<=l.length+4/\j5 [.dat (.str (ae l)),.dat (.int c),.no,.no,.no,.no,.no]=some (.ret (.val (.str (ae l')))):=by
  obtain⟨s,s1,s2,s3,st⟩ : ∃s:List Nat,0<s.length/\s.length<=100/\(∀c∈s,c<128)/\∀{g:List Sl->Option Fl} {r:Option Fl},g [.dat (.str (ae l)),.dat (.int c),.dat (.str (ae s)),.no,.no,.no,.no]=r->
    ar (aA 2 (fC (.str "0123456789x^/+- "))) (ar (aU (fB (f2 (aQ false) (f2 (gI bO) (f2 (gI di) (ac 1) (fC (.int 5))) (fC (.int 3))) (fC (.int 0)))) (aA 2 (fC (.str "abXyz.,*()=_~!?\n\t'e"))) aR) g) [.dat (.str (ae l)),.dat (.int c),.no,.no,.no,.no,.no]=r:=by
   have tt:fB (f2 (aQ false) (f2 (gI bO) (f2 (gI di) (ac 1) (fC (.int 5))) (fC (.int 3))) (fC (.int 0))) [.dat (.str (ae l)),.dat (.int c),.dat (.str "0123456789x^/+- "),.no,.no,.no,.no]=aj (decide (c/5%3=0)):=ax (ah (ah (ah rfl rfl (qq (n:=5) (by decide) (by decide))) rfl (fF (by decide))) rfl (bW _ _)) rfl
   by_cases z:c/5%3=0
   ·refine⟨[97,98,88,121,122,46,44,42,40,41,61,95,126,33,63,10,9,39,101],by decide,by decide,by decide,λhg=>?_⟩
    refine az rfl rfl (by walk_at "ss") (aB (tt.trans (by rw[bR z])) (az rfl rfl (by walk_at "ss") ?_));rw[KI];exact hg
   ·refine⟨[48,49,50,51,52,53,54,55,56,57,120,94,47,43,45,32],by decide,by decide,by decide,λhg=>?_⟩
    refine az rfl rfl (by walk_at "ss") (av (tt.trans (by rw[a9 z])) (au ?_));rw[KH];exact hg
  obtain⟨m,hm,em⟩:=JN s (c/15) s1 s2;obtain⟨a,ha,ea⟩:=nq (c/700) (l.length+1) (by omega);obtain⟨ws,hne,h32,hg,hsp⟩:=mL l;obtain⟨k,hk,ek⟩:=nq (c/700) ws.length (oR.mpr hne);have hwz:(br ws).length+1=wz ws:=(qp ws).2 hne;have hasc: ∀w∈ws,∀c∈w,c<128:=λw hw c hc=>(A.word hg hw).1 c hc
  have lenL':g1 fN [.dat (.str (ae l))]=aj (.dat (.int (l.length:Int))):=by rw[sK (by rw[aC];omega),aC]
  have lenS':g1 fN [.dat (.str (ae s))]=aj (.dat (.int (s.length:Int))):=by rw[sK (by rw[aC];omega),aC]
  obtain⟨W,hW⟩ : ∃W:LP,W=ws.map λw=>PyData.str (ae w):=⟨_,rfl⟩
  have Wl:W.length=ws.length:=by rw[hW,cZ]
  have st2: ∀{g:List Sl->Option Fl} {r:Option Fl},g [.dat (.str (ae l)),.dat (.int c),.dat (.str (ae s)),.dat (.str (ae [m])),.dat (.int (a:Int)),.own W,.dat (.int (k:Int))]=r->
    ar (aA 3 (f2 kE (ac 2) (f2 (gI bO) (f2 (gI di) (ac 1) (fC (.int 15))) (ag (g1 fN) (aa (ac 2) ak))))) (ar (aA 4 (f2 (gI bO) (f2 (gI di) (ac 1) (fC (.int 700))) (f2 (gI dQ) (ag (g1 fN) (aa (ac 0) ak)) (fC (.int 1))))) (ar (aA 5 (fU (c9 " ") (ac 0))) (ar (aA 6 (f2 (gI bO) (f2 (gI di) (ac 1) (fC (.int 700))) (ag (g1 cW) (aa (ac 5) ak)))) g))) [.dat (.str (ae l)),.dat (.int c),.dat (.str (ae s)),.no,.no,.no,.no]=r:=by
   intro g r hgo;refine az (x:= .dat (.str (ae [m]))) (ah rfl (ah (ah rfl rfl (qq (n:=15) (by decide) (by decide))) (ai rfl lenS') (fF (by omega))) em) rfl (by walk_at "ss") ?_;refine az (x:= .dat (.int (a:Int))) (ah (ah rfl rfl (qq (n:=700) (by decide) (by decide))) (ah (ai rfl lenL') rfl (z:= .dat (.int ((l.length+1:Nat):Int))) rfl) ((fF (by omega)).trans (by rw[<-ea];rfl))) rfl (by walk_at "ss") ?_
   refine az (x:= .new W) (cI rfl (by rw[hW];exact rd A hsp)) rfl (by walk_at "ss") ?_;refine az (x:= .dat (.int (k:Int))) (ah (ah rfl rfl (qq (n:=700) (by decide) (by decide))) (ai rfl (show _=aj (Rz.dat (.int (W.length:Int))) from rfl)) ((fF (by rw[Wl];have:=oR.mpr hne;omega)).trans (by rw[Wl,<-ek];rfl))) rfl (by walk_at "ss") hgo
  obtain⟨δ,hδ⟩ : ∃δ:List Sl,δ=[.dat (.str (ae l)),.dat (.int c),.dat (.str (ae s)),.dat (.str (ae [m])),.dat (.int (a:Int)),.own W,.dat (.int (k:Int))]:=⟨_,rfl⟩
  rw[<-hδ] at st2;have t5: ∀n:Int,fB (f2 (aQ false) (f2 (gI bO) (ac 1) (fC (.int 5))) (fC (.int n))) δ=aj (decide (c%5=n)):=λn=>by rw[hδ];exact ax (ah (ah rfl rfl (fF (by decide))) rfl (bW _ _)) rfl
  have hto:(cJ gO (ac 0) bL (bi (ac 4))) δ=aj (.dat (.str (ae (l.take a)))):=by rw[hδ];exact BV (by omega) a rfl
  have hfr:(cJ dz (ac 0) (bi (ac 4)) bL) δ=aj (.dat (.str (ae (l.drop a)))):=by rw[hδ];exact n6 (by omega) a rfl
  have hf1:(cJ dz (ac 0) (bi (f2 (gI dQ) (ac 4) (fC (.int 1)))) bL) δ=aj (.dat (.str (ae (l.drop (a+1))))):=by rw[hδ];exact n6 (by omega) (a+1) (by omega)
  have hmk:ac 3 δ=aj (.dat (.str (ae [m]))):=by rw[hδ];rfl
  have m128:m<128:=s3 m hm;have wto:(cJ gN (ac 5) bL (bi (ac 6))) δ=aj (.new ((ws.take k).map λw=>PyData.str (ae w))):=by
   rw[hδ];show aj (Rz.new (gw W none (some (k:Int))))=_;rw[IF W k (by omega),hW,List.map_take]
  have wfr:(cJ gN (ac 5) (bi (ac 6)) bL) δ=aj (.new ((ws.drop k).map λw=>PyData.str (ae w))):=by
   rw[hδ];show aj (Rz.new (gw W (some (k:Int)) none))=_;rw[xo W k (by omega),hW,List.map_drop]
  have wf1:(cJ gN (ac 5) (bi (f2 (gI dQ) (ac 6) (fC (.int 1)))) bL) δ=aj (.new ((ws.drop (k+1)).map λw=>PyData.str (ae w))):=by
   rw[hδ];show aj (Rz.new (gw W (some ((k+1:Nat):Int)) none))=_;rw[xo W (k+1) (by omega),hW,List.map_drop]
  have cat: ∀u v:List (List Nat),u.length+v.length<=1000->pZ (.new (u.map λw=>PyData.str (ae w))) (.new (v.map λw=>PyData.str (ae w)))=aj (.new ((u++v).map λw=>PyData.str (ae w))):=λu v huv=>by
   unfold pZ Rz.d?;dsimp only;rw[aD ⟨rfl,rfl,by rw[cZ,cZ];omega⟩,mj]
  have cat2: ∀u v:List (List Nat),u.length+v.length<=1000->iS (.new (u.map λw=>PyData.str (ae w))) (.new (v.map λw=>PyData.str (ae w)))=aj (.new ((u++v).map λw=>PyData.str (ae w))):=λu v huv=>by
   unfold iS pT;dsimp only;rw[aD (by rw[cZ,cZ];omega),mj]
  have wl:ws.length<=wz ws:=by unfold wz;omega
  have glen:(br ws).length=l.length:=by rw[hg]
  have w1:wz (ws.take k)+wz (ws.drop k)=wz ws:=by rw[<-l8,yd]
  have w2:wz (ws.drop (k+1))<=wz (ws.drop k):=by
   rw[vy hk];unfold wz;simp only[gj,List.sum_cons,c5];omega
  have ltk:(ws.take k).length<=ws.length:=by rw[iX];omega
  have ldk:(ws.drop k).length<=ws.length:=by rw[ke];omega
  have ldk1:(ws.drop (k+1)).length<=ws.length:=by rw[ke];omega
  have asT: ∀w∈ws.take k,∀c∈w,c<128:=λw hw=>hasc w (yc hw)
  have asD: ∀j,∀w∈ws.drop j,∀c∈w,c<128:=λj w hw=>hasc w (Al hw)
  unfold j5
  by_cases c0:c%5=0
  ·refine⟨l.take a++l.drop (a+1),λx hx=>(eV.mp hx).elim (λz=>h x (yc z)) (λz=>h x (Al z)),by rw[bQ,iX,ke];omega,?_⟩
   refine st (st2 (aB ((t5 0).trans (by rw[bR c0])) (aN (ah hto hf1 (B4 (by rw[iX,ke];omega))) rfl)))
  have f0:=(t5 0).trans (by rw[a9 c0])
  by_cases c1:c%5=1
  ·refine⟨l.take a++[m]++l.drop a,λx hx=>?_,by rw[bQ,bQ,iX,ke,kJ];omega,?_⟩
   ·rcases eV.mp hx with hx |hx
    ·rcases eV.mp hx with hx |hx
     ·exact h x (yc hx)
     ·rw[gS] at hx;rw[hx];exact m128
    ·exact h x (Al hx)
   ·refine st (st2 (av f0 (au (aB ((t5 1).trans (by rw[bR c1])) (aN (ah (ah hto hmk (B4 (by rw[iX,kJ];omega))) hfr (B4 (by rw[bQ,iX,ke,kJ];omega))) rfl)))))
  have f1:=(t5 1).trans (by rw[a9 c1])
  by_cases c2:c%5=2
  ·refine⟨l.take a++[m]++l.drop (a+1),λx hx=>?_,by rw[bQ,bQ,iX,ke,kJ];omega,?_⟩
   ·rcases eV.mp hx with hx |hx
    ·rcases eV.mp hx with hx |hx
     ·exact h x (yc hx)
     ·rw[gS] at hx;rw[hx];exact m128
    ·exact h x (Al hx)
   ·refine st (st2 (av f0 (au (av f1 (au (aB ((t5 2).trans (by rw[bR c2])) (aN (ah (ah hto hmk (B4 (by rw[iX,kJ];omega))) hf1 (B4 (by rw[bQ,iX,ke,kJ];omega))) rfl)))))))
  have f2':=(t5 2).trans (by rw[a9 c2])
  by_cases c3:c%5=3
  ·refine⟨br (ws.take k++ws.drop (k+1)),rg _ (λw hw=>(eV.mp hw).elim (asT w) (asD _ w)),?_,?_⟩
   ·have:=(qp (ws.take k++ws.drop (k+1))).1
    rw[l8] at this;omega
   ·refine st (st2 (av f0 (au (av f1 (au (av f2' (au (aB ((t5 3).trans (by rw[bR c3])) (aN (cI (ah wto wf1 (cat _ _ (by omega))) (B3 _ (by rw[l8];omega))) rfl)))))))))
  have f3:=(t5 3).trans (by rw[a9 c3]);obtain⟨v,v1,v2,ev⟩ : ∃v:List Nat,(∀c∈v,c<128)/\v.length<=3/\(ag dR (aa (f2 aJ (ag dR (aa (fC (.str "x")) (aa (fC (.str "+")) (aa (fC (.str "-")) (aa (fC (.str "2")) (aa (fC (.str "x^2")) (aa (fC (.str "1/2")) (aa (fC (.str "")) (aa (fC (.str "0")) ak))))))))) (f2 (gI bO) (f2 (gI di) (ac 1) (fC (.int 15))) (fC (.int 8)))) ak)) δ=aj (.new ([v].map λw=>PyData.str (ae w))):=by
   obtain⟨j,hj,ej⟩:=nq (c/15) 8 (by decide);have tab: ∀d∈([.str "x",.str "+",.str "-",.str "2",.str "x^2",.str "1/2",.str "",.str "0"]:LP),∃v:List Nat,(∀c∈v,c<128)/\v.length<=3/\d= .str (ae v):=by
    intro d hd;simp only[fq,F7,or_false] at hd
    rcases hd with rfl |rfl |rfl |rfl |rfl |rfl |rfl |rfl
    ·exact⟨[120],by decide,by decide,rfl⟩
    ·exact⟨[43],by decide,by decide,rfl⟩
    ·exact⟨[45],by decide,by decide,rfl⟩
    ·exact⟨[50],by decide,by decide,rfl⟩
    ·exact⟨[120,94,50],by decide,by decide,rfl⟩
    ·exact⟨[49,47,50],by decide,by decide,rfl⟩
    ·exact⟨[],by decide,by decide,rfl⟩
    ·exact⟨[48],by decide,by decide,rfl⟩
   have hj':j< ([.str "x",.str "+",.str "-",.str "2",.str "x^2",.str "1/2",.str "",.str "0"]:LP).length:=hj;obtain⟨v,v1,v2,ed⟩:=tab _ (ya hj');refine⟨v,v1,v2,?_⟩;rw[hδ];refine ai (al (x:= .dat (.str (ae v))) (ah (x:= .new [.str "x",.str "+",.str "-",.str "2",.str "x^2",.str "1/2",.str "",.str "0"]) (ai rfl rfl) (ah (ah rfl rfl (qq (n:=15) (by decide) (by decide))) rfl (fF (by decide))) (sB (j:=j) ej (by rw[gk hj',ed]))) rfl) rfl
  have wv:wz [v]<=4:=by unfold wz;simp;omega
  refine⟨br (ws.take k++[v]++ws.drop k),rg _ (λw hw=>?_),?_,?_⟩
  ·rcases eV.mp hw with hw |hw
   ·rcases eV.mp hw with hw |hw
    ·exact asT w hw
    ·rw[gS] at hw;rw[hw];exact v1
   ·exact asD _ w hw
  ·have:=(qp (ws.take k++[v]++ws.drop k)).2 (by simp)
   rw[l8,l8] at this;omega
  ·refine st (st2 (av f0 (au (av f1 (au (av f2' (au (av f3 (au (bA (cI (ah (ah wto ev (cat _ _ (by simp;omega))) wfr (cat2 _ _ (by simp;omega))) (B3 _ (by rw[l8,l8];omega))) rfl))))))))))
 obtain⟨l',h1,h2,e⟩:=key;exact⟨l',h1,h2,aP rfl e⟩
theorem FC:dI .NoText=aj (.val (.bool true)):=by
 unfold dI DZ;have:ig (Sl.exc .NoText::List.replicate 0 Sl.no)=some (.ret (.val (.bool true))):=by
  show ig [.exc .NoText]=_;unfold ig;exact av (ax (cI rfl rfl) rfl) (au (bA (sA (cX (ax (cI rfl rfl) rfl) (ax (cI rfl rfl) rfl))) rfl))
 rw[this];rfl
noncomputable def Ed(cv:Bool):LP->M bN:=if cv=true then ce else bY
theorem k6(KK:PyData)(cv:Bool)(h:Ed cv [KK]=some (.err .NoText)):bo [KK,.none,.bool cv]=aj (.val (.bool true)):=by
 refine aP rfl ?_;show gb [.dat KK,.dat .none,.dat (.bool cv),.no,.no,.no]=_;unfold gb;refine az rfl rfl (by walk_at "ss") (az rfl rfl (by walk_at "ss") ?_);have body:(gz (sy (fB (ac 2)) (gz (ia (gF 1 ce) (aa (ac 0) ak) (jk 3)) fT) (gz (ia (gF 1 bY) (aa (ac 0) ak) (jk 3)) fT)) fT) [.dat KK,.dat .none,.dat (.bool cv),.dat .none,.dat (.bool false),.no]=some (.exc .NoText [.dat KK,.dat .none,.dat (.bool cv),.dat .none,.dat (.bool false),.no]):=by
  have call: ∀F:LP->M bN,F [KK]=some (.err .NoText)->ia (gF 1 F) (aa (ac 0) ak) (jk 3) [.dat KK,.dat .none,.dat (.bool cv),.dat .none,.dat (.bool false),.no]=some (.exc .NoText [.dat KK,.dat .none,.dat (.bool cv),.dat .none,.dat (.bool false),.no]):=λF hF=>by
   unfold ia;rw[show(aa (ac 0) ak) [.dat KK,.dat .none,.dat (.bool cv),.dat .none,.dat (.bool false),.no]=aj [.dat KK] from rfl];unfold aj;dsimp only;rw[e9 (n:=1) (F:=F) (zs:=[.dat KK]) (ds:=[KK]) rfl rfl hF]
  unfold gz sy;cases cv with
  |true=>
   have e:=call ce h;rw[show fB (ac 2) [.dat KK,.dat .none,.dat (.bool true),.dat .none,.dat (.bool false),.no]=aj true from rfl];unfold aj;dsimp only;rw[aD rfl,e]
  |false=>
   have e:=call bY h;rw[show fB (ac 2) [.dat KK,.dat .none,.dat (.bool false),.dat .none,.dat (.bool false),.no]=aj false from rfl];unfold aj;dsimp only;rw[aK (by simp),e]
 have tr:nM (λn=>decide (n∈([Ex.NoNumber,Ex.NoText,Ex.TooGreat]:List Ex))) (gz (sy (fB (ac 2)) (gz (ia (gF 1 ce) (aa (ac 0) ak) (jk 3)) fT) (gz (ia (gF 1 bY) (aa (ac 0) ak) (jk 3)) fT)) fT) 5 (aA 4 (ag (sC dI) (aa (ac 5) ak))) [.dat KK,.dat .none,.dat (.bool cv),.dat .none,.dat (.bool false),.no]=some (.next [.dat KK,.dat .none,.dat (.bool cv),.dat .none,.dat (.bool true),.no]):=by
  unfold nM;rw[body];dsimp only;rw[aD (by decide)];have:aA 4 (ag (sC dI) (aa (ac 5) ak)) [.dat KK,.dat .none,.dat (.bool cv),.dat .none,.dat (.bool false),.exc .NoText]=some (.next [.dat KK,.dat .none,.dat (.bool cv),.dat .none,.dat (.bool true),.exc .NoText]):=by
   refine o9 (x:= .dat (.bool true)) (ai (zs:=[.exc .NoText]) rfl ?_) rfl rfl;unfold sC;dsimp only;rw[FC];rfl
  show vY 5 (aA 4 (ag (sC dI) (aa (ac 5) ak)) [.dat KK,.dat .none,.dat (.bool cv),.dat .none,.dat (.bool false),.exc .NoText])=_;rw[this];rfl
 refine cV tr ?_;exact aB (ax (ah rfl rfl rfl) rfl) (aN (sA (cX (ax (ah rfl rfl rfl) rfl) (ax rfl rfl))) rfl)
theorem my(KK:PyData)(ds:LP)(cv:Bool)(h:Ed cv [KK]=aj (.val (.tuple ds)))(hn:hI (.tuple ds)=true)(hok:fu (.tuple ds)=true)(he:PyData.eqv (.tuple ds) (.tuple ds)=true):bo [KK,.tuple ds,.bool cv]=aj (.val (.bool true)):=by
 refine aP rfl ?_;show gb [.dat KK,.dat (.tuple ds),.dat (.bool cv),.no,.no,.no]=_;unfold gb;refine az rfl rfl (by walk_at "ss") (az rfl rfl (by walk_at "ss") ?_);have body:(gz (sy (fB (ac 2)) (gz (ia (gF 1 ce) (aa (ac 0) ak) (jk 3)) fT) (gz (ia (gF 1 bY) (aa (ac 0) ak) (jk 3)) fT)) fT) [.dat KK,.dat (.tuple ds),.dat (.bool cv),.dat .none,.dat (.bool false),.no]=some (.next [.dat KK,.dat (.tuple ds),.dat (.bool cv),.dat (.tuple ds),.dat (.bool false),.no]):=by
  have call: ∀F:LP->M bN,F [KK]=aj (.val (.tuple ds))->ia (gF 1 F) (aa (ac 0) ak) (jk 3) [.dat KK,.dat (.tuple ds),.dat (.bool cv),.dat .none,.dat (.bool false),.no]=some (.next [.dat KK,.dat (.tuple ds),.dat (.bool cv),.dat (.tuple ds),.dat (.bool false),.no]):=λF hF=>by
   unfold ia;rw[show(aa (ac 0) ak) [.dat KK,.dat (.tuple ds),.dat (.bool cv),.dat .none,.dat (.bool false),.no]=aj [.dat KK] from rfl];unfold aj;dsimp only;rw[aG (n:=1) (F:=F) (zs:=[.dat KK]) (ds:=[KK]) (z:= .dat (.tuple ds)) rfl rfl hF (by unfold fv;dsimp only;rw[aD hn])];rfl
  unfold gz sy;cases cv with
  |true=>
   have e:=call ce h;rw[show fB (ac 2) [.dat KK,.dat (.tuple ds),.dat (.bool true),.dat .none,.dat (.bool false),.no]=aj true from rfl];unfold aj;dsimp only;rw[aD rfl,e];rfl
  |false=>
   have e:=call bY h;rw[show fB (ac 2) [.dat KK,.dat (.tuple ds),.dat (.bool false),.dat .none,.dat (.bool false),.no]=aj false from rfl];unfold aj;dsimp only;rw[aK (by simp),e];rfl
 have tr:nM (λn=>decide (n∈([Ex.NoNumber,Ex.NoText,Ex.TooGreat]:List Ex))) (gz (sy (fB (ac 2)) (gz (ia (gF 1 ce) (aa (ac 0) ak) (jk 3)) fT) (gz (ia (gF 1 bY) (aa (ac 0) ak) (jk 3)) fT)) fT) 5 (aA 4 (ag (sC dI) (aa (ac 5) ak))) [.dat KK,.dat (.tuple ds),.dat (.bool cv),.dat .none,.dat (.bool false),.no]=some (.next [.dat KK,.dat (.tuple ds),.dat (.bool cv),.dat (.tuple ds),.dat (.bool false),.no]):=by
  unfold nM;rw[body]
 refine cV tr ?_;refine av (ax (ah rfl rfl rfl) rfl) (au ?_);exact bA (sA (cX (ax (cI rfl rfl) rfl) (ax (ah rfl rfl (wK (b:=true) rfl rfl hok hok he)) rfl))) rfl
theorem xp(l:List Nat)(h:As l): ∃d,hI d=true/\dn [.str (ae l)]=aj (.val d)/\bo [.str (ae l),d,.bool false]=aj (.val (.bool true)):=by
 rcases Dc l h with⟨q,bq,e,f⟩ | ⟨no,f⟩
 ·refine⟨nD q,pP q,f,?_⟩
  have:=pG q bq;rw[<-e] at this
  exact my _ _ false this rfl (iU _ _) (by simp[PyData.eqv,PyData.eqvAll])
 ·refine⟨.none,rfl,f,k6 _ false ?_⟩
  rcases xf l h with g | ⟨q,bq,e,g⟩
  ·exact g
  ·exact absurd e (no q bq)
theorem xU(l:List Nat)(h:As l)(h90:l.length<=90): ∃d,hI d=true/\dL [.str (ae l)]=aj (.val d)/\bo [.str (ae l),d,.bool true]=aj (.val (.bool true)):=by
 rcases Fz l h h90 with⟨c,g,e,f⟩ | ⟨no,f⟩
 ·refine⟨cD c,wG c,f,?_⟩
  have:=pB c g.1 g.2.1 g.2.2;rw[<-e] at this
  exact my _ _ true this (wG c) (Bv c) (show PyData.eqv (cD c) (cD c)=true from by rw[Bw,bR rfl])
 ·refine⟨.none,rfl,f,k6 _ true ?_⟩
  rcases xT l h with z | ⟨c,g,e,z⟩
  ·exact z
  ·exact absurd e (no c g)
theorem FD(d:PyData)(h:(fB (fU (mC (lE [(.non,false),(.bl,false),(.int,false),(.lst,false),(.tup,false),(.str,true),(.dct,false)])) (ac 0))) [.dat d]=aj false): ∀cv,Ed cv [d]=some (.err .NoText):=by
 have ct:eo [d]=some (.err .NoText):=by
  refine cS rfl ?_;show f' [.dat d]=_;unfold f';exact zo (lh h) rfl
 intro cv;cases cv with
 |true=>
  show ce [d]=_;refine cS rfl ?_;show cK [.dat d,.no,.no,.no,.no]=_;unfold cK;exact d5 (n4 (c6 rfl (e9 rfl rfl ct)))
 |false=>
  show bY [d]=_;refine cS rfl ?_;show cx [.dat d,.no,.no]=_;unfold cx;exact d5 (n4 (c6 rfl (e9 rfl rfl ct)))
def yW:LP:=[.none,.int 7,.bool true,.list [.str "x"],.tuple [.str "x"],.tuple [.int 1,.int 2],.dict [],.list [],.bool false,.tuple [.tuple [.int 1,.int 1]]]
theorem B6: ∀d∈yW,∀cv,Ed cv [d]=some (.err .NoText):=by
 intro d hd;unfold yW at hd
 simp only[fq,F7,or_false] at hd
 rcases hd with rfl |rfl |rfl |rfl |rfl |rfl |rfl |rfl |rfl |rfl<;>exact FD _ (ax (cI rfl rfl) rfl)
theorem Ee(ns:LI)(k:Nat)(h:k<=100)(δ:List Sl)(f:List Sl->M Rz)(h0:ac 0 δ=aj (.dat (iz ns)))(hf:f δ=aj (.dat (.int (k:Int)))):(ag (gF 2 bH) (aa (ac 0) (aa f ak))) δ=aj (.dat (.int (nT ns (k:Int)))):=
 ai (al h0 (al hf rfl)) (aG rfl rfl (Jz ns (k:Int) (by omega) (by omega)) rfl)
theorem l9(ns:LI)(k:Nat)(hk:k<=3)(r2 r3 r4:Sl): ∃s3 s4:Sl,(ar (aA 3 (ag (gF 2 bH) (aa (ac 0) (aa (f2 (gI dQ) (f2 (gI dY) (fC (.int 10)) (ac 1)) (fC (.int 1))) ak))))
  (ar (aA 4 (ag (gF 1 fO) (aa (ac 3) ak)))
  (ar (aU (fB (f2 (aQ false) (f2 (gI bO) (ac 1) (fC (.int 2))) (fC (.int 1)))) (ar (aA 4 (ag (gF 2 dE) (aa (ag (gF 1 fP) (aa (ac 3) ak)) (aa (ag (gF 2 bH) (aa (ac 0) (aa (f2 (gI dQ) (f2 (gI dY) (fC (.int 10)) (ac 1)) (fC (.int 2))) ak))) ak))))
  (aU (fB (f2 (aQ false) (f2 (gI bO) (f2 (gI di) (ac 3) (fC (.int 20))) (fC (.int 3))) (fC (.int 0)))) (aA 4 (ag (gF 2 dE) (aa (ac 4) (aa (ag (gF 2 bH) (aa (ac 0) (aa (f2 (gI dQ) (f2 (gI dY) (fC (.int 10)) (ac 1)) (fC (.int 3))) ak))) ak)))) aR)) aR)
  (aU (fE (fZ (fB (ag (gF 3 bo) (aa (ac 4) (aa (ag (gF 1 dn) (aa (ac 4) ak)) (aa (fC (.bool false)) ak)))))) (fZ (fB (ag (gF 3 bo) (aa (ac 4) (aa (ag (gF 1 dL) (aa (ac 4) ak)) (aa (fC (.bool true)) ak))))))) (aT (fC (.bool false))) aR)))) [.dat (iz ns),.dat (.int (k:Int)),r2,r3,r4]=some (.next [.dat (iz ns),.dat (.int (k:Int)),r2,s3,s4]):=by
 obtain⟨c,hc⟩ : ∃c,c=nT ns ((10*k+1:Nat):Int):=⟨_,rfl⟩
 have mx: ∀(j:Nat) (δ:List Sl),j<=10->ac 0 δ=aj (.dat (iz ns))->ac 1 δ=aj (.dat (.int (k:Int)))->(ag (gF 2 bH) (aa (ac 0) (aa (f2 (gI dQ) (f2 (gI dY) (fC (.int 10)) (ac 1)) (fC (.int (j:Int)))) ak))) δ=aj (.dat (.int (nT ns ((10*k+j:Nat):Int)))):=λj δ hj h0 h1=>by
  refine Ee ns (10*k+j) (by omega) δ _ h0 (ah (ah rfl h1 (kU (vm (by decide) (by decide)))) rfl ?_);show aj (Rz.dat (PyData.int (10*(k:Int)+(j:Int))))=_;rw[show(10*(k:Int)+(j:Int))=((10*k+j:Nat):Int) by omega]
 have fin: ∀(l:List Nat),(∀c∈l,c<128)->l.length<=90->∀s3,(aU (fE (fZ (fB (ag (gF 3 bo) (aa (ac 4) (aa (ag (gF 1 dn) (aa (ac 4) ak)) (aa (fC (.bool false)) ak)))))) (fZ (fB (ag (gF 3 bo) (aa (ac 4) (aa (ag (gF 1 dL) (aa (ac 4) ak)) (aa (fC (.bool true)) ak))))))) (aT (fC (.bool false))) aR) [.dat (iz ns),.dat (.int (k:Int)),r2,s3,.dat (.str (ae l))]=some (.next [.dat (iz ns),.dat (.int (k:Int)),r2,s3,.dat (.str (ae l))]):=by
  intro l hl h90 s3;have A:As l:=⟨hl,by omega⟩
  obtain⟨d1,n1,f1,g1⟩:=xp l A;obtain⟨d2,n2,f2,g2⟩:=xU l A h90;refine vk (bu (eD (ax (x:= .dat (.bool true)) (ai (al rfl (al (x:= .dat d1) (ai rfl (aG rfl rfl f1 (by unfold fv;dsimp only;rw[aD n1]))) (al rfl rfl))) (aG rfl rfl g1 rfl)) rfl)) (eD (ax (x:= .dat (.bool true)) (ai (al rfl (al (x:= .dat d2) (ai rfl (aG rfl rfl f2 (by unfold fv;dsimp only;rw[aD n2]))) (al rfl rfl))) (aG rfl rfl g2 rfl)) rfl))) rfl
 obtain⟨l0,a0,b0,e0⟩:=IE c;have go: ∀{g:List Sl->Option Fl} {r:Option Fl},g [.dat (iz ns),.dat (.int (k:Int)),r2,.dat (.int c),.dat (.str (ae l0))]=r->ar (aA 3 (ag (gF 2 bH) (aa (ac 0) (aa (f2 (gI dQ) (f2 (gI dY) (fC (.int 10)) (ac 1)) (fC (.int 1))) ak)))) (ar (aA 4 (ag (gF 1 fO) (aa (ac 3) ak))) g) [.dat (iz ns),.dat (.int (k:Int)),r2,r3,r4]=r:=λhg=>by
  refine az (x:= .dat (.int c)) (by rw[hc];exact mx 1 _ (by decide) rfl rfl) rfl (by walk_at "ss") ?_;exact az (x:= .dat (.str (ae l0))) (ai rfl (aG rfl rfl e0 rfl)) rfl (by walk_at "ss") hg
 have tk:fB (f2 (aQ false) (f2 (gI bO) (ac 1) (fC (.int 2))) (fC (.int 1))) [.dat (iz ns),.dat (.int (k:Int)),r2,.dat (.int c),.dat (.str (ae l0))]=aj (decide ((k:Int)%2=1)):=ax (ah (ah rfl rfl (fF (by decide))) rfl (bW _ _)) rfl
 by_cases ck:(k:Int)%2=1
 ·obtain⟨l1,a1,b1,e1⟩:=Ir c
  obtain⟨l2,a2,b2,e2⟩:=B5 l1 a1 (by omega) (nT ns ((10*k+2:Nat):Int));obtain⟨l3,a3,b3,e3⟩:=B5 l2 a2 (by omega) (nT ns ((10*k+3:Nat):Int));have tc:fB (f2 (aQ false) (f2 (gI bO) (f2 (gI di) (ac 3) (fC (.int 20))) (fC (.int 3))) (fC (.int 0))) [.dat (iz ns),.dat (.int (k:Int)),r2,.dat (.int c),.dat (.str (ae l2))]=aj (decide (c/20%3=0)):=ax (ah (ah (ah rfl rfl (qq (n:=20) (by decide) (by decide))) rfl (fF (by decide))) rfl (bW _ _)) rfl
  have st: ∀{g:List Sl->Option Fl} {r:Option Fl},g [.dat (iz ns),.dat (.int (k:Int)),r2,.dat (.int c),.dat (.str (ae l2))]=r->ar (aA 4 (ag (gF 2 dE) (aa (ag (gF 1 fP) (aa (ac 3) ak)) (aa (ag (gF 2 bH) (aa (ac 0) (aa (f2 (gI dQ) (f2 (gI dY) (fC (.int 10)) (ac 1)) (fC (.int 2))) ak))) ak)))) g [.dat (iz ns),.dat (.int (k:Int)),r2,.dat (.int c),.dat (.str (ae l0))]=r:=λhg=>
   az (x:= .dat (.str (ae l2))) (ai (al (x:= .dat (.str (ae l1))) (ai rfl (aG rfl rfl e1 rfl)) (al (mx 2 _ (by decide) rfl rfl) rfl)) (aG rfl rfl e2 rfl)) rfl (by walk_at "ss") hg
  by_cases cc:c/20%3=0
  ·refine⟨.dat (.int c),.dat (.str (ae l3)),go (aB (tk.trans (by rw[bR ck])) (jO (st (aB (tc.trans (by rw[bR cc])) ?_))))⟩
   exact az (x:= .dat (.str (ae l3))) (ai (al rfl (al (mx 3 _ (by decide) rfl rfl) rfl)) (aG rfl rfl e3 rfl)) rfl (by walk_at "ss") (fin l3 a3 (by omega) _)
  ·exact⟨.dat (.int c),.dat (.str (ae l2)),go (aB (tk.trans (by rw[bR ck])) (jO (st (av (tc.trans (by rw[a9 cc])) (au (fin l2 a2 (by omega) _))))))⟩
 ·exact⟨.dat (.int c),.dat (.str (ae l0)),go (av (tk.trans (by rw[a9 ck])) (au (fin l0 a0 (by omega) _)))⟩
theorem Dh(ns:LI)(_h:ns.length<=63):D6 [iz ns]=aj (.val (.bool true)):=by
 refine aP rfl ?_;show vo [.dat (iz ns),.no,.no,.no,.no]=_;unfold vo;obtain⟨δ',e,r1,r3,r4,rfl⟩:=qO (g:=cL 1) (b:=(ar (aA 3 (ag (gF 2 bH) (aa (ac 0) (aa (f2 (gI dQ) (f2 (gI dY) (fC (.int 10)) (ac 1)) (fC (.int 1))) ak))))
  (ar (aA 4 (ag (gF 1 fO) (aa (ac 3) ak)))
  (ar (aU (fB (f2 (aQ false) (f2 (gI bO) (ac 1) (fC (.int 2))) (fC (.int 1)))) (ar (aA 4 (ag (gF 2 dE) (aa (ag (gF 1 fP) (aa (ac 3) ak)) (aa (ag (gF 2 bH) (aa (ac 0) (aa (f2 (gI dQ) (f2 (gI dY) (fC (.int 10)) (ac 1)) (fC (.int 2))) ak))) ak))))
  (aU (fB (f2 (aQ false) (f2 (gI bO) (f2 (gI di) (ac 3) (fC (.int 20))) (fC (.int 3))) (fC (.int 0)))) (aA 4 (ag (gF 2 dE) (aa (ac 4) (aa (ag (gF 2 bH) (aa (ac 0) (aa (f2 (gI dQ) (f2 (gI dY) (fC (.int 10)) (ac 1)) (fC (.int 3))) ak))) ak)))) aR)) aR)
  (aU (fE (fZ (fB (ag (gF 3 bo) (aa (ac 4) (aa (ag (gF 1 dn) (aa (ac 4) ak)) (aa (fC (.bool false)) ak)))))) (fZ (fB (ag (gF 3 bo) (aa (ac 4) (aa (ag (gF 1 dL) (aa (ac 4) ak)) (aa (fC (.bool true)) ak))))))) (aT (fC (.bool false))) aR))))) (δ:=[.dat (iz ns),.no,.no,.no,.no]) (λ_ δ=>∃r1 r3 r4:Sl,δ=[.dat (iz ns),r1,.no,r3,r4]) (f9 0 4) ⟨_,_,_,rfl⟩
  (by
   rintro i d δ hd ⟨r1,r3,r4,rfl⟩;obtain⟨hi,rfl⟩:=wc hd;rw[Int.zero_add];obtain⟨s3,s4,e⟩:=l9 ns i (by omega) .no r3 r4;exact⟨_,_,rfl,.inl e,_,_,_,rfl⟩)
 refine cV (lG (yy (j:=4) rfl (by decide) (by decide) rfl) e) ?_;obtain⟨j,hj,ej⟩:=nq (nT ns 5) 10 (by decide);have hj':j<yW.length:=hj;obtain⟨d,hd⟩ : ∃d,d=yW[j]:=⟨_,rfl⟩
 have dm:d∈yW:=by rw[hd];exact ya hj'
 refine az (x:= .dat d) (ah (x:= .new yW) (ai (al rfl (al rfl (al rfl (al (@D3.D1 ⟨λ_=>0⟩ _ _ (.new [.str "x"]) (ai rfl rfl)) (al (ai rfl rfl) (al (ai rfl rfl) (al rfl (al (@D3.D1 ⟨λ_=>0⟩ _ _ (.new []) (ai rfl rfl)) (al rfl (al (ai (al (ai rfl rfl) rfl) rfl) rfl)))))))))) rfl) (ah (Ee ns 5 (by decide) _ _ rfl rfl) rfl (fF (by decide))) (sB (j:=j) ej (by rw[gk hj',hd]))) rfl (by walk_at "ss") ?_
 have rn:=k6 d false (B6 d dm false);have rc:=k6 d true (B6 d dm true);refine av (bu (eD (ax (x:= .dat (.bool true)) (ai (al rfl (al rfl (al rfl rfl))) (aG rfl rfl rn rfl)) rfl)) (eD (ax (x:= .dat (.bool true)) (ai (al rfl (al rfl (al rfl rfl))) (aG rfl rfl rc rfl)) rfl))) (au ?_);have q1:bo [.str "-3/2",.tuple [.int (-3),.int 2],.bool false]=aj (.val (.bool true)):=by
  have h:=pG (Rat.divInt (-3) 2) ⟨by decide +kernel,by decide +kernel⟩;have e1:ae (jA (Rat.divInt (-3) 2))=("-3/2" :Str):=by decide +kernel
  have e2:nD (Rat.divInt (-3) 2)= .tuple [.int (-3),.int 2]:=by
   have n1:(Rat.divInt (-3) 2).num= -3:=by decide +kernel
   have d1:(Rat.divInt (-3) 2).den=2:=by decide +kernel
   unfold nD;rw[n1,d1];rfl
  rw[e1,e2] at h;exact my _ _ false h rfl (iU _ _) (by simp[PyData.eqv,PyData.eqvAll])
 have q2:bo [.str "1 - x",.tuple [.tuple [.int 1,.int 1],.tuple [.int (-1),.int 1]],.bool true]=aj (.val (.bool true)):=by
  have h:=pB [1,-1] (by intro q hq;simp only[fq,F7,or_false] at hq;rcases hq with rfl |rfl<;>exact⟨by decide +kernel,by decide +kernel⟩) (by decide) (by decide +kernel);have e1:ae (kw [1,-1])=("1 - x" :Str):=by decide +kernel
  rw[e1] at h;exact my _ _ true h rfl (Bv [1,-1]) (by have:=Bw [1,-1] [1,-1];rw[bR rfl] at this;exact this)
 exact bA (sA (cX (ax (x:= .dat (.bool true)) (ai (al rfl (al (ai (al rfl (al rfl rfl)) rfl) (al rfl rfl))) (aG rfl rfl q1 rfl)) rfl) (ax (x:= .dat (.bool true)) (ai (al rfl (al (ai (al (ai rfl rfl) (al (ai (al rfl (al rfl rfl)) rfl) rfl)) rfl) (al rfl rfl))) (aG rfl rfl q2 rfl)) rfl))) rfl
end Law
namespace Law
open PySem PySem.Spec PyProof.Rows L2 L3 D3
theorem xq{α:Type}{p:α->Prop}: ∀x∈([]:List α),p x:=λ_ h=>nomatch h
theorem eI{α:Type}{p:α->Prop}{a:α}{l:List α}(h:p a)(t: ∀x∈l,p x): ∀x∈a::l,p x:=λx hx=>(fq.mp hx).elim (λe=>e▸h) (t x)
abbrev Nk(K:W.Frag)(x:Str)(v:Value):Prop:=W.nsIn K mainGlobals x=some (some v)
abbrev Kk(K:W.Frag)(c d:Value)(b:Bool):Prop:=W.kitOne K c d=some b
abbrev Sk(K:W.Frag)(c d:Value):Prop:=W.subIn K c d=some true
def Xk(K:W.Frag)(C:Addr)(cd:ClassData):Prop:=W.clsIn K C=some cd/\W.findIn K (.ref C) "__getattribute__" =some (some (.builtin "BaseException.__getattribute__"))/\W.findIn K (.ref C) "__getattr__" =some none/\W.findIn K (.ref C) "__class__" =some (some (.builtin "object.__class__"))/\Sk K (.ref C) (.type "object")/\Sk K (.ref C) (.type "BaseException")
def Bk(K:W.Frag)(C:Addr)(cd:ClassData):Prop:=W.typeIn K (.ref C)=some (.type "type")/\W.clsIn K C=some cd/\Sk K (.ref C) (.type "BaseException")
abbrev Ek(K:W.Frag)(C:Addr):Prop:=W.excIn K C [.type "ValueError",.type "Exception",.type "BaseException",.type "object"] "ValueError.__new__" =true
theorem xk{K:W.Frag}{C:Addr}{cd:ClassData}(h:Xk K C cd):iB K C:=⟨by rw[h.1];rfl,h.2.1,h.2.2.1,h.2.2.2.1,h.2.2.2.2.1,h.2.2.2.2.2⟩
theorem ep [jJ]{K:W.Frag}{m:Ex}{b:Bool}{c:Value}{cd:ClassData}(h:Kk K (.ref (b4 m)) c b)(x:Xk K (b4 m) cd):W.kitOne K (oF (Tg.exc m,b).1) c=some (Tg.exc m,b).2/\∀n,(Tg.exc m,b).1= .exc n->iB K (b4 n):=⟨h,λn e=>by cases e;exact xk x⟩
theorem en [jJ]{K:W.Frag}{t:Tg}{b:Bool}{c:Value}(h:Kk K (oF t) c b)(z: ∀n,t≠ .exc n:=by intro n e;cases e):W.kitOne K (oF (t,b).1) c=some (t,b).2/\∀n,(t,b).1= .exc n->iB K (b4 n):=⟨h,λn e=>absurd e (z n)⟩
abbrev Ka(K:W.Frag)(c:Value)(d:List Value)(b:Bool):Prop:=W.kitAny K c d=some b
theorem IG [jJ]{K:W.Frag}{m:Ex}{b:Bool}{c:List Value}{cd:ClassData}(h:Ka K (.ref (b4 m)) c b)(x:Xk K (b4 m) cd):W.kitAny K (oF (Tg.exc m,b).1) c=some (Tg.exc m,b).2/\∀n,(Tg.exc m,b).1= .exc n->iB K (b4 n):=⟨h,λn e=>by cases e;exact xk x⟩
theorem bk{K:W.Frag}{C B:Addr}{cd:ClassData}(h:Bk K B cd)(s:Sk K (.ref C) (.ref B)):mZ K C B:=⟨h.1,by rw[h.2.1];rfl,h.2.2,s⟩
theorem IH{K:W.Frag}{mg:Str->Option Value}{h:Heap}(X:K.In h)(G:h.Ns mainGlobals mg)(m_len:mg "len" =none)(m_isinstance:mg "isinstance" =none)(m_str:mg "str" =none)(m_tuple:mg "tuple" =none)(m_all:mg "all" =none)(m_int:mg "int" =none)(m_abs:mg "abs" =none)(m_range:mg "range" =none)(m_ValueError:mg "ValueError" =none){fk dN dM kB ma md jB nr iJ gf Ef xw:Addr}{uj ui Cc JQ JR Dl Dm:Tok}{IJ Ca:Option Addr}{JP Dk:Nat}{IK Cb:Array (Option Value)}{xW B9 xX ve:ClassData}(rh:Kk K (.type "NoneType") (.type "str") false)(rj:Kk K (.type "bool") (.type "str") false)(rp:Kk K (.type "int") (.type "str") false)(rz:Kk K (.type "list") (.type "str") false)(rA:Kk K (.type "tuple") (.type "str") false)(rB:Kk K (.type "str") (.type "str") true)(rC:Kk K (.type "dict") (.type "str") false)(rJ:Nk K "NoText" (.ref fk))(q_NoText:Ek K fk)(jZ:Nk K "MOST_NUMBERS" (.int 13 uj))(ou:Nk K "TooGreat" (.ref dN))(q_TooGreat:Ek K dN)(jY:Nk K "MOST_FIGURES" (.int 12 ui))(pL:Nk K "FIGURES" (.str "0123456789" Cc))(oq:Nk K "NoNumber" (.ref dM))(q_NoNumber:Ek K dM)(zX:Nk K "ONE" (.ref Ef))(zY:K.lookup Ef=some ⟨.type "tuple",IJ,.seq #[.int 1 JQ,.int 1 JR] JP,IK⟩)(rD:Nk K "NOUGHT" (.ref xw))(rE:K.lookup xw=some ⟨.type "tuple",Ca,.seq #[.int 0 Dl,.int 1 Dm] Dk,Cb⟩)(pM:Nk K "NoCurve" (.ref kB))(rF:Nk K "NoName" (.ref ma))(rG:Nk K "NoNear" (.ref md))(ot:Nk K "NoPieces" (.ref jB))(uh:Nk K "NoRow" (.ref nr))(mR:Nk K "NoStretch" (.ref iJ))(ba:Ka K (.ref dM) [.ref kB,.ref ma,.ref md,.ref dM,.ref jB,.ref nr,.ref iJ,.ref dN] true)(jG:Xk K dM xW)(bb:Ka K (.ref fk) [.ref kB,.ref ma,.ref md,.ref dM,.ref jB,.ref nr,.ref iJ,.ref dN] false)(mi:Xk K fk B9)(bc:Ka K (.ref dN) [.ref kB,.ref ma,.ref md,.ref dM,.ref jB,.ref nr,.ref iJ,.ref dN] true)(jH:Xk K dN xX)(mO:Kk K (.ref dM) (.ref fk) false)(mP:Kk K (.ref fk) (.ref fk) true)(mQ:Kk K (.ref dN) (.ref fk) false)(jD:Kk K (.ref dM) (.type "ValueError") true)(jE:Kk K (.ref fk) (.type "ValueError") true)(jF:Kk K (.ref dN) (.type "ValueError") true)(mh:Nk K "BelowError" (.ref gf))(iq:Bk K gf ve)(gi:Sk K (.ref dN) (.ref gf))(gQ:Sk K (.ref fk) (.ref gf))(gh:Sk K (.ref dM) (.ref gf))(og:Kk K (.type "NoneType") (.type "tuple") false)(oh:Kk K (.type "bool") (.type "tuple") false)(oi:Kk K (.type "int") (.type "tuple") false)(oj:Kk K (.type "list") (.type "tuple") false)(ol:Kk K (.type "tuple") (.type "tuple") true)(om:Kk K (.type "str") (.type "tuple") false)(oo:Kk K (.type "dict") (.type "tuple") false): ∃I:jJ,@b7 I K mg:=by
 letI I:jJ:=⟨λe=>match e with | .NoText=>fk | .TooGreat=>dN | .NoNumber=>dM | .NoCurve=>kB | .NoName=>ma | .NoNear=>md | .NoPieces=>jB | .NoRow=>nr | .NoStretch=>iJ | .BelowError=>gf |_=>0⟩
 exact⟨I,b7.mk m_len m_isinstance m_str (sv rfl (eI (en rh) (eI (en rj) (eI (en rp) (eI (en rz) (eI (en rA) (eI (en rB) (eI (en rC) xq)))))))) (W.mg_of X G rJ) q_NoText (vZ (W.mg_of X G jZ)) (W.mg_of X G ou) q_TooGreat m_tuple (vZ (W.mg_of X G jY)) (CW (W.mg_of X G pL)) m_all m_int m_abs (W.mg_of X G oq) q_NoNumber (uF (W.mg_of X G zX) zY) (uF (W.mg_of X G rD) rE) m_range (W.mg_of X G pM) (W.mg_of X G rF) (W.mg_of X G rG) (W.mg_of X G ot) (W.mg_of X G uh) (W.mg_of X G mR) (EW (eI rfl (eI rfl (eI rfl (eI rfl (eI rfl (eI rfl (eI rfl (eI rfl xq)))))))) (eI (IG ba jG) (eI (IG bb mi) (eI (IG bc jH) xq)))) (sv rfl (eI (ep mO jG) (eI (ep mP mi) (eI (ep mQ jH) xq)))) m_ValueError (sv rfl (eI (ep jD jG) (eI (ep jE mi) (eI (ep jF jH) xq)))) (W.mg_of X G mh) (CT (eI (bk iq gh) (eI (bk iq gQ) (eI (bk iq gi) xq)))) (sv rfl (eI (en og) (eI (en oh) (eI (en oi) (eI (en oj) (eI (en ol) (eI (en om) (eI (en oo) xq))))))))⟩
end Law
open PySem PySem.W PyProof.Rows L2 L3 D3 Law
def PySem.W.Fast.tw18231376159602524686:Unit:=()
def PySem.W.Fast.tw6561177665119554795:Unit:=()
def PySem.W.Fast.tw10977257859986938387:Unit:=()
def PySem.W.Fast.tw12351063800292263995:Unit:=()
def PySem.W.Fast.tw2622539021384234398:Unit:=()
def PySem.W.Fast.tw13083571657103253085:Unit:=()
def PySem.W.Fast.tw2187948437198957617:Unit:=()
def PySem.W.Fast.tw16851813418042831393:Unit:=()
def PySem.W.Fast.tw4564730390711318456:Unit:=()
def PySem.W.Fast.tw15203818393885032075:Unit:=()
def PySem.W.Fast.tw10445528301848060045:Unit:=()
def PySem.W.Fast.tw13003027895517566610:Unit:=()
def PySem.W.Fast.tw5247052130445778650:Unit:=()
def PySem.W.Fast.tw16966502383886606132:Unit:=()
def PySem.W.Fast.tw15481616650004334684:Unit:=()
def PySem.W.Fast.tw10186733052100290345:Unit:=()
def PySem.W.Fast.tw9629255105640359727:Unit:=()
def PySem.W.Fast.tw1644616460790692650:Unit:=()
def PySem.W.Fast.tw5801371888751637336:Unit:=()
def PySem.W.Fast.tw3830408154079782104:Unit:=()
def PySem.W.Fast.tw7711784216015690769:Unit:=()
def PySem.W.Fast.tw3949733767005070218:Unit:=()
def PySem.W.Fast.tw10533108004680215794:Unit:=()
def PySem.W.Fast.tw10612489111066160230:Unit:=()
def PySem.W.Fast.tw10465920609175601269:Unit:=()
def PySem.W.Fast.tw6857180538373478334:Unit:=()
def PySem.W.Fast.tw13106239760473968042:Unit:=()
def PySem.W.Fast.tw2521880304140562503:Unit:=()
def PySem.W.Fast.tw6252904495904528992:Unit:=()
def PySem.W.Fast.tw11568464781760960237:Unit:=()
def PySem.W.Fast.tw13946545235156417782:Unit:=()
def PySem.W.Fast.tw15453292301749326852:Unit:=()
def PySem.W.Fast.tw14749904890531723846:Unit:=()
def PySem.W.Fast.tw9316962021233834134:Unit:=()
def PySem.W.Fast.tw17640079660123185273:Unit:=()
def PySem.W.Fast.tw14062608414325817844:Unit:=()
def PySem.W.Fast.tw4473694403689592662:Unit:=()
def PySem.W.Fast.tw9839371985301898639:Unit:=()
def PySem.W.Fast.tw2566629649232087852:Unit:=()
def PySem.W.Fast.tw1568418923314215378:Unit:=()
def PySem.W.Fast.tw12104973569330806880:Unit:=()
def PySem.W.Fast.tw17476091995633943660:Unit:=()
def PySem.W.Fast.tw18136156861306286383:Unit:=()
def PySem.W.Fast.tw18256477083206411989:Unit:=()
def PySem.W.Fast.tw14904045350341340424:Unit:=()
def PySem.W.Fast.tw2253528194963391457:Unit:=()
def PySem.W.Fast.tw4887334900150648357:Unit:=()
def PySem.W.Fast.tw3658212677272666502:Unit:=()
def PySem.W.Fast.tw8564191017080195168:Unit:=()
def PySem.W.Fast.tw6816528451888701638:Unit:=()
def PySem.W.Fast.tw9900622969244855818:Unit:=()
def PySem.W.Fast.tw12127104095259375402:Unit:=()
def PySem.W.Fast.tw12498664452905297173:Unit:=()
def PySem.W.Fast.tw9434026298290999929:Unit:=()
def PySem.W.Fast.tw547966888937467670:Unit:=()
def PySem.W.Fast.tw13205250048121783053:Unit:=()
def PySem.W.Fast.tw13426781015633667247:Unit:=()
def PySem.W.Fast.tw15477883353531055068:Unit:=()
def PySem.W.Fast.tw11205642341271365996:Unit:=()
def PySem.W.Fast.tw1509897250195281934:Unit:=()
def PySem.W.Fast.tw2057716777514776680:Unit:=()
def PySem.W.Fast.tw4539742893752227249:Unit:=()
def PySem.W.Fast.tw4695017857340276016:Unit:=()
def PySem.W.Fast.tw446140875631994974:Unit:=()
def PySem.W.Fast.tw10751202918921291233:Unit:=()
def PySem.W.Fast.tw15559601136208202903:Unit:=()
def PySem.W.Fast.tw18434762601027940254:Unit:=()
def PySem.W.Fast.tw5995740459129686553:Unit:=()
def PySem.W.Fast.tw17981652029756309495:Unit:=()
def PySem.W.Fast.tw10983887450541320808:Unit:=()
def PySem.W.Fast.tw1232229917601141649:Unit:=()
def PySem.W.Fast.tw6948645194557151437:Unit:=()
def PySem.W.Fast.tw12215396275598016344:Unit:=()
def PySem.W.Fast.tw8525226843469257432:Unit:=()
def PySem.W.Fast.tw16819255023272228076:Unit:=()
def PySem.W.Fast.tw2032702983506361050:Unit:=()
local macro_rules | `(tactic| walk_at "k")=> `(tactic| (show _=_;k_is))
local macro_rules | `(tactic| walk_at "x")=> `(tactic| exact⟨by k_is,by k_is,by k_is,by k_is,by walk_at "k",by walk_at "k"⟩)
local macro_rules | `(tactic| walk_at "b")=> `(tactic| exact⟨by k_is,by k_is,by walk_at "k"⟩)
local macro_rules | `(tactic| walk_at "e")=> `(tactic| (show _=_;k_exc))
local macro_rules | `(tactic| walk_at "y")=> `(tactic| (show _=_;kit_is))
local macro_rules | `(tactic| walk_at "d")=> `(tactic| (dsimp only[L2.d7];refine' L3.AS ?a ?l ?c ?k;(case a=>k_is);(case l=>k_is);(case c=>k_is);(case k=>k_is)))
local macro_rules | `(tactic| walk_at "1")=> `(tactic| exact λ_ _ _ _ _ _ us hl=>match us,hl with | [_],_=>rfl)
local macro_rules | `(tactic| walk_at "2")=> `(tactic| exact λ_ _ _ _ _ _ us hl=>match us,hl with | [_,_],_=>rfl)
local macro_rules | `(tactic| walk_at "3")=> `(tactic| exact λ_ _ _ _ _ _ us hl=>match us,hl with | [_,_,_],_=>rfl)
abbrev PG:=PySem.Challenge.rw_neverbelow_k58_no_text.prog
set_option maxRecDepth 100000 in
set_option maxHeartbeats 0 in
theorem PySem.Challenge.cw_neverbelow_k58_no_text_holds : PySem.Challenge.rw_neverbelow_k58_no_text.Holds := by
 w_on;o_law;k_head;(case hw=>w_witness2)
 k_fill
 refine L3.Je (l:=PySem.Challenge.rw_neverbelow_k58_no_text) rfl rfl (λw h Y=>W.kIn_of Y) ?F
 case F=>
  intro w mg fa h KX G hmg;have D__law_mixed:L3.bE (d7 KX) "_law_mixed" lL:=by walk_at "d"
  have D__law_near:L3.bE (d7 KX) "_law_near" mG:=by walk_at "d"
  have xr:L3.bE (d7 KX) "check_text" lJ:=by walk_at "d"
  have sU:L3.bE (d7 KX) "sign_and_rest" jm:=by walk_at "d"
  have zV:L3.bE (d7 KX) "terms_in" nR:=by walk_at "d"
  have II:L3.bE (d7 KX) "sign" wf:=by walk_at "d"
  have zT:L3.bE (d7 KX) "curve_of" nP:=by walk_at "d"
  have sT:L3.bE (d7 KX) "check_written" jn:=by walk_at "d"
  have zW:L3.bE (d7 KX) "whole_in" kW:=by walk_at "d"
  have pK:L3.bE (d7 KX) "greatest_divisor" ib:=by walk_at "d"
  have Di:L3.bE (d7 KX) "number" qP:=by walk_at "d"
  have B7:L3.bE (d7 KX) "size_in" pd:=by walk_at "d"
  have zU:L3.bE (d7 KX) "power_in" nQ:=by walk_at "d"
  have B8:L3.bE (d7 KX) "term_in" pf:=by walk_at "d"
  have FE:L3.bE (d7 KX) "minus" tQ:=by walk_at "d"
  have Dj:L3.bE (d7 KX) "signed" qQ:=by walk_at "d"
  have vd:L3.bE (d7 KX) "show_number" kF:=by walk_at "d"
  have xv:L3.bE (d7 KX) "show_power" lH:=by walk_at "d"
  have xV:L3.bE (d7 KX) "show_term" mD:=by walk_at "d"
  have xu:L3.bE (d7 KX) "show_curve" lI:=by walk_at "d"
  have xt:L3.bE (d7 KX) "read_curve" lK:=by walk_at "d"
  have vc:L3.bE (d7 KX) "read_number" kG:=by walk_at "d"
  have D__law_class:L3.bE (d7 KX) "_law_class" lP:=by walk_at "d"
  have D__law_right:L3.bE (d7 KX) "_law_right" lQ:=by walk_at "d"
  have D__law_bent:L3.bE (d7 KX) "_law_bent" mI:=by walk_at "d"
  have D__law_good:L3.bE (d7 KX) "_law_good" mH:=by walk_at "d"
  have D__law_whole:L3.bE (d7 KX) "_law_whole" lM:=by walk_at "d"
  have D__law_size:L3.bE (d7 KX) "_law_size" mE:=by walk_at "d"
  have D__law_number:L3.bE (d7 KX) "_law_number" kH:=by walk_at "d"
  have D__law_power:L3.bE (d7 KX) "_law_power" lN:=by walk_at "d"
  have D__law_term:L3.bE (d7 KX) "_law_term" mF:=by walk_at "d"
  have D__law_curve:L3.bE (d7 KX) "_law_curve" lO:=by walk_at "d"
  have JO:L3.bE (d7 KX) "law" zt:=by walk_at "d"
  have m_len:=mg_none_of (n:= "len") KX G (by k_is);have m_isinstance:=mg_none_of (n:= "isinstance") KX G (by k_is);have m_str:=mg_none_of (n:= "str") KX G (by k_is);have m_tuple:=mg_none_of (n:= "tuple") KX G (by k_is);have m_all:=mg_none_of (n:= "all") KX G (by k_is);have m_int:=mg_none_of (n:= "int") KX G (by k_is);have m_abs:=mg_none_of (n:= "abs") KX G (by k_is);have m_range:=mg_none_of (n:= "range") KX G (by k_is)
  have m_ValueError:=mg_none_of (n:= "ValueError") KX G (by k_is);have rw_: ∃I:jJ,@Law.b7 I (d7 KX) mg:=by
   refine' Law.IH KX G m_len m_isinstance m_str m_tuple m_all m_int m_abs m_range m_ValueError ?rh ?rj ?rp ?rz ?rA ?rB ?rC ?rJ ?q_NoText ?jZ ?ou ?q_TooGreat ?jY ?pL ?oq ?q_NoNumber ?zX ?zY ?rD ?rE ?pM ?rF ?rG ?ot ?uh ?mR ?ba ?jG ?bb ?mi ?bc ?jH ?mO ?mP ?mQ ?jD ?jE ?jF ?mh ?iq ?gi ?gQ ?gh ?og ?oh ?oi ?oj ?ol ?om ?oo
   all_goals try dsimp only[L2.d7]
   (case rh=>walk_at "y")
   (case rj=>walk_at "y")
   (case rp=>walk_at "y")
   (case rz=>walk_at "y")
   (case rA=>walk_at "y")
   (case rB=>walk_at "y")
   (case rC=>walk_at "y")
   (case rJ=>walk_at "k")
   (case q_NoText=>walk_at "e")
   (case jZ=>walk_at "k")
   (case ou=>walk_at "k")
   (case q_TooGreat=>walk_at "e")
   (case jY=>walk_at "k")
   (case pL=>walk_at "k")
   (case oq=>walk_at "k")
   (case q_NoNumber=>walk_at "e")
   (case zX=>walk_at "k")
   (case zY=>walk_at "k")
   (case rD=>walk_at "k")
   (case rE=>walk_at "k")
   (case pM=>walk_at "k")
   (case rF=>walk_at "k")
   (case rG=>walk_at "k")
   (case ot=>walk_at "k")
   (case uh=>walk_at "k")
   (case mR=>walk_at "k")
   (case ba=>walk_at "y")
   (case jG=>walk_at "x")
   (case bb=>walk_at "y")
   (case mi=>walk_at "x")
   (case bc=>walk_at "y")
   (case jH=>walk_at "x")
   (case mO=>walk_at "y")
   (case mP=>walk_at "y")
   (case mQ=>walk_at "y")
   (case jD=>walk_at "y")
   (case jE=>walk_at "y")
   (case jF=>walk_at "y")
   (case mh=>walk_at "k")
   (case iq=>walk_at "b")
   (case gi=>walk_at "k")
   (case gQ=>walk_at "k")
   (case gh=>walk_at "k")
   (case og=>walk_at "y")
   (case oh=>walk_at "y")
   (case oi=>walk_at "y")
   (case oj=>walk_at "y")
   (case ol=>walk_at "y")
   (case om=>walk_at "y")
   (case oo=>walk_at "y")
  obtain⟨I,A⟩:=rw_;refine L3.GV KX G hmg JO (λ_ _ _ _ _ _ _=>rfl) (λbase kb nb f fd F=>?_);have KS:=L3.bZ (P:=PG) (w:=w) (base:=base) KX G D__law_mixed (ps:=["_law_script","_law_k"]) (by walk_at "2") (λf fd F=> @uS I _ w _ _ base f fd A F);have K5:=L3.bZ (P:=PG) (w:=w) (base:=base) KX G D__law_near (ps:=["_law_cell"]) (by walk_at "1") (λf fd F=> @wy I _ w _ _ base f fd A F);have gg:=L3.bZ (P:=PG) (w:=w) (base:=base) KX G xr (ps:=["text"]) (by walk_at "1") (λf fd F=> @uU I _ w _ _ base f fd A F)
  have eK:=L3.bZ (P:=PG) (w:=w) (base:=base) KX G sU (ps:=["text"]) (by walk_at "1") (λf fd F=> @qS I _ w _ _ base f fd A F);have oa:=L3.bZ (P:=PG) (w:=w) (base:=base) KX G zV (ps:=["text"]) (by walk_at "1") (λf fd F=> @xL I _ w _ _ base f fd A eK F);have kC:=L3.bZ (P:=PG) (w:=w) (base:=base) KX G II (ps:=["one"]) (by walk_at "1") (λf fd F=> @Fb I _ w _ _ base f fd A F);have n9:=L3.bZ (P:=PG) (w:=w) (base:=base) KX G zT (ps:=["numbers"]) (by walk_at "1") (λf fd F=> @xM I _ w _ _ base f fd A kC F)
  have eJ:=L3.bZ (P:=PG) (w:=w) (base:=base) KX G sT (ps:=["text","told"]) (by walk_at "2") (λf fd F=> @qU I _ w _ _ base f fd A F);have gE:=L3.bZ (P:=PG) (w:=w) (base:=base) KX G zW (ps:=["figures"]) (by walk_at "1") (λf fd F=> @xO I _ w _ _ base f fd A F);have il:=L3.bZ (P:=PG) (w:=w) (base:=base) KX G pK (ps:=["one","other"]) (by walk_at "2") (λf fd F=> @oK I _ w _ _ base f fd A F);have jW:=L3.bZ (P:=PG) (w:=w) (base:=base) KX G Di (ps:=["top","bottom"]) (by walk_at "2") (λf fd F=> @Br I _ w _ _ base f fd A il F)
  have ip:=L3.bZ (P:=PG) (w:=w) (base:=base) KX G B7 (ps:=["text"]) (by walk_at "1") (λf fd F=> @zA I _ w _ _ base f fd A gE jW F);have k7:=L3.bZ (P:=PG) (w:=w) (base:=base) KX G zU (ps:=["word"]) (by walk_at "1") (λf fd F=> @xP I _ w _ _ base f fd A gE F);have pJ:=L3.bZ (P:=PG) (w:=w) (base:=base) KX G B8 (ps:=["words"]) (by walk_at "1") (λf fd F=> @zC I _ w _ _ base f fd A ip k7 F);have ug:=L3.bZ (P:=PG) (w:=w) (base:=base) KX G FE (ps:=["one","other"]) (by walk_at "2") (λf fd F=> @C3 I _ w _ _ base f fd A jW F)
  have jX:=L3.bZ (P:=PG) (w:=w) (base:=base) KX G Dj (ps:=["word","size"]) (by walk_at "2") (λf fd F=> @Bt I _ w _ _ base f fd A ug F);have eO:=L3.bZ (P:=PG) (w:=w) (base:=base) KX G vd (ps:=["one"]) (by walk_at "1") (λf fd F=> @tT I _ w _ _ base f fd A F);have jC:=L3.bZ (P:=PG) (w:=w) (base:=base) KX G xv (ps:=["place"]) (by walk_at "1") (λf fd F=> @uW I _ w _ _ base f fd A F);have mM:=L3.bZ (P:=PG) (w:=w) (base:=base) KX G xV (ps:=["size","place"]) (by walk_at "2") (λf fd F=> @wB I _ w _ _ base f fd A eO jC F)
  have mf:=L3.bZ (P:=PG) (w:=w) (base:=base) KX G xu (ps:=["curve"]) (by walk_at "1") (λf fd F=> @uX I _ w _ _ base f fd A kC mM F);have me:=L3.bZ (P:=PG) (w:=w) (base:=base) KX G xt (ps:=["text"]) (by walk_at "1") (λf fd F=> @uY I _ w _ _ base f fd A gg oa n9 eJ pJ jX mf F);have kI:=L3.bZ (P:=PG) (w:=w) (base:=base) KX G vc (ps:=["text"]) (by walk_at "1") (λf fd F=> @tU I _ w _ _ base f fd A gg eK jX eJ ip eO F)
  have K1:=D3.E6 (P:=PG) (w:=w) (base:=base) KX G D__law_class (ps:=["_law_error"]) (by walk_at "1") (λf fd F=> @u0 I _ w _ _ base f fd A F);have KO:=L3.bZ (P:=PG) (w:=w) (base:=base) KX G D__law_right (ps:=["_law_thing","_law_due","_law_as_curve"]) (by walk_at "3") (λf fd F=> @u6 I _ w _ _ base f fd A me kI K1 F);have KY:=L3.bZ (P:=PG) (w:=w) (base:=base) KX G D__law_bent (ps:=["_law_text","_law_cell"]) (by walk_at "2") (λf fd F=> @wC I _ w _ _ base f fd A F)
  have K6:=L3.bZ (P:=PG) (w:=w) (base:=base) KX G D__law_good (ps:=["_law_cell"]) (by walk_at "1") (λf fd F=> @wD I _ w _ _ base f fd A F);have KR:=L3.bZ (P:=PG) (w:=w) (base:=base) KX G D__law_whole (ps:=["_law_text"]) (by walk_at "1") (λf fd F=> @u7 I _ w _ _ base f fd A F);have KP:=L3.bZ (P:=PG) (w:=w) (base:=base) KX G D__law_size (ps:=["_law_text"]) (by walk_at "1") (λf fd F=> @wE I _ w _ _ base f fd A KR F)
  have KZ:=L3.bZ (P:=PG) (w:=w) (base:=base) KX G D__law_number (ps:=["_law_text"]) (by walk_at "1") (λf fd F=> @tV I _ w _ _ base f fd A KP F);have KW:=L3.bZ (P:=PG) (w:=w) (base:=base) KX G D__law_power (ps:=["_law_word"]) (by walk_at "1") (λf fd F=> @u8 I _ w _ _ base f fd A KR F);have K4:=L3.bZ (P:=PG) (w:=w) (base:=base) KX G D__law_term (ps:=["_law_term_here"]) (by walk_at "1") (λf fd F=> @wF I _ w _ _ base f fd A KW KP F)
  have K2:=L3.bZ (P:=PG) (w:=w) (base:=base) KX G D__law_curve (ps:=["_law_text"]) (by walk_at "1") (λf fd F=> @u9 I _ w _ _ base f fd A K4 F);exact @CU I _ _ _ _ _ _ _ _ _ (@HM I _ w _ _ base f fd A KS K5 KO KY K6 KZ K2 F) (by decide) Law.Dh
