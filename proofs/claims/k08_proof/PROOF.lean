import PyProof.Rows.All
import Wide.All
import OpenK.AllK
import Wide.FinOn
import Lean
import PyProof.EqAt
import PyProof.EqKinds
import PyProof.TupleCall
import PySem.Challenge.RW_wheelrow_k08_refused
set_option Elab.async false
set_option linter.all false
set_option maxRecDepth 100000
namespace L2
open PySem PySem.Spec PyProof.Rows
abbrev Key:=Sum Int Str
def keyIs:Key → Value → Bool
  | .inl k,v=>Value.isInt k v
  | .inr x,v=>Value.isStrOf x v
def keyH (w:World):Key → Int
  | .inl k=>hashInt k
  | .inr x=>hashStr w x
theorem keyIs_shape:∀ {k:Key} {v:Value},keyIs k v = true → (∃ i t,k = Sum.inl i ∧ v = Value.int i t) ∨ (∃ x t,k = Sum.inr x ∧ v = Value.str x t)
  | .inl i,v,h=>by
    obtain ⟨t,e⟩:=Value.isInt_shape (k:=i) (v:=v) h
    exact .inl ⟨i,t,rfl,e⟩
  | .inr x,v,h=>by
    obtain ⟨t,e⟩:=Value.isStrOf_shape (x:=x) (v:=v) h
    exact .inr ⟨x,t,rfl,e⟩
theorem key_ll (a b:Int):decide ((Sum.inl a:Key) = Sum.inl b) = (a == b):=by
  by_cases e:a = b
  · subst e; simp
  · have h:¬ (Sum.inl a:Key) = Sum.inl b:=fun q=>e (Sum.inl.inj q)
    rw [decide_eq_false h]
    exact (beq_eq_false_iff_ne.mpr e).symm
theorem key_rr (a b:Str):decide ((Sum.inr a:Key) = Sum.inr b) = decide (a = b):=by
  by_cases e:a = b
  · subst e; simp
  · have h:¬ (Sum.inr a:Key) = Sum.inr b:=fun q=>e (Sum.inr.inj q)
    rw [decide_eq_false h,decide_eq_false e]
theorem key_lr (a:Int) (b:Str):decide ((Sum.inl a:Key) = Sum.inr b) = false:=decide_eq_false (fun q=>nomatch q)
theorem key_rl (a:Str) (b:Int):decide ((Sum.inr a:Key) = Sum.inl b) = false:=decide_eq_false (fun q=>nomatch q)
def mixKind (prog:Program) (w:World):PySem.KeyKind prog w Key where
  is:=keyIs
  hash:=keyH w
  inj:=fun v a b ha hb=>by
    rcases keyIs_shape ha with ⟨i,t,rfl,rfl⟩ | ⟨x,t,rfl,rfl⟩
    · rcases keyIs_shape hb with ⟨j,u,rfl,e⟩ | ⟨y,u,rfl,e⟩
      · injection e with e1 _; rw [e1]
      · exact nomatch e
    · rcases keyIs_shape hb with ⟨j,u,rfl,e⟩ | ⟨y,u,rfl,e⟩
      · exact nomatch e
      · injection e with e1 _; rw [e1]
  byValue:=fun k v h=>by
    rcases keyIs_shape h with ⟨i,t,rfl,rfl⟩ | ⟨x,t,rfl,rfl⟩ <;> rfl
  pyHash:=fun hv h=>by
    rcases keyIs_shape hv with ⟨i,t,rfl,rfl⟩ | ⟨x,t,rfl,rfl⟩
    · exact wpAny_pyHash_int h
    · exact wpAny_pyHash_str h
  eqBool:=fun hu hv h=>by
    rcases keyIs_shape hu with ⟨i,t,rfl,rfl⟩ | ⟨x,t,rfl,rfl⟩
    · rcases keyIs_shape hv with ⟨j,u,rfl,rfl⟩ | ⟨y,u,rfl,rfl⟩
      · rw [key_ll] at h; exact wpAny_eqBool_int h
      · rw [key_lr] at h; exact SeqAt.EqAt.int_str i t y u _ _ _ _ h
    · rcases keyIs_shape hv with ⟨j,u,rfl,rfl⟩ | ⟨y,u,rfl,rfl⟩
      · rw [key_rl] at h; exact SeqAt.EqAt.str_int x t j u _ _ _ _ h
      · rw [key_rr] at h; exact wpAny_eqBool_str h
  «strs»:=fun k x t v h=>by
    rcases keyIs_shape h with ⟨i,u,rfl,e⟩ | ⟨y,u,rfl,e⟩
    · exact nomatch e
    · injection e with e1 _
      subst e1
      cases v <;> rfl
end L2
namespace L2
open PySem PySem.Spec PyProof.Rows
inductive V where
  | non | bl (b:Bool) | int (i:Int) | str (x:Str) | byt (b:Array UInt8) | flt (b:UInt64) | ref (a:Addr) | ty (n:String)
  deriving DecidableEq
def RelV:V → Value → Prop
  | .non,u=>u = Value.none
  | .bl b,u=>u = Value.bool b
  | .int i,u=>∃ t,u = Value.int i t
  | .str x,u=>∃ t,u = Value.str x t
  | .byt b,u=>∃ t,u = Value.bytes b t
  | .flt b,u=>∃ t,u = Value.float b t
  | .ref a,u=>u = Value.ref a
  | .ty n,u=>u = Value.type n
abbrev Vals:List V → List Value → Prop:=Paired RelV
theorem Vals.length {xs:List V} {us:List Value} (r:Vals xs us):xs.length = us.length:=Paired.length r
theorem Vals.get:∀ {xs:List V} {us:List Value} {i:Nat} {x:V},Vals xs us → xs[i]? = some x → ∃ u,us[i]? = some u ∧ RelV x u
  | _,_,_,_,.nil,e=>by simp at e
  | _,_,0,_,.cons r _,e=>by simp at e; subst e; exact ⟨_,rfl,r⟩
  | _,_,i + 1,x,.cons _ t,e=>by
    obtain ⟨u,h1,h2⟩:=Vals.get (i:=i) (x:=x) t (by simpa using e)
    exact ⟨u,by simpa using h1,h2⟩
theorem Vals.set {x:V} {u:Value} (r:RelV x u):∀ {xs:List V} {us:List Value} (i:Nat),Vals xs us → Vals (xs.set i x) (us.set i u)
  | _,_,_,.nil=>.nil
  | _,_,0,.cons _ t=>.cons r t
  | _,_,i + 1,.cons q t=>.cons q (Vals.set r i t)
theorem Vals.append:∀ {xs ys:List V} {us ws:List Value},Vals xs us → Vals ys ws → Vals (xs ++ ys) (us ++ ws)
  | _,_,_,_,.nil,s=>s
  | _,_,_,_,.cons r t,s=>.cons r (Vals.append t s)
theorem Vals.take:∀ {xs:List V} {us:List Value} (n:Nat),Vals xs us → Vals (xs.take n) (us.take n)
  | _,_,0,_=>.nil
  | _,_,_ + 1,.nil=>.nil
  | _,_,n + 1,.cons r t=>.cons r (Vals.take n t)
theorem Vals.drop:∀ {xs:List V} {us:List Value} (n:Nat),Vals xs us → Vals (xs.drop n) (us.drop n)
  | _,_,0,r=>r
  | _,_,_ + 1,.nil=>.nil
  | _,_,n + 1,.cons _ t=>Vals.drop n t
def RelO:Option V → Option Value → Prop
  | some v,some u=>RelV v u
  | none,none=>True
  | _,_=>False
def KV {κ:Type}:List (κ × V) → List (κ × Value) → Prop:=Paired fun (p:κ × V) (q:κ × Value)=>p.1 = q.1 ∧ RelV p.2 q.2
def kV:Key → V
  | .inl i=>.int i
  | .inr x=>.str x
inductive HO where
    | lst (xs:List V)
    | tup (xs:List V)
    | dK (kvs:List (Key × V)) | dT (kvs:List (List Key × V))
    | set (S:Int → Bool) (n:Nat)
    | ins (C dx:Addr) (fs:List (Str × V))
    | own (x:Addr)
    | xd (fs:List (Str × V))
    | met (f x:Addr)
    | rng (lo hi:Int)
    | frz (o:Obj) (u:HO)
    | tbl (ps:Array Value)
    | ext (φ:Heap → Prop)
abbrev Hp:=Addr → Option HO
def upd (H:Hp) (a:Addr) (o:HO):Hp:=fun b=>if b = a then some o else H b
theorem upd_same {H:Hp} {a:Addr} {o:HO}:upd H a o a = some o:=by unfold upd; rw [if_pos rfl]
theorem upd_ne {H:Hp} {a b:Addr} {o:HO} (h:b ≠ a):upd H a o b = H b:=by unfold upd; rw [if_neg h]
theorem ne_of_none {H:Hp} {a b:Addr} {o:HO} (h:H a = some o) (h':H b = none):a ≠ b:=by
  intro e; subst e; rw [h] at h'; cases h'
section
variable (P:Program) (w:World)
def ObjOk (H:Hp) (h:Heap) (a:Addr):HO → Prop
  | .lst xs=>xs.length ≤ sizeLine ∧ ∃ (its:List Value) (n:Nat),Vals xs its ∧ h.get? a = some { cls:=.type "list", data:=.seq its.toArray n }
  | .tup xs=>xs.length ≤ sizeLine ∧ ∃ its:List Value,Vals xs its ∧ IsTup h a its.toArray
  | .dK kvs=>kvs.length ≤ sizeLine ∧ (a == sysModules) = false ∧ ∃ vs,KV kvs vs ∧ h.DictOf (mixKind P w) a vs
  | .dT kvs=>kvs.length ≤ sizeLine ∧ (a == sysModules) = false ∧ ∃ xs:List (List Key × Addr × Value),
      Paired (fun (p:List Key × V) (q:List Key × Addr × Value)=>p.1 = q.1 ∧ H q.2.1 = some (.tup (p.1.map kV)) ∧ RelV p.2 q.2.2) kvs xs ∧
      ∃ o es ep,h.get? a = some o ∧ o.ExactDict ∧ o.data = .dict es ep ∧ es.toList = xs.map (entryOfKey (tupleKind (mixKind P w))) ∧ (xs.map (·.1)).Nodup
  | .set S n=>h.SetOf (intKind P w) a S n
  | .ins C dx fs=>H dx = some (.own a) ∧ fs.length ≤ 1000 ∧ dx ≠ a ∧ h.get? a = some (PySem.W.instObj C dx) ∧
      ∃ mA,h.Ns1 dx mA ∧ (∀ f,RelO (fs.lookup f) (mA f)) ∧ PySem.Within mA (fs.map (·.1))
  | .own _=>∃ o,h.get? a = some o
  | .xd fs=>∃ mA,h.Ns1 a mA ∧ ∀ f,RelO (fs.lookup f) (mA f)
  | .rng lo hi=>∃ t u v,h.get? a = some { cls:=.type "range", data:=.fields #[.int lo t,.int hi u,.int 1 v] }
  | .frz o u=>h.get? a = some o ∧ ObjOk H h a u
  | .tbl ps=>h.get? a = some { cls:=.none,data:=.fields ps }
  | .met f x=>h.get? a = some (PySem.W.methodObj (.ref f) (.ref x))
  | .ext φ=>φ h ∧ (∃ o,h.get? a = some o) ∧ ∀ h1 h2:Heap,φ h1 → (∀ o,h1.get? a = some o → h2.get? a = some o) → φ h2
def HOk (H:Hp) (h:Heap):Prop:=∀ a o,H a = some o → ObjOk P w H h a o
end
section
variable {P:Program} {w:World} {H H':Hp} {h h':Heap} {a:Addr} {o:HO}
theorem ObjOk.lt (x:ObjOk P w H h a o):a < h.objs.size:=by
  cases o with
  | lst xs=>obtain ⟨_,_,_,_,e⟩:=x; exact Heap.lt_size e
  | tup xs=>obtain ⟨_,_,_,p⟩:=x; exact p.lt
  | dK kvs=>obtain ⟨_,_,_,_,o,_,_,e,_⟩:=x; exact Heap.lt_size e
  | dT kvs=>obtain ⟨_,_,_,_,o,_,_,e,_⟩:=x; exact Heap.lt_size e
  | set S n=>obtain ⟨o,_,_,_,e,_⟩:=x; exact Heap.lt_size e
  | ins C dx fs=>obtain ⟨_,_,_,e,_⟩:=x; exact Heap.lt_size e
  | own y=>obtain ⟨_,e⟩:=x; exact Heap.lt_size e
  | xd fs=>obtain ⟨_,⟨_,_,_,e,_⟩,_⟩:=x; exact Heap.lt_size e
  | rng lo hi=>obtain ⟨_,_,_,e⟩:=x; exact Heap.lt_size e
  | frz ob u=>obtain ⟨e,_⟩:=x; exact Heap.lt_size e
  | tbl ps=>exact Heap.lt_size (show h.get? a = some _ from x)
  | met f y=>exact Heap.lt_size (show h.get? a = some _ from x)
  | ext φ=>obtain ⟨_,⟨_,e⟩,_⟩:=x; exact Heap.lt_size e
theorem Paired.mapP {α β:Type} {F G:α → β → Prop}:∀ {l₁:List α} {l₂:List β},Paired F l₁ l₂ → (∀ a b,F a b → G a b) → Paired G l₁ l₂
  | _,_,.nil,_=>.nil
  | _,_,.cons r t,f=>.cons (f _ _ r) (Paired.mapP t f)
theorem ObjOk.stay (x:ObjOk P w H h a o) (k:∀ b u,(b = a ∨ H b = some (.own a)) → h.get? b = some u → h'.get? b = some u)
    (ho:∀ b,H b = some (.own a) → H' b = some (.own a)) (ht:∀ b xs,H b = some (.tup xs) → H' b = some (.tup xs)):ObjOk P w H' h' a o:=by
  induction o with
  | lst xs=>obtain ⟨z,its,n,r,e⟩:=x; exact ⟨z,its,n,r,k _ _ (.inl rfl) e⟩
  | tup xs=>obtain ⟨z,its,r,ob,e,c⟩:=x; exact ⟨z,its,r,ob,k _ _ (.inl rfl) e,c⟩
  | dK kvs=>obtain ⟨z,y,vs,r,ob,es,ep,e,c⟩:=x; exact ⟨z,y,vs,r,ob,es,ep,k _ _ (.inl rfl) e,c⟩
  | dT kvs =>
    obtain ⟨z,y,xs,r,ob,es,ep,e,c⟩:=x
    exact ⟨z,y,xs,Paired.mapP r fun p q z=>⟨z.1,ht _ _ z.2.1,z.2.2⟩,ob,es,ep,k _ _ (.inl rfl) e,c⟩
  | set S n=>obtain ⟨ob,es,ep,t,e,c⟩:=x; exact ⟨ob,es,ep,t,k _ _ (.inl rfl) e,c⟩
  | ins C dx fs =>
    obtain ⟨d,z,ne,e,mA,⟨od,es,ep,e2,c⟩,r⟩:=x
    exact ⟨ho _ d,z,ne,k _ _ (.inl rfl) e,mA,⟨od,es,ep,k _ _ (.inr d) e2,c⟩,r⟩
  | own y=>obtain ⟨ob,e⟩:=x; exact ⟨ob,k _ _ (.inl rfl) e⟩
  | xd fs=>obtain ⟨mA,⟨od,es,ep,e,c⟩,r⟩:=x; exact ⟨mA,⟨od,es,ep,k _ _ (.inl rfl) e,c⟩,r⟩
  | rng lo hi=>obtain ⟨t,u,v,e⟩:=x; exact ⟨t,u,v,k _ _ (.inl rfl) e⟩
  | frz ob u ih=>obtain ⟨e,q⟩:=x; exact ⟨k _ _ (.inl rfl) e,ih q⟩
  | tbl ps =>
    have e:h.get? a = some { cls:=.none,data:=.fields ps }:=x
    show h'.get? a = some { cls:=.none,data:=.fields ps }
    exact k a _ (.inl rfl) e
  | met f y =>
    have e:h.get? a = some (PySem.W.methodObj (.ref f) (.ref y)):=x
    show h'.get? a = some (PySem.W.methodObj (.ref f) (.ref y))
    exact k a _ (.inl rfl) e
  | ext φ=>obtain ⟨p,⟨o,e⟩,st⟩:=x; exact ⟨st _ _ p fun o q=>k _ _ (.inl rfl) q,⟨o,k _ _ (.inl rfl) e⟩,st⟩
theorem HOk.lt (x:HOk P w H h) (e:H a = some o):a < h.objs.size:=(x a o e).lt
theorem HOk.fresh (x:HOk P w H h) (e:h.objs.size ≤ a):H a = none:=by
  cases q:H a with
  | none=>rfl
  | some u=>exact absurd (Nat.lt_of_lt_of_le (x.lt q) e) (Nat.lt_irrefl _)
theorem HOk.kept (x:HOk P w H h) (k:∀ b u,h.get? b = some u → h'.get? b = some u):HOk P w H h':=fun a o e =>
  (x a o e).stay (fun b u _ q=>k b u q) (fun _ q=>q) fun _ _ q=>q
theorem HOk.laid (x:HOk P w H h) (k:∀ b u,h.get? b = some u → h'.get? b = some u) (hp:h.objs.size ≤ a) (new:ObjOk P w (upd H a o) h' a o):HOk P w (upd H a o) h':=fun b u e=>by
  have hn:=x.fresh hp
  by_cases hb:b = a
  · subst hb; rw [upd_same] at e; cases e; exact new
  · rw [upd_ne hb] at e
    exact (x b u e).stay (fun c v _ q=>k c v q) (fun c q=>by rw [upd_ne (ne_of_none q hn)]; exact q) fun c xs q=>by rw [upd_ne (ne_of_none q hn)]; exact q
end
def Rd (H:Hp) (a:Addr) (u:HO):Prop:=H a = some u ∨ ∃ o,H a = some (.frz o u)
theorem Rd.of {H:Hp} {a:Addr} {u:HO} (h:H a = some u):Rd H a u:=.inl h
theorem Rd.ok {P:Program} {w:World} {H:Hp} {h:Heap} {a:Addr} {u:HO} (r:Rd H a u) (x:HOk P w H h):ObjOk P w H h a u:=by
  rcases r with r | ⟨o,r⟩
  · exact x a u r
  · obtain ⟨_,q⟩:=x a _ r
    exact q
def Mut:Option HO → Prop
  | some (.lst _)=>True
  | some (.dK _)=>True
  | some (.dT _)=>True
  | some (.set _ _)=>True
  | some (.ins _ _ _)=>True
  | some (.ext _)=>True
  | _=>False
section
variable {P:Program} {w:World} {H:Hp} {h h':Heap} {x e:Addr} {o':HO}
theorem HOk.write (ok:HOk P w H h) (mu:Mut (H x)) (he:e = x ∨ H e = some (.own x)) (k:∀ b u,b ≠ e → h.get? b = some u → h'.get? b = some u) (heo:∃ u,h'.get? e = some u)
    (new:ObjOk P w (upd H x o') h' x o'):HOk P w (upd H x o') h':=fun b u q=>by
  have nown:∀ c y,H c = some (.own y) → c ≠ x:=fun c y r z=>by subst z; rw [r] at mu; exact mu
  have ntup:∀ c xs,H c = some (.tup xs) → c ≠ x:=fun c xs r z=>by subst z; rw [r] at mu; exact mu
  by_cases hb:b = x
  · subst hb; rw [upd_same] at q; cases q; exact new
  · rw [upd_ne hb] at q
    by_cases hbe:b = e
    · have q':H b = some (.own x):=by
        rcases he with z | z
        · exact absurd (hbe.trans z) hb
        · rw [hbe]; exact z
      rw [q] at q'; cases q'
      obtain ⟨v,hv⟩:=heo
      exact ⟨v,by rw [hbe]; exact hv⟩
    · refine (ok b u q).stay (fun c v hc r=>k c v ?_ r) (fun c r=>by rw [upd_ne (nown c b r)]; exact r) fun c xs r=>by rw [upd_ne (ntup c xs r)]; exact r
      rcases hc with rfl | hc
      · exact hbe
      · rintro rfl
        rcases he with z | z
        · exact nown c b hc z
        · rw [hc] at z; cases z; exact hb rfl
end
structure Un (fs ex:List Addr) (H H':Hp) (h h':Heap):Prop where
  keep:∀ b o,h.get? b = some o → H b = none → b ∉ fs → b ∉ ex → h'.get? b = some o
  slot:∀ b o,h.get? b = some o → H b = none → b ∈ fs → b ∉ ex → ∃ sl,h'.get? b = some { o with slots:=sl }
  free:∀ b o,h.get? b = some o → H b = none → b ∉ ex → H' b = none
  there:∀ b o,h.get? b = some o → b ∉ ex → ∃ o',h'.get? b = some o'
  tups:∀ b xs,H b = some (.tup xs) → H' b = some (.tup xs)
  frzs:∀ b o u,H b = some (.frz o u) → H' b = some (.frz o u)
  tbls:∀ b ps,H b = some (.tbl ps) → ∃ more,H' b = some (.tbl (ps ++ more))
section
variable {fs fs' ex ex':List Addr} {H H1 H2:Hp} {h h1 h2 h':Heap} {a x e:Addr} {o:HO}
theorem Un.any (u:Un fs ex H H1 h h1) {b:Addr} {ob:Obj} (q:h.get? b = some ob) (n:H b = none) (hx:b ∉ ex):∃ sl,h1.get? b = some { ob with slots:=sl }:=by
  by_cases hb:b ∈ fs
  · exact u.slot b ob q n hb hx
  · exact ⟨ob.slots,u.keep b ob q n hb hx⟩
theorem Un.trans (a:Un fs ex H H1 h h1) (b:Un fs ex H1 H2 h1 h2):Un fs ex H H2 h h2 where
  keep:=fun c ob q n hc hx=>b.keep c ob (a.keep c ob q n hc hx) (a.free c ob q n hx) hc hx
  slot:=fun c ob q n hc hx=>by
    obtain ⟨sl,e1⟩:=a.slot c ob q n hc hx
    obtain ⟨sl',e2⟩:=b.slot c _ e1 (a.free c ob q n hx) hc hx
    exact ⟨sl',e2⟩
  free:=fun c ob q n hx=>by
    obtain ⟨o',e1⟩:=a.there c ob q hx
    exact b.free c o' e1 (a.free c ob q n hx) hx
  there:=fun c ob q hx=>by
    obtain ⟨o',e1⟩:=a.there c ob q hx
    exact b.there c o' e1 hx
  tups:=fun c xs q=>b.tups c xs (a.tups c xs q)
  frzs:=fun c ob xs q=>b.frzs c ob xs (a.frzs c ob xs q)
  tbls:=fun c ps q=>by
    obtain ⟨m1,e1⟩:=a.tbls c ps q
    obtain ⟨m2,e2⟩:=b.tbls c _ e1
    exact ⟨m1 ++ m2,by rw [e2,Array.append_assoc]⟩
theorem Un.kept (k:∀ b u,h.get? b = some u → h'.get? b = some u):Un fs ex H H h h' :=
  ⟨fun b ob q _ _ _=>k b ob q,fun b ob q _ _ _=>⟨ob.slots,k b ob q⟩,fun _ _ _ n _=>n,fun b ob q _=>⟨ob,k b ob q⟩,fun _ _ q=>q,fun _ _ _ q=>q,fun _ ps q=>⟨#[],by rw [q]; simp⟩⟩
theorem Un.refl:Un fs ex H H h h:=Un.kept fun _ _ q=>q
theorem Un.laid (k:∀ b u,h.get? b = some u → h'.get? b = some u) (hp:h.objs.size ≤ a) (hn:H a = none):Un fs ex H (upd H a o) h h' where
  keep:=fun b u q _ _ _=>k b u q
  slot:=fun b u q _ _ _=>⟨u.slots,k b u q⟩
  free:=fun b u q n _=>by rw [upd_ne (Nat.ne_of_lt (Nat.lt_of_lt_of_le (Heap.lt_size q) hp))]; exact n
  there:=fun b u q _=>⟨u,k b u q⟩
  tups:=fun b xs q=>by rw [upd_ne (ne_of_none q hn)]; exact q
  frzs:=fun b u xs q=>by rw [upd_ne (ne_of_none q hn)]; exact q
  tbls:=fun b ps q=>⟨#[],by rw [upd_ne (ne_of_none q hn),q]; simp⟩
theorem Un.write (mu:Mut (H x)) (he:e = x ∨ H e = some (.own x)) (k:∀ b u,b ≠ e → h.get? b = some u → h'.get? b = some u) (heo:∃ u,h'.get? e = some u):Un fs ex H (upd H x o) h h':=by
  have hx:∀ b,H b = none → b ≠ x:=fun b n z=>by subst z; rw [n] at mu; exact mu
  have hb:∀ b,H b = none → b ≠ e:=fun b n z=>by
    subst z
    rcases he with r | r
    · exact hx b n r
    · rw [n] at r; cases r
  have hm:∀ b u,H b = some u → ¬ Mut (some u) → b ≠ x:=fun b u q nm z=>by subst z; rw [q] at mu; exact nm mu
  refine ⟨fun b u q n _ _=>k b u (hb b n) q,fun b u q n _ _=>⟨u.slots,k b u (hb b n) q⟩,fun b u q n _=>by rw [upd_ne (hx b n)]; exact n,fun b u q _=>?_,
    fun b xs q=>by rw [upd_ne (hm b _ q fun z=>z)]; exact q,fun b u xs q=>by rw [upd_ne (hm b _ q fun z=>z)]; exact q,fun b ps q=>⟨#[],by rw [upd_ne (hm b _ q fun z=>z),q]; simp⟩⟩
  by_cases hbe:b = e
  · subst hbe; exact heo
  · exact ⟨u,k b u hbe q⟩
end
def trk (h:Heap) (H:Hp):List Addr:=(List.range h.objs.size).filter fun a=>(H a).isSome
def hidT (h:Heap) (H:Hp):Heap:=PySem.W.hideAll h (trk h H)
theorem hidT_size (h:Heap) (H:Hp):(hidT h H).objs.size = h.objs.size:=PySem.W.hideAll_size _ _
theorem hidT_get {h:Heap} {H:Hp} {b:Addr} {o:Obj} (e:h.get? b = some o) (n:H b = none):(hidT h H).get? b = some o :=
  PySem.W.hideAll_get _ e fun hm=>by
    have q:(H b).isSome = true:=(List.mem_filter.mp hm).2
    rw [n] at q; simp at q
theorem of_hidT {h:Heap} {H:Hp} {b:Addr} {o:Obj} (e:(hidT h H).get? b = some o):h.get? b = some o ∧ H b = none:=by
  have e':h.get? b = some o:=PySem.W.of_hideAll (trk h H) e
  refine ⟨e',?_⟩
  cases q:H b with
  | none=>rfl
  | some x =>
    have hm:b ∈ trk h H:=List.mem_filter.mpr ⟨List.mem_range.mpr (Heap.lt_size e'),by simp [q]⟩
    have z:(hidT h H).get? b = none:=PySem.W.hideAll_none (trk h H) hm
    rw [z] at e; cases e
def allNews (g h:Heap) (L:Addr):List (Addr × Obj):=(List.range h.objs.size).filterMap fun a=>if a = L ∨ (g.get? a).isSome = true then none else (h.get? a).map fun o=>(a,o)
def rest (g h:Heap) (L d:Addr):List (Addr × Obj):=(allNews g h L).filter fun p=>decide (p.1 ≠ d)
end L2
namespace L2
open PySem PySem.Spec PyProof.Rows
structure Mod (K:PySem.W.Frag) (mg:Str → Option Value) (base:Heap):Prop where
  kin:K.In base
  glob:base.Ns mainGlobals mg
  blt:∃ mb,base.Ns builtinsNs mb ∧ ∀ x:Str,x ≠ "__name__" → mb x = bootBuiltins x
  nolimit:base.NoLimit
structure Cx where
  prog:Program
  w:World
  K:PySem.W.Frag
  mg:Str → Option Value
  base:Heap
  A:Around
  N:List Str
  s₀:Shared
  H₀:Hp
  env:Env
  outer:List Env
  stack:List Env
  ex:List Addr
  fn:Str → Bool
  calm:Bool
  pn:List (Addr × Obj)
  xe:Value → Shared → Prop
def frs (l:List Env):List Addr:=l.filterMap (·.frame)
abbrev Cx.fs (X:Cx):List Addr:=frs X.outer
def Vis (sc:Scope) (x:Str):Prop:=sc.names.lookup x = some .local ∨ sc.names.lookup x = some .cell ∨ sc.names.lookup x = some .free
def Loc (sc:Scope) (x:Str):Prop:=sc.names.lookup x = some .local ∨ sc.names.lookup x = some .cell
def Look (env:Env) (h:Heap) (m:Str → Option Value) (x:Str) (u:Value):Prop :=
  (env.kindOf x = some .local ∧ m x = some u) ∨ ((env.kindOf x = some .cell ∨ env.kindOf x = some .free) ∧ ∃ c,env.cells.lookup x = some c ∧ h.IsCell c (some u))
structure Cx.Ok (X:Cx):Prop where
  mod:Mod X.K X.mg X.base
  kind:X.env.scope.kind = .function
  glob:X.env.globals = mainGlobals
  blt:X.env.builtins = builtinsNs
  above:X.s₀.heap.objs.size ≤ X.env.locals
  inj:∀ x y c,X.env.cells.lookup x = some c → X.env.cells.lookup y = some c → x = y
  has:∀ x,(X.env.kindOf x = some .cell ∨ X.env.kindOf x = some .free) → ∃ c,X.env.cells.lookup x = some c
  cab:∀ x c,X.fn x = true → X.env.cells.lookup x = some c → X.s₀.heap.objs.size ≤ c
  hd:X.calm = true → X.A.handled = none
  frames:X.A.frames = some X.stack
  stk:X.stack = X.outer ∨ (X.stack = X.env :: X.outer ∧ X.env.frame = some X.env.locals)
  exf:∀ b ∈ X.ex,b ≠ X.env.locals ∧ ∀ x c,X.env.cells.lookup x = some c → c ≠ b
  bs:∀ b o,X.base.get? b = some o → X.s₀.heap.get? b = some o ∧ X.H₀ b = none
  bsz:X.base.objs.size ≤ X.s₀.heap.objs.size
  noex:∀ b o,X.base.get? b = some o → b ∉ X.ex
  exfs:∀ b ∈ X.ex,b ∉ X.fs
  funs:X.s₀.heap.FunFrames X.base X.outer
  frf:∀ b ∈ X.fs,X.H₀ b = none
structure Inv (X:Cx) (pins:List (Addr × Obj)) (σ:List (Option V)) (H:Hp) (s:Shared):Prop where
  ok:X.Ok
  os:s.os = X.s₀.os
  bare:AllBare s.gens
  base:Un X.fs X.ex X.H₀ H X.s₀.heap s.heap
  loc:∃ m,s.heap.Ns X.env.locals m ∧ ∀ (i:Nat) (x:Str) (v:V),X.N[i]? = some x → σ[i]? = some (some v) → Vis X.env.scope x → ∃ u,RelV v u ∧ Look X.env s.heap m x u
  cell:∀ x c,X.env.cells.lookup x = some c → ∃ v,s.heap.IsCell c v
  free:H X.env.locals = none
  freeC:∀ x c,X.env.cells.lookup x = some c → H c = none
  pin:∀ p ∈ X.pn ++ pins,s.heap.get? p.1 = some p.2 ∧ H p.1 = none ∧ p.1 ≠ X.env.locals ∧ p.1 ∉ X.fs ∧ ∀ v,p.2.data ≠ .cell v
  hok:HOk X.prog X.w H s.heap
  len:σ.length = X.N.length
section
variable {X:Cx} {pins:List (Addr × Obj)} {σ:List (Option V)} {H H':Hp} {s:Shared} {h':Heap}
theorem Cx.Ok.nofr (ok:X.Ok) {b:Addr} {o:Obj} (e:X.base.get? b = some o):b ∉ X.fs:=fun hb=>by
  have:=(ok.funs.mem hb).1
  rw [e] at this; cases this
theorem Inv.bs (I:Inv X pins σ H s):∀ b o,X.base.get? b = some o → s.heap.get? b = some o ∧ H b = none:=fun b o e =>
  ⟨I.base.keep b o (I.ok.bs b o e).1 (I.ok.bs b o e).2 (I.ok.nofr e) (I.ok.noex b o e),I.base.free b o (I.ok.bs b o e).1 (I.ok.bs b o e).2 (I.ok.noex b o e)⟩
theorem Inv.bk (I:Inv X pins σ H s):∀ b o,X.base.get? b = some o → s.heap.get? b = some o:=fun b o e=>(I.bs b o e).1
theorem Inv.mod (I:Inv X pins σ H s):Mod X.K X.mg X.base:=I.ok.mod
theorem Inv.kIn (I:Inv X pins σ H s):X.K.In s.heap:=I.ok.mod.kin.keeps I.bk
theorem Inv.nolimit (I:Inv X pins σ H s):s.heap.NoLimit:=I.ok.mod.nolimit.keeps I.bk
theorem Inv.fr (I:Inv X pins σ H s):∃ m,Fr X.base X.env.locals s.heap m :=
  let ⟨m,hn,_⟩:=I.loc
  ⟨m,hn,I.bk,Nat.le_trans I.ok.bsz I.ok.above⟩
theorem Inv.lt (I:Inv X pins σ H s):X.env.locals < s.heap.objs.size:=let ⟨_,hn,_⟩:=I.loc; hn.lt
theorem Inv.sz (I:Inv X pins σ H s):X.s₀.heap.objs.size ≤ s.heap.objs.size:=Nat.le_trans I.ok.above (Nat.le_of_lt I.lt)
theorem Inv.nofs (I:Inv X pins σ H s) {a:Addr} (h:s.heap.objs.size ≤ a):a ∉ X.fs:=fun hb=>by
  obtain ⟨_,o,ho,_⟩:=I.ok.funs.mem hb
  exact absurd (Nat.lt_of_lt_of_le (Heap.lt_size ho) (Nat.le_trans I.sz h)) (Nat.lt_irrefl _)
theorem Inv.cne (I:Inv X pins σ H s):∀ x c,X.env.cells.lookup x = some c → c ≠ X.env.locals:=fun x c e z=>by
  obtain ⟨v,o,ho,hd⟩:=I.cell x c e
  obtain ⟨m,⟨o',es,ep,ho',hd',_⟩,_⟩:=I.loc
  rw [z,ho'] at ho; cases ho; rw [hd'] at hd; cases hd
theorem Inv.funs (I:Inv X pins σ H s):s.heap.FunFrames X.base X.outer:=by
  have all:∀ (l:List Env),(∀ b ∈ frs l,b ∈ X.fs) → X.s₀.heap.FunFrames X.base l → s.heap.FunFrames X.base l:=by
    intro l
    induction l with
    | nil=>intro _ _; trivial
    | cons env r ih =>
      intro hs hl
      obtain ⟨hk,⟨L,o,hf,hn,ho,hd⟩,hr⟩:=hl
      have hL:L ∈ X.fs:=hs L (by unfold frs; rw [List.filterMap_cons,hf]; exact List.mem_cons_self)
      obtain ⟨sl,e⟩:=I.base.slot L o ho (I.ok.frf L hL) hL fun z=>I.ok.exfs L z hL
      exact ⟨hk,⟨L,_,hf,hn,e,hd⟩,ih (fun b hb=>hs b (by unfold frs; rw [List.filterMap_cons,hf]; exact List.mem_cons_of_mem _ hb)) hr⟩
  exact all X.outer (fun _ hb=>hb) I.ok.funs
theorem Inv.stack (I:Inv X pins σ H s):s.heap.FunFrames X.base X.stack:=by
  rcases I.ok.stk with e | ⟨e,hf⟩
  · rw [e]; exact I.funs
  · rw [e]
    obtain ⟨m,hn,_⟩:=I.loc
    refine .cons (by rw [I.ok.kind]; decide) hf hn ?_ I.funs
    exact Heap.get?_none_of_le (Nat.le_trans I.ok.bsz I.ok.above)
theorem Inv.stkSub (I:Inv X pins σ H s):∀ b ∈ frs X.stack,b ∈ X.env.locals :: X.fs:=fun b hb=>by
  rcases I.ok.stk with e | ⟨e,hf⟩
  · rw [e] at hb; exact List.mem_cons_of_mem _ hb
  · rw [e] at hb
    unfold frs at hb
    rw [List.filterMap_cons,hf] at hb
    exact hb
theorem Inv.stkFree (I:Inv X pins σ H s):∀ b ∈ frs X.stack,H b = none:=fun b hb=>by
  rcases List.mem_cons.mp (I.stkSub b hb) with e | hb
  · rw [e]; exact I.free
  · obtain ⟨_,o,ho,_⟩:=I.ok.funs.mem hb
    exact I.base.free b o ho (I.ok.frf b hb) fun z=>I.ok.exfs b z hb
theorem Inv.step {g':Array GenState} {t':Nat} {d':Drawn} {ch:List Addr} (I:Inv X pins σ H s)
    (hch:∀ b ∈ ch,(b ∈ X.ex ∨ X.s₀.heap.objs.size ≤ b) ∧ b ≠ X.env.locals ∧ (∀ x c,X.env.cells.lookup x = some c → c ≠ b) ∧ ∀ p ∈ X.pn ++ pins,p.1 ≠ b)
    (keep:∀ b o,b ≠ X.env.locals → b ∉ X.fs → b ∉ ch → s.heap.get? b = some o → H b = none → h'.get? b = some o)
    (slot:∀ b o,b ≠ X.env.locals → b ∈ X.fs → b ∉ ch → s.heap.get? b = some o → H b = none → ∃ sl,h'.get? b = some { o with slots:=sl }) (free:∀ b o,b ∉ ch → s.heap.get? b = some o → H b = none → H' b = none)
    (there:∀ b o,b ∉ ch → s.heap.get? b = some o → ∃ o',h'.get? b = some o')
    (tups:∀ b xs,H b = some (.tup xs) → H' b = some (.tup xs)) (frzs:∀ b o u,H b = some (.frz o u) → H' b = some (.frz o u)) (tbls:∀ b ps,H b = some (.tbl ps) → ∃ more,H' b = some (.tbl (ps ++ more)))
    (ns:∀ m,s.heap.Ns X.env.locals m → h'.Ns X.env.locals m) (hok:HOk X.prog X.w H' h') (hg:AllBare g') :
    Inv X pins σ H' { s with heap:=h',gens:=g',drawn:=d',toks:=t' }:=by
  have neL:∀ b o,X.s₀.heap.get? b = some o → b ≠ X.env.locals:=fun b o e=>Nat.ne_of_lt (Nat.lt_of_lt_of_le (Heap.lt_size e) I.ok.above)
  have neC:∀ b o,X.s₀.heap.get? b = some o → b ∉ X.ex → b ∉ ch:=fun b o e hx hb=>by
    rcases (hch b hb).1 with z | z
    · exact hx z
    · exact absurd (Nat.lt_of_lt_of_le (Heap.lt_size e) z) (Nat.lt_irrefl _)
  have cellK:∀ x c,X.env.cells.lookup x = some c → ∀ v,s.heap.IsCell c v → h'.IsCell c v:=fun x c e v ⟨o,ho,hd⟩=>by
    have nch:c ∉ ch:=fun z=>(hch c z).2.2.1 x c e rfl
    by_cases hc:c ∈ X.fs
    · obtain ⟨sl,q⟩:=slot c o (I.cne x c e) hc nch ho (I.freeC x c e)
      exact ⟨_,q,hd⟩
    · exact ⟨o,keep c o (I.cne x c e) hc nch ho (I.freeC x c e),hd⟩
  refine ⟨I.ok,I.os,hg,⟨fun b o e n hb hx=>?_,fun b o e n hb hx=>?_,fun b o e n hx=>?_,fun b o e hx=>?_,fun b xs e=>tups b xs (I.base.tups b xs e),fun b o xs e=>frzs b o xs (I.base.frzs b o xs e),fun b ps e=>?_⟩,?_,fun x c e=>?_,?_,fun x c e=>?_,fun p hp=>?_,hok,I.len⟩
  · exact keep b o (neL b o e) hb (neC b o e hx) (I.base.keep b o e n hb hx) (I.base.free b o e n hx)
  · obtain ⟨sl,e1⟩:=I.base.slot b o e n hb hx
    obtain ⟨sl',e2⟩:=slot b _ (neL b o e) hb (neC b o e hx) e1 (I.base.free b o e n hx)
    exact ⟨sl',e2⟩
  · obtain ⟨o',e1⟩:=I.base.there b o e hx
    exact free b o' (neC b o e hx) e1 (I.base.free b o e n hx)
  · obtain ⟨o',e1⟩:=I.base.there b o e hx
    exact there b o' (neC b o e hx) e1
  · obtain ⟨m1,e1⟩:=I.base.tbls b ps e
    obtain ⟨m2,e2⟩:=tbls b _ e1
    exact ⟨m1 ++ m2,by rw [e2,Array.append_assoc]⟩
  · obtain ⟨m,hn,hl⟩:=I.loc
    refine ⟨m,ns m hn,fun i x v e1 e2 e3=>?_⟩
    obtain ⟨u,r,l⟩:=hl i x v e1 e2 e3
    refine ⟨u,r,?_⟩
    rcases l with l | ⟨k,c,e,z⟩
    · exact .inl l
    · exact .inr ⟨k,c,e,cellK x c e _ z⟩
  · obtain ⟨v,z⟩:=I.cell x c e
    exact ⟨v,cellK x c e v z⟩
  · obtain ⟨m,⟨o,_,_,ho,_⟩,_⟩:=I.loc
    exact free _ o (fun z=>(hch _ z).2.1 rfl) ho I.free
  · obtain ⟨v,o,ho,hd⟩:=I.cell x c e
    exact free c o (fun z=>(hch c z).2.2.1 x c e rfl) ho (I.freeC x c e)
  · obtain ⟨e,n,ne,nf,d⟩:=I.pin p hp
    have nch:p.1 ∉ ch:=fun z=>(hch p.1 z).2.2.2 p hp rfl
    exact ⟨keep p.1 p.2 ne nf nch e n,free p.1 p.2 nch e n,ne,nf,d⟩
theorem Inv.un {t':Nat} (I:Inv X pins σ H s) (u:Un X.fs [] H H' s.heap h') (hok:HOk X.prog X.w H' h'):Inv X pins σ H' { s with heap:=h',toks:=t' }:=by
  obtain ⟨m,⟨o,es,ep,ho,r⟩,_⟩:=id I.loc
  obtain ⟨sl,hL⟩:=u.any ho I.free (by simp)
  exact I.step (g':=s.gens) (d':=s.drawn) (ch:=[]) (fun _ z=>nomatch z) (fun b o _ hb _ e n=>u.keep b o e n hb (by simp)) (fun b o _ hb _ e n=>u.slot b o e n hb (by simp)) (fun b o _ e n=>u.free b o e n (by simp)) (fun b o _ e=>u.there b o e (by simp)) u.tups u.frzs u.tbls (fun m' hm=>by
    obtain ⟨o',es',ep',ho',r'⟩:=hm
    rw [ho] at ho'; cases ho'
    exact ⟨_,es',ep',hL,r'⟩) hok I.bare
theorem Inv.call {g':Array GenState} {t':Nat} {d':Drawn} {ch:List Addr} (I:Inv X pins σ H s) (u:Un (frs X.stack) ch H H' s.heap h') (hok:HOk X.prog X.w H' h') (hg:AllBare g')
    (hch:∀ b ∈ ch,(b ∈ X.ex ∨ X.s₀.heap.objs.size ≤ b) ∧ b ≠ X.env.locals ∧ (∀ x c,X.env.cells.lookup x = some c → c ≠ b) ∧ ∀ p ∈ X.pn ++ pins,p.1 ≠ b) :
    Inv X pins σ H' { s with heap:=h',gens:=g',drawn:=d',toks:=t' }:=by
  obtain ⟨m,⟨o,es,ep,ho,r⟩,_⟩:=id I.loc
  obtain ⟨sl,hL⟩:=u.any ho I.free fun z=>(hch _ z).2.1 rfl
  exact I.step (ch:=ch) hch (fun b o hL hb hc e n=>u.keep b o e n (fun z=>(List.mem_cons.mp (I.stkSub b z)).elim hL hb) hc) (fun b o _ _ hc e n=>u.any e n hc) (fun b o hc e n=>u.free b o e n hc) (fun b o hc e=>u.there b o e hc) u.tups u.frzs u.tbls (fun m' hm=>by
    obtain ⟨o',es',ep',ho',r'⟩:=hm
    rw [ho] at ho'; cases ho'
    exact ⟨_,es',ep',hL,r'⟩) hok hg
theorem Inv.turned {t':Nat} {it:Addr} (I:Inv X pins σ H s) (k:∀ b o,b ≠ it → s.heap.get? b = some o → h'.get? b = some o) (hn:H it = none) (hL:it ≠ X.env.locals)
    (h1:it ∈ X.ex ∨ X.s₀.heap.objs.size ≤ it) (h2:∀ x c,X.env.cells.lookup x = some c → c ≠ it) (h3:∀ p ∈ X.pn ++ pins,p.1 ≠ it):Inv X pins σ H { s with heap:=h',toks:=t' }:=by
  have nit:∀ b u,H b = some u → b ≠ it:=fun b u e z=>by rw [z,hn] at e; cases e
  refine I.step (g':=s.gens) (d':=s.drawn) (ch:=[it]) (fun b hb=>?_) (fun b o _ _ hc e _=>k b o (fun z=>hc (by simp [z])) e) (fun b o _ _ hc e _=>⟨o.slots,k b o (fun z=>hc (by simp [z])) e⟩) (fun _ _ _ _ n=>n)
    (fun b o hc e=>⟨o,k b o (fun z=>hc (by simp [z])) e⟩) (fun _ _ e=>e) (fun _ _ _ e=>e) (fun b ps e=>⟨#[],by rw [e]; simp⟩) (fun m hm=>?_) (fun b u e=>?_) I.bare
  · have e:b = it:=by simpa using hb
    subst e
    exact ⟨h1,hL,h2,h3⟩
  · obtain ⟨o,es,ep,ho,r⟩:=hm
    exact ⟨o,es,ep,k _ o (Ne.symm hL) ho,r⟩
  · refine (I.hok b u e).stay (fun c v hc q=>k c v ?_ q) (fun _ q=>q) fun _ _ q=>q
    rcases hc with z | z
    · rw [z]; exact nit b u e
    · exact nit c _ z
theorem Inv.tok (I:Inv X pins σ H s) (t:Nat):Inv X pins σ H { s with toks:=t }:=I.un (h':=s.heap) (t':=t) Un.refl I.hok
theorem Inv.kept {t':Nat} (I:Inv X pins σ H s) (k:∀ b u,s.heap.get? b = some u → h'.get? b = some u):Inv X pins σ H { s with heap:=h',toks:=t' }:=I.un (Un.kept k) (I.hok.kept k)
theorem Inv.laid {a:Addr} {o:HO} {t':Nat} (I:Inv X pins σ H s) (k:∀ b u,s.heap.get? b = some u → h'.get? b = some u) (hp:s.heap.objs.size ≤ a) (new:ObjOk X.prog X.w (upd H a o) h' a o) :
    Inv X pins σ (upd H a o) { s with heap:=h',toks:=t' }:=I.un (Un.laid k hp (I.hok.fresh hp)) (I.hok.laid k hp new)
theorem Inv.write {x e:Addr} {o:HO} {t':Nat} (I:Inv X pins σ H s) (mu:Mut (H x)) (he:e = x ∨ H e = some (.own x)) (k:∀ b u,b ≠ e → s.heap.get? b = some u → h'.get? b = some u) (heo:∃ u,h'.get? e = some u)
    (new:ObjOk X.prog X.w (upd H x o) h' x o):Inv X pins σ (upd H x o) { s with heap:=h',toks:=t' }:=I.un (Un.write mu he k heo) (I.hok.write mu he k heo new)
theorem Inv.weak {σ':List (Option V)} (I:Inv X pins σ H s) (hl:σ'.length = σ.length) (w:∀ (i:Nat) v,σ'[i]? = some (some v) → σ[i]? = some (some v)):Inv X pins σ' H s :=
  ⟨I.ok,I.os,I.bare,I.base,let ⟨m,hn,hl'⟩:=I.loc; ⟨m,hn,fun i x v e1 e2 e3=>hl' i x v e1 (w i v e2) e3⟩,I.cell,I.free,I.freeC,I.pin,I.hok,hl.trans I.len⟩
theorem Inv.pins_of {pins':List (Addr × Obj)} (I:Inv X pins σ H s) (h:∀ p ∈ pins',s.heap.get? p.1 = some p.2 ∧ H p.1 = none ∧ p.1 ≠ X.env.locals ∧ p.1 ∉ X.fs ∧ ∀ v,p.2.data ≠ .cell v):Inv X pins' σ H s :=
  ⟨I.ok,I.os,I.bare,I.base,I.loc,I.cell,I.free,I.freeC,fun p hp=>(List.mem_append.mp hp).elim (fun z=>I.pin p (List.mem_append_left _ z)) (h p),I.hok,I.len⟩
theorem nodup_ix {N:List Str} (hN:N.Nodup) {i j:Nat} {x:Str} (a:N[i]? = some x) (b:N[j]? = some x):i = j:=by
  obtain ⟨h1,e1⟩:=List.getElem?_eq_some_iff.mp a
  obtain ⟨h2,e2⟩:=List.getElem?_eq_some_iff.mp b
  exact (List.getElem_inj hN).mp (e1.trans e2.symm)
theorem store_ok2 {M:Model} {A:Around} {E:Value → Shared → Prop} {i:Nat} {x:Str} {v:V} {u:Value} {Q:Unit → Shared → Prop} (I:Inv X pins σ H s) (hN:X.N.Nodup) (hi:X.N[i]? = some x) (hx:Loc X.env.scope x) (r:RelV v u)
    (h:∀ s',Inv X pins (σ.set i (some v)) H s' → (∃ a,Heap.SameBut a s.heap s'.heap ∧ (a = X.env.locals ∨ X.env.cells.lookup x = some a)) → Q () s') (hf:X.fn x = true ∨ X.env.scope.names.lookup x = some .local:=by first | exact .inl rfl | exact .inr rfl | assumption):wpAny M A (storeName X.env x u) Q E s:=by
  obtain ⟨m,hn,hl⟩:=id I.loc
  have hcls:(X.env.scope.kind == .class || (X.env.scope.kind == .module && X.env.locals != X.env.globals)) = false:=by rw [I.ok.kind]; rfl
  have hiσ:i < σ.length:=by rw [I.len]; exact (List.getElem?_eq_some_iff.mp hi).1
  have cne:=I.cne
  have tracked:∀ {a:Addr} {h':Heap},(∃ o,s.heap.get? a = some o ∧ H a = none) → Heap.SameBut a s.heap h' → HOk X.prog X.w H h':=fun {a h'} ha hs b ob e=>by
    obtain ⟨_,_,hfree⟩:=ha
    refine (I.hok b ob e).stay (fun c w' hc q=>(hs.2 c ?_).trans q) (fun _ q=>q) fun _ _ q=>q
    rintro rfl
    rcases hc with rfl | hc
    · rw [hfree] at e; cases e
    · rw [hfree] at hc; cases hc
  rcases hx with hk | hk
  · refine wpAny_storeName_local hk hn (fun h' hn' hs=>?_) hcls
    obtain ⟨oL,_,_,hoL,_⟩:=id hn
    refine h _ ⟨I.ok,I.os,I.bare,⟨fun b o e n hb hx=>?_,fun b o e n hb hx=>?_,I.base.free,fun b o e hx=>?_,I.base.tups,I.base.frzs,I.base.tbls⟩,⟨_,hn',fun j y v' e1 e2 e3=>?_⟩,fun y c e=>?_,I.free,I.freeC,fun p hp=>?_,tracked ⟨oL,hoL,I.free⟩ hs,by simpa using I.len⟩ ⟨_,hs,.inl rfl⟩
    · exact (hs.2 b (Nat.ne_of_lt (Nat.lt_of_lt_of_le (Heap.lt_size e) I.ok.above))).trans (I.base.keep b o e n hb hx)
    · obtain ⟨sl,e1⟩:=I.base.slot b o e n hb hx
      exact ⟨sl,(hs.2 b (Nat.ne_of_lt (Nat.lt_of_lt_of_le (Heap.lt_size e) I.ok.above))).trans e1⟩
    · obtain ⟨o',e1⟩:=I.base.there b o e hx
      exact ⟨o',(hs.2 b (Nat.ne_of_lt (Nat.lt_of_lt_of_le (Heap.lt_size e) I.ok.above))).trans e1⟩
    · by_cases hj:j = i
      · subst hj
        rw [hi] at e1; cases e1
        rw [List.getElem?_set_self hiσ] at e2
        cases e2
        exact ⟨u,r,.inl ⟨hk,by simp⟩⟩
      · rw [List.getElem?_set_ne (Ne.symm hj)] at e2
        obtain ⟨u',r',q⟩:=hl j y v' e1 e2 e3
        refine ⟨u',r',?_⟩
        rcases q with ⟨k,e⟩ | ⟨k,c,e,z⟩
        · refine .inl ⟨k,?_⟩
          have:y ≠ x:=fun e=>hj (nodup_ix hN e1 (e ▸ hi))
          simp [this,e]
        · exact .inr ⟨k,c,e,z.sameBut hs (cne y c e)⟩
    · obtain ⟨w',z⟩:=I.cell y c e
      exact ⟨w',z.sameBut hs (cne y c e)⟩
    · obtain ⟨e,n,ne,nf,d⟩:=I.pin p hp
      exact ⟨(hs.2 p.1 ne).trans e,n,ne,nf,d⟩
  · have hfn:X.fn x = true:=by
      rcases hf with z | z
      · exact z
      · rw [z] at hk; cases hk
    obtain ⟨c,hc⟩:=I.ok.has x (.inl hk)
    obtain ⟨w',z⟩:=I.cell x c hc
    refine wpAny_storeName_cell I.ok.kind hk hc z (fun h' hc' hs=>?_)
    obtain ⟨oc,hoc,hocd⟩:=id z
    refine h { s with heap:=h' } ⟨I.ok,I.os,I.bare,⟨fun b o e n hb hx=>?_,fun b o e n hb hx=>?_,I.base.free,fun b o e hx=>?_,I.base.tups,I.base.frzs,I.base.tbls⟩,⟨m,hn.sameBut hs (Ne.symm (cne x c hc)),fun j y v' e1 e2 e3=>?_⟩,fun y c' e=>?_,I.free,I.freeC,fun p hp=>?_,tracked ⟨oc,hoc,I.freeC x c hc⟩ hs,by simpa using I.len⟩ ⟨c,hs,.inr hc⟩
    · exact (hs.2 b (Nat.ne_of_lt (Nat.lt_of_lt_of_le (Heap.lt_size e) (I.ok.cab x c hfn hc)))).trans (I.base.keep b o e n hb hx)
    · obtain ⟨sl,e1⟩:=I.base.slot b o e n hb hx
      exact ⟨sl,(hs.2 b (Nat.ne_of_lt (Nat.lt_of_lt_of_le (Heap.lt_size e) (I.ok.cab x c hfn hc)))).trans e1⟩
    · obtain ⟨o',e1⟩:=I.base.there b o e hx
      exact ⟨o',(hs.2 b (Nat.ne_of_lt (Nat.lt_of_lt_of_le (Heap.lt_size e) (I.ok.cab x c hfn hc)))).trans e1⟩
    · by_cases hj:j = i
      · subst hj
        rw [hi] at e1; cases e1
        rw [List.getElem?_set_self hiσ] at e2
        cases e2
        exact ⟨u,r,.inr ⟨.inl hk,c,hc,hc'⟩⟩
      · rw [List.getElem?_set_ne (Ne.symm hj)] at e2
        obtain ⟨u',r',q⟩:=hl j y v' e1 e2 e3
        refine ⟨u',r',?_⟩
        rcases q with q | ⟨k,c',e,z'⟩
        · exact .inl q
        · refine .inr ⟨k,c',e,z'.sameBut hs ?_⟩
          rintro rfl
          exact hj (nodup_ix hN e1 (I.ok.inj _ _ _ e hc ▸ hi))
    · by_cases hcc:c' = c
      · subst hcc; exact ⟨_,hc'⟩
      · obtain ⟨w2,z2⟩:=I.cell y c' e
        exact ⟨w2,z2.sameBut hs hcc⟩
    · obtain ⟨e,n,ne,nf,d⟩:=I.pin p hp
      refine ⟨(hs.2 p.1 ?_).trans e,n,ne,nf,d⟩
      intro q
      rw [q,hoc] at e
      have q':oc = p.2:=Option.some.inj e
      exact d w' (by rw [← q']; exact hocd)
theorem store_ok {M:Model} {A:Around} {E:Value → Shared → Prop} {i:Nat} {x:Str} {v:V} {u:Value} {Q:Unit → Shared → Prop} (I:Inv X pins σ H s) (hN:X.N.Nodup) (hi:X.N[i]? = some x) (hx:Loc X.env.scope x) (r:RelV v u)
    (h:∀ s',Inv X pins (σ.set i (some v)) H s' → Q () s') (hf:X.fn x = true ∨ X.env.scope.names.lookup x = some .local:=by first | exact .inl rfl | exact .inr rfl | assumption):wpAny M A (storeName X.env x u) Q E s :=
  store_ok2 I hN hi hx r (fun s' I' _=>h s' I') hf
theorem Inv.call' {s':Shared} {ch:List Addr} (I:Inv X pins σ H s) (ho:s'.os = s.os) (u:Un (frs X.stack) ch H H' s.heap s'.heap) (hok:HOk X.prog X.w H' s'.heap) (hg:AllBare s'.gens)
    (hch:∀ b ∈ ch,(b ∈ X.ex ∨ X.s₀.heap.objs.size ≤ b) ∧ b ≠ X.env.locals ∧ (∀ x c,X.env.cells.lookup x = some c → c ≠ b) ∧ ∀ p ∈ X.pn ++ pins,p.1 ≠ b):Inv X pins σ H' s':=by
  obtain ⟨h',g',d',t',o'⟩:=s'
  have e:o' = s.os:=ho
  subst e
  exact I.call (g':=g') (t':=t') (d':=d') u hok hg hch
end
abbrev XK:=Value → Option Addr → Hp → Prop
abbrev St:=List (Option V)
abbrev VK:=V → Hp → Prop
abbrev TE:=St → Hp → VK → Prop
abbrev TT:=St → Hp → (Bool → Hp → Prop) → Prop
abbrev TA:=St → Hp → (List V → Hp → Prop) → Prop
structure Ends where
  nx:St → Hp → Prop
  rt:VK
  bk:St → Hp → Prop:=fun _ _=>False
  ct:St → Hp → Prop:=fun _ _=>False
abbrev TS:=Ends → St → Hp → Prop
def EP (X:Cx) (pins:List (Addr × Obj)) (σ:St) (Q:VK) (u:Value) (s':Shared):Prop:=∃ v H',Inv X pins σ H' s' ∧ RelV v u ∧ Q v H'
def TP (X:Cx) (pins:List (Addr × Obj)) (σ:St) (Q:Bool → Hp → Prop) (b:Bool) (s':Shared):Prop:=∃ H',Inv X pins σ H' s' ∧ Q b H'
def AP (X:Cx) (pins:List (Addr × Obj)) (σ:St) (Q:List V → Hp → Prop) (us:List Value) (s':Shared):Prop:=∃ vs H',Inv X pins σ H' s' ∧ Vals vs us ∧ Q vs H'
def SP (X:Cx) (pins:List (Addr × Obj)) (D:Ends) (f:Flow) (s':Shared):Prop :=
  match f with
  | .next=>∃ σ' H',Inv X pins σ' H' s' ∧ D.nx σ' H'
  | .brk=>∃ σ' H',Inv X pins σ' H' s' ∧ D.bk σ' H'
  | .cont=>∃ σ' H',Inv X pins σ' H' s' ∧ D.ct σ' H'
  | .ret u=>∃ v σ' H',Inv X pins σ' H' s' ∧ RelV v u ∧ D.rt v H'
def PE (X:Cx) (e:Expr) (t:TE):Prop :=
  ∀ (pins:List (Addr × Obj)) (s:Shared) (σ:St) (H:Hp) (Q:VK),Inv X pins σ H s → t σ H Q → wpAny (model X.prog X.w) X.A (eval e X.env) (EP X pins σ Q) X.xe s
def PT (X:Cx) (e:Expr) (t:TT):Prop :=
  ∀ (pins:List (Addr × Obj)) (s:Shared) (σ:St) (H:Hp) (Q:Bool → Hp → Prop),Inv X pins σ H s → t σ H Q → wpAny (model X.prog X.w) X.A (isTrue e X.env (eval e X.env)) (TP X pins σ Q) X.xe s
def PW (X:Cx) (e:Expr) (t:TT):Prop :=
  ∀ (whole:Sem Value) (pins:List (Addr × Obj)) (s:Shared) (σ:St) (H:Hp) (Q:Bool → Hp → Prop),Inv X pins σ H s → t σ H Q → wpAny (model X.prog X.w) X.A (isTrue e X.env whole) (TP X pins σ Q) X.xe s
theorem PW.pt {X:Cx} {e:Expr} {t:TT} (h:PW X e t):PT X e t:=h _
def PA (X:Cx) (es:List Expr) (t:TA):Prop :=
  ∀ (pos:Pos) (pins:List (Addr × Obj)) (s:Shared) (σ:St) (H:Hp) (Q:List V → Hp → Prop),Inv X pins σ H s → t σ H Q → wpAny (model X.prog X.w) X.A (spliced (backTo pos (starEach es X.env))) (AP X pins σ Q) X.xe s
def PS (X:Cx) (st:Stmt) (t:TS):Prop :=
  ∀ (pins:List (Addr × Obj)) (s:Shared) (σ:St) (H:Hp) (D:Ends),Inv X pins σ H s → t D σ H → wpAny (model X.prog X.w) X.A (exec st X.env) (SP X pins D) X.xe s
def PSs (X:Cx) (st:List Stmt) (t:TS):Prop :=
  ∀ (pins:List (Addr × Obj)) (s:Shared) (σ:St) (H:Hp) (D:Ends),Inv X pins σ H s → t D σ H → wpAny (model X.prog X.w) X.A (execs st X.env) (SP X pins D) X.xe s
theorem thn {α:Type} {t:Sem α} {Q Q':α → Shared → Prop} {M:Model} {A:Around} {E:Value → Shared → Prop} {s:Shared} (h:wpAny M A t Q E s) (hQ:∀ a s,Q a s → Q' a s):wpAny M A t Q' E s:=wpAny_mono h hQ fun _ _ x=>x
end L2
namespace L2
open PySem PySem.Spec PyProof.Rows
section
variable {X:Cx}
def tVar (i:Nat):TE:=fun σ H Q=>∃ v,σ[i]? = some (some v) ∧ Q v H
def tC (v:V):TE:=fun _ H Q=>Q v H
theorem pe_var {i:Nat} {x:Str} {pos:Pos} (hN:X.N[i]? = some x) (hv:Vis X.env.scope x) (hd:(x == ("__debug__" : Str)) = false:=by decide) (hcd:(x == ("__classdict__" : Str)) = false:=by decide):PE X (.Name x pos) (tVar i):=by
  intro pins s σ H Q I h
  obtain ⟨v,e,h⟩:=h
  obtain ⟨m,hn,hl⟩:=I.loc
  obtain ⟨u,r,l⟩:=hl i x v hN e hv
  have fin:EP X pins σ Q u s:=⟨v,H,I,r,h⟩
  rcases l with ⟨hk,hm⟩ | ⟨hk,c,hc,hcell⟩
  · exact wpAny_Name (wpAny_loadName_local I.ok.kind hk hn hm fin) hd
  · rcases hk with hk | hk
    · exact wpAny_Name (wpAny_loadName_cell I.ok.kind hk hc hcell fin) hd
    · exact wpAny_Name (wpAny_loadName_free I.ok.kind hk hc hcell fin hcd) hd
theorem pe_int {i j pos}:PE X (.Constant (.int i) j pos) (tC (.int i)):=fun _ _ _ H _ I h=>wpAny_Constant_int ⟨.int i,H,I.tok _,⟨_,rfl⟩,h⟩
theorem pe_bl {b j pos}:PE X (.Constant (.bool b) j pos) (tC (.bl b)):=fun _ _ _ H _ I h=>Constant_bool ⟨.bl b,H,I,rfl,h⟩
theorem pe_non {j pos}:PE X (.Constant .none j pos) (tC .non):=fun _ _ _ H _ I h=>Constant_none ⟨.non,H,I,rfl,h⟩
theorem pe_str {x j pos}:PE X (.Constant (.str x) j pos) (tC (.str x)):=fun _ _ _ H _ I h=>Calls.Constant_str ⟨.str x,H,I.tok _,⟨_,rfl⟩,h⟩
def Gl (X:Cx) (x:Str):Prop:=X.env.kindOf x = some .globalImplicit
theorem ld_glob {E:Value → Shared → Prop} {pins:List (Addr × Obj)} {s:Shared} {σ:St} {H:Hp} {x:Str} {u:Value} {pos:Pos} {Q:Value → Shared → Prop} (I:Inv X pins σ H s) (hg:Gl X x) (hm:X.mg x = some u) (h:Q u s)
    (hd:(x == ("__debug__" : Str)) = false:=by decide):wpAny (model X.prog X.w) X.A (eval (.Name x pos) X.env) Q E s :=
  Calls.Name_function_global I.ok.kind hg (Calls.loadGlobal_global (by rw [I.ok.glob]; exact I.mod.glob.keeps I.bk) hm h) hd
theorem ld_blt {E:Value → Shared → Prop} {pins:List (Addr × Obj)} {s:Shared} {σ:St} {H:Hp} {x:Str} {u:Value} {pos:Pos} {Q:Value → Shared → Prop} (I:Inv X pins σ H s) (hg:Gl X x) (hm:X.mg x = none) (hv:bootBuiltins x = some u) (h:Q u s)
    (hn:x ≠ "__name__" := by decide) (hd:(x == ("__debug__" : Str)) = false:=by decide):wpAny (model X.prog X.w) X.A (eval (.Name x pos) X.env) Q E s:=by
  obtain ⟨mb,h1,h2⟩:=I.mod.blt
  exact Calls.Name_function_global I.ok.kind hg (Calls.loadGlobal_builtin (by rw [I.ok.glob]; exact I.mod.glob.keeps I.bk) hm (by rw [I.ok.blt]; exact h1.keeps I.bk) ((h2 x hn).trans hv) h) hd
theorem pe_glob {x:Str} {v:V} {u:Value} {pos:Pos} (hg:Gl X x) (hm:X.mg x = some u) (r:RelV v u) (hd:(x == ("__debug__" : Str)) = false:=by decide):PE X (.Name x pos) (tC v) :=
  fun _ _ _ H _ I h=>ld_glob I hg hm ⟨v,H,I,r,h⟩ hd
theorem pe_bltn {x:Str} {v:V} {u:Value} {pos:Pos} (hg:Gl X x) (hm:X.mg x = none) (hv:bootBuiltins x = some u) (r:RelV v u) (hn:x ≠ "__name__" := by decide) (hd:(x == ("__debug__" : Str)) = false:=by decide):PE X (.Name x pos) (tC v) :=
  fun _ _ _ H _ I h=>ld_blt I hg hm hv ⟨v,H,I,r,h⟩ hn hd
variable {a b:Expr} {ta tb:TE} {pos:Pos}
def tB (t:TE):TT:=fun σ H Q=>t σ H fun x H1=>∃ c,x = .bl c ∧ Q c H1
theorem pt_val {e:Expr} {t:TE} (h:PE X e t) (he:∀ whole,isTrue e X.env whole = (do let v ← whole; standAt e.pos; holding [v] (truthy v)):=by intro _; rfl):PT X e (tB t):=by
  intro pins s σ H Q I hw
  refine isTrue_plain (thn (h pins s σ H _ I hw) fun v s1 ⟨x,H1,I1,r1,q1⟩=>?_) (he _)
  obtain ⟨d,rfl,q⟩:=q1
  cases r1
  exact wpAny_truthy_bool ⟨H1,I1,q⟩
variable {tA tB':TT} {rest:List Expr}
def tAnd (t u:TT):TT:=fun σ H Q=>t σ H fun c H1=>if c = true then u σ H1 Q else Q false H1
def tNot (t:TT):TT:=fun σ H Q=>t σ H fun c H1=>Q (!c) H1
theorem pw_and1 (ha:PT X a tA):PW X (.BoolOp .And [a] pos) tA:=by
  intro wh pins s σ H Q I h
  refine isTrue_and (thn (ha pins s σ H Q I h) fun c s1 e=>?_)
  cases c with
  | true=>exact isTrue_and_nil e
  | false=>exact e
theorem pw_and (ha:PT X a tA) (hb:PW X (.BoolOp .And (b :: rest) pos) tB'):PW X (.BoolOp .And (a :: b :: rest) pos) (tAnd tA tB'):=by
  intro wh pins s σ H Q I h
  refine isTrue_and (thn (ha pins s σ H _ I h) fun c s1 ⟨H1,I1,q1⟩=>?_)
  cases c with
  | true=>exact hb wh pins s1 σ H1 Q I1 q1
  | false=>exact ⟨H1,I1,q1⟩
theorem pt_not (ha:PT X a tA):PT X (.UnaryOp .Not a pos) (tNot tA):=by
  intro pins s σ H Q I h
  exact isTrue_not (ha pins s σ H (fun c H1=>Q (!c) H1) I h)
def tAndV (ta tb:TE):TE:=fun σ H Q=>ta σ H fun x H1=>∃ c,x = .bl c ∧ if c = true then tb σ H1 Q else Q (.bl false) H1
def tNotV (ta:TE):TE:=fun σ H Q=>ta σ H fun x H1=>∃ c,x = .bl c ∧ Q (.bl (!c)) H1
theorem pe_one {op} {t:TE} (h:PE X a t):PE X (.BoolOp op [a] pos) t:=fun pins s σ H Q I hw=>BoolOp_one (h pins s σ H Q I hw)
theorem pe_and (ha:PE X a ta) (hb:PE X (.BoolOp .And (b :: rest) pos) tb):PE X (.BoolOp .And (a :: b :: rest) pos) (tAndV ta tb):=by
  intro pins s σ H Q I h
  refine BoolOp_and (thn (ha pins s σ H _ I h) fun v s1 ⟨x,H1,I1,r1,q1⟩=>?_)
  obtain ⟨c,rfl,q1⟩:=q1
  cases r1
  refine wpAny_truthy_bool ?_
  cases c with
  | true=>exact hb pins s1 σ H1 Q I1 q1
  | false=>exact ⟨.bl false,H1,I1,rfl,q1⟩
theorem pe_not (ha:PE X a ta):PE X (.UnaryOp .Not a pos) (tNotV ta):=by
  intro pins s σ H Q I h
  refine UnaryOp_ (thn (ha pins s σ H _ I h) fun v s1 ⟨x,H1,I1,r1,q1⟩=>?_)
  obtain ⟨c,rfl,q1⟩:=q1
  cases r1
  exact not_of (wpAny_truthy_bool ⟨.bl (!c),H1,I1,rfl,q1⟩)
def tIf (t:TT) (ta tb:TE):TE:=fun σ H Q=>t σ H fun c H1=>if c = true then ta σ H1 Q else tb σ H1 Q
theorem pe_ifExp {c:Expr} (hc:PT X c tA) (ha:PE X a ta) (hb:PE X b tb):PE X (.IfExp c a b pos) (tIf tA ta tb):=by
  intro pins s σ H Q I h
  refine wpAny_IfExp (thn (hc pins s σ H _ I h) fun d s1 ⟨H1,I1,q1⟩=>?_)
  cases d with
  | true=>exact ha pins s1 σ H1 Q I1 q1
  | false=>exact hb pins s1 σ H1 Q I1 q1
end
end L2
namespace L2
open PySem PySem.Spec PyProof.Rows
def SqL (K:PySem.W.Frag) (H:Hp) (a:Addr) (xs:List V):Prop :=
  Rd H a (.lst xs) ∨
    ∃ (o:Obj) (its:Array Value) (n:Nat),K.lookup a = some o ∧ o.cls = .type "list" ∧ o.dict = none ∧ o.data = .seq its n ∧ its.size ≤ sizeLine ∧ Vals xs its.toList
def SqT (K:PySem.W.Frag) (H:Hp) (a:Addr) (xs:List V):Prop :=
  Rd H a (.tup xs) ∨
    ∃ (o:Obj) (its:Array Value) (n:Nat),K.lookup a = some o ∧ o.cls = .type "tuple" ∧ o.data = .seq its n ∧ its.size ≤ sizeLine ∧ Vals xs its.toList
def absV:Value → Option V
  | .none=>some .non
  | .bool b=>some (.bl b)
  | .int i _=>some (.int i)
  | .str x _=>some (.str x)
  | .bytes b _=>some (.byt b)
  | .float b _=>some (.flt b)
  | .ref a=>some (.ref a)
  | .type n=>some (.ty n)
  | _=>none
theorem RelV.abs {x:V} {u:Value} (r:RelV x u):absV u = some x:=by
  cases x with
  | non=>cases r; rfl
  | bl _=>cases r; rfl
  | int _=>obtain ⟨t,rfl⟩:=r; rfl
  | str _=>obtain ⟨t,rfl⟩:=r; rfl
  | byt _=>obtain ⟨t,rfl⟩:=r; rfl
  | flt _=>obtain ⟨t,rfl⟩:=r; rfl
  | ref _=>cases r; rfl
  | ty _=>cases r; rfl
theorem RelV.inj {x y:V} {u:Value} (r:RelV x u) (q:RelV y u):x = y:=Option.some.inj (r.abs.symm.trans q.abs)
theorem Vals.inj:∀ {xs ys:List V} {us:List Value},Vals xs us → Vals ys us → xs = ys
  | _,_,_,.nil,.nil=>rfl
  | _,_,_,.cons r t,.cons r' t'=>by rw [r.inj r',Vals.inj t t']
section
variable {X:Cx} {pins:List (Addr × Obj)} {σ:St} {H:Hp} {s:Shared} {a:Addr} {xs ys:List V}
theorem SqL.of {K:PySem.W.Frag} (h:H a = some (.lst xs)):SqL K H a xs:=.inl (.inl h)
theorem SqT.of {K:PySem.W.Frag} (h:H a = some (.tup xs)):SqT K H a xs:=.inl (.inl h)
theorem Inv.list (I:Inv X pins σ H s) (h:SqL X.K H a xs):∃ its:List Value,Vals xs its ∧ PlainL s.heap a its.toArray ∧ xs.length ≤ sizeLine:=by
  rcases h with h | ⟨o,its,n,hk,hc,hd,hs,hz,r⟩
  · obtain ⟨z,its,n,r,e⟩:=h.ok I.hok
    exact ⟨its,r,⟨_,n,e,rfl,rfl,rfl⟩,z⟩
  · refine ⟨its.toList,r,⟨o,n,I.kIn a o hk,hc,hd,by simpa using hs⟩,?_⟩
    have e:=r.length
    simp only [Array.length_toList] at e
    omega
theorem Inv.tuple (I:Inv X pins σ H s) (h:SqT X.K H a xs):∃ its:List Value,Vals xs its ∧ IsTup s.heap a its.toArray ∧ xs.length ≤ sizeLine:=by
  rcases h with h | ⟨o,its,n,hk,hc,hs,hz,r⟩
  · obtain ⟨z,its,r,p⟩:=h.ok I.hok
    exact ⟨its,r,p,z⟩
  · refine ⟨its.toList,r,⟨o,I.kIn a o hk,hc,n,by simpa using hs⟩,?_⟩
    have e:=r.length
    simp only [Array.length_toList] at e
    omega
theorem Inv.list_inj (I:Inv X pins σ H s) (h:SqL X.K H a xs) (h':SqL X.K H a ys):xs = ys:=by
  obtain ⟨its,r,⟨o,n,e,_,_,d⟩,_⟩:=I.list h
  obtain ⟨its',r',⟨o',n',e',_,_,d'⟩,_⟩:=I.list h'
  rw [e] at e'; cases e'
  rw [d] at d'
  injection d' with d1 _
  have:its = its':=by simpa using congrArg Array.toList d1
  subst this
  exact r.inj r'
theorem Inv.tuple_inj (I:Inv X pins σ H s) (h:SqT X.K H a xs) (h':SqT X.K H a ys):xs = ys:=by
  obtain ⟨its,r,⟨o,e,_,n,d⟩,_⟩:=I.tuple h
  obtain ⟨its',r',⟨o',e',_,n',d'⟩,_⟩:=I.tuple h'
  rw [e] at e'; cases e'
  rw [d] at d'
  injection d' with d1 _
  have:its = its':=by simpa using congrArg Array.toList d1
  subst this
  exact r.inj r'
end
abbrev Cx.wish (X:Cx) (E:Value → Shared → Prop):Cx:={ X with xe:=E }
abbrev Cx.nox (X:Cx):Cx:=X.wish fun _ _=>False
theorem Cx.Ok.wish {X:Cx} (ok:X.Ok) (E:Value → Shared → Prop):(X.wish E).Ok :=
  ⟨ok.mod,ok.kind,ok.glob,ok.blt,ok.above,ok.inj,ok.has,ok.cab,ok.hd,ok.frames,ok.stk,ok.exf,ok.bs,ok.bsz,ok.noex,ok.exfs,ok.funs,ok.frf⟩
theorem Cx.Ok.unwish {X:Cx} {E:Value → Shared → Prop} (ok:(X.wish E).Ok):X.Ok :=
  ⟨ok.mod,ok.kind,ok.glob,ok.blt,ok.above,ok.inj,ok.has,ok.cab,ok.hd,ok.frames,ok.stk,ok.exf,ok.bs,ok.bsz,ok.noex,ok.exfs,ok.funs,ok.frf⟩
section
variable {X:Cx} {pins:List (Addr × Obj)} {σ:St} {H:Hp} {s:Shared} {E:Value → Shared → Prop}
theorem Inv.wish (I:Inv X pins σ H s) (E:Value → Shared → Prop):Inv (X.wish E) pins σ H s:=⟨I.ok.wish E,I.os,I.bare,I.base,I.loc,I.cell,I.free,I.freeC,I.pin,I.hok,I.len⟩
theorem Inv.unwish (I:Inv (X.wish E) pins σ H s):Inv X pins σ H s:=⟨I.ok.unwish,I.os,I.bare,I.base,I.loc,I.cell,I.free,I.freeC,I.pin,I.hok,I.len⟩
theorem SP.unwish {D:Ends} {f:Flow} {s':Shared} (h:SP (X.wish E) pins D f s'):SP X pins D f s':=by
  cases f with
  | next=>obtain ⟨σ',H',I,q⟩:=h; exact ⟨σ',H',I.unwish,q⟩
  | brk=>obtain ⟨σ',H',I,q⟩:=h; exact ⟨σ',H',I.unwish,q⟩
  | cont=>obtain ⟨σ',H',I,q⟩:=h; exact ⟨σ',H',I.unwish,q⟩
  | ret u=>obtain ⟨v,σ',H',I,r,q⟩:=h; exact ⟨v,σ',H',I.unwish,r,q⟩
theorem PE.nox {e:Expr} {t:TE} (h:PE X.nox e t):PE X e t:=fun pins s σ H Q I hw =>
  wpAny_mono (h pins s σ H Q (I.wish _) hw) (fun _ _ ⟨v,H',I',r,q⟩=>⟨v,H',I'.unwish,r,q⟩) fun _ _ z=>False.elim z
theorem PT.nox {e:Expr} {t:TT} (h:PT X.nox e t):PT X e t:=fun pins s σ H Q I hw =>
  wpAny_mono (h pins s σ H Q (I.wish _) hw) (fun _ _ ⟨H',I',q⟩=>⟨H',I'.unwish,q⟩) fun _ _ z=>False.elim z
theorem PSs.nox {st:List Stmt} {t:TS} (h:PSs X.nox st t):PSs X st t:=fun pins s σ H D I hw =>
  wpAny_mono (h pins s σ H D (I.wish _) hw) (fun _ _ q=>q.unwish) fun _ _ z=>False.elim z
end
section
variable {X:Cx} {st:Stmt} {rest:List Stmt} {t u:TS} {e:Expr} {te:TE} {pos:Pos}
def tNext:TS:=fun D σ H=>D.nx σ H
def tSeq (t u:TS):TS:=fun D σ H=>t { D with nx:=u D } σ H
theorem pss_nil:PSs X [] tNext:=fun _ _ σ H _ I h=>wpAny_execs_nil ⟨σ,H,I,h⟩
theorem pss_cons (h1:PS X st t) (h2:PSs X rest u):PSs X (st :: rest) (tSeq t u):=by
  intro pins s σ H D I h
  refine wpAny_execs_cons (thn (h1 pins s σ H { D with nx:=u D } I h) fun f s1 q=>?_)
  cases f with
  | next =>
    obtain ⟨σ',H',I',q⟩:=q
    exact h2 pins s1 σ' H' D I' q
  | ret v=>exact q
  | brk=>exact q
  | cont=>exact q
theorem pss_one (h1:PS X st t):PSs X [st] t:=by
  intro pins s σ H D I h
  refine wpAny_execs_cons (thn (h1 pins s σ H D I h) fun f s1 q=>?_)
  cases f with
  | next=>exact wpAny_execs_nil q
  | ret v=>exact q
  | brk=>exact q
  | cont=>exact q
theorem Inv.quiet {pins:List (Addr × Obj)} {σ:St} {H:Hp} {s:Shared} (I:Inv X pins σ H s):interactive X.env = false:=by simp [interactive,I.ok.kind]
def tDrop (te:TE):TS:=fun D σ H=>te σ H fun _ H1=>D.nx σ H1
theorem ps_expr (he:PE X e te) (hs:swapsWith e none pos.line X.env = pure false:=by rfl):PS X (.Expr e pos) (tDrop te):=by
  intro pins s σ H D I h
  exact wpAny_Expr_any (thn (he pins s σ H _ I h) fun v s1 ⟨x,H1,I1,r1,q1⟩=>⟨σ,H1,I1,q1⟩) I.quiet hs
def tRet (te:TE):TS:=fun D σ H=>te σ H D.rt
theorem ps_ret (he:PE X e te):PS X (.Return (some e) pos) (tRet te):=by
  intro pins s σ H D I h
  exact wpAny_Return_some (thn (he pins s σ H _ I h) fun v s1 ⟨x,H1,I1,r1,q1⟩=>⟨x,σ,H1,I1,r1,q1⟩)
def tIfS (c:TT) (t u:TS):TS:=fun D σ H=>c σ H fun b H1=>if b = true then t D σ H1 else u D σ H1
theorem ps_if {c:Expr} {a b:List Stmt} {tc:TT} (hc:PT X c tc) (ha:PSs X a t) (hb:PSs X b u):PS X (.If c a b pos) (tIfS tc t u):=by
  intro pins s σ H D I h
  refine wpAny_If (thn (hc pins s σ H _ I h) fun d s1 ⟨H1,I1,q1⟩=>?_)
  cases d with
  | true=>exact ha pins s1 σ H1 D I1 q1
  | false=>exact hb pins s1 σ H1 D I1 q1
def tNever:TS:=fun _ _ _=>False
theorem pss_never {sts:List Stmt}:PSs X sts tNever:=fun _ _ _ _ _ _ h=>h.elim
end
abbrev TG:=V → St → Hp → (St → Hp → Prop) → Prop
abbrev TGs:=List V → St → Hp → (St → Hp → Prop) → Prop
def PG (X:Cx) (target:Expr) (t:TG):Prop :=
  ∀ (pins:List (Addr × Obj)) (s:Shared) (σ:St) (H:Hp) (v:V) (u:Value) (Q:St → Hp → Prop),Inv X pins σ H s → RelV v u → t v σ H Q →
    wpAny (model X.prog X.w) X.A (assign target X.env u) (fun _ s'=>∃ σ' H',Inv X pins σ' H' s' ∧ Q σ' H') X.xe s
def PGs (X:Cx) (ts:List Expr) (t:TGs):Prop :=
  ∀ (pins:List (Addr × Obj)) (s:Shared) (σ:St) (H:Hp) (vs:List V) (us:List Value) (Q:St → Hp → Prop),Inv X pins σ H s → Vals vs us → t vs σ H Q →
    wpAny (model X.prog X.w) X.A (assignInOrder ((assignEach ts X.env).map (·.2)) us) (fun _ s'=>∃ σ' H',Inv X pins σ' H' s' ∧ Q σ' H') X.xe s
abbrev TSet:=V → V → V → Hp → (Hp → Prop) → Prop
def PSet (X:Cx) (t:TSet):Prop :=
  ∀ (pins:List (Addr × Obj)) (s:Shared) (σ:St) (H:Hp) (o i v:V) (ov iv u:Value) (Q:Hp → Prop),Inv X pins σ H s → RelV o ov → RelV i iv → RelV v u → t o i v H Q →
    wpAny (model X.prog X.w) X.A (setItem ov iv u) (fun _ s'=>∃ H',Inv X pins σ H' s' ∧ Q H') X.xe s
section
variable {X:Cx} {pos:Pos}
def gName (i:Nat):TG:=fun v σ H Q=>Q (σ.set i (some v)) H
theorem pg_name {i:Nat} {x:Str} (hN:X.N.Nodup) (hi:X.N[i]? = some x) (hx:Loc X.env.scope x) (hf:X.fn x = true ∨ X.env.scope.names.lookup x = some .local:=by first | exact .inl rfl | exact .inr rfl | assumption):PG X (.Name x pos) (gName i):=by
  intro pins s σ H v u Q I r h
  exact wpAny_assign_Name (store_ok I hN hi hx r (fun s' I'=>⟨_,H,I',h⟩) hf)
def gNil:TGs:=fun vs σ H Q=>vs = [] ∧ Q σ H
def gCons (t:TG) (u:TGs):TGs:=fun vs σ H Q=>∃ v r,vs = v :: r ∧ t v σ H fun σ' H'=>u r σ' H' Q
theorem pgs_nil:PGs X [] gNil:=by
  intro pins s σ H vs us Q I r h
  obtain ⟨e,h⟩:=h
  subst e
  cases r
  exact assignInOrder_nil ⟨σ,H,I,h⟩
theorem pgs_cons {e:Expr} {es:List Expr} {t:TG} {u:TGs} (h1:PG X e t) (h2:PGs X es u)
    (hs:(assignEach (e :: es) X.env).map (·.2) = assign e X.env :: (assignEach es X.env).map (·.2):=by rfl):PGs X (e :: es) (gCons t u):=by
  intro pins s σ H vs us Q I r h
  obtain ⟨v,vr,e1,h⟩:=h
  subst e1
  cases r with
  | cons r rr =>
    rw [hs]
    refine assignInOrder_cons (thn (h1 pins s σ H _ _ _ I r h) fun _ s1 ⟨σ1,H1,I1,q1⟩=>?_)
    exact h2 pins s1 σ1 H1 _ _ Q I1 rr q1
def gTup (K:PySem.W.Frag) (n:Nat) (t:TGs):TG:=fun v σ H Q=>∃ a xs,v = .ref a ∧ SqT K H a xs ∧ xs.length = n ∧ t xs σ H Q
theorem pg_tup {es:List Expr} {k:Nat} {t:TGs} {n:Nat} (hc:X.calm = true) (h:PGs X es t)
    (hn:(assignEach es X.env).length = n:=by rfl) (hst:(assignEach es X.env).findIdx? (·.1) = none:=by rfl):PG X (.Tuple es k pos) (gTup X.K n t):=by
  intro pins s σ H v u Q I r hw
  obtain ⟨a,xs,e1,hq,hl,hw⟩:=hw
  subst e1
  cases r
  obtain ⟨its,rv,ht,hz⟩:=I.tuple hq
  refine assign_Tuple_tuple (I.ok.hd hc) ht (by simp [hn,← hl,rv.length]) hst fun h' hx=>?_
  have I1:Inv X pins σ H { s with heap:=h' }:=I.kept (t':=s.toks) fun b o e=>hx b o (Nat.ne_of_lt (Heap.lt_size e)) e
  exact h pins _ σ H xs _ Q I1 (by simpa using rv) hw
def gSub (to ti:TE) (t:TSet):TG:=fun v σ H Q=>to σ H fun o H1=>ti σ H1 fun i H2=>t o i v H2 fun H3=>Q σ H3
theorem pg_sub {o i:Expr} {to ti:TE} {t:TSet} (ho:PE X o to) (hi:PE X i ti) (hs:PSet X t)
    (ha:∀ v,assign (.Subscript o i pos) X.env v = (do
      let ov ← holding [v] (eval o X.env)
      let iv ← holding [v,ov] (eval i X.env)
      standAt pos
      holding [v,ov,iv] (setItem ov iv v)
      release [v,ov,iv] []):=by intro _; rfl):PG X (.Subscript o i pos) (gSub to ti t):=by
  intro pins s σ H v u Q I r h
  rw [ha]
  refine wpAny_bind (wpAny_holding (thn (ho pins s σ H _ I h) fun ov s1 ⟨x,H1,I1,r1,q1⟩=>?_))
  refine wpAny_bind (wpAny_holding (thn (hi pins s1 σ H1 _ I1 q1) fun iv s2 ⟨y,H2,I2,r2,q2⟩=>?_))
  refine wpAny_bind (wpAny_standAt (wpAny_bind (wpAny_holding (thn (hs pins s2 σ H2 x y v ov iv u _ I2 r1 r2 r q2) fun _ s3 ⟨H3,I3,q3⟩=>?_))))
  exact wpAny_release ⟨σ,H3,I3,q3⟩
def tAsg (te:TE) (g:TG):TS:=fun D σ H=>te σ H fun x H1=>g x σ H1 D.nx
theorem ps_asg {tg e:Expr} {te:TE} {g:TG} (he:PE X e te) (hg:PG X tg g) (hs:swapsWithSole [tg] e pos.line X.env = pure false:=by rfl) (hw:swappedStores [tg] e X.env = pure none:=by rfl)
    (h1:(assignEach [tg] X.env).map (·.2) = [assign tg X.env]:=by rfl):PS X (.Assign [tg] e pos) (tAsg te g):=by
  intro pins s σ H D I h
  refine wpAny_Assign_stores (thn (he pins s σ H _ I h) fun v s1 ⟨x,H1,I1,r1,q1⟩=>?_) hs hw
  rw [h1]
  exact thn (hg pins s1 σ H1 x v _ I1 r1 q1) fun _ s2 q=>q
theorem ps_set {i:Nat} {x:Str} {e:Expr} {te:TE} {pos':Pos} (hN:X.N.Nodup) (hi:X.N[i]? = some x) (hx:Loc X.env.scope x) (he:PE X e te) (hs:swapsWith e (some (.Name x pos')) pos.line X.env = pure false:=by rfl) (hf:X.fn x = true ∨ X.env.scope.names.lookup x = some .local:=by first | exact .inl rfl | exact .inr rfl | assumption) :
    PS X (.Assign [.Name x pos'] e pos) (tAsg te (gName i)):=by
  intro pins s σ H D I h
  refine wpAny_Assign_Name (thn (he pins s σ H _ I h) fun v s1 ⟨y,H1,I1,r1,q1⟩=>?_) hs
  exact store_ok I1 hN hi hx r1 (fun s2 I2=>⟨_,H1,I2,q1⟩) hf
end
section
variable {X:Cx} {pos:Pos}
end
structure It where
  go:Nat → Hp → Prop
  yld:Nat → Hp → V → Hp → Prop
  stop:Nat → Hp → Prop
def FpOk (X:Cx) (pins:List (Addr × Obj)) (H:Hp) (b:Addr):Prop :=
  H b = none ∧ b ≠ X.env.locals ∧ b ∉ X.fs ∧ (b ∈ X.ex ∨ X.s₀.heap.objs.size ≤ b) ∧ (∀ x c,X.env.cells.lookup x = some c → c ≠ b) ∧ ∀ p ∈ X.pn ++ pins,p.1 ≠ b
theorem Inv.fpOk {X:Cx} {pins:List (Addr × Obj)} {σ:St} {H H':Hp} {s:Shared} {b:Addr} (I:Inv X pins σ H s) (hb:s.heap.objs.size ≤ b) (hn:H' b = none):FpOk X pins H' b:=by
  refine ⟨hn,Nat.ne_of_gt (Nat.lt_of_lt_of_le I.lt hb),I.nofs hb,.inr (Nat.le_trans I.sz hb),fun x c e z=>?_,fun p hp z=>?_⟩
  · obtain ⟨v,q⟩:=I.cell x c e
    exact absurd (Nat.lt_of_lt_of_le q.lt (by rw [z]; exact hb)) (Nat.lt_irrefl _)
  · exact absurd (Nat.lt_of_lt_of_le (Heap.lt_size (I.pin p hp).1) (by rw [z]; exact hb)) (Nat.lt_irrefl _)
structure Turn (P:Program) (w:World) (K:PySem.W.Frag) (tg:Expr) (J:It) (fp:List Addr) (it:Addr) (tn:Nat → Heap → Prop):Prop where
  mem:it ∈ fp
  obj:∀ i h,tn i h → ∀ b ∈ fp,∃ o,h.get? b = some o ∧ ∀ v,o.data ≠ .cell v
  keep:∀ i h h',tn i h → (∀ b ∈ fp,∀ o,h.get? b = some o → h'.get? b = some o) → tn i h'
  item:∀ (X:Cx),X.prog = P → X.w = w → X.K = K → X.calm = true → ∀ (i:Nat) (pins:List (Addr × Obj)) (s:Shared) (σ:St) (H:Hp) (E:Value → Shared → Prop),Inv X pins σ H s → (∀ b ∈ fp,FpOk X pins H b) → tn i s.heap → J.go i H →
    wpAny (model P w) X.A (pyNext (.ref it)) (fun r s1=>∃ u,r = some u ∧
      wpAny (model P w) X.A (letOwnedTupleGo tg (.ref it) u) (fun _ s2=>∃ x H',Inv X pins σ H' s2 ∧ RelV x u ∧ J.yld i H x H' ∧ tn (i + 1) s2.heap ∧ ∀ b ∈ fp,H' b = none) E s1) E s
  done:∀ (X:Cx),X.prog = P → X.w = w → X.K = K → X.calm = true → ∀ (i:Nat) (pins:List (Addr × Obj)) (s:Shared) (σ:St) (H:Hp) (E:Value → Shared → Prop),Inv X pins σ H s → (∀ b ∈ fp,FpOk X pins H b) → tn i s.heap → J.stop i H →
    wpAny (model P w) X.A (pyNext (.ref it)) (fun r s1=>r = none ∧ Inv X pins σ H s1) E s
  self:∀ (A:Around) (i:Nat) (s:Shared) (Q:Value → Shared → Prop) (E:Value → Shared → Prop),tn i s.heap → Q (.ref it) s → wpAny (model P w) A (pyIter (.ref it)) Q E s
abbrev TI:=St → Hp → (It → Hp → Prop) → Prop
def PIE (X:Cx) (pins:List (Addr × Obj)) (σ:St) (tg:Expr) (R:It → Hp → Prop) (itv:Value) (s2:Shared):Prop :=
  ∃ (it:Addr) (fp:List Addr) (tn:Nat → Heap → Prop) (J:It) (H':Hp),itv = .ref it ∧ Inv X pins σ H' s2 ∧ Turn X.prog X.w X.K tg J fp it tn ∧ tn 0 s2.heap ∧ (∀ b ∈ fp,FpOk X pins H' b) ∧ R J H'
def PI (X:Cx) (tg iter:Expr) (wi:TI):Prop :=
  ∀ (pins:List (Addr × Obj)) (s:Shared) (σ:St) (H:Hp) (R:It → Hp → Prop),Inv X pins σ H s → wi σ H R →
    wpAny (model X.prog X.w) X.A (eval iter X.env) (fun v s1=>wpAny (model X.prog X.w) X.A (pyIter v) (PIE X pins σ tg R) X.xe s1) X.xe s
theorem go_of {M:Model} {A:Around} {E:Value → Shared → Prop} {s:Shared} {tg:Expr} {it:Addr} {u:Value} {o:Obj} {n:String} {vs:Array Value} {Q:Unit → Shared → Prop} (ho:s.heap.get? it = some o) (hc:o.cls = .type n) (hd:o.data = .fields vs)
    (hn:["enumerate", "zip", "dict_itemiterator", "dict_reverseitemiterator", "odict_iterator", "itertools.zip_longest", "itertools.pairwise"].contains n = false) (hQ:Q () s):wpAny M A (letOwnedTupleGo tg (.ref it) u) Q E s:=by
  unfold letOwnedTupleGo
  cases tg <;> first
    | exact wpAny_pure hQ
    | (cases u <;> first
        | exact wpAny_pure hQ
        | (refine wpAny_bind (wpAny_load ho ?_)
           rw [hc,hd]
           show wpAny M A (if (["enumerate", "zip", "dict_itemiterator", "dict_reverseitemiterator", "odict_iterator", "itertools.zip_longest", "itertools.pairwise"].contains n && vs[0]? == some (rawInt _)) = true then _ else _) Q E s
           rw [if_neg (by intro h; rw [hn,Bool.false_and] at h; cases h)]
           exact wpAny_pure hQ))
def Itl (K:PySem.W.Frag) (a:Addr):It :=
  ⟨fun i H=>∃ xs x,SqL K H a xs ∧ xs[i]? = some x,fun i H x H'=>H' = H ∧ ∀ xs,SqL K H a xs → xs[i]? = some x,fun i H=>∃ xs,SqL K H a xs ∧ xs.length ≤ i⟩
def Itr (lo:Int) (n:Nat):It:=⟨fun i _=>i < n,fun i H x H'=>H' = H ∧ x = .int (lo + i),fun i _=>n ≤ i⟩
theorem turn_list {P:Program} {w:World} {K:PySem.W.Frag} {tg:Expr} (a it:Addr):Turn P w K tg (Itl K a) [it] it (fun i h=>h.IsListIter it a i) where
  mem:=by simp
  obj:=fun i h st b hb=>by
    have e:b = it:=by simpa using hb
    subst e
    obtain ⟨o,e,c,d⟩:=st
    exact ⟨o,e,fun v z=>by rw [d] at z; cases z⟩
  keep:=fun i h h' st k=>st.at fun o e=>k it (by simp) o e
  item:=by
    intro X hP hw hK hc i pins s σ H E I hf st hg
    subst hP hw hK
    obtain ⟨xs,x,hq,hx⟩:=hg
    obtain ⟨its,rv,p,hz⟩:=I.list hq
    obtain ⟨u,hu,ru⟩:=rv.get hx
    obtain ⟨f0,f1,f2,f3,f4,f5⟩:=hf it (by simp)
    refine wpAny_pyNext_list_item st p.isList (x:=u) (by simpa using hu) fun h' st' sb=>?_
    have I1:Inv X pins σ H { s with heap:=h' }:=I.turned (t':=s.toks) (fun b o hb e=>(sb.2 b hb).trans e) f0 f1 f3 f4 f5
    obtain ⟨o,e,c,d⟩:=id st'
    exact ⟨u,rfl,go_of (s:={ s with heap:=h' }) e c d (by decide) ⟨x,H,I1,ru,⟨rfl,fun ys hy=>by rw [I.list_inj hy hq]; exact hx⟩,st',fun b hb=>(hf b hb).1⟩⟩
  done:=by
    intro X hP hw hK hc i pins s σ H E I hf st hg
    subst hP hw hK
    obtain ⟨xs,hq,hx⟩:=hg
    obtain ⟨its,rv,p,hz⟩:=I.list hq
    obtain ⟨f0,f1,f2,f3,f4,f5⟩:=hf it (by simp)
    have hl:=rv.length
    exact wpAny_pyNext_list_end (I.ok.hd hc) st p.isList (by simp; omega) fun h' eb=>⟨rfl,I.turned (t':=s.toks) (fun b o hb e=>eb b o hb e) f0 f1 f3 f4 f5⟩
  self:=fun _ _ _ _ _ st h=>wpAny_pyIter_listiter st h
theorem turn_range {P:Program} {w:World} {K:PySem.W.Frag} {tg:Expr} (it:Addr) (lo:Int) (n:Nat):Turn P w K tg (Itr lo n) [it] it (fun i h=>IsRangeIter h it (lo + (i:Nat) * 1) ((n:Int) - (i:Nat)) 1) where
  mem:=by simp
  obj:=fun i h st b hb=>by
    have e:b = it:=by simpa using hb
    subst e
    exact ⟨_,st,fun v z=>by
      have z':Data.fields _ = Data.cell v:=z
      cases z'⟩
  keep:=fun i h h' st k=>k it (by simp) _ st
  item:=by
    intro X hP hw hK hc i pins s σ H E I hf st hg
    subst hP hw hK
    obtain ⟨f0,f1,f2,f3,f4,f5⟩:=hf it (by simp)
    have W:=Walks.range (prog:=X.prog) (w:=X.w) (I.ok.hd hc) it lo 1 n
    refine W.item i s _ _ hg st fun v h' tk hv st' kk=>?_
    obtain ⟨t,rfl⟩:=hv
    have I1:Inv X pins σ H { s with heap:=h',toks:=tk }:=I.turned (fun b o hb e=>kk b o (by simpa using hb) e) f0 f1 f3 f4 f5
    refine ⟨_,rfl,go_of (s:={ s with heap:=h',toks:=tk }) (n := "range_iterator") st' rfl rfl (by decide) ⟨.int (lo + i),H,I1,⟨t,?_⟩,⟨rfl,rfl⟩,st',fun b hb=>(hf b hb).1⟩⟩
    rw [Int.mul_one]
  done:=by
    intro X hP hw hK hc i pins s σ H E I hf st hg
    subst hP hw hK
    obtain ⟨f0,f1,f2,f3,f4,f5⟩:=hf it (by simp)
    exact wpAny_pyNext_range_end (I.ok.hd hc) st (by have:n ≤ i:=hg; omega) fun h' eb=>⟨rfl,I.turned (t':=s.toks) (fun b o hb e=>eb b o hb e) f0 f1 f3 f4 f5⟩
  self:=fun _ _ _ _ _ st h=>wpAny_pyIter_rangeiter st h
end L2
namespace L2
open PySem PySem.Spec PyProof.Rows
section
variable {X:Cx} {tg:Expr}
def iList (K:PySem.W.Frag) (tl:TE):TI:=fun σ H R=>tl σ H fun x H1=>∃ a,x = .ref a ∧ (∃ xs,SqL K H1 a xs) ∧ R (Itl K a) H1
theorem pi_list {l:Expr} {tl:TE} (hl:PE X l tl):PI X tg l (iList X.K tl):=by
  intro pins s σ H R I h
  refine thn (hl pins s σ H _ I h) fun v s1 ⟨x,H1,I1,r1,q1⟩=>?_
  obtain ⟨a,e,⟨xs,hq⟩,q⟩:=q1
  subst e
  cases r1
  obtain ⟨its,rv,p,hz⟩:=I1.list hq
  refine wpAny_pyIter_list p.isList ?_
  refine ⟨s1.heap.objs.size,[s1.heap.objs.size],_,_,H1,rfl,I1.kept (t':=s1.toks) fun b o e=>Heap.get?_push_of_some _ e,turn_list a _,⟨_,Heap.get?_push_size _ rfl,rfl,rfl⟩,fun b hb=>?_,q⟩
  have e:b = s1.heap.objs.size:=by simpa using hb
  subst e
  exact I1.fpOk (Nat.le_refl _) (I1.hok.fresh (Nat.le_refl _))
theorem range_it {pins:List (Addr × Obj)} {σ:St} {H:Hp} {s:Shared} {R:It → Hp → Prop} {E:Value → Shared → Prop} {lo hi:Int} {t u v:Tok} {tk:Nat} (I:Inv X pins σ H s) (h1 : -(2 ^ 62) ≤ lo) (h2:lo < 2 ^ 62) (h3 : -(2 ^ 62) ≤ hi) (h4:hi < 2 ^ 62)
    (q:R (Itr lo (hi - lo).toNat) H):wpAny (model X.prog X.w) X.A (pyIter (.ref s.heap.objs.size)) (PIE X pins σ tg R) E { s with heap:=s.heap.push { cls:=.type "range", data:=.fields #[.int lo t,.int hi u,.int 1 v] },toks:=tk }:=by
  refine wpAny_pyIter_range (IsRange.new ..) (small_one h1 h2 h3 h4) ?_
  have I1:Inv X pins σ H { s with heap:=s.heap.push { cls:=.type "range", data:=.fields #[.int lo t,.int hi u,.int 1 v] },toks:=tk }:=I.kept fun b o e=>Heap.get?_push_of_some _ e
  refine ⟨(s.heap.push { cls:=.type "range", data:=.fields #[.int lo t,.int hi u,.int 1 v] }).objs.size,[(s.heap.push { cls:=.type "range", data:=.fields #[.int lo t,.int hi u,.int 1 v] }).objs.size],_,_,H,rfl,
    I1.kept (t':=tk) fun b o e=>Heap.get?_push_of_some _ e,turn_range _ lo (hi - lo).toNat,?_,fun b hb=>?_,q⟩
  · have e1:lo + ((0:Nat):Int) * 1 = lo:=by simp
    have e2:(((hi - lo).toNat:Nat):Int) - ((0:Nat):Int) = Builtin.Range.rangeSize lo hi 1:=by rw [rangeSize_one]; split <;> omega
    show IsRangeIter _ _ (lo + ((0:Nat):Int) * 1) ((((hi - lo).toNat:Nat):Int) - ((0:Nat):Int)) 1
    rw [e1,e2]
    exact Heap.get?_push_size _ rfl
  · have e:b = (s.heap.push { cls:=.type "range", data:=.fields #[.int lo t,.int hi u,.int 1 v] }).objs.size:=by simpa using hb
    subst e
    exact I1.fpOk (Nat.le_refl _) (I1.hok.fresh (Nat.le_refl _))
def iRng1 (ta:TA):TI:=fun σ H R=>ta σ H fun vs H1=>∃ j:Int,vs = [.int j] ∧ -(2 ^ 62) ≤ j ∧ j < 2 ^ 62 ∧ R (Itr 0 j.toNat) H1
theorem pi_range1 {a:Expr} {ta:TA} {p pos:Pos} (hg:Gl X "range") (hm:X.mg "range" = none) (ha:PA X [a] ta) (hs:starEach [a] X.env = [(false,eval a X.env)]:=by rfl):PI X tg (.Call (.Name "range" p) [a] [] pos) (iRng1 ta):=by
  intro pins s σ H R I h
  refine Call_ (ld_blt I hg hm boot_range (PyProof.Rows.callWith_type1 (thn (ha pos pins s σ H _ I h) fun us s1 ⟨vs,H1,I1,r1,q1⟩=>?_) hs rfl))
  obtain ⟨j,e,q1,q2,q⟩:=q1
  subst e
  cases r1 with
  | cons r rr =>
    cases rr
    obtain ⟨t,rfl⟩:=r
    exact call_range_1 (range_it I1 (by omega) (by omega) q1 q2 (by simpa using q))
def tFor (wi:TI) (g:TG) (tb:TS):TS:=fun D σ H=>wi σ H fun J H1=>∃ W:Nat → Nat → St → Hp → Prop,(∃ m,W 0 m σ H1) ∧ ∀ i m σ H,W i m σ H →
  (J.stop i H ∧ D.nx σ H) ∨ (J.go i H ∧ ∃ N:St → Hp → Prop,(∀ σ' H',N σ' H' → ∃ m',m' < m ∧ W (i + 1) m' σ' H') ∧ ∀ x H',J.yld i H x H' → g x σ H' fun σ2 H2=>tb { D with nx:=N,ct:=N,bk:=D.nx } σ2 H2)
def pinsAt (fp:List Addr) (h:Heap):List (Addr × Obj):=fp.filterMap fun b=>(h.get? b).map fun o=>(b,o)
theorem mem_pinsAt {fp:List Addr} {h:Heap} {b:Addr} {o:Obj} (hb:b ∈ fp) (e:h.get? b = some o):(b,o) ∈ pinsAt fp h:=List.mem_filterMap.mpr ⟨b,hb,by rw [e]; rfl⟩
theorem of_pinsAt {fp:List Addr} {h:Heap} {p:Addr × Obj} (hp:p ∈ pinsAt fp h):p.1 ∈ fp ∧ h.get? p.1 = some p.2:=by
  obtain ⟨b,hb,e⟩:=List.mem_filterMap.mp hp
  cases q:h.get? b with
  | none=>rw [q] at e; cases e
  | some o =>
    rw [q] at e
    have e':(b,o) = p:=Option.some.inj e
    subst e'
    exact ⟨hb,q⟩
theorem Inv.pinned {pins:List (Addr × Obj)} {σ:St} {H:Hp} {s:Shared} {fp:List Addr} (I:Inv X pins σ H s) (hf:∀ b ∈ fp,FpOk X pins H b) (ho:∀ b ∈ fp,∃ o,s.heap.get? b = some o ∧ ∀ v,o.data ≠ .cell v):Inv X (pins ++ pinsAt fp s.heap) σ H s :=
  I.pins_of fun p hp=>(List.mem_append.mp hp).elim (fun z=>I.pin p (List.mem_append_right _ z)) fun z=>by
    obtain ⟨hb,e⟩:=of_pinsAt z
    obtain ⟨f0,f1,f2,_⟩:=hf p.1 hb
    obtain ⟨o,e',d⟩:=ho p.1 hb
    rw [e] at e'; cases e'
    exact ⟨e,f0,f1,f2,d⟩
theorem Inv.unpinned {pins pl:List (Addr × Obj)} {σ:St} {H:Hp} {s:Shared} (I:Inv X (pins ++ pl) σ H s):Inv X pins σ H s:=I.pins_of fun p hp=>I.pin p (List.mem_append_right _ (List.mem_append_left _ hp))
theorem ps_for {iter:Expr} {body:List Stmt} {wi:TI} {g:TG} {tb:TS} {pos:Pos} (hp:PassesOwn (model X.prog X.w) X.A X.env X.xe) (hc:X.calm = true) (hi:PI X tg iter wi) (hg:PG X tg g) (hb:PSs X body tb)
    (hs:∀ x,foldedSetIterable iter X.env x = pure x:=by intro _; rfl):PS X (.For tg iter body [] pos) (tFor wi g tb):=by
  intro pins s σ H D I h
  refine wpAny_For (thn (hi pins s σ H _ I h) fun v s1 h1=>thn h1 fun itv s2 h2=>?_) hs
  obtain ⟨it,fp,tn,J,H2,e,I2,T,st2,f2,W,⟨m0,w0⟩,turn⟩:=h2
  subst e
  have stat:∀ {H':Hp},(∀ b ∈ fp,H' b = none) → ∀ b ∈ fp,FpOk X pins H' b:=fun hn b hb=>⟨hn b hb,(f2 b hb).2⟩
  refine codeAny_forLoop_any (fun n s'=>∃ i σ' H',Inv X pins σ' H' s' ∧ tn i s'.heap ∧ (∀ b ∈ fp,H' b = none) ∧ W i n σ' H') ?_ m0 ⟨0,σ,H2,I2,st2,fun b hb=>(f2 b hb).1,w0⟩
  rintro n s3 ⟨i,σ3,H3,I3,st3,fr3,w3⟩
  rcases turn i n σ3 H3 w3 with ⟨stop,qn⟩ | ⟨go,N,hN,step⟩
  · refine wpAny_passesOwn hp (thn (T.done X rfl rfl rfl hc i pins s3 σ3 H3 X.xe I3 (stat fr3) st3 stop) fun r s4 ⟨hr,I4⟩=>?_)
    subst hr
    exact wpAny_execs_nil ⟨σ3,H3,I4,qn⟩
  · refine wpAny_passesOwn hp (thn (T.item X rfl rfl rfl hc i pins s3 σ3 H3 X.xe I3 (stat fr3) st3 go) fun r s4 ⟨u,hr,h4⟩=>?_)
    subst hr
    refine wpAny_passesOwn hp (thn h4 fun _ s5 ⟨x,H5,I5,r5,y5,st5,fr5⟩=>?_)
    have I5':=I5.pinned (stat fr5) (T.obj _ _ st5)
    refine wpAny_passesOwn hp (thn (hg _ s5 σ3 H5 x u _ I5' r5 (step x H5 y5)) fun _ s6 ⟨σ6,H6,I6,q6⟩=>?_)
    refine wpAny_passesOwn hp (thn (hb _ s6 σ6 H6 _ I6 q6) fun f s7 q7=>?_)
    have again:∀ {σ7:St} {H7:Hp},Inv X (pins ++ pinsAt fp s5.heap) σ7 H7 s7 → N σ7 H7 → ∃ m,m < n ∧ ∃ i σ' H',Inv X pins σ' H' s7 ∧ tn i s7.heap ∧ (∀ b ∈ fp,H' b = none) ∧ W i m σ' H':=fun {σ7 H7} I7 n7=>by
      obtain ⟨m',hm,w7⟩:=hN σ7 H7 n7
      refine ⟨m',hm,i + 1,σ7,H7,I7.unpinned,T.keep _ _ _ st5 fun b hb o e=>(I7.pin (b,o) (List.mem_append_right _ (List.mem_append_right _ (mem_pinsAt hb e)))).1,fun b hb=>?_,w7⟩
      obtain ⟨o,e,d⟩:=T.obj _ _ st5 b hb
      exact (I7.pin (b,o) (List.mem_append_right _ (List.mem_append_right _ (mem_pinsAt hb e)))).2.1
    cases f with
    | next=>obtain ⟨σ7,H7,I7,n7⟩:=q7; exact again I7 n7
    | cont=>obtain ⟨σ7,H7,I7,n7⟩:=q7; exact again I7 n7
    | brk=>obtain ⟨σ7,H7,I7,q7⟩:=q7; exact ⟨σ7,H7,I7.unpinned,q7⟩
    | ret v=>obtain ⟨x7,σ7,H7,I7,r7,q7⟩:=q7; exact ⟨x7,σ7,H7,I7.unpinned,r7,q7⟩
end
theorem for_list {K:PySem.W.Frag} {a:Addr} {xs:List V} {g:TG} {tb:TS} {D:Ends} {σ:St} {H:Hp} (Pv:Nat → St → Hp → Prop) (h0:Pv 0 σ H) (hl:∀ i σ H,i ≤ xs.length → Pv i σ H → SqL K H a xs)
    (hs:∀ i x σ H,xs[i]? = some x → Pv i σ H → g x σ H fun σ2 H2=>tb { D with nx:=Pv (i + 1),ct:=Pv (i + 1),bk:=D.nx } σ2 H2) (hd:∀ σ H,Pv xs.length σ H → D.nx σ H) :
    ∃ W:Nat → Nat → St → Hp → Prop,(∃ m,W 0 m σ H) ∧ ∀ i m σ H,W i m σ H →
      ((Itl K a).stop i H ∧ D.nx σ H) ∨ ((Itl K a).go i H ∧ ∃ N:St → Hp → Prop,(∀ σ' H',N σ' H' → ∃ m',m' < m ∧ W (i + 1) m' σ' H') ∧ ∀ x H',(Itl K a).yld i H x H' → g x σ H' fun σ2 H2=>tb { D with nx:=N,ct:=N,bk:=D.nx } σ2 H2):=by
  refine ⟨fun i m σ H=>m = xs.length - i ∧ i ≤ xs.length ∧ Pv i σ H,⟨xs.length,by simp,Nat.zero_le _,h0⟩,?_⟩
  rintro i m σ H ⟨rfl,hi,p⟩
  have q:=hl i σ H hi p
  by_cases hlt:i < xs.length
  · refine .inr ⟨⟨xs,xs[i],q,by simp [hlt]⟩,Pv (i + 1),fun σ' H' p'=>⟨xs.length - (i + 1),by omega,rfl,hlt,p'⟩,fun x H' y=>?_⟩
    obtain ⟨e,y⟩:=y
    subst e
    exact hs i x σ _ (y xs q) p
  · have e:i = xs.length:=by omega
    subst e
    exact .inl ⟨⟨xs,q,Nat.le_refl _⟩,hd σ H p⟩
theorem for_range {lo:Int} {n:Nat} {g:TG} {tb:TS} {D:Ends} {σ:St} {H:Hp} (Pv:Nat → St → Hp → Prop) (h0:Pv 0 σ H)
    (hs:∀ i σ H,i < n → Pv i σ H → g (.int (lo + i)) σ H fun σ2 H2=>tb { D with nx:=Pv (i + 1),ct:=Pv (i + 1),bk:=D.nx } σ2 H2) (hd:∀ σ H,Pv n σ H → D.nx σ H) :
    ∃ W:Nat → Nat → St → Hp → Prop,(∃ m,W 0 m σ H) ∧ ∀ i m σ H,W i m σ H →
      ((Itr lo n).stop i H ∧ D.nx σ H) ∨ ((Itr lo n).go i H ∧ ∃ N:St → Hp → Prop,(∀ σ' H',N σ' H' → ∃ m',m' < m ∧ W (i + 1) m' σ' H') ∧ ∀ x H',(Itr lo n).yld i H x H' → g x σ H' fun σ2 H2=>tb { D with nx:=N,ct:=N,bk:=D.nx } σ2 H2):=by
  refine ⟨fun i m σ H=>m = n - i ∧ i ≤ n ∧ Pv i σ H,⟨n,by simp,Nat.zero_le _,h0⟩,?_⟩
  rintro i m σ H ⟨rfl,hi,p⟩
  by_cases hlt:i < n
  · refine .inr ⟨hlt,Pv (i + 1),fun σ' H' p'=>⟨n - (i + 1),by omega,rfl,hlt,p'⟩,fun x H' y=>?_⟩
    obtain ⟨e,y⟩:=y
    subst e y
    exact hs i σ _ hlt p
  · have e:i = n:=by omega
    subst e
    exact .inl ⟨Nat.le_refl _,hd σ H p⟩
end L2
namespace L2
open PySem PySem.Spec PyProof.Rows
abbrev R2:=V → V → Hp → VK → Prop
def OpR (X:Cx) (f:Value → Value → Sem Value) (r:R2):Prop :=
  ∀ (pins:List (Addr × Obj)) (s:Shared) (σ:St) (H:Hp) (x y:V) (v u:Value) (Q:VK),Inv X pins σ H s → RelV x v → RelV y u → r x y H Q →
    wpAny (model X.prog X.w) X.A (f v u) (EP X pins σ Q) X.xe s
def UnR (X:Cx) (f:Value → Sem Value) (r:V → Hp → VK → Prop):Prop :=
  ∀ (pins:List (Addr × Obj)) (s:Shared) (σ:St) (H:Hp) (x:V) (v:Value) (Q:VK),Inv X pins σ H s → RelV x v → r x H Q →
    wpAny (model X.prog X.w) X.A (f v) (EP X pins σ Q) X.xe s
def CallR (X:Cx) (f:Value) (r:List V → Hp → VK → Prop):Prop :=
  ∀ (pins:List (Addr × Obj)) (s:Shared) (σ:St) (H:Hp) (xs:List V) (us:List Value) (Q:VK),Inv X pins σ H s → Vals xs us → r xs H Q →
    wpAny (model X.prog X.w) X.A (call f us) (EP X pins σ Q) X.xe s
def tOp (r:R2) (ta tb:TE):TE:=fun σ H Q=>ta σ H fun x H1=>tb σ H1 fun y H2=>r x y H2 Q
def tUn (r:V → Hp → VK → Prop) (ta:TE):TE:=fun σ H Q=>ta σ H fun x H1=>r x H1 Q
def rI (C:Int → Int → Prop) (g:Int → Int → V):R2:=fun x y H Q=>∃ i j,x = .int i ∧ y = .int j ∧ C i j ∧ Q (g i j) H
def rI0 (g:Int → Int → V):R2:=fun x y H Q=>∃ i j,x = .int i ∧ y = .int j ∧ Q (g i j) H
def rU (g:Int → V):V → Hp → VK → Prop:=fun x H Q=>∃ i,x = .int i ∧ Q (g i) H
section
variable {X:Cx} {a b c:Expr} {ta tb tc:TE} {pos:Pos}
theorem binT (ha:PE X a ta) (hb:PE X b tb) {pins:List (Addr × Obj)} {s:Shared} {σ:St} {H:Hp} {R:V → V → Hp → Prop} (I:Inv X pins σ H s)
    (h:ta σ H fun x H1=>tb σ H1 fun y H2=>R x y H2) {Q:Value → Shared → Prop} {f:Value → Value → Sem Value}
    (hf:∀ v u s2 x y H2,Inv X pins σ H2 s2 → RelV x v → RelV y u → R x y H2 → wpAny (model X.prog X.w) X.A (f v u) Q X.xe s2) :
    wpAny (model X.prog X.w) X.A (eval a X.env) (fun v s₁=>wpAny (model X.prog X.w) X.A (eval b X.env) (fun u s₂=>wpAny (model X.prog X.w) X.A (f v u) Q X.xe s₂) X.xe s₁) X.xe s:=by
  refine thn (ha pins s σ H _ I h) fun v s1 ⟨x,H1,I1,r1,q1⟩=>?_
  refine thn (hb pins s1 σ H1 _ I1 q1) fun u s2 ⟨y,H2,I2,r2,q2⟩=>?_
  exact hf v u s2 x y H2 I2 r1 r2 q2
theorem pe_op {op:Operator} {r:R2} (ho:OpR X (binaryOp op) r) (ha:PE X a ta) (hb:PE X b tb):PE X (.BinOp a op b pos) (tOp r ta tb):=by
  intro pins s σ H Q I h
  exact wpAny_BinOp (binT ha hb I h fun v u s2 x y H2 I2 rx ry q=>ho pins s2 σ H2 x y v u Q I2 rx ry q)
theorem pe_un {op:UnaryOp} {r:V → Hp → VK → Prop} (ho:UnR X (unaryOp op) r) (ha:PE X a ta):PE X (.UnaryOp op a pos) (tUn r ta):=by
  intro pins s σ H Q I h
  exact UnaryOp_ (thn (ha pins s σ H _ I h) fun v s1 ⟨x,H1,I1,r1,q1⟩=>ho pins s1 σ H1 x v Q I1 r1 q1)
theorem opI {f:Value → Value → Sem Value} {C:Int → Int → Prop} {g:Int → Int → Int}
    (rule:∀ (i j:Int) (t u:Tok) (s:Shared) (Q:Value → Shared → Prop) (E:Value → Shared → Prop),C i j → Q (.int (g i j) s.toks) { s with toks:=s.toks + 1 } → wpAny (model X.prog X.w) X.A (f (.int i t) (.int j u)) Q E s) :
    OpR X f (rI C fun i j=>.int (g i j)):=by
  intro pins s σ H x y v u Q I rx ry h
  obtain ⟨i,j,rfl,rfl,hc,q⟩:=h
  obtain ⟨t,rfl⟩:=rx
  obtain ⟨t',rfl⟩:=ry
  exact rule i j t t' s _ _ hc ⟨.int (g i j),H,I.tok _,⟨_,rfl⟩,q⟩
theorem opI0 {f:Value → Value → Sem Value} {g:Int → Int → Int}
    (rule:∀ (i j:Int) (t u:Tok) (s:Shared) (Q:Value → Shared → Prop) (E:Value → Shared → Prop),Q (.int (g i j) s.toks) { s with toks:=s.toks + 1 } → wpAny (model X.prog X.w) X.A (f (.int i t) (.int j u)) Q E s) :
    OpR X f (rI0 fun i j=>.int (g i j)):=by
  intro pins s σ H x y v u Q I rx ry h
  obtain ⟨i,j,rfl,rfl,q⟩:=h
  obtain ⟨t,rfl⟩:=rx
  obtain ⟨t',rfl⟩:=ry
  exact rule i j t t' s _ _ ⟨.int (g i j),H,I.tok _,⟨_,rfl⟩,q⟩
theorem opB0 {f:Value → Value → Sem Value} {g:Int → Int → Bool}
    (rule:∀ (i j:Int) (t u:Tok) (s:Shared) (Q:Value → Shared → Prop) (E:Value → Shared → Prop),Q (.bool (g i j)) s → wpAny (model X.prog X.w) X.A (f (.int i t) (.int j u)) Q E s) :
    OpR X f (rI0 fun i j=>.bl (g i j)):=by
  intro pins s σ H x y v u Q I rx ry h
  obtain ⟨i,j,rfl,rfl,q⟩:=h
  obtain ⟨t,rfl⟩:=rx
  obtain ⟨t',rfl⟩:=ry
  exact rule i j t t' s _ _ ⟨.bl (g i j),H,I,rfl,q⟩
def CDiv (i j:Int):Prop:=0 < j ∧ j < 1073741824
def CPow (i j:Int):Prop:=0 ≤ j ∧ j ≤ 1000000 ∧ i.natAbs < 2 ^ 64
def CMul (i j:Int):Prop:=(-(2 ^ 64) < i ∧ i < 2 ^ 64) ∨ (-(2 ^ 64) < j ∧ j < 2 ^ 64)
theorem CMul.ok {i j:Int} (h:CMul i j):IntMulOk i j:=by
  rcases h with ⟨h1,h2⟩ | ⟨h1,h2⟩
  · exact .of_left (intBits_le_64 h1 h2)
  · exact .of_right (intBits_le_64 h1 h2)
theorem op_add:OpR X (binaryOp .Add) (rI0 fun i j=>.int (i + j)):=opI0 fun _ _ _ _ _ _ _ q=>add_int q
theorem op_sub:OpR X (binaryOp .Sub) (rI0 fun i j=>.int (i - j)):=opI0 fun _ _ _ _ _ _ _ q=>sub_int q
theorem op_mul:OpR X (binaryOp .Mult) (rI CMul fun i j=>.int (i * j)):=opI fun _ _ _ _ _ _ _ hc q=>mul_int q hc.ok
theorem op_fdiv:OpR X (binaryOp .FloorDiv) (rI CDiv fun i j=>.int (i / j)):=opI fun i j _ _ _ _ _ hc q=>by
  have h1:(0:Int) < j:=hc.1
  have h2:j < 1073741824:=hc.2
  exact floordiv_int (by omega) (by rw [Int.fdiv_eq_ediv_of_nonneg i (by omega)]; exact q) (.inl (PyProof.noPylong_small (by omega)))
theorem op_mod:OpR X (binaryOp .Mod) (rI (fun _ j=>0 < j) fun i j=>.int (i % j)):=opI fun i j _ _ _ _ _ hc q=>by
  have h1:(0:Int) < j:=hc
  exact mod_int' (by omega) (by rw [Int.fmod_eq_emod_of_nonneg i (by omega)]; exact q)
theorem op_pow:OpR X (binaryOp .Pow) (rI CPow fun i j=>.int (i ^ j.toNat)):=opI fun _ _ _ _ _ _ _ hc q=>pow_int_small hc.1 hc.2.1 hc.2.2 q
theorem unI {f:Value → Sem Value} {g:Int → Int}
    (rule:∀ (i:Int) (t:Tok) (s:Shared) (Q:Value → Shared → Prop) (E:Value → Shared → Prop),Q (.int (g i) s.toks) { s with toks:=s.toks + 1 } → wpAny (model X.prog X.w) X.A (f (.int i t)) Q E s) :
    UnR X f (rU fun i=>.int (g i)):=by
  intro pins s σ H x v Q I rx h
  obtain ⟨i,rfl,q⟩:=h
  obtain ⟨t,rfl⟩:=rx
  exact rule i t s _ _ ⟨.int (g i),H,I.tok _,⟨_,rfl⟩,q⟩
theorem un_neg:UnR X (unaryOp .USub) (rU fun i=>.int (-i)):=unI fun _ _ _ _ _ q=>neg_int q
end
section
variable {X:Cx} {a b c:Expr} {ta tb tc:TE} {pos:Pos}
theorem op_lt:OpR X (compareOp .Lt) (rI0 fun i j=>.bl (decide (i < j))):=opB0 fun _ _ _ _ _ _ _ q=>lt_int q
theorem op_le:OpR X (compareOp .LtE) (rI0 fun i j=>.bl (decide (i ≤ j))):=opB0 fun _ _ _ _ _ _ _ q=>le_int q
theorem OpR.or {f:Value → Value → Sem Value} {r r':R2} (h:OpR X f r) (h':OpR X f r'):OpR X f (fun x y H Q=>r x y H Q ∨ r' x y H Q):=by
  intro pins s σ H x y v u Q I rx ry q
  rcases q with q | q
  · exact h pins s σ H x y v u Q I rx ry q
  · exact h' pins s σ H x y v u Q I rx ry q
theorem nomark (b:Expr) {op:CmpOp} (h:op ≠ .In:=by decide) (h2:op ≠ .NotIn:=by decide):behindInMarks op b = false:=by
  have e1:(op == CmpOp.In) = false:=by cases op <;> first | rfl | exact absurd rfl h
  have e2:(op == CmpOp.NotIn) = false:=by cases op <;> first | rfl | exact absurd rfl h2
  cases b <;> simp [behindInMarks,e1,e2]
theorem pe_cmpR {op:CmpOp} {r:R2} (ho:OpR X (compareOp op) r) (ha:PE X a ta) (hb:PE X b tb) (hm:behindInMarks op b = false):PE X (.Compare a [op] [b] pos) (tOp r ta tb):=by
  intro pins s σ H Q I h
  exact wpAny_Compare1 (binT ha hb I h fun v u s2 x y H2 I2 rx ry q=>ho pins s2 σ H2 x y v u Q I2 rx ry q) hm
def tTest (t:TE):TT:=fun σ H Q=>t σ H fun x H'=>∃ k,x = .bl k ∧ Q k H'
theorem pt_cmpR {op:CmpOp} {r:R2} (ho:OpR X (compareOp op) r) (ha:PE X a ta) (hb:PE X b tb) (hm:behindInMarks op b = false):PT X (.Compare a [op] [b] pos) (tTest (tOp r ta tb)):=by
  intro pins s σ H Q I h
  refine wpAny_isTrue_Compare1 (thn (ha pins s σ H _ I h) fun v s1 ⟨x,H1,I1,r1,q1⟩=>thn (hb pins s1 σ H1 _ I1 q1) fun u s2 ⟨y,H2,I2,r2,q2⟩ =>
    thn (ho pins s2 σ H2 x y v u _ I2 r1 r2 q2) fun c s3 ⟨z,H3,I3,r3,k,e,q3⟩=>?_) hm
  subst e
  cases r3
  exact wpAny_truthy_bool ⟨H3,I3,q3⟩
def tChain (r r':R2) (ta tb tc:TE):TE:=fun σ H Q=>ta σ H fun x H1=>tb σ H1 fun y H2=>r x y H2 fun z H3=>∃ k,z = .bl k ∧
  (if k = true then tc σ H3 fun w' H4=>r' y w' H4 Q else Q (.bl false) H3)
theorem pe_chain {op op':CmpOp} {r r':R2} (ho:OpR X (compareOp op) r) (ho':OpR X (compareOp op') r') (ha:PE X a ta) (hb:PE X b tb) (hc:PE X c tc)
    (hm:lastMarks [op,op'] [b,c] = false:=by with_unfolding_all rfl):PE X (.Compare a [op,op'] [b,c] pos) (tChain r r' ta tb tc):=by
  intro pins s σ H Q I h
  refine Compare_chain (thn (ha pins s σ H _ I h) fun v s1 ⟨x,H1,I1,r1,q1⟩=>chain_link (thn (hb pins s1 σ H1 _ I1 q1) fun u s2 ⟨y,H2,I2,r2,q2⟩ =>
    thn (ho pins s2 σ H2 x y v u _ I2 r1 r2 q2) fun d s3 ⟨z,H3,I3,r3,k,e,q3⟩=>?_)) hm
  subst e
  cases r3
  refine wpAny_truthy_bool ?_
  cases k with
  | false=>exact ite_ff ⟨.bl false,H3,I3,rfl,q3⟩
  | true=>exact ite_tt (chain_last (thn (hc pins s3 σ H3 _ I3 q3) fun w' s4 ⟨z',H4,I4,r4,q4⟩=>ho' pins s4 σ H4 y z' u w' Q I4 r2 r4 q4))
theorem line63:(sizeLine:Nat) < 2 ^ 63:=by rw [sizeLine_eq]; decide
theorem vals1 {x:V} {us:List Value} (r:Vals [x] us):∃ u,us = [u] ∧ RelV x u:=by
  cases r with
  | cons r1 r2=>cases r2; exact ⟨_,rfl,r1⟩
theorem vals2 {x y:V} {us:List Value} (r:Vals [x,y] us):∃ u w',us = [u,w'] ∧ RelV x u ∧ RelV y w':=by
  cases r with
  | cons r1 r2 =>
    cases r2 with
    | cons r3 r4=>cases r4; exact ⟨_,_,rfl,r1,r3⟩
theorem call_abs:CallR X (.builtin "abs") (fun xs H Q=>∃ i,xs = [.int i] ∧ Q (.int (if i < 0 then -i else i)) H):=by
  intro pins s σ H xs us Q I r h
  obtain ⟨i,rfl,q⟩:=h
  obtain ⟨u,rfl,t,rfl⟩:=vals1 r
  exact call_abs_int fun u tk=>⟨.int (if i < 0 then -i else i),H,I.tok _,⟨_,rfl⟩,q⟩
end
end L2
namespace L2
open PySem PySem.Spec PyProof.Rows
structure ObjM (h:Heap) (x dx C:Addr) (mA:Str → Option Value):Prop where
  obj:h.get? x = some (PySem.W.instObj C dx)
  ns:h.Ns1 dx mA
  ne:dx ≠ x
theorem lookIn_ns {h:Heap} {dx:Addr} {mA:Str → Option Value} (n:h.Ns1 dx mA):∃ od,h.get? dx = some od ∧ ∀ name,PySem.W.lookIn name od = some (mA name):=by
  obtain ⟨o,es,ep,ho,hd,hk,_,hm⟩:=n
  refine ⟨o,ho,fun name=>?_⟩
  have e:=hm name
  unfold nsFind findBy at e
  rw [← Array.find?_toList] at e
  unfold PySem.W.lookIn
  rw [hd]
  dsimp only
  split
  · rename_i y q
    rw [q] at e
    exact congrArg some e
  · rename_i q
    rw [q] at e
    have a:es.toList.any (·.refKey) = false:=by
      rw [List.any_eq_false]
      intro y hy
      obtain ⟨z,t,hkey⟩:=hk y (Array.mem_toList_iff.mp hy)
      simp [DictEntry.refKey,hkey]
    have a':¬ es.toList.any (·.refKey) = true:=by rw [a]; exact Bool.false_ne_true
    rw [if_neg a']
    exact congrArg some e
theorem ObjM.look {h:Heap} {x dx C:Addr} {mA:Str → Option Value} (I:ObjM h x dx C mA):∃ od,PySem.W.InstAt h x (PySem.W.instObj C dx) C (some od) ∧ ∀ name,PySem.W.lookIn name od = some (mA name) :=
  let ⟨od,ho,hl⟩:=lookIn_ns I.ns
  ⟨od,⟨I.obj,rfl,rfl,ho⟩,hl⟩
section
variable {prog:Program} {w:World} {A:Around} {E:Value → Shared → Prop} {s:Shared} {K:PySem.W.Frag} {x dx C f:Addr} {mA:Str → Option Value} {name:Str} {v:Value}
end
section
variable {P:Program} {w:World} {H H':Hp} {h h':Heap} {a C dx:Addr} {fs fs':List (Str × V)}
theorem ins_get (hok:HOk P w H h) (e:H a = some (.ins C dx fs)):∃ mA,ObjM h a dx C mA ∧ (∀ f,RelO (fs.lookup f) (mA f)) ∧ PySem.Within mA (fs.map (·.1)) ∧ fs.length ≤ 1000 ∧ H dx = some (.own a):=by
  obtain ⟨d,z,ne,ob,mA,n,r,q⟩:=(show ObjOk P w H h a (.ins C dx fs) from hok a _ e)
  exact ⟨mA,⟨ob,n,ne⟩,r,q,z,d⟩
end
structure Cls (K:PySem.W.Frag) (C:Addr):Prop where
  pg:PySem.W.plainGet K C Str.empty = true
  hd:PySem.W.hasDictIn K C = true
  po:PySem.W.plainOver K C = true
  sa:PySem.W.findIn K (.ref C) "__setattr__" = some (some (.builtin "object.__setattr__"))
theorem Cls.get {K:PySem.W.Frag} {C:Addr} (c:Cls K C) (f:Str):PySem.W.plainGet K C f = true:=c.pg
section
variable {X:Cx} {pins:List (Addr × Obj)} {σ:St} {H:Hp} {s:Shared} {a C dx:Addr} {fs:List (Str × V)} {f:Str} {v:V} {A:Around} {E:Value → Shared → Prop}
theorem Inv.made (I:Inv X pins σ H s):Inv X pins σ (upd (upd H s.heap.objs.size (.own (s.heap.objs.size + 1))) (s.heap.objs.size + 1) (.ins C s.heap.objs.size []))
    { s with heap:=(s.heap.push PySem.W.emptyDict).push (PySem.W.instObj C s.heap.objs.size) }:=by
  have e1:(s.heap.push PySem.W.emptyDict).get? s.heap.objs.size = some PySem.W.emptyDict:=Heap.get?_push_size s.heap rfl
  have e2:((s.heap.push PySem.W.emptyDict).push (PySem.W.instObj C s.heap.objs.size)).get? (s.heap.objs.size + 1) = some (PySem.W.instObj C s.heap.objs.size):=by
    have:=Heap.get?_push_size (s.heap.push PySem.W.emptyDict) (o:=PySem.W.instObj C s.heap.objs.size) rfl
    rwa [Heap.size_push] at this
  have e3:(s.heap.push PySem.W.emptyDict).Ns s.heap.objs.size (fun _=>none):=⟨PySem.W.emptyDict,#[],_,e1,rfl,(fun e he=>absurd he (by simp)),fun _=>rfl⟩
  have I1:=I.laid (a:=s.heap.objs.size) (o:=.own (s.heap.objs.size + 1)) (h':=s.heap.push PySem.W.emptyDict) (t':=s.toks) (fun b u q=>Heap.get?_push_of_some _ q) (Nat.le_refl _) ⟨_,e1⟩
  refine I1.laid (a:=s.heap.objs.size + 1) (o:=.ins C s.heap.objs.size []) (t':=s.toks) (fun b u q=>Heap.get?_push_of_some _ q) (Nat.le_of_eq (Heap.size_push _ _)) ?_
  have ne:s.heap.objs.size ≠ s.heap.objs.size + 1:=Nat.ne_of_lt (Nat.lt_succ_self _)
  refine ⟨by rw [upd_ne ne,upd_same],Nat.zero_le _,ne,e2,fun _=>none,(Heap.Ns1.of_empty e3).at fun o q=>Heap.get?_push_of_some _ q,fun _=>True.intro,fun y hy=>absurd rfl hy⟩
end
section
variable {X:Cx} {o e value:Expr} {f:Str} {pos pos' tpos:Pos} {ta tv:TE}
end
section
variable {X:Cx} {pins:List (Addr × Obj)} {σ:St} {H:Hp} {s:Shared} {A:Around} {E:Value → Shared → Prop} {Q:Value → Shared → Prop} {c:Value} {b:Bool}
inductive TyOf (K:PySem.W.Frag) (H:Hp):V → Value → Prop where
  | non:TyOf K H .non (.type "NoneType")
  | bl (x:Bool):TyOf K H (.bl x) (.type "bool")
  | int (i:Int):TyOf K H (.int i) (.type "int")
  | str (x:Str):TyOf K H (.str x) (.type "str")
  | flt (x:UInt64):TyOf K H (.flt x) (.type "float")
  | lst {a:Addr} {xs:List V} (e:H a = some (.lst xs)):TyOf K H (.ref a) (.type "list")
  | frz {a:Addr} {o:Obj} {xs:List V} (e:H a = some (.frz o (.lst xs))):TyOf K H (.ref a) (.type "list")
  | tup {a:Addr} {xs:List V} (e:H a = some (.tup xs)):TyOf K H (.ref a) (.type "tuple")
  | dK {a:Addr} {kvs:List (Key × V)} (e:H a = some (.dK kvs)):TyOf K H (.ref a) (.type "dict")
  | dT {a:Addr} {kvs:List (List Key × V)} (e:H a = some (.dT kvs)):TyOf K H (.ref a) (.type "dict")
  | ins {a C dx:Addr} {fs:List (Str × V)} (e:H a = some (.ins C dx fs)) (cl:Cls K C) (ha:PySem.W.findIn K (.ref C) "__class__" = some (some (.builtin "object.__class__")))
      (hn:PySem.W.specialIn K (.builtin "object.__class__") "__get__" = some (some (.builtin "getset_descriptor.__get__"))) (htk:PySem.W.takesIn K (.builtin "object.__class__") = some true)
      (hm:PySem.W.mroIn K C (.type "object") = some true):TyOf K H (.ref a) (.ref C)
theorem isinst_ok {x:V} {u t:Value} (I:Inv X pins σ H s) (rx:RelV x u) (ty:TyOf X.K H x t) (e:PySem.W.kitOne X.K t c = some b) (h:∀ tk,Q (.bool b) { s with toks:=tk }) :
    wpAny (model X.prog X.w) A (call (.builtin "isinstance") [u,c]) Q E s:=by
  cases ty with
  | non=>cases (show u = Value.none from rx); exact PySem.W.kia_one PySem.W.kitx_none I.kIn True.intro e (fun z=>nomatch z) h
  | bl y=>cases (show u = Value.bool y from rx); exact PySem.W.kia_one PySem.W.kitx_bool I.kIn True.intro e (fun z=>nomatch z) h
  | int i=>obtain ⟨t,q⟩:=(show ∃ t,u = Value.int i t from rx); cases q; exact PySem.W.kia_one PySem.W.kitx_int I.kIn True.intro e (fun z=>nomatch z) h
  | str y=>obtain ⟨t,q⟩:=(show ∃ t,u = Value.str y t from rx); cases q; exact PySem.W.kia_one PySem.W.kitx_str I.kIn True.intro e (fun z=>nomatch z) h
  | flt y=>obtain ⟨t,q⟩:=(show ∃ t,u = Value.float y t from rx); cases q; exact PySem.W.kia_one PySem.W.kitx_float I.kIn True.intro e (fun z=>nomatch z) h
  | @lst a xs ea =>
    cases (show u = Value.ref a from rx)
    obtain ⟨_,_,n,_,h1⟩:=(show ObjOk X.prog X.w H s.heap a (.lst xs) from I.hok a _ ea)
    exact PySem.W.kia_one PySem.W.kitx_list I.kIn ⟨_,h1,rfl⟩ e (fun z=>nomatch z) h
  | @frz a ob xs ea =>
    cases (show u = Value.ref a from rx)
    obtain ⟨_,_,_,n,_,h1⟩:=(show ObjOk X.prog X.w H s.heap a (.frz ob (.lst xs)) from I.hok a _ ea)
    exact PySem.W.kia_one PySem.W.kitx_list I.kIn ⟨_,h1,rfl⟩ e (fun z=>nomatch z) h
  | @tup a xs ea =>
    cases (show u = Value.ref a from rx)
    obtain ⟨_,_,_,p⟩:=(show ObjOk X.prog X.w H s.heap a (.tup xs) from I.hok a _ ea)
    obtain ⟨o,h1,h2,_⟩:=p
    exact PySem.W.kia_one PySem.W.kitx_tuple I.kIn ⟨o,h1,h2⟩ e (fun z=>nomatch z) h
  | @dK a kvs ea =>
    cases (show u = Value.ref a from rx)
    obtain ⟨_,_,vs,_,p⟩:=(show ObjOk X.prog X.w H s.heap a (.dK kvs) from I.hok a _ ea)
    obtain ⟨o,es,ep,h1,h2,_⟩:=p
    exact PySem.W.kia_one PySem.W.kitx_dict I.kIn ⟨o,h1,h2.1⟩ e (fun z=>nomatch z) h
  | @dT a kvs ea =>
    cases (show u = Value.ref a from rx)
    obtain ⟨_,_,xs,_,o,es,ep,h1,h2,_⟩:=(show ObjOk X.prog X.w H s.heap a (.dT kvs) from I.hok a _ ea)
    exact PySem.W.kia_one PySem.W.kitx_dict I.kIn ⟨o,h1,h2.1⟩ e (fun z=>nomatch z) h
  | @ins a C dx fs ea cl ha hn htk hm =>
    cases (show u = Value.ref a from rx)
    obtain ⟨mA,O,_⟩:=ins_get I.hok ea
    obtain ⟨od,J,_⟩:=O.look
    exact PySem.W.kia_one (PySem.W.kitx_own (cl.get _) cl.hd ha hn htk hm) I.kIn J e (fun z=>nomatch z) h
end
end L2
namespace L2
open PySem PySem.Spec PyProof.Rows
structure Room (k:Nat) (A:Around):Prop where
  hd:A.handled = none
  dp:A.depth + 3 * k + 5 < recursionLimit
  un:A.units + 16 * k + 200 < cLine
theorem Room.mono {j k:Nat} {A:Around} (r:Room k A) (h:j ≤ k):Room j A:=⟨r.hd,by have:=r.dp; omega,by have:=r.un; omega⟩
theorem Room.deeper {k:Nat} {A:Around} (r:Room (k + 1) A) (env:Env):Room k (A.deeper env) :=
  ⟨r.hd,by have:=r.dp; show A.depth + 1 + 3 * k + 5 < _; omega,by have:=r.un; show A.units + 3 + 16 * k + 200 < _; omega⟩
theorem Room.depth {k:Nat} {A:Around} (r:Room k A):A.depth < recursionLimit:=by have:=r.dp; omega
theorem Room.units {k:Nat} {A:Around} (r:Room k A):A.units + 64 < cLine:=by have:=r.un; omega
theorem Room.units0 {k:Nat} {A:Around} (r:Room k A):A.units < cLine:=by have:=r.un; omega
def tNil:TA:=fun _ H Q=>Q [] H
def tCons (ta:TE) (tr:TA):TA:=fun σ H Q=>ta σ H fun x H1=>tr σ H1 fun xs H2=>Q (x :: xs) H2
section
variable {X:Cx} {e:Expr} {es:List Expr} {te:TE} {t:TA} {pos:Pos}
theorem pa_nil:PA X [] tNil:=fun _ _ _ _ H Q I h=>Calls.spliced_nil ⟨[],H,I,.nil,h⟩
theorem pa_cons (ha:PE X e te) (hr:PA X es t) (hs:starEach (e :: es) X.env = (false,eval e X.env) :: starEach es X.env:=by rfl):PA X (e :: es) (tCons te t):=by
  intro pos pins s σ H Q I h
  rw [hs]
  show wpAny _ _ (spliced ((false,eval e X.env) :: backTo pos (starEach es X.env))) _ _ s
  refine Calls.spliced_cons (thn (ha pins s σ H _ I h) fun u s1 ⟨x,H1,I1,r1,q1⟩=>?_)
  exact thn (hr pos pins s1 σ H1 _ I1 q1) fun us s2 ⟨xs,H2,I2,r2,q2⟩=>⟨x :: xs,H2,I2,.cons r1 r2,q2⟩
def tTup (t:TA):TE:=fun σ H Q=>t σ H fun xs H1=>xs.length ≤ sizeLine ∧ ∀ p,H1 p = none → Q (.ref p) (upd H1 p (.tup xs))
def tLst (t:TA):TE:=fun σ H Q=>t σ H fun xs H1=>xs.length ≤ sizeLine ∧ ∀ p,H1 p = none → Q (.ref p) (upd H1 p (.lst xs))
theorem pe_tup {x1} (h:PA X es t):PE X (.Tuple es x1 pos) (tTup t):=by
  intro pins s σ H Q I hq
  refine wpAny_Tuple_spliced (thn (h pos pins s σ H _ I hq) fun us s1 ⟨xs,H1,I1,r,z,q⟩=>⟨by rw [← r.length]; exact z,?_⟩)
  have hf:H1 s1.heap.objs.size = none:=I1.hok.fresh (Nat.le_refl _)
  refine ⟨.ref s1.heap.objs.size,upd H1 s1.heap.objs.size (.tup xs),I1.laid (t':=s1.toks) (fun b u e=>Heap.get?_push_of_some _ e) (Nat.le_refl _) ?_,rfl,q _ hf⟩
  exact ⟨z,us,r,⟨_,Heap.get?_push_size _ rfl,rfl,_,rfl⟩⟩
theorem pe_lst (h:PA X es t):PE X (.List es pos) (tLst t):=by
  intro pins s σ H Q I hq
  refine wpAny_List_spliced (thn (h pos pins s σ H _ I hq) fun us s1 ⟨xs,H1,I1,r,z,q⟩=>⟨by rw [← r.length]; exact z,?_⟩)
  have hf:H1 s1.heap.objs.size = none:=I1.hok.fresh (Nat.le_refl _)
  refine ⟨.ref s1.heap.objs.size,upd H1 s1.heap.objs.size (.lst xs),I1.laid (t':=s1.toks) (fun b u e=>Heap.get?_push_of_some _ e) (Nat.le_refl _) ?_,rfl,q _ hf⟩
  exact ⟨z,us,0,r,Heap.get?_push_size _ rfl⟩
end
abbrev Sp:=List V → Hp → VK → XK → Prop
abbrev CXT:=List Env → Hp → Shared → XK → Value → Shared → Prop
structure Env0 (P:Program) (w:World) (K:PySem.W.Frag) (mg:Str → Option Value) (base:Heap) (A:Around) (outer:List Env) (s:Shared) (H:Hp):Prop where
  frames:A.frames = some outer
  mod:Mod K mg base
  bs:∀ b o,base.get? b = some o → s.heap.get? b = some o ∧ H b = none
  bsz:base.objs.size ≤ s.heap.objs.size
  funs:s.heap.FunFrames base outer
  frf:∀ b ∈ frs outer,H b = none
  hok:HOk P w H s.heap
  bare:AllBare s.gens
def CE (outer:List Env) (P:Program) (w:World) (H:Hp) (s:Shared) (Q:VK) (u:Value) (s':Shared):Prop :=
  ∃ v H',s'.os = s.os ∧ AllBare s'.gens ∧ Un (frs outer) [] H H' s.heap s'.heap ∧ HOk P w H' s'.heap ∧ RelV v u ∧ Q v H'
def CR (CX:CXT) (outer:List Env) (P:Program) (w:World) (H:Hp) (s:Shared) (Q:VK) (E:XK) (r:Result) (s':Shared):Prop :=
  match r with
  | .ok (.ret u)=>CE outer P w H s Q u s'
  | .ok _=>False
  | .error e=>CX outer H s E e s'
structure FnOk (P:Program) (w:World) (K:PySem.W.Frag) (mg:Str → Option Value) (base:Heap) (CX:CXT) (k:Nat) (f:Addr) (fd:FuncData) (ps:List Str) (sp:Sp):Prop where
  len:∀ vs H Q E,sp vs H Q E → vs.length = ps.length
  run:∀ (A:Around) (outer:List Env) (s:Shared) (H:Hp) (args:Args) (us:List Value) (vs:List V) (Q:VK) (E:XK),Room k A → Env0 P w K mg base A outer s H → BindsTo s fd args (ps.zip us) → Vals vs us → sp vs H Q E →
    codeAny (model P w) A (.call (.ref f) args) (CR CX outer P w H s Q E) s
section
variable {X:Cx} {pins:List (Addr × Obj)} {σ:St} {H:Hp} {s s':Shared}
theorem Inv.env0 (I:Inv X pins σ H s):Env0 X.prog X.w X.K X.mg X.base X.A X.stack s H :=
  ⟨I.ok.frames,I.ok.mod,I.bs,Nat.le_trans I.ok.bsz I.sz,I.stack,I.stkFree,I.hok,I.bare⟩
theorem Inv.after {Q:VK} {u:Value} (I:Inv X pins σ H s) (h:CE X.stack X.prog X.w H s Q u s'):EP X pins σ Q u s':=by
  obtain ⟨v,H',os,bare,un,hok,r,q⟩:=h
  obtain ⟨hh,g,d,t,os'⟩:=s'
  obtain rfl:os' = s.os:=os
  exact ⟨v,H',I.call (h':=hh) (g':=g) (d':=d) (t':=t) (ch:=[]) un hok bare (fun b z=>absurd z (by simp)),r,q⟩
end
def tCall (sp:Sp) (dvs:List V) (E:XK) (t:TA):TE:=fun σ H Q=>t σ H fun vs H1=>sp (vs ++ dvs) H1 Q E
def Binds (K:PySem.W.Frag) (fd:FuncData) (ps:List Str) (ds:List Value):Prop :=
  ∀ (s:Shared) (us:List Value),K.In s.heap → (us ++ ds).length = ps.length → BindsTo s fd ⟨us,[]⟩ (ps.zip (us ++ ds))
theorem Binds.all {K:PySem.W.Frag} {fd:FuncData} {ps:List Str} (h:∀ us:List Value,us.length = ps.length → bindArgs fd ⟨us,[]⟩ = pure (ps.zip us)):Binds K fd ps []:=fun s us _ hl=>by
  rw [List.append_nil] at hl ⊢
  exact .of_eq (h us hl)
def Passes (CX:CXT) (X:Cx) (E:XK):Prop:=∀ (pins:List (Addr × Obj)) (σ:St) (H:Hp) (s:Shared) (e:Value) (s':Shared),Inv X pins σ H s → CX X.stack H s E e s' → X.xe e s'
section
variable {X:Cx} {CX:CXT} {k:Nat} {f C:Addr} {fd:FuncData} {ps:List Str} {sp:Sp} {dvs:List V} {ds:List Value} {E:XK} {x m:Str} {p pos apos:Pos} {e o:Expr} {es:List Expr} {ta:TE} {t:TA}
theorem run_fn {pins:List (Addr × Obj)} {σ:St} {H:Hp} {s:Shared} {Q:VK} {us:List Value} {vs:List V} (F:FnOk X.prog X.w X.K X.mg X.base CX k f fd ps sp) (hr:Room k X.A) (hb:Binds X.K fd ps ds) (hd:Vals dvs ds) (hx:Passes CX X E)
    (I:Inv X pins σ H s) (r:Vals vs us) (h:sp (vs ++ dvs) H Q E):wpAny (model X.prog X.w) X.A (call (.ref f) us) (EP X pins σ Q) X.xe s:=by
  have r2:Vals (vs ++ dvs) (us ++ ds):=r.append hd
  have hl:(us ++ ds).length = ps.length:=by rw [← r2.length]; exact F.len _ _ _ _ h
  refine wpAny_call (codeAny_mono (F.run X.A X.stack s H ⟨us,[]⟩ (us ++ ds) (vs ++ dvs) Q E hr I.env0 (hb s us I.kIn hl) r2 h) fun r s' hq=>?_)
  cases r with
  | error e=>exact hx pins σ H s e s' I hq
  | ok fl =>
    cases fl with
    | ret u=>exact I.after hq
    | next=>exact False.elim hq
    | brk=>exact False.elim hq
    | cont=>exact False.elim hq
theorem pe_call (F:FnOk X.prog X.w X.K X.mg X.base CX k f fd ps sp) (hr:Room k X.A) (hg:Gl X x) (hm:X.mg x = some (.ref f)) (hk:PySem.W.keepIn X.K (.ref f) = true) (hb:Binds X.K fd ps ds) (hd:Vals dvs ds) (hx:Passes CX X E)
    (ha:PA X (e :: es) t) (hdb:(x == ("__debug__" : Str)) = false:=by decide) (he:starEach (e :: es) X.env = (false,eval e X.env) :: starEach es X.env:=by rfl) (hpl:(backTo pos (starEach es X.env)).any (·.1) = false:=by rfl) :
    PE X (.Call (.Name x p) (e :: es) [] pos) (tCall sp dvs E t):=by
  intro pins s σ H Q I h
  refine wpAny_Call_Name_kw (ld_glob I hg hm ?_ hdb)
  refine PySem.W.callWith_K (h₀:=X.base) I.ok.mod.kin hk (thn (ha pos pins s σ H _ I h) fun us s1 ⟨vs,H1,I1,r,q⟩=>⟨I1.kIn,?_⟩) he hpl
  exact run_fn F hr hb hd hx I1 r q
end
section
variable {X:Cx} {CX:CXT} {k:Nat} {f C:Addr} {fd:FuncData} {ps ks:List Str} {sp:Sp} {E:XK} {x m:Str} {p pos apos kpos:Pos} {e o:Expr} {es:List Expr} {kws:List Keyword} {te ta:TE} {t tk:TA} {nm:Option Str}
variable {g:List Value → List Value → List Value} {gV:List V → List V → List V}
end
structure FnScope (N P:List Str) (sc:Scope):Prop where
  kind:sc.kind = .function
  co:sc.isCoroutine = false
  gen:sc.isGenerator = false
  nd:N.Nodup
  pre:N.take P.length = P
  par:∀ x ∈ P,sc.names.lookup x = some .local ∨ sc.names.lookup x = some .cell
  nofree:∀ y ∈ sc.names,y.2 ≠ .free
theorem bindL_out {kindOf:Str → Option NameKind} {x:Str}:∀ {binds:List (Str × Value)} {m:Str → Option Value},(∀ v,(x,v) ∉ binds) → bindL kindOf binds m x = m x
  | [],_,_=>rfl
  | (n,v) :: r,m,h=>by
    unfold bindL
    rw [bindL_out fun w hw=>h w (List.mem_cons_of_mem _ hw)]
    split
    · have:x ≠ n:=by rintro rfl; exact h v List.mem_cons_self
      simp [this]
    · rfl
theorem bindC_out {kindOf:Str → Option NameKind} {x:Str}:∀ {binds:List (Str × Value)} {m:Str → Option Value},(∀ v,(x,v) ∉ binds) → bindC kindOf binds m x = m x
  | [],_,_=>rfl
  | (n,v) :: r,m,h=>by
    unfold bindC
    rw [bindC_out fun w hw=>h w (List.mem_cons_of_mem _ hw)]
    split
    · rfl
    · have:x ≠ n:=by rintro rfl; exact h v List.mem_cons_self
      simp [this]
theorem bindL_get {kindOf:Str → Option NameKind} {x:Str} {v:Value}:∀ {P:List Str} {vs:List Value} {i:Nat} {m:Str → Option Value},P.Nodup → P[i]? = some x → vs[i]? = some v → kindOf x = some .local →
    bindL kindOf (P.zip vs) m x = some v
  | [],_,_,_,_,h,_,_=>by simp at h
  | _ :: _,[],_,_,_,_,h,_=>by simp at h
  | p :: P,w :: vs,0,m,nd,h1,h2,hk=>by
    simp at h1 h2; subst h1; subst h2
    show bindL kindOf ((p,w) :: P.zip vs) m p = _
    unfold bindL
    rw [bindL_out fun v hv=>(List.nodup_cons.mp nd).1 (List.of_mem_zip hv).1,if_pos hk]
    simp
  | p :: P,w :: vs,i + 1,m,nd,h1,h2,hk=>by
    show bindL kindOf ((p,w) :: P.zip vs) m x = _
    unfold bindL
    exact bindL_get (i:=i) (List.nodup_cons.mp nd).2 (by simpa using h1) (by simpa using h2) hk
theorem bindC_get {kindOf:Str → Option NameKind} {x:Str} {v:Value}:∀ {P:List Str} {vs:List Value} {i:Nat} {m:Str → Option Value},P.Nodup → P[i]? = some x → vs[i]? = some v → kindOf x ≠ some .local →
    bindC kindOf (P.zip vs) m x = some v
  | [],_,_,_,_,h,_,_=>by simp at h
  | _ :: _,[],_,_,_,_,h,_=>by simp at h
  | p :: P,w :: vs,0,m,nd,h1,h2,hk=>by
    simp at h1 h2; subst h1; subst h2
    show bindC kindOf ((p,w) :: P.zip vs) m p = _
    unfold bindC
    rw [bindC_out fun v hv=>(List.nodup_cons.mp nd).1 (List.of_mem_zip hv).1,if_neg hk]
    simp
  | p :: P,w :: vs,i + 1,m,nd,h1,h2,hk=>by
    show bindC kindOf ((p,w) :: P.zip vs) m x = _
    unfold bindC
    exact bindC_get (i:=i) (List.nodup_cons.mp nd).2 (by simpa using h1) (by simpa using h2) hk
def start (N:List Str) (vs:List V):St:=vs.map some ++ List.replicate (N.length - vs.length) none
def cxOf (CX:CXT) (P:Program) (w:World) (K:PySem.W.Frag) (mg:Str → Option Value) (base:Heap) (N:List Str) (qual:Str) (scope:Scope) (f:Addr) (cd:Value) (A:Around) (outer:List Env) (s:Shared) (H:Hp) (E:XK):Cx where
  prog:=P
  w:=w
  K:=K
  mg:=mg
  base:=base
  A:=A.deeper (envOfC qual scope s.heap.objs.size f cd)
  N:=N
  s₀:=s
  H₀:=H
  env:=envOfC qual scope s.heap.objs.size f cd
  outer:=outer
  stack:=envOfC qual scope s.heap.objs.size f cd :: outer
  ex:=[]
  calm:=true
  fn:=fun _=>true
  pn:=[]
  xe:=fun e s'=>wpAny (model P w) (A.deeper (envOfC qual scope s.heap.objs.size f cd)) (leaving (envOfC qual scope s.heap.objs.size f cd) e) (fun _ s''=>CX outer H s E e s'') (fun e' s''=>CX outer H s E e' s'') s'
theorem cell_has {sc:Scope} {n:Nat} {x:Str} (h:sc.names.lookup x = some .cell):∃ c,(cellsFrom n sc.names []).lookup x = some c:=by
  have q:=PySem.W.cellsFrom_some sc.names n [] (.inl h)
  exact Option.isSome_iff_exists.mp q
theorem inv_start {CX:CXT} {P:Program} {w:World} {K:PySem.W.Frag} {mg:Str → Option Value} {base:Heap} {N ps:List Str} {qual:Str} {scope:Scope} {f:Addr} {cd:Value} {A:Around} {outer:List Env} {s s1:Shared} {H:Hp} {E:XK} {us:List Value} {vs:List V}
    (S:FnScope N ps scope) (hd:A.handled = none) (e0:Env0 P w K mg base A outer s H) (hl:vs.length = ps.length) (r:Vals vs us)
    (x:InCallC s s.heap.objs.size (bindL (envOfC qual scope s.heap.objs.size f cd).kindOf (ps.zip us) fun _=>none) (cellsFrom (s.heap.objs.size + 1) scope.names []) (bindC (envOfC qual scope s.heap.objs.size f cd).kindOf (ps.zip us) fun _=>none) s1) :
    Inv (cxOf CX P w K mg base N qual scope f cd A outer s H E) [] (start N vs) H s1:=by
  have hpl:ps.length ≤ N.length:=by have:=congrArg List.length S.pre; rw [List.length_take] at this; omega
  obtain ⟨h1,tk,rfl,hk⟩:=x.done
  have noA:∀ b:Addr,b ∉ (cxOf CX P w K mg base N qual scope f cd A outer s H E).ex:=fun b z=>absurd (show b ∈ ([]:List Addr) from z) (by simp)
  refine ⟨⟨e0.mod,S.kind,rfl,rfl,Nat.le_refl _,fun y z c h1 h2=>?_,fun y hy=>?_,fun y c _ h=>?_,fun _=>hd,Around.frames_deeper e0.frames,.inr ⟨rfl,rfl⟩,fun b z=>absurd z (noA b),e0.bs,e0.bsz,fun b _ _=>noA b,fun b z=>absurd z (noA b),e0.funs,e0.frf⟩,
    rfl,e0.bare,Un.kept hk,⟨_,x.toInCall.ns,fun i y v h1 h2 h3=>?_⟩,fun y c h=>⟨_,x.cell y c h⟩,e0.hok.fresh (Nat.le_refl _),fun y c h=>?_,fun p hp=>absurd (show p ∈ ([]:List (Addr × Obj)) from hp) (by simp),e0.hok.kept hk,?_⟩
  · exact name_of_addr x.apart (PySem.mem_of_lookup h1) (PySem.mem_of_lookup h2)
  · have hy:scope.names.lookup y = some .cell ∨ scope.names.lookup y = some .free:=hy
    rcases hy with hy | hy
    · exact cell_has hy
    · exact absurd rfl (S.nofree _ (PySem.mem_of_lookup hy))
  · exact Nat.le_of_lt (x.above y c (PySem.mem_of_lookup h))
  · have hi:i < vs.length:=by
      unfold start at h2
      by_cases hi:i < vs.length
      · exact hi
      · rw [List.getElem?_append_right (by simpa using hi)] at h2
        rw [List.getElem?_replicate] at h2
        split at h2 <;> cases h2
    have ha:vs[i]? = some v:=by
      unfold start at h2
      rw [List.getElem?_append_left (by simpa using hi),List.getElem?_map] at h2
      cases e:vs[i]? with
      | none=>rw [e] at h2; cases h2
      | some a=>rw [e] at h2; cases h2; rfl
    obtain ⟨u,hu,rv⟩:=r.get ha
    have hp:ps[i]? = some y:=by
      rw [← S.pre,List.getElem?_take_of_lt (by omega)]; exact h1
    have ndP:ps.Nodup:=by rw [← S.pre]; exact S.nd.sublist (List.take_sublist _ _)
    refine ⟨u,rv,?_⟩
    rcases S.par y (List.mem_of_getElem? hp) with k | k
    · exact .inl ⟨k,bindL_get ndP hp hu k⟩
    · obtain ⟨c,e⟩:=cell_has (n:=s.heap.objs.size + 1) k
      refine .inr ⟨.inl k,c,e,?_⟩
      have q:=x.cell y c e
      rw [bindC_get ndP hp hu (by show scope.names.lookup y ≠ _; rw [k]; decide)] at q
      exact q
  · exact e0.hok.fresh (Nat.le_of_lt (x.above y c (PySem.mem_of_lookup h)))
  · unfold start
    show _ = N.length
    rw [List.length_append,List.length_map,List.length_replicate]
    omega
theorem fn_of {CX:CXT} {P:Program} {w:World} {K:PySem.W.Frag} {mg:Str → Option Value} {base:Heap} {k:Nat} {f:Addr} {name qual:Str} {params:Arguments} {body:List Stmt} {scope:Scope} {dV kV doc pm cdv ct oc:Value} {an od:Option Addr}
    {osl:Array (Option Value)} {N ps:List Str} {sp:Sp} (lk:K.lookup f = some ⟨oc,od,.func (PySem.W.fnOf name qual params body scope dV kV doc pm an cdv ct),osl⟩) (hcd:PySem.W.codeIn K cdv qual = true) (S:FnScope N ps scope)
    (len:∀ vs H Q E,sp vs H Q E → vs.length = ps.length)
    (hbody:∀ (A:Around) (outer:List Env) (s:Shared) (H:Hp) (vs:List V) (Q:VK) (E:XK),Room k (A.deeper (envOfC qual scope s.heap.objs.size f cdv)) → sp vs H Q E →
      ∃ t,PSs (cxOf CX P w K mg base N qual scope f cdv A outer s H E) body t ∧ t { nx:=fun _ H'=>Q .non H',rt:=Q } (start N vs) H) :
    FnOk P w K mg base CX (k + 1) f (PySem.W.fnOf name qual params body scope dV kV doc pm an cdv ct) ps sp:=by
  refine ⟨len,fun A outer s H args us vs Q E hr e0 hb r hsp=>?_⟩
  have hl:=len _ _ _ _ hsp
  have KX:K.In s.heap:=e0.mod.kin.keeps fun b o e=>(e0.bs b o e).1
  have lim:s.heap.NoLimit:=e0.mod.nolimit.keeps fun b o e=>(e0.bs b o e).1
  have hkind:∀ y ∈ ps.zip us,scope.names.lookup y.1 = some .local ∨ (scope.names.lookup y.1 = some .cell ∧ ((cellsFrom (s.heap.objs.size + 1) scope.names []).lookup y.1).isSome = true):=fun ⟨n,v⟩ hy=>by
    rcases S.par n (List.of_mem_zip hy).1 with q | q
    · exact .inl q
    · exact .inr ⟨q,PySem.W.cellsFrom_some _ _ _ (.inl q)⟩
  refine codeAny_call_function hr.depth (KX _ _ lk) rfl S.co S.gen rfl (PySem.W.codeRec_of KX hcd) (hb _ _ _ _ ?_)
  refine wpAny_newFunctionEnv_cells S.kind hkind fun env he s1 x=>?_
  subst he
  refine ⟨lim.keeps x.toInCall.keep,codeAny_func ?_⟩
  obtain ⟨t,ht,hq⟩:=hbody A outer s H vs Q E (hr.deeper _) hsp
  have I:Inv (cxOf CX P w K mg base N qual scope f cdv A outer s H E) [] (start N vs) H s1:=inv_start S hr.hd e0 hl r x
  refine wpAny_mono (ht [] s1 (start N vs) H _ I hq) (fun fl s' hs=>?_) fun e s' hs=>hs
  have fin:∀ {σ':St} {H':Hp} {v:V} {u:Value},Inv (cxOf CX P w K mg base N qual scope f cdv A outer s H E) [] σ' H' s' → RelV v u → Q v H' → CE outer P w H s Q u s' :=
    fun {σ' H' v u} J rv q=>⟨v,H',J.os,J.bare,J.base,J.hok,rv,q⟩
  cases fl with
  | ret u =>
    obtain ⟨v,σ',H',J,rv,q⟩:=hs
    exact fin J rv q
  | next =>
    obtain ⟨σ',H',J,q⟩:=hs
    exact fin (v:=V.non) (u:=Value.none) J rfl q
  | brk =>
    obtain ⟨_,_,_,q⟩:=hs
    exact False.elim q
  | cont =>
    obtain ⟨_,_,_,q⟩:=hs
    exact False.elim q
end L2
namespace L2
open PySem PySem.Spec PyProof.Rows
section
variable {X:Cx} {x:Str} {p pos:Pos} {e:Expr} {es:List Expr} {t:TA} {id T:String} {r:List V → Hp → VK → Prop}
def tCB (r:List V → Hp → VK → Prop) (t:TA):TE:=fun σ H Q=>t σ H fun vs H1=>r vs H1 Q
theorem pe_callB (hc:CallR X (.builtin id) r) (hg:Gl X x) (hm:X.mg x = none) (hv:bootBuiltins x = some (.builtin id)) (ha:PA X (e :: es) t) (hn:x ≠ "__name__" := by decide) (hdb:(x == ("__debug__" : Str)) = false:=by decide)
    (he:starEach (e :: es) X.env = (false,eval e X.env) :: starEach es X.env:=by rfl) (hpl:(backTo pos (starEach es X.env)).any (·.1) = false:=by rfl):PE X (.Call (.Name x p) (e :: es) [] pos) (tCB r t):=by
  intro pins s σ H Q I h
  refine wpAny_Call_Name_kw (ld_blt I hg hm hv ?_ hn hdb)
  exact PyProof.Rows.callWith_builtin1 (thn (ha pos pins s σ H _ I h) fun us s1 ⟨vs,H1,I1,r1,q1⟩=>hc pins s1 σ H1 vs us Q I1 r1 q1) he hpl
theorem pe_callTy (hc:CallR X (.type T) r) (hg:Gl X x) (hm:X.mg x = none) (hv:bootBuiltins x = some (.type T)) (ha:PA X (e :: es) t) (hn:x ≠ "__name__" := by decide) (hdb:(x == ("__debug__" : Str)) = false:=by decide)
    (he:starEach (e :: es) X.env = (false,eval e X.env) :: starEach es X.env:=by rfl) (hpl:(backTo pos (starEach es X.env)).any (·.1) = false:=by rfl):PE X (.Call (.Name x p) (e :: es) [] pos) (tCB r t):=by
  intro pins s σ H Q I h
  refine wpAny_Call_Name_kw (ld_blt I hg hm hv ?_ hn hdb)
  exact PyProof.Rows.callWith_type1 (thn (ha pos pins s σ H _ I h) fun us s1 ⟨vs,H1,I1,r1,q1⟩=>hc pins s1 σ H1 vs us Q I1 r1 q1) he hpl
end
end L2
namespace HT
open PySem PyProof.Rows
section
open PySem.SeqAt
open PySem.AutoSeq1 (wpAny_loadPart')
open PySem.MeetsSeq PySem.MeetsSeq2 PySem.MeetsSeq3
end
section
variable {prog:Program} {w:World} {A:Around} {E:Value → Shared → Prop} {s:Shared}
def sIx (n d:Nat):Option Int → Nat
  | none=>d
  | some v=>if v < 0 then (v + (n:Int)).toNat else min v.toNat n
end
end HT
namespace L2
open PySem PySem.Spec PyProof.Rows
abbrev TO:=St → Hp → (Option Int → Hp → Prop) → Prop
def PO (X:Cx) (e:Option Expr) (t:TO):Prop :=
  ∀ (pins:List (Addr × Obj)) (s:Shared) (σ:St) (H:Hp) (Q:Option Int → Hp → Prop),Inv X pins σ H s → t σ H Q →
    wpAny (model X.prog X.w) X.A (evalPart e X.env) (fun u s'=>∃ o H',Inv X pins σ H' s' ∧ IsPart u o ∧ Q o H') X.xe s
def tNoPart:TO:=fun _ H Q=>Q none H
def tPart (t:TE):TO:=fun σ H Q=>t σ H fun x H1=>∃ i,x = .int i ∧ Q (some i) H1
theorem intsAre_of {ns:List Int}:∀ {us:List Value},Vals (ns.map V.int) us → IntsAre us ns:=by
  induction ns with
  | nil=>intro us r; rw [List.map_nil] at r; cases r; exact .nil
  | cons n ns ih =>
    intro us r
    rw [List.map_cons] at r
    cases r with
    | cons r1 r2 =>
      obtain ⟨t,e⟩:=r1
      subst e
      exact .cons n t (ih r2)
section
variable {X:Cx} {e:Expr} {te:TE} {lo hi:Option Expr} {tl th:TO} {pos p2:Pos}
theorem po_none:PO X none tNoPart:=by
  intro pins s σ H Q I h
  rw [evalPart_none]
  exact wpAny_pure ⟨none,H,I,.none,h⟩
theorem po_some (h:PE X e te):PO X (some e) (tPart te):=by
  intro pins s σ H Q I hw
  rw [evalPart_some]
  refine thn (h pins s σ H _ I hw) fun u s1 ⟨x,H1,I1,r1,q1⟩=>?_
  obtain ⟨i,rfl,q⟩:=q1
  obtain ⟨t,rfl⟩:=r1
  exact ⟨some i,H1,I1,.int i t,q⟩
def SlR (X:Cx) (r:V → Option Int → Option Int → Hp → VK → Prop):Prop :=
  ∀ (pins:List (Addr × Obj)) (s:Shared) (σ:St) (H:Hp) (x:V) (v vl vu:Value) (lo hi:Option Int) (sl:Addr) (Q:VK),Inv X pins σ H s → RelV x v → s.heap.IsSliceOf sl vl vu .none → IsPart vl lo → IsPart vu hi → r x lo hi H Q →
    ∃ T id,typeLookup (.type T) "__getitem__" = pure (some (.builtin id)) ∧ s.TypeIs v T ∧ wpAny (model X.prog X.w) X.A (getItem v (.ref sl)) (EP X pins σ Q) X.xe s
theorem SlR.or {r r':V → Option Int → Option Int → Hp → VK → Prop} (h:SlR X r) (h':SlR X r'):SlR X (fun x lo hi H Q=>r x lo hi H Q ∨ r' x lo hi H Q):=by
  intro pins s σ H x v vl vu lo hi sl Q I rx hs pl pu q
  rcases q with q | q
  · exact h pins s σ H x v vl vu lo hi sl Q I rx hs pl pu q
  · exact h' pins s σ H x v vl vu lo hi sl Q I rx hs pl pu q
def tSl (r:V → Option Int → Option Int → Hp → VK → Prop) (te:TE) (tl th:TO):TE:=fun σ H Q=>te σ H fun x H1=>tl σ H1 fun l H2=>th σ H2 fun u H3=>r x l u H3 Q
theorem pe_slice {r:V → Option Int → Option Int → Hp → VK → Prop} (hr:SlR X r) (he:PE X e te) (hl:PO X lo tl) (hu:PO X hi th):PE X (.Subscript e (.Slice lo hi none p2) pos) (tSl r te tl th):=by
  intro pins s σ H Q I h
  refine Subscript_ (thn (he pins s σ H _ I h) fun v s1 ⟨x,H1,I1,r1,q1⟩=>?_)
  refine wpAny_Slice (thn (hl pins s1 σ H1 _ I1 q1) fun vl s2 ⟨l,H2,I2,pl,q2⟩=>thn (hu pins s2 σ H2 _ I2 q2) fun vu s3 ⟨u,H3,I3,pu,q3⟩=>?_)
  rw [evalPart_none]
  refine wpAny_pure ?_
  have I4:Inv X pins σ H3 { s3 with heap:=s3.heap.push { cls:=.type "slice", data:=.fields #[vl,vu,.none] } }:=I3.kept (t':=s3.toks) fun b ob q=>Heap.get?_push_of_some _ q
  obtain ⟨T,id,hT,ht,hg⟩:=hr pins { s3 with heap:=s3.heap.push { cls:=.type "slice", data:=.fields #[vl,vu,.none] } } σ H3 x v vl vu l u s3.heap.objs.size Q I4 r1 (Heap.IsSliceOf.new ..) pl pu q3
  show wpAny (model X.prog X.w) X.A (subscriptTail e (.Slice lo hi none p2) v (.ref s3.heap.objs.size)) (EP X pins σ Q) X.xe { s3 with heap:=s3.heap.push { cls:=.type "slice", data:=.fields #[vl,vu,.none] } }
  exact tail_any (ops:=[.ref s3.heap.objs.size,v]) ht hT hg (by with_unfolding_all rfl)
def cutV (xs:List V) (lo hi:Option Int):List V:=(xs.drop (HT.sIx xs.length 0 lo)).take (HT.sIx xs.length xs.length hi - HT.sIx xs.length 0 lo)
theorem cutV_length (xs:List V) (lo hi:Option Int):(cutV xs lo hi).length ≤ xs.length:=by
  unfold cutV
  rw [List.length_take,List.length_drop]
  omega
end
end L2
namespace L2
open PySem PySem.Spec PyProof.Rows
def ixN (n:Nat) (i:Int):Option Nat:=if 0 ≤ i then (if i < n then some i.toNat else none) else if -(n:Int) ≤ i then some (i + n).toNat else none
def atI {α:Type} (xs:List α) (i:Int):Option α:=(ixN xs.length i).bind fun j=>xs[j]?
theorem ixN_seq {n:Nat} {i:Int} {j:Nat} (h:ixN n i = some j):seqIndex? i n = some j ∧ j < n ∧ -(n:Int) ≤ i ∧ i < n:=by
  unfold ixN at h
  by_cases h0:0 ≤ i
  · rw [if_pos h0] at h
    by_cases h1:i < n
    · rw [if_pos h1] at h
      have e:i.toNat = j:=Option.some.inj h
      exact ⟨by rw [seqIndex_of h0 h1,e],by omega,by omega,h1⟩
    · rw [if_neg h1] at h; cases h
  · rw [if_neg h0] at h
    by_cases h1 : -(n:Int) ≤ i
    · rw [if_pos h1] at h
      have e:(i + n).toNat = j:=Option.some.inj h
      exact ⟨by rw [seqIndex_neg (by omega) h1,e],by omega,h1,by omega⟩
    · rw [if_neg h1] at h; cases h
theorem atI_get {α:Type} {xs:List α} {i:Int} {v:α} (h:atI xs i = some v):∃ j,seqIndex? i xs.length = some j ∧ xs[j]? = some v ∧ j < xs.length ∧ -(xs.length:Int) ≤ i ∧ i < xs.length:=by
  unfold atI at h
  cases e:ixN xs.length i with
  | none=>rw [e] at h; cases h
  | some j =>
    rw [e] at h
    obtain ⟨h1,h2,h3,h4⟩:=ixN_seq e
    exact ⟨j,h1,h,h2,h3,h4⟩
theorem atI_nat {α:Type} {xs:List α} {j:Nat} {v:α} (h:xs[j]? = some v):atI xs (j:Int) = some v:=by
  have hj:j < xs.length:=(List.getElem?_eq_some_iff.mp h).1
  have e:ixN xs.length (j:Int) = some j:=by
    unfold ixN
    rw [if_pos (by omega),if_pos (by omega)]; simp
  unfold atI; rw [e]; exact h
def PlainIx (b:Expr):Prop:=∀ o i,subscripted b false o i = operate [o,i] (getItem o i)
def IxR (X:Cx) (r:R2):Prop :=
  ∀ (value slice:Expr) (pins:List (Addr × Obj)) (s:Shared) (σ:St) (H:Hp) (x y:V) (v u:Value) (Q:VK),Inv X pins σ H s → RelV x v → RelV y u → r x y H Q →
    subscripted slice false v u = operate [v,u] (getItem v u) → wpAny (model X.prog X.w) X.A (subscriptTail value slice v u) (EP X pins σ Q) X.xe s
def MtR (X:Cx) (id:String) (r:V → List V → Hp → VK → Prop):Prop :=
  ∀ (pins:List (Addr × Obj)) (s:Shared) (σ:St) (H:Hp) (x:V) (xs:List V) (v:Value) (us:List Value) (Q:VK),Inv X pins σ H s → RelV x v → Vals xs us → r x xs H Q →
    wpAny (model X.prog X.w) X.A (call (.builtin id) (v :: us)) (EP X pins σ Q) X.xe s
section
variable {X:Cx} {a b:Expr} {ta tb:TE} {pos:Pos}
theorem IxR.or {r r':R2} (h:IxR X r) (h':IxR X r'):IxR X (fun x y H Q=>r x y H Q ∨ r' x y H Q):=by
  intro value slice pins s σ H x y v u Q I rx ry q hs
  rcases q with q | q
  · exact h value slice pins s σ H x y v u Q I rx ry q hs
  · exact h' value slice pins s σ H x y v u Q I rx ry q hs
theorem MtR.or {id:String} {r r':V → List V → Hp → VK → Prop} (h:MtR X id r) (h':MtR X id r'):MtR X id (fun x xs H Q=>r x xs H Q ∨ r' x xs H Q):=by
  intro pins s σ H x xs v us Q I rx rs q
  rcases q with q | q
  · exact h pins s σ H x xs v us Q I rx rs q
  · exact h' pins s σ H x xs v us Q I rx rs q
theorem pe_ix {r:R2} (hr:IxR X r) (ha:PE X a ta) (hb:PE X b tb) (hs:PlainIx b):PE X (.Subscript a b pos) (tOp r ta tb):=by
  intro pins s σ H Q I h
  exact Subscript_ (binT ha hb I h fun v u s2 x y H2 I2 rx ry q=>hr a b pins s2 σ H2 x y v u Q I2 rx ry q (hs _ _))
def rIxL (K:PySem.W.Frag):R2:=fun x y H Q=>∃ p xs i v,x = .ref p ∧ y = .int i ∧ SqL K H p xs ∧ atI xs i = some v ∧ Q v H
def rIxT (K:PySem.W.Frag):R2:=fun x y H Q=>∃ p xs i v,x = .ref p ∧ y = .int i ∧ SqT K H p xs ∧ atI xs i = some v ∧ Q v H
theorem ix_list:IxR X (rIxL X.K):=by
  intro value slice pins s σ H x y v u Q I rx ry h hs
  obtain ⟨p,xs,i,z,rfl,rfl,hq,he,q⟩:=h
  cases rx
  obtain ⟨t,rfl⟩:=ry
  obtain ⟨its,r,pl,hz⟩:=I.list hq
  obtain ⟨j,h1,h2,h3,h4,h5⟩:=atI_get he
  obtain ⟨w,ew,rw'⟩:=r.get h2
  have hl:=r.length
  have hn:=line63
  have fin:EP X pins σ Q w s:=⟨z,H,I,rw',q⟩
  by_cases h0:0 ≤ i
  · have hj:i.toNat = j:=by
      rw [seqIndex_of h0 h5] at h1
      exact Option.some.inj h1
    exact item_listR pl.isList h0 (by omega) (by rw [hj]; simpa using ew) fin hs
  · have hj:(i + (its.toArray.size:Int)).toNat = j:=by
      rw [seqIndex_neg (by omega) h4] at h1
      rw [List.size_toArray,← hl]
      exact Option.some.inj h1
    exact subscriptTail_builtinR (x:=w) pl.isList.typeIs slot_list_getitem.lookup
      (wpAny_getItem_list_neg (Q:=fun r s'=>r = w ∧ EP X pins σ Q r s') pl.isList (by omega) (by rw [List.size_toArray] <;> omega) (by omega) (by rw [hj]; simpa using ew) ⟨rfl,fin⟩) hs
theorem ix_tup:IxR X (rIxT X.K):=by
  intro value slice pins s σ H x y v u Q I rx ry h hs
  obtain ⟨p,xs,i,z,rfl,rfl,hq,he,q⟩:=h
  cases rx
  obtain ⟨t,rfl⟩:=ry
  obtain ⟨its,r,pl,hz⟩:=I.tuple hq
  obtain ⟨j,h1,h2,h3,h4,h5⟩:=atI_get he
  obtain ⟨w,ew,rw'⟩:=r.get h2
  have hl:=r.length
  have hn:=line63
  have fin:EP X pins σ Q w s:=⟨z,H,I,rw',q⟩
  exact subscriptTail_builtinR (x:=w) pl.typeIs slot_tuple_getitem.lookup
    (getItem_tuple (j:=j) (Q:=fun r s'=>r = w ∧ EP X pins σ Q r s') pl (by omega) (by omega) (by rw [List.size_toArray,← hl]; exact h1) (by simpa using ew) ⟨rfl,fin⟩) hs
theorem mapSeq_set (its:List Value) (n j:Nat) (u:Value):Obj.mapSeq (·.setIfInBounds j u) { cls:=.type "list", data:=.seq its.toArray n } = { cls:=.type "list", data:=.seq (its.set j u).toArray n }:=by
  simp [Obj.mapSeq]
theorem Inv.lst {pins:List (Addr × Obj)} {σ:St} {H:Hp} {s:Shared} {p:Addr} {xs:List V} (I:Inv X pins σ H s) (h:H p = some (.lst xs)) :
    ∃ (its:List Value) (n:Nat),Vals xs its ∧ s.heap.get? p = some { cls:=.type "list", data:=.seq its.toArray n } ∧ xs.length ≤ sizeLine:=by
  obtain ⟨z,its,n,r,e⟩:=I.hok p _ h
  exact ⟨its,n,r,e,z⟩
theorem Inv.lstUpd {pins:List (Addr × Obj)} {σ:St} {H:Hp} {s:Shared} {p:Addr} {xs ys:List V} {its its':List Value} {n n':Nat} {f:Obj → Obj} (I:Inv X pins σ H s) (h:H p = some (.lst xs))
    (ho:s.heap.get? p = some { cls:=.type "list", data:=.seq its.toArray n }) (hf:f { cls:=.type "list", data:=.seq its.toArray n } = { cls:=.type "list", data:=.seq its'.toArray n' }) (r:Vals ys its') (hz:ys.length ≤ sizeLine) (t:Nat) :
    Inv X pins σ (upd H p (.lst ys)) { s with heap:=s.heap.update p f,toks:=t }:=by
  have e:(s.heap.update p f).get? p = some { cls:=.type "list", data:=.seq its'.toArray n' }:=by
    rw [Heap.get?_update_self f ho (by rw [hf] <;> rfl),hf]
  refine I.write (x:=p) (e:=p) (by rw [h]; trivial) (.inl rfl) (fun b u hb q=>(Heap.get?_update_other _ _ (Ne.symm hb)).trans q) ⟨_,e⟩ ?_
  exact ⟨hz,its',n',r,e⟩
def rSetL:V → V → V → Hp → (Hp → Prop) → Prop:=fun o i v H Q=>∃ p xs k j,o = .ref p ∧ i = .int k ∧ H p = some (.lst xs) ∧ ixN xs.length k = some j ∧ Q (upd H p (.lst (xs.set j v)))
theorem set_list:PSet X rSetL:=by
  intro pins s σ H o i v ov iv u Q I ro ri rv h
  obtain ⟨p,xs,k,j,rfl,rfl,hp,hj,q⟩:=h
  cases ro
  obtain ⟨t,rfl⟩:=ri
  obtain ⟨its,n,r,ho,hz⟩:=I.lst hp
  obtain ⟨h1,h2,h3,h4⟩:=ixN_seq hj
  have hl:=r.length
  have hn:=line63
  have I':Inv X pins σ (upd H p (.lst (xs.set j v))) { s with heap:=s.heap.update p (Obj.mapSeq (·.setIfInBounds j u)) } :=
    I.lstUpd hp ho (mapSeq_set its n j u) (r.set rv j) (by rw [List.length_set]; exact hz) s.toks
  by_cases h0:0 ≤ k
  · have hk:k.toNat = j:=by
      rw [seqIndex_of h0 h4] at h1
      exact Option.some.inj h1
    exact PySem.W.ki_setAt ho h0 (by omega) (by rw [List.size_toArray,← hl]; exact h4) (by rw [hk]; exact ⟨_,I',q⟩)
  · have hk:(k + (its.toArray.size:Int)).toNat = j:=by
      rw [seqIndex_neg (by omega) h3] at h1
      rw [List.size_toArray,← hl]
      exact Option.some.inj h1
    exact PySem.W.ki_setBack ho (by omega) (by rw [List.size_toArray,← hl]; exact h3) (by omega) (by rw [hk]; exact ⟨_,I',q⟩)
theorem slice_bounds (lo hi:Option Int) (n:Nat):(sliceBounds lo hi none n).1 = ((HT.sIx n 0 lo:Nat):Int) ∧ (sliceBounds lo hi none n).2.1 = ((HT.sIx n n hi:Nat):Int) ∧ (sliceBounds lo hi none n).2.2 = 1:=by
  refine ⟨?_,?_,rfl⟩
  · cases lo with
    | none=>simp [sliceBounds,HT.sIx]
    | some i =>
      simp only [sliceBounds,HT.sIx,Option.getD_none,show (1:Int) > 0 by decide,if_true]
      by_cases h:i < 0
      · simp only [h,if_true] <;> omega
      · simp only [h,if_false] <;> omega
  · cases hi with
    | none=>simp [sliceBounds,HT.sIx]
    | some i =>
      simp only [sliceBounds,HT.sIx,Option.getD_none,show (1:Int) > 0 by decide,if_true]
      by_cases h:i < 0
      · simp only [h,if_true] <;> omega
      · simp only [h,if_false] <;> omega
theorem slicePick_cut (its:List Value) (lo hi:Option Int):slicePick its.toArray lo hi none = ((its.drop (HT.sIx its.length 0 lo)).take (HT.sIx its.length its.length hi - HT.sIx its.length 0 lo)).toArray:=by
  obtain ⟨h1,h2,h3⟩:=slice_bounds lo hi its.toArray.size
  unfold slicePick
  rw [h1,h2,h3]
  simp only [sliceRange_one,pick_run,List.size_toArray] <;> rfl
def rSlL (K:PySem.W.Frag):V → Option Int → Option Int → Hp → VK → Prop:=fun x lo hi H Q=>∃ a xs,x = .ref a ∧ SqL K H a xs ∧ ∀ p,H p = none → Q (.ref p) (upd H p (.lst (cutV xs lo hi)))
theorem sl_list:SlR X (rSlL X.K):=by
  intro pins s σ H x v vl vu lo hi sl Q I rx hs pl pu h
  obtain ⟨a,xs,rfl,hx,q⟩:=h
  cases rx
  obtain ⟨its,r,ht,hz⟩:=I.list hx
  have hlen:=r.length
  refine ⟨"list", _,slot_list_getitem.lookup,ht.isList.typeIs,?_⟩
  refine wpAny_getItem_list_slice ht.isList hs pl pu .none (by simp) ?_ (by rw [List.size_toArray] <;> omega)
  rw [slicePick_cut,← hlen]
  refine ⟨.ref s.heap.objs.size,_,I.laid (t':=s.toks) (o:=.lst (cutV xs lo hi)) (fun b ob q=>Heap.get?_push_of_some _ q) (Nat.le_refl _) ?_,rfl,q _ (I.hok.fresh (Nat.le_refl _))⟩
  exact ⟨Nat.le_trans (cutV_length xs lo hi) hz,_,0,(r.drop (HT.sIx xs.length 0 lo)).take (HT.sIx xs.length xs.length hi - HT.sIx xs.length 0 lo),Heap.get?_push_size _ rfl⟩
def flatV:V → Bool
  | .non=>true
  | .bl _=>true
  | .int _=>true
  | .str _=>true
  | _=>false
def eqV:V → V → Bool
  | .non,.non=>true
  | .bl a,.bl b=>a == b
  | .bl a,.int b=>(if a then 1 else 0) == b
  | .int a,.bl b=>a == (if b then 1 else 0)
  | .int a,.int b=>a == b
  | .str a,.str b=>a == b
  | _,_=>false
theorem eqAt_V {A:Around} {s:Shared} {y x:V} {u v:Value} (ry:RelV y u) (rx:RelV x v) (fy:flatV y = true) (fx:flatV x = true):SeqAt.EqAt A s u v (eqV y x):=by
  cases y with
  | non =>
    cases ry
    cases x with
    | non=>cases rx; exact SeqAt.EqAt.same _
    | bl b=>cases rx; exact SeqAt.EqAt.none_bool b
    | int b=>obtain ⟨t,rfl⟩:=rx; exact SeqAt.EqAt.none_int b t
    | str b=>obtain ⟨t,rfl⟩:=rx; exact SeqAt.EqAt.none_str b t
    | _=>exact absurd (show false = true from fx) Bool.false_ne_true
  | bl a =>
    cases ry
    cases x with
    | non=>cases rx; exact SeqAt.EqAt.bool_none a
    | bl b=>cases rx; exact SeqAt.EqAt.bool_bool a b
    | int b=>obtain ⟨t,rfl⟩:=rx; exact SeqAt.EqAt.bool_int a b t
    | str b=>obtain ⟨t,rfl⟩:=rx; exact SeqAt.EqAt.bool_str a b t
    | _=>exact absurd (show false = true from fx) Bool.false_ne_true
  | int a =>
    obtain ⟨t',rfl⟩:=ry
    cases x with
    | non=>cases rx; exact SeqAt.EqAt.int_none a t'
    | bl b=>cases rx; exact SeqAt.EqAt.int_bool a t' b
    | int b=>obtain ⟨t,rfl⟩:=rx; exact SeqAt.EqAt.int_int a t' b t
    | str b=>obtain ⟨t,rfl⟩:=rx; exact SeqAt.EqAt.int_str a t' b t
    | _=>exact absurd (show false = true from fx) Bool.false_ne_true
  | str a =>
    obtain ⟨t',rfl⟩:=ry
    cases x with
    | non=>cases rx; exact SeqAt.EqAt.str_none a t'
    | bl b=>cases rx; exact SeqAt.EqAt.str_bool a t' b
    | int b=>obtain ⟨t,rfl⟩:=rx; exact SeqAt.EqAt.str_int a t' b t
    | str b=>obtain ⟨t,rfl⟩:=rx; exact SeqAt.EqAt.str_str a t' b t
    | _=>exact absurd (show false = true from fx) Bool.false_ne_true
  | _=>exact absurd (show false = true from fy) Bool.false_ne_true
theorem call_len_seq:CallR X (.builtin "len") (fun xs H Q=>∃ p ys,xs = [.ref p] ∧ (SqL X.K H p ys ∨ SqT X.K H p ys) ∧ Q (.int ys.length) H):=by
  intro pins s σ H xs us Q I r h
  obtain ⟨p,ys,rfl,hq,q⟩:=h
  obtain ⟨u,rfl,rx⟩:=vals1 r
  cases rx
  have hn:=line63
  rcases hq with hq | hq
  · obtain ⟨its,r',pl,hz⟩:=I.list hq
    have hlen:=r'.length
    exact Calls.call_len_list pl.isList (by simp only [List.size_toArray] <;> omega) ⟨.int ys.length,H,I.tok _,⟨s.toks + 1,by rw [List.size_toArray,hlen]⟩,q⟩
  · obtain ⟨its,r',pl,hz⟩:=I.tuple hq
    have hlen:=r'.length
    exact len_tuple pl (by simp only [List.size_toArray] <;> omega) ⟨.int ys.length,H,I.tok _,⟨s.toks + 1,by rw [List.size_toArray,hlen]⟩,q⟩
theorem CallR.or {f:Value} {r r':List V → Hp → VK → Prop} (h:CallR X f r) (h':CallR X f r'):CallR X f (fun xs H Q=>r xs H Q ∨ r' xs H Q):=by
  intro pins s σ H xs us Q I rs q
  rcases q with q | q
  · exact h pins s σ H xs us Q I rs q
  · exact h' pins s σ H xs us Q I rs q
theorem call_list_of:CallR X (.type "list") (fun xs H Q=>∃ p ys,xs = [.ref p] ∧ (SqL X.K H p ys ∨ SqT X.K H p ys) ∧ ∀ l,H l = none → Q (.ref l) (upd H l (.lst ys))):=by
  intro pins s σ H xs us Q I r h
  obtain ⟨p,ys,rfl,hq,q⟩:=h
  obtain ⟨u,rfl,rx⟩:=vals1 r
  cases rx
  have fin:∀ (its:List Value),Vals ys its → ys.length ≤ sizeLine → ∀ (h':Heap) (c':Nat),(∀ b o',s.heap.get? b = some o' → h'.get? b = some o') →
      h'.get? s.heap.objs.size = some { cls:=.type "list", dict:=none,data:=.seq its.toArray c',slots:=#[] } → EP X pins σ Q (.ref s.heap.objs.size) { s with heap:=h' }:=fun its r' hz h' c' kp e =>
    ⟨.ref s.heap.objs.size,_,I.laid (t':=s.toks) kp (Nat.le_refl _) (show ObjOk X.prog X.w _ h' _ (.lst ys) from ⟨hz,its,c',r',e⟩),rfl,q _ (I.hok.fresh (Nat.le_refl _))⟩
  rcases hq with hq | hq
  · obtain ⟨its,r',pl,hz⟩:=I.list hq
    have hlen:=r'.length
    obtain ⟨o,ho,hc,n,hd⟩:=pl.isList
    exact call_list_seq p (.inl rfl) ho hc hd (fun h' c' kp e=>fin its r' hz h' c' kp e) (by simp only [List.size_toArray] <;> omega)
  · obtain ⟨its,r',pl,hz⟩:=I.tuple hq
    have hlen:=r'.length
    obtain ⟨o,ho,hc,n,hd⟩:=pl
    exact call_list_seq p (.inr rfl) ho hc hd (fun h' c' kp e=>fin its r' hz h' c' kp e) (by simp only [List.size_toArray] <;> omega)
def tyV (K:PySem.W.Frag) (T:String) (x:V) (H:Hp):Prop:=match x with
  | .str _=>T = "str"
  | .int _=>T = "int"
  | .ref p=>(T = "list" ∧ ∃ xs,SqL K H p xs) ∨ (T = "tuple" ∧ ∃ o,K.lookup p = some o ∧ o.cls = .type "tuple" ∧ o.dict = none) ∨
      (T = "dict" ∧ ((∃ kvs,H p = some (.dK kvs)) ∨ ∃ kvs,H p = some (.dT kvs))) ∨ (T = "set" ∧ ∃ S n,H p = some (.set S n))
  | _=>False
theorem tyV_is {pins:List (Addr × Obj)} {σ:St} {H:Hp} {s:Shared} {T:String} {x:V} {v:Value} (I:Inv X pins σ H s) (r:RelV x v) (ty:tyV X.K T x H) :
    s.TypeIs v T ∧ ∀ a,v = .ref a → ∃ ob,s.heap.get? a = some ob ∧ ob.dict = none:=by
  cases x with
  | str z =>
    obtain ⟨t,rfl⟩:=r
    cases (show T = "str" from ty)
    exact ⟨typeIs_str s z t,fun _ e=>nomatch e⟩
  | int i =>
    obtain ⟨t,rfl⟩:=r
    cases (show T = "int" from ty)
    exact ⟨typeIs_int s i t,fun _ e=>nomatch e⟩
  | ref p =>
    cases r
    rcases ty with ⟨rfl,xs,hq⟩ | ⟨rfl,o,hk,hc,hd⟩ | ⟨rfl,hk⟩ | ⟨rfl,S,n,hk⟩
    · obtain ⟨its,_,pl,_⟩:=I.list hq
      refine ⟨pl.isList.typeIs,fun a e=>?_⟩
      cases e
      obtain ⟨o,n,e,c,hd,_⟩:=pl
      exact ⟨o,e,hd⟩
    · refine ⟨⟨o,I.kIn p o hk,hc⟩,fun a e=>?_⟩
      cases e
      exact ⟨o,I.kIn _ o hk,hd⟩
    · have z:∃ o,s.heap.get? p = some o ∧ o.ExactDict:=by
        rcases hk with ⟨kvs,hk⟩ | ⟨kvs,hk⟩
        · obtain ⟨_,_,_,_,o,_,_,e,ex,_⟩:=I.hok p _ hk
          exact ⟨o,e,ex⟩
        · obtain ⟨_,_,_,_,o,_,_,e,ex,_⟩:=I.hok p _ hk
          exact ⟨o,e,ex⟩
      obtain ⟨o,e,ex⟩:=z
      refine ⟨⟨o,e,ex.1⟩,fun a e2=>?_⟩
      cases e2
      exact ⟨o,e,ex.2.1⟩
    · obtain ⟨o,_,_,_,e,ex,_⟩:=I.hok p _ hk
      refine ⟨⟨o,e,ex.1⟩,fun a e2=>?_⟩
      cases e2
      exact ⟨o,e,ex.2.1⟩
  | _=>exact False.elim ty
def tBM (K:PySem.W.Frag) (T:String) (r:V → List V → Hp → VK → Prop) (to:TE) (t:TA):TE:=fun σ H Q=>to σ H fun x H1=>tyV K T x H1 ∧ t σ H1 fun xs H2=>r x xs H2 Q
variable {o e:Expr} {es:List Expr} {to:TE} {t:TA} {name:Str} {apos cpos:Pos} {T id:String} {r:V → List V → Hp → VK → Prop}
theorem pe_bm (pa:PlainAttrs T) (slot:Slot T name id) (hty:typeOf (.builtin id) = pure (.type "method_descriptor")) (hm:MtR X id r) (ho:PE X o to) (ha:PA X (e :: es) t)
    (hbase:attributeBase o name X.env (eval o X.env) = eval o X.env:=by rfl)
    (hfew:((backTo cpos (starEach (e :: es) X.env)).all (fun x=>!x.1) && (backToKw cpos (keywordEach [] X.env)).all (fun x=>x.1.isSome)
      && decide ((e :: es).length + ([]:List Keyword).length + (if ([]:List Keyword).isEmpty then 0 else 1) < 30)) = true:=by rfl)
    (hline:(apos.endLine == cpos.line) = true:=by rfl) (hs:starEach (e :: es) X.env = (false,eval e X.env) :: starEach es X.env:=by rfl) (hplain:(backTo cpos (starEach es X.env)).any (·.1) = false:=by rfl) :
    PE X (.Call (.Attribute o name apos) (e :: es) [] cpos) (tBM X.K T r to t):=by
  intro pins s σ H Q I h
  refine wpAny_Call_method_late hbase hfew hline rfl (thn (ho pins s σ H _ I h) fun v s1 ⟨x,H1,I1,r1,ty,q1⟩=>?_)
  obtain ⟨h1,h2⟩:=tyV_is I1 r1 ty
  refine ⟨T,id,pa,slot,hty,h1,h2,?_⟩
  have hA:=ha cpos pins s1 σ H1 _ I1 q1
  rw [hs] at hA ⊢
  refine Calls.callWith_builtin (by show (false || (backTo cpos (starEach es X.env)).any (·.1)) = false; rw [hplain] <;> rfl) (Calls.evalArgs_plain ?_)
  exact thn hA fun us s2 ⟨vs,H2,I2,r2,q2⟩=>hm pins s2 σ H2 x vs v us Q I2 r1 r2 q2
/- xs.append(e),list.index on a module's tuple .. are MtR facts of 06m -/
end
end L2
namespace L2
open PySem PySem.Spec PyProof.Rows
def MtM (X:Cx) (id:String) (r:V → List V → Hp → VK → Prop):Prop :=
  ∀ (pins:List (Addr × Obj)) (s:Shared) (σ:St) (H:Hp) (x:V) (xs:List V) (v:Value) (us:List Value) (Q:VK),Inv X pins σ H s → RelV x v → Vals xs us → r x xs H Q →
    wpAny (model X.prog X.w) X.A (call (.builtin id) (v :: us)) (EP X pins σ Q) X.xe s
theorem Vals.one:∀ {x:V} {us:List Value},Vals [x] us → ∃ u,us = [u] ∧ RelV x u
  | _,_,.cons r .nil=>⟨_,rfl,r⟩
theorem Vals.two:∀ {x y:V} {us:List Value},Vals [x,y] us → ∃ u v,us = [u,v] ∧ RelV x u ∧ RelV y v
  | _,_,_,.cons r (.cons q .nil)=>⟨_,_,rfl,r,q⟩
theorem Vals.reverse {xs:List V} {us:List Value} (h:Vals xs us):Vals xs.reverse us.reverse:=by
  induction h with
  | nil=>exact .nil
  | cons r t ih=>rw [List.reverse_cons,List.reverse_cons]; exact Vals.append ih (.cons r .nil)
theorem Vals.rep {xs:List V} {us:List Value} (h:Vals xs us):∀ k:Nat,Vals (List.replicate k xs).flatten (List.replicate k us).flatten
  | 0=>.nil
  | k + 1=>by
    rw [List.replicate_succ,List.replicate_succ,List.flatten_cons,List.flatten_cons]
    exact Vals.append h (Vals.rep h k)
section
variable {X:Cx} {pins:List (Addr × Obj)} {σ:St} {H:Hp} {s:Shared} {l b:Addr} {xs ys zs:List V}
theorem Inv.lset {its its':List Value} {n:Nat} {f:Array Value → Array Value} {t':Nat} (I:Inv X pins σ H s) (hH:H l = some (.lst xs))
    (e:s.heap.get? l = some { cls:=.type "list", data:=.seq its.toArray n }) (hf:f its.toArray = its'.toArray) (hv:Vals ys its') (hz:ys.length ≤ sizeLine) :
    Inv X pins σ (upd H l (.lst ys)) { s with heap:=s.heap.update l (Obj.mapSeq f),toks:=t' }:=by
  have q:=PySem.IsL.update e f
  rw [hf] at q
  refine I.write (x:=l) (e:=l) (by rw [hH]; exact trivial) (.inl rfl) (fun b' u hb hu=>(Heap.get?_update_other s.heap (Obj.mapSeq f) (Ne.symm hb)).trans hu) ⟨_,q⟩ ?_
  exact ⟨hz,its',_,hv,q⟩
theorem Inv.lnew {its:List Value} {t':Nat} (I:Inv X pins σ H s) (hv:Vals ys its) (hz:ys.length ≤ sizeLine) :
    Inv X pins σ (upd H s.heap.objs.size (.lst ys)) { s with heap:=s.heap.push { cls:=.type "list", data:=.seq its.toArray },toks:=t' } :=
  I.laid (fun _ _ q=>Heap.get?_push_of_some _ q) (Nat.le_refl _) ⟨hz,its,0,hv,Heap.get?_push_size _ rfl⟩
theorem Inv.fresh (I:Inv X pins σ H s):H s.heap.objs.size = none:=I.hok.fresh (Nat.le_refl _)
theorem Inv.lstM (I:Inv X pins σ H s) (hH:H l = some (.lst xs)):xs.length ≤ sizeLine ∧ ∃ (its:List Value) (n:Nat),Vals xs its ∧ xs.length = its.length ∧ s.heap.get? l = some { cls:=.type "list", data:=.seq its.toArray n }:=by
  obtain ⟨z,its,n,r,e⟩:=I.hok l _ hH
  exact ⟨z,its,n,r,r.length,e⟩
end
section
variable {X:Cx}
def rAppend:V → List V → Hp → VK → Prop:=fun x vs H Q=>∃ l xs y,x = .ref l ∧ vs = [y] ∧ H l = some (.lst xs) ∧ xs.length < sizeLine ∧ Q .non (upd H l (.lst (xs ++ [y])))
theorem mt_append:MtM X "list.append" rAppend:=by
  intro pins s σ H x vs v us Q I rx rv h
  obtain ⟨l,xs,y,rfl,rfl,hH,hz,q⟩:=h
  cases rx
  obtain ⟨u,rfl,ru⟩:=rv.one
  obtain ⟨z,its,n,r,hl,e⟩:=I.lstM hH
  refine call_meets F.slot_list_append ⟨_,e,rfl⟩ F.entry_list_append (F.args_list_append_2 _ _) (PySem.list_append l its.toArray n u (by rw [List.size_toArray]; omega)) ⟨e,?_⟩
  refine ⟨.non,_,I.lset (its':=its ++ [u]) hH e (by simp) (r.append (.cons ru .nil)) ?_,rfl,q⟩
  rw [List.length_append,List.length_singleton]
  omega
def rCat:R2:=fun x y H Q=>∃ l b xs zs,x = .ref l ∧ y = .ref b ∧ H l = some (.lst xs) ∧ H b = some (.lst zs) ∧ xs.length + zs.length ≤ sizeLine ∧ ∀ p,H p = none → Q (.ref p) (upd H p (.lst (xs ++ zs)))
theorem op_cat:OpR X (binaryOp .Add) rCat:=by
  intro pins s σ H x y v u Q I rx ry h
  obtain ⟨l,b,xs,zs,rfl,rfl,hH,hB,hz,q⟩:=h
  cases rx
  cases ry
  obtain ⟨z,its,n,r,hl,e⟩:=I.lstM hH
  obtain ⟨z2,its2,n2,r2,hl2,e2⟩:=I.lstM hB
  refine PySem.P.add_list e e2 ?_ (by rw [List.size_toArray,List.size_toArray]; omega)
  have ea:its.toArray ++ its2.toArray = (its ++ its2).toArray:=by simp
  rw [ea]
  exact ⟨.ref _,_,I.lnew (t':=s.toks) (r.append r2) (by rw [List.length_append]; omega),rfl,q _ I.fresh⟩
end
section
variable {prog:Program} {w:World} {A:Around} {E:Value → Shared → Prop} {s:Shared}
end
section
variable {X:Cx}
end
end L2
namespace Att
open PySem PySem.W PySem.Calls PyProof.Rows
theorem ints_of_wellAll {P:Params} {h:Heap}:∀ (ns:List Int) (vs:List Value),WellAll P h vs (ns.map WData.int) → IntsAre vs ns:=by
  intro ns
  induction ns with
  | nil =>
    intro vs w
    rw [List.map_nil] at w
    cases w
    exact .nil
  | cons n ns ih =>
    intro vs w
    rw [List.map_cons] at w
    cases w with
    | cons a b =>
      cases a
      exact .cons _ _ (ih _ b)
theorem script_of {l:OpenLaw} {n:Nat} (hn:l.most = some n) {P:Params} {h:Heap} {args:List WData} {vals:List Value}
    (hpre:l.row.toRowW.claim.pre args = true) (hwl:WellAll P h vals args) :
    ∃ a vs ns,vals = [Value.ref a] ∧ args = [WData.list (ns.map WData.int)] ∧ h.get? a = some { cls:=.type "list", data:=.seq vs.toArray } ∧ IntsAre vs ns ∧ ns.length ≤ n:=by
  have hsh:WShape.hasAll [] args [.list .int] = true:=(pre_splitW hpre).1
  have hc:l.pre.holds [] { args:=args } = true:=(pre_splitW hpre).2
  obtain ⟨d,r,rfl,h1,h2⟩:=hasAllW_cons hsh
  obtain rfl:=hasAllW_nil h2
  obtain ⟨xs,rfl,h3⟩:=hasW_list h1
  obtain ⟨ns,rfl⟩:=items_int h3
  have hlen:ns.length ≤ n:=by
    unfold OpenLaw.pre at hc
    have h4:(WTm.not (.lt (.lit (.int (n:Int))) (.len (.arg 0)))).holds [] { args:=[.list (ns.map .int)] } = true:=by
      have h4:=(holds_andW hc).1
      rw [hn] at h4
      exact h4
    have h5:=condW_of h4 (w_not (w_lt w_lit (w_len_list (w_arg rfl))))
    rw [List.length_map] at h5
    refine Nat.le_of_not_lt fun q=>?_
    have q':(n:Int) < ((ns.length:Nat):Int):=by omega
    first
      | (rw [decide_eq_true q'] at h5; exact absurd h5 (by decide))
      | (simp at h5; omega)
  cases hwl with
  | cons w1 w2 =>
    cases w2
    cases w1 with
    | list ho hall=>exact ⟨_,_,ns,rfl,rfl,ho,ints_of_wellAll ns _ hall,hlen⟩
theorem post_true (l:OpenLaw) (args:List WData):l.row.toRowW.claim.post args (.bool true) args = true :=
  postW_of (r:=l.row.toRowW) (X:=(true == true))
    (show WShape.has [] (.bool true) .bool = true by first | rfl | decide | simp [WShape.has,WShape.arms,WShape.armsAll])
    (show (WTm.eq .res (.lit (.bool true))).value [] { args:=args,res:=some (.bool true),after:=args } = some (.bool (true == true)) from w_eq_bool (w_res rfl) w_lit) rfl
theorem attach_call {l:OpenLaw} {n:Nat} {q:Program} {loose:List Str} {XP:(Str → Option Value) → Heap → Prop} {YP:World → Heap → Prop} {d:DefRec}
    (hn:l.most = some n) (hdf:d.params.defaults = [])
    (call:∀ (w:World) (s₀ s₁:Shared) (mg mb:Str → Option Value) (fa:Addr) (o:Obj) (pm cd doc:Value) (a:Addr) (vs:List Value) (ns:List Int),
      Ground q loose [] XP w s₀ mg mb s₁.heap → YP w s₁.heap →
      s₁.heap.get? fa = some o → o.data = .func (docDef d.name d.params d.body d.scope pm cd doc) → s₁.heap.CodeRec cd d.name → mg d.name = some (.ref fa) →
      s₁.heap.get? a = some { cls:=.type "list", data:=.seq vs.toArray } → IntsAre vs ns → ns.length ≤ n → s₁.gens = #[] →
      codeAny (model l.prog w) callerA (.call (.ref fa) ⟨[.ref a],[]⟩) (fun r s'=>r = .ok (.ret (.bool true)) ∧ OldK s₁.heap s'.heap ∧ s'.os = s₁.os ∧ AllBare s'.gens) s₁) :
    WalkO q loose XP YP l.row.toRowW d [] (fun f vs=>PySem.call f vs):=by
  intro w s₀ s₁ mg mb G Y fa o pm cd doc dV kV ho hd hcd hD hmg hg args vals as hpre hlay hrd hwl hlo
  obtain rfl:dV = .none:=Dflts.none hD hdf
  obtain rfl:kV = .none:=Dflts.noKw hD
  obtain ⟨a,vs,ns,rfl,rfl,hobj,hints,hlen⟩:=script_of hn hpre hwl
  refine enter_call (codeAny_mono (call w s₀ s₁ mg mb fa o pm cd doc a vs ns G Y ho (fd_plain hd) hcd hmg hobj hints hlen hg) fun r s' hq=>?_)
  obtain ⟨rfl,h2,h3,h4⟩:=hq
  exact ⟨.inl ⟨.bool true,.bool true,[],rfl,fun _=>rfl,.bool true,post_true l _,fun _=>⟨List.Pairwise.nil,fun _ hm=>(nomatch hm)⟩⟩,h2,h3,h4⟩
section
variable {prog:Program} {w:World} {A:Around} {E:Value → Shared → Prop} {s:Shared} {K:Frag}
end
end Att
namespace L2
open PySem PySem.Spec PyProof.Rows
theorem vals_ints:∀ {vs:List Value} {ns:List Int},IntsAre vs ns → Vals (ns.map V.int) vs
  | _,_,.nil=>.nil
  | _,_,.cons n t h=>.cons ⟨t,rfl⟩ (vals_ints h)
def Only (H:Hp):Prop:=∀ b,H b = none ∨ ∃ o xs,H b = some (.frz o (.lst xs))
end L2
namespace L2
open PySem PySem.Spec PyProof.Rows
end L2
namespace L2
open PySem PySem.Spec PyProof.Rows
def inClass (s:Stmt) (j:Nat):Stmt:=match s with
  | .ClassDef _ _ _ body _ _ _ _ _ _ _=>body.getD j (.Pass ⟨0,0,0,0⟩)
  | _=>.Pass ⟨0,0,0,0⟩
def defArgs (s:Stmt):Arguments:=match s with
  | .FunctionDef _ a _ _ _ _ _ _ _ _=>a
  | _=>{ posonlyargs:=[],args:=[],vararg:=none,kwonlyargs:=[],kw_defaults:=[],kwarg:=none,defaults:=[] }
def defBody (s:Stmt):List Stmt:=match s with
  | .FunctionDef _ _ b _ _ _ _ _ _ _=>b
  | _=>[]
def defScope (s:Stmt):Scope:=match s with
  | .FunctionDef _ _ _ _ _ _ sc _ _ _=>sc
  | _=>{ kind:=.function,names:=[],isGenerator:=false,isCoroutine:=false }
abbrev CX0:CXT:=fun _ _ _ _ _ _=>False
abbrev E0:XK:=fun _ _ _=>False
theorem pass0 {X:Cx}:Passes CX0 X E0:=fun _ _ _ _ _ _ _ h=>h.elim
structure Fun (K:PySem.W.Frag) (x qual:Str) (st:Stmt) (f:Addr) (fd:FuncData):Prop where
  ex:∃ (oc:Value) (od:Option Addr) (kV doc pm:Value) (an:Option Addr) (cdv ct:Value) (osl:Array (Option Value)),
    fd = PySem.W.fnOf x qual (defArgs st) (defBody st) (defScope st) .none kV doc pm an cdv ct ∧ K.lookup f = some ⟨oc,od,.func fd,osl⟩ ∧ PySem.W.codeIn K cdv qual = true
  kp:PySem.W.keepIn K (.ref f) = true
section
variable {P:Program} {w:World} {K:PySem.W.Frag} {mg:Str → Option Value} {base:Heap}
theorem Fun.ok {x qual:Str} {st:Stmt} {f:Addr} {fd:FuncData} {N ps:List Str} {k:Nat} {sp:Sp} (F:Fun K x qual st f fd) (S:FnScope N ps (defScope st)) (len:∀ vs H Q E,sp vs H Q E → vs.length = ps.length)
    (hbody:∀ (cdv:Value) (A:Around) (outer:List Env) (s:Shared) (H:Hp) (vs:List V) (Q:VK) (E:XK),Room k (A.deeper (envOfC qual (defScope st) s.heap.objs.size f cdv)) → sp vs H Q E →
      ∃ t,PSs (cxOf CX0 P w K mg base N qual (defScope st) f cdv A outer s H E).nox (defBody st) t ∧ t { nx:=fun _ H'=>Q .non H',rt:=Q } (start N vs) H):FnOk P w K mg base CX0 (k + 1) f fd ps sp:=by
  obtain ⟨oc,od,kV,doc,pm,an,cdv,ct,osl,rfl,lk,hcd⟩:=F.ex
  refine fn_of lk hcd S len fun A outer s H vs Q E hr hsp=>?_
  obtain ⟨t,h,q⟩:=hbody cdv A outer s H vs Q E hr hsp
  exact ⟨t,h.nox,q⟩
theorem Fun.binds {x qual:Str} {st:Stmt} {f:Addr} {fd:FuncData} {ps:List Str} (F:Fun K x qual st f fd)
    (h:∀ (kV doc pm:Value) (an:Option Addr) (cdv ct:Value) (us:List Value),us.length = ps.length → bindArgs (PySem.W.fnOf x qual (defArgs st) (defBody st) (defScope st) .none kV doc pm an cdv ct) ⟨us,[]⟩ = pure (ps.zip us)):Binds K fd ps []:=by
  obtain ⟨oc,od,kV,doc,pm,an,cdv,ct,osl,rfl,lk,hcd⟩:=F.ex
  exact .all (h kV doc pm an cdv ct)
theorem fun_mk {x qual:Str} {st:Stmt} {f:Addr} {oc:Value} {od an:Option Addr} {osl:Array (Option Value)} {kV doc pm cdv ct:Value} (l:K.lookup f = some ⟨oc,od,.func (PySem.W.fnOf x qual (defArgs st) (defBody st) (defScope st) .none kV doc pm an cdv ct),osl⟩)
    (c:PySem.W.codeIn K cdv qual = true) (k:PySem.W.keepIn K (.ref f) = true):Fun K x qual st f (PySem.W.fnOf x qual (defArgs st) (defBody st) (defScope st) .none kV doc pm an cdv ct):=⟨⟨oc,od,kV,doc,pm,an,cdv,ct,osl,rfl,l,c⟩,k⟩
end
theorem hu_of {A:Around} {k:Nat} (hr:Room k A):A.units + 1 < cLine:=Nat.lt_of_le_of_lt (Nat.add_le_add_left (by decide:1 ≤ 64) _) hr.units
theorem small1000 {n:Nat} (h:n ≤ 1000):n < sizeLine:=Nat.lt_of_le_of_lt h (by decide)
section
variable {X:Cx}
theorem pv (i:Nat) {x:Str} {pos:Pos} (hN:X.N[i]? = some x:=by rfl) (hv:Vis X.env.scope x:=by first | exact Or.inl rfl | exact Or.inr (Or.inl rfl) | exact Or.inr (Or.inr rfl)) (hd:(x == ("__debug__" : Str)) = false:=by decide)
    (hcd:(x == ("__classdict__" : Str)) = false:=by decide):PE X (.Name x pos) (tVar i):=pe_var hN hv hd hcd
end
theorem iteF {A B:Prop} (h:B):if false = true then A else B:=by
  rw [if_neg Bool.false_ne_true]
  exact h
theorem iteT {A B:Prop} (h:A):if true = true then A else B:=by
  rw [if_pos rfl]
  exact h
def Same (H H':Hp):Prop:=∀ b o,H b = some o → H' b = some o
theorem Same.refl (H:Hp):Same H H:=fun _ _ h=>h
theorem Same.trans {H H1 H2:Hp} (a:Same H H1) (b:Same H1 H2):Same H H2:=fun c o h=>b c o (a c o h)
theorem Same.free {H H':Hp} (e:Same H H') {l:Addr} (h:H' l = Option.none):H l = Option.none:=by
  cases q:H l with
  | none=>rfl
  | some o =>
    rw [e l o q] at h
    cases h
theorem Same.seq {K:PySem.W.Frag} {H H':Hp} {a:Addr} {xs:List V} (e:Same H H') (h:SqL K H a xs):SqL K H' a xs:=by
  rcases h with (h | ⟨o,h⟩) | h
  · exact .inl (.inl (e _ _ h))
  · exact .inl (.inr ⟨o,e _ _ h⟩)
  · exact .inr h
end L2
set_option Elab.async false
set_option linter.all false
set_option maxRecDepth 100000
namespace L2
open PySem PySem.Spec PyProof.Rows
def captS (cp:List (Option Nat)) (σ:St):St:=cp.map fun o=>match o with
  | none=>none
  | some j=>(σ[j]?).getD none
structure CompSc (esc sc:Scope) (XN N:List Str) (cp:List (Option Nat)):Prop where
  kind:sc.kind = .function
  nocell:∀ y ∈ sc.names,y.2 ≠ .cell
  names:∀ y ∈ sc.names,y.2 = .local → sc.names.lookup y.1 = some .local
  free:∀ y ∈ sc.names,y.2 = .free → esc.names.lookup y.1 = some .cell ∨ esc.names.lookup y.1 = some .free
  len:cp.length = N.length
  nd:N.Nodup
  cap:((N.zip cp).all fun p=>match p.2 with
    | none=>true
    | some j=>decide (XN[j]? = some p.1) && decide (sc.names.lookup p.1 = some .free)) = true
theorem CompSc.capt {esc sc:Scope} {XN N:List Str} {cp:List (Option Nat)} (S:CompSc esc sc XN N cp) {i j:Nat} {x:Str} (hN:N[i]? = some x) (hc:cp[i]? = some (some j)) :
    XN[j]? = some x ∧ sc.names.lookup x = some .free:=by
  have hm:(x,some j) ∈ N.zip cp:=by
    have e:(N.zip cp)[i]? = some (x,some j):=by
      rw [List.getElem?_zip_eq_some]
      exact ⟨hN,hc⟩
    exact List.mem_of_getElem? e
  have q:=List.all_eq_true.mp S.cap _ hm
  simp only [Bool.and_eq_true,decide_eq_true_eq] at q
  exact q
theorem captS_get {cp:List (Option Nat)} {σ:St} {i:Nat} {v:V} (h:(captS cp σ)[i]? = some (some v)):∃ j,cp[i]? = some (some j) ∧ σ[j]? = some (some v):=by
  unfold captS at h
  rw [List.getElem?_map] at h
  cases e:cp[i]? with
  | none=>rw [e] at h; cases h
  | some o =>
    rw [e] at h
    cases o with
    | none=>cases h
    | some j =>
      refine ⟨j,rfl,?_⟩
      simp only [Option.map_some,Option.some.injEq] at h
      cases e2:σ[j]? with
      | none=>rw [e2] at h; cases h
      | some w=>rw [e2] at h; simpa using h
theorem forIn_yield_fold {α β:Type} {f:α → β → Sem (ForInStep β)} (k:α → β → β):∀ (l:List α) (c:β),(∀ x ∈ l,∀ c,f x c = pure (.yield (k x c))) → forIn l c f = (pure (l.foldl (fun c x=>k x c) c):Sem β)
  | [],c,_=>rfl
  | x :: l,c,h=>by
    rw [List.forIn_cons,h x List.mem_cons_self c]
    show forIn l (k x c) f = _
    exact forIn_yield_fold k l (k x c) fun y hy c=>h y (List.mem_cons_of_mem _ hy) c
structure ClOk (env:Env) (sc:Scope) (cl:List (Str × Addr)):Prop where
  clos:closureFor sc env = pure cl
  sub:∀ x c,cl.lookup x = some c → env.cells.lookup x = some c
  has:∀ y ∈ sc.names,y.2 = .free → ∃ c,cl.lookup y.1 = some c
theorem closure_ok {env:Env} {sc:Scope} (h:∀ y ∈ sc.names,y.2 = .free → ∃ c,env.cells.lookup y.1 = some c):∃ cl,ClOk env sc cl:=by
  let k:Str × NameKind → List (Str × Addr) → List (Str × Addr):=fun y c=>if y.2 = .free then (y.1,(env.cells.lookup y.1).getD 0) :: c else c
  have e:closureFor sc env = pure (sc.names.foldl (fun c x=>k x c) []):=by
    simp only [closureFor]
    rw [forIn_yield_fold k sc.names [] (fun x hx c=>by
      obtain ⟨n,kd⟩:=x
      by_cases hk:kd = .free
      · subst hk
        obtain ⟨a,ha⟩:=h _ hx rfl
        have hca:cellOf env n = pure a:=by unfold cellOf; rw [show env.cells.lookup n = some a from ha]
        have hkk:k (n,NameKind.free) c = (n,a) :: c:=by
          show (if NameKind.free = .free then (n,(env.cells.lookup n).getD 0) :: c else c) = _
          rw [if_pos rfl,show env.cells.lookup n = some a from ha]; rfl
        rw [hkk]
        simp only [beq_self_eq_true,if_true,hca]
        rfl
      · have hb:(kd == NameKind.free) = false:=by simpa using hk
        have hkk:k (n,kd) c = c:=by
          show (if kd = .free then _ else c) = _
          rw [if_neg hk]
        rw [hkk]
        simp only [hb,Bool.false_eq_true,if_false])]
    rfl
  have go:∀ (l:List (Str × NameKind)) (acc:List (Str × Addr)),(∀ y ∈ l,y.2 = .free → ∃ c,env.cells.lookup y.1 = some c) → (∀ x c,acc.lookup x = some c → env.cells.lookup x = some c) →
      (∀ x c,(l.foldl (fun c x=>k x c) acc).lookup x = some c → env.cells.lookup x = some c) ∧ (∀ y ∈ l,y.2 = .free → ∃ c,(l.foldl (fun c x=>k x c) acc).lookup y.1 = some c) ∧
      ∀ x c,acc.lookup x = some c → ∃ c,(l.foldl (fun c x=>k x c) acc).lookup x = some c:=by
    intro l
    induction l with
    | nil=>intro acc _ h2; exact ⟨h2,fun y hy=>(nomatch hy),fun x c e=>⟨c,e⟩⟩
    | cons y l ih =>
      intro acc h1 h2
      have h1':∀ z ∈ l,z.2 = .free → ∃ c,env.cells.lookup z.1 = some c:=fun z hz=>h1 z (List.mem_cons_of_mem _ hz)
      by_cases hk:y.2 = .free
      · obtain ⟨a,ha⟩:=h1 y List.mem_cons_self hk
        have ek:k y acc = (y.1,a) :: acc:=by show (if y.2 = .free then _ else _) = _; rw [if_pos hk,ha]; rfl
        have h2':∀ x c,((y.1,a) :: acc).lookup x = some c → env.cells.lookup x = some c:=fun x c e=>by
          rw [List.lookup_cons] at e
          cases hx:x == y.1 with
          | true=>rw [hx] at e; cases e; rw [eq_of_beq hx]; exact ha
          | false=>rw [hx] at e; exact h2 x c e
        obtain ⟨p,q,r⟩:=ih ((y.1,a) :: acc) h1' h2'
        rw [List.foldl_cons,ek]
        refine ⟨p,fun z hz hf=>?_,fun x c e=>?_⟩
        · rcases List.mem_cons.mp hz with e | hz
          · subst e; exact r z.1 a (by simp [List.lookup_cons])
          · exact q z hz hf
        · cases hx:x == y.1 with
          | true=>exact r x a (by simp [List.lookup_cons,hx])
          | false=>exact r x c (by simp [List.lookup_cons,hx,e])
      · have ek:k y acc = acc:=by show (if y.2 = .free then _ else _) = _; rw [if_neg hk]
        obtain ⟨p,q,r⟩:=ih acc h1' h2
        rw [List.foldl_cons,ek]
        refine ⟨p,fun z hz hf=>?_,r⟩
        rcases List.mem_cons.mp hz with e | hz
        · subst e; exact absurd hf hk
        · exact q z hz hf
  obtain ⟨p,q,_⟩:=go sc.names [] h (fun x c e=>by cases e)
  exact ⟨_,e,p,q⟩
theorem relabel_free {env:Env}:∀ {names:List (Str × NameKind)} {x:Str},names.lookup x = some .free →
    ((names.map fun (n,k)=>if (k == NameKind.free && env.scope.kind == .function && env.kindOf n == some .cell) then (n,NameKind.cell) else (n,k)).lookup x = some .cell ∨
     (names.map fun (n,k)=>if (k == NameKind.free && env.scope.kind == .function && env.kindOf n == some .cell) then (n,NameKind.cell) else (n,k)).lookup x = some .free)
  | [],_,h=>by simp at h
  | (n,k) :: r,x,h=>by
    have ih:=@relabel_free env r x
    show List.lookup x ((if (k == NameKind.free && env.scope.kind == .function && env.kindOf n == some .cell) = true then (n,NameKind.cell) else (n,k)) :: _) = _ ∨ List.lookup x ((if (k == NameKind.free && env.scope.kind == .function && env.kindOf n == some .cell) = true then (n,NameKind.cell) else (n,k)) :: _) = _
    cases hx:x == n with
    | true =>
      simp only [List.lookup_cons,hx] at h
      cases h
      by_cases hc:(NameKind.free == NameKind.free && env.scope.kind == .function && env.kindOf n == some .cell) = true
      · rw [if_pos hc]; left; simp [List.lookup_cons,hx]
      · rw [if_neg hc]; right; simp [List.lookup_cons,hx]
    | false =>
      simp only [List.lookup_cons,hx] at h
      by_cases hc:(k == NameKind.free && env.scope.kind == .function && env.kindOf n == some .cell) = true
      · rw [if_pos hc]; simp only [List.lookup_cons,hx]; exact ih h
      · rw [if_neg hc]; simp only [List.lookup_cons,hx]; exact ih h
theorem relabel_inv {env:Env} {names:List (Str × NameKind)} {x:Str} (hn:∀ y ∈ names,y.2 ≠ .cell)
    (h:(names.map fun (n,k)=>if (k == NameKind.free && env.scope.kind == .function && env.kindOf n == some .cell) then (n,NameKind.cell) else (n,k)).lookup x = some .cell ∨
     (names.map fun (n,k)=>if (k == NameKind.free && env.scope.kind == .function && env.kindOf n == some .cell) then (n,NameKind.cell) else (n,k)).lookup x = some .free):∃ y ∈ names,y.1 = x ∧ y.2 = .free:=by
  have hm:∃ kd,(kd = .cell ∨ kd = .free) ∧ (x,kd) ∈ (names.map fun (n,k)=>if (k == NameKind.free && env.scope.kind == .function && env.kindOf n == some .cell) then (n,NameKind.cell) else (n,k)):=by
    rcases h with h | h
    · exact ⟨_,.inl rfl,PySem.mem_of_lookup h⟩
    · exact ⟨_,.inr rfl,PySem.mem_of_lookup h⟩
  obtain ⟨kd,hk,hm⟩:=hm
  obtain ⟨⟨n,k⟩,hy,e⟩:=List.mem_map.mp hm
  have e':(if (k == NameKind.free && env.scope.kind == .function && env.kindOf n == some .cell) = true then (n,NameKind.cell) else (n,k)) = (x,kd):=e
  by_cases hc:(k == NameKind.free && env.scope.kind == .function && env.kindOf n == some .cell) = true
  · rw [if_pos hc] at e'
    cases e'
    simp only [Bool.and_eq_true,beq_iff_eq] at hc
    exact ⟨_,hy,rfl,hc.1.1⟩
  · rw [if_neg hc] at e'
    cases e'
    rcases hk with z | z
    · exact absurd z (hn _ hy)
    · exact ⟨_,hy,rfl,z⟩
structure CompPt where
  cl:List (Str × Addr)
  C:Addr
  D:Addr
  s:Shared
  H:Hp
  fp:List Addr
  pins:List (Addr × Obj)
abbrev cxC (X:Cx) (sc:Scope) (N:List Str) (z:CompPt):Cx :=
  { X with N:=N,s₀:=z.s,H₀:=z.H,env:=compEnvC sc z.cl z.C X.env,outer:=X.stack,ex:=z.D :: z.fp,fn:=fun _=>false,pn:=X.pn ++ z.pins,xe:=fun _ _=>False }
def Sets (g:TG) (Sg:List Nat):Prop:=∀ v σ H Q,g v σ H Q → g v σ H fun σ2 H2=>Q σ2 H2 ∧ σ2.length = σ.length ∧ ∀ i,i ∉ Sg → σ2[i]? = σ[i]?
theorem sets_name (k:Nat):Sets (gName k) [k]:=fun v σ H Q h=>⟨h,by simp,fun i hi=>by
  rw [List.getElem?_set_ne]
  intro e; exact hi (by simp [e])⟩
theorem sets_two (K:PySem.W.Frag) (n k l:Nat):Sets (gTup K n (gCons (gName k) (gCons (gName l) gNil))) [k,l]:=by
  intro v σ H Q h
  obtain ⟨a,xs,e,hq,hn,v1,r1,e1,v2,r2,e2,e3,q⟩:=h
  refine ⟨a,xs,e,hq,hn,v1,r1,e1,v2,r2,e2,e3,q,by simp,fun i hi=>?_⟩
  rw [List.getElem?_set_ne,List.getElem?_set_ne]
  · intro e; exact hi (by simp [e])
  · intro e; exact hi (by simp [e])
def PIf (X:Cx) (ifs:List Expr) (t:TT):Prop :=
  ∀ (pins:List (Addr × Obj)) (s:Shared) (σ:St) (H:Hp) (Q:Bool → Hp → Prop),Inv X pins σ H s → t σ H Q →
    wpAny (model X.prog X.w) X.A (forIn ifs true fun c r=>if r = true then do let ok ← isTrue c X.env (eval c X.env); pure (ForInStep.yield ok) else pure (ForInStep.yield r)) (TP X pins σ Q) X.xe s
def tYes:TT:=fun _ H Q=>Q true H
theorem pif_nil {X:Cx}:PIf X [] tYes:=fun _ _ _ H _ I h=>wpAny_tests_nil ⟨H,I,h⟩
section
variable {prog:Program} {w:World} {A:Around} {R:Result → Shared → Prop} {s:Shared}
theorem codeAny_compLoop_own {elt target iter:Expr} {ifs:List Expr} {scope:Scope} {pos:Pos} {it acc:Value} {env:Env} (I:Nat → Shared → Prop)
    (turn:∀ n s,I n s → wpAny (model prog w) A (pyNext it) (fun r s₁=>match r with
      | none=>R (.ok .next) s₁
      | some v=>wpAny (model prog w) A (letOwnedTupleGo target it v) (fun _ s₁'=>wpAny (model prog w) A (assign target env v) (fun _ s₂ =>
          wpAny (model prog w) A (forIn ifs true fun c r=>if r = true then do let ok ← isTrue c env (eval c env); pure (ForInStep.yield ok) else pure (ForInStep.yield r)) (fun ok s₃ =>
            if ok = true then wpAny (model prog w) A (eval elt env) (fun x s₄ =>
              wpAny (model prog w) A (call (.builtin "list.append") [acc,x]) (fun _ s₅=>∃ m,m < n ∧ I m s₅) (fun _ _=>False) s₄) (fun _ _=>False) s₃
            else ∃ m,m < n ∧ I m s₃) (fun _ _=>False) s₂) (fun _ _=>False) s₁') (fun _ _=>False) s₁) (fun _ _=>False) s)
    (n:Nat) (h:I n s) :
    codeAny (model prog w) A (.compLoop (.ListComp elt [⟨target,iter,ifs,0⟩] scope pos) 0 it acc env) R s:=by
  refine codeAny_loop rfl I (fun n s hI=>?_) n h
  show wpAny _ A ((compTurn (.ListComp elt [⟨target,iter,ifs,0⟩] scope pos) 0 it acc env).onRaise (fun x=>do noteFrame x env; theTreesLotGoes x)) _ _ s
  refine wpAny_noted ?_
  rw [compTurn_list]
  refine wpAny_bind (wpAny_standAt (wpAny_bind (wpAny_mono (turn n s hI) (fun r s₁ h₁=>?_) fun _ _ h'=>h'.elim)))
  cases r with
  | none=>exact wpAny_pure h₁
  | some v =>
    refine wpAny_bind (wpAny_mono h₁ (fun _ s₁' h₁'=>?_) fun _ _ h'=>h'.elim)
    refine wpAny_bind (wpAny_mono h₁' (fun _ s₂ h₂=>wpAny_bind (wpAny_mono h₂ (fun ok s₃ h₃=>?_) fun _ _ h'=>h'.elim)) fun _ _ h'=>h'.elim)
    cases ok with
    | false=>exact wpAny_pure ⟨rfl,h₃⟩
    | true =>
      exact wpAny_bind (wpAny_bind (wpAny_mono h₃ (fun x s₄ h₄=>wpAny_bind (wpAny_mono h₄ (fun _ s₅ h₅=>wpAny_pure (wpAny_pure ⟨rfl,h₅⟩)) fun _ _ h'=>h'.elim)) fun _ _ h'=>h'.elim))
end
end L2
set_option Elab.async false
set_option linter.all false
set_option maxRecDepth 100000
namespace L2
open PySem PySem.Spec PyProof.Rows
def accObj (its:List Value) (n:Nat):Obj:={ cls:=.type "list", data:=.seq its.toArray n }
theorem comp_start {X:Cx} {sc:Scope} {N:List Str} {cp:List (Option Nat)} {pins:List (Addr × Obj)} {σ:St} {H:Hp} {s:Shared} {fp:List Addr} {cl:List (Str × Addr)} {h4:Heap} {tk:Nat} {m:Str → Option Value}
    (S:CompSc X.env.scope sc X.N N cp) (I:Inv X pins σ H s) (hf:∀ b ∈ fp,FpOk X pins H b) (hfo:∀ b ∈ fp,∃ o,s.heap.get? b = some o) (K:ClOk X.env sc cl)
    (hns:h4.Ns (s.heap.objs.size + 1) m) (hsb:∀ b o,b ≠ s.heap.objs.size + 1 → (s.heap.push (accObj [] 0)).get? b = some o → h4.get? b = some o) :
    Inv (cxC X sc N ⟨cl,s.heap.objs.size + 1,s.heap.objs.size,{ s with heap:=s.heap.push (accObj [] 0) },H,fp,pins⟩) [(s.heap.objs.size,accObj [] 0)] (captS cp σ) H { s with heap:=h4,toks:=tk }:=by
  have I3:Inv X pins σ H { s with heap:=s.heap.push (accObj [] 0) }:=I.kept (t':=s.toks) fun b o e=>Heap.get?_push_of_some _ e
  have up:∀ b o,(s.heap.push (accObj [] 0)).get? b = some o → b < s.heap.objs.size + 1:=fun b o e=>by
    have:=Heap.lt_size e
    rwa [Heap.size_push] at this
  have old:∀ b o,(s.heap.push (accObj [] 0)).get? b = some o → h4.get? b = some o:=fun b o e=>hsb b o (Nat.ne_of_lt (up b o e)) e
  have cells:∀ x c,X.env.cells.lookup x = some c → c < s.heap.objs.size:=fun x c e=>by
    obtain ⟨v,q⟩:=I.cell x c e
    exact q.lt
  have ok:(cxC X sc N ⟨cl,s.heap.objs.size + 1,s.heap.objs.size,{ s with heap:=s.heap.push (accObj [] 0) },H,fp,pins⟩).Ok:=by
    refine ⟨I3.ok.mod,S.kind,I3.ok.glob,I3.ok.blt,by show (s.heap.push (accObj [] 0)).objs.size ≤ _; rw [Heap.size_push]; exact Nat.le_refl _,fun x y c h1 h2=>I3.ok.inj x y c (K.sub x c h1) (K.sub y c h2),fun x hx=>?_,fun x c h1 _=>(by cases h1),I3.ok.hd,I3.ok.frames,.inl rfl,
      fun b hb=>?_,I3.bs,Nat.le_trans I3.ok.bsz I3.sz,fun b o e hb=>?_,fun b hb hs=>?_,I3.stack,I3.stkFree⟩
    · obtain ⟨y,hy,e,hf⟩:=relabel_inv S.nocell hx
      obtain ⟨c,hc⟩:=K.has y hy hf
      exact ⟨c,by rw [← e]; exact hc⟩
    · have hb':b = s.heap.objs.size ∨ b ∈ fp:=by simpa using hb
      rcases hb' with rfl | hb'
      · exact ⟨Nat.ne_of_lt (Nat.lt_succ_self _),fun x c e=>Nat.ne_of_lt (cells x c (K.sub x c e))⟩
      · obtain ⟨o,e⟩:=hfo b hb'
        exact ⟨Nat.ne_of_lt (Nat.lt_succ_of_lt (Heap.lt_size e)),fun x c e=>(hf b hb').2.2.2.2.1 x c (K.sub x c e)⟩
    · have hb':b = s.heap.objs.size ∨ b ∈ fp:=by simpa using hb
      rcases hb' with rfl | hb'
      · exact absurd (Heap.lt_size (I.bk _ _ e)) (Nat.lt_irrefl _)
      · rcases (hf b hb').2.2.2.1 with z | z
        · exact I.ok.noex b o e z
        · exact absurd (Nat.lt_of_lt_of_le (Heap.lt_size e) (Nat.le_trans I.ok.bsz z)) (Nat.lt_irrefl _)
    · have hb':b = s.heap.objs.size ∨ b ∈ fp:=by simpa using hb
      have hs':=I.stkSub b hs
      rcases hb' with rfl | hb'
      · rcases List.mem_cons.mp hs' with z | z
        · exact absurd I.lt (by rw [← z]; exact Nat.lt_irrefl _)
        · exact I.nofs (Nat.le_refl _) z
      · rcases List.mem_cons.mp hs' with z | z
        · exact (hf b hb').2.1 z
        · exact (hf b hb').2.2.1 z
  have stk:∀ b,b ≠ X.env.locals → b ∉ X.fs → b ∉ frs X.stack:=fun b h1 h2 h3=>by
    rcases List.mem_cons.mp (I.stkSub b h3) with z | z
    · exact h1 z
    · exact h2 z
  refine ⟨ok,rfl,I3.bare,Un.kept old,⟨m,hns,fun i x v h1 h2 h3=>?_⟩,fun x c e=>?_,?_,fun x c e=>I3.freeC x c (K.sub x c e),fun p hp=>?_,I3.hok.kept old,?_⟩
  · obtain ⟨j,hj,hσ⟩:=captS_get h2
    obtain ⟨hXN,hfr⟩:=S.capt h1 hj
    have hXk:=S.free (x,.free) (PySem.mem_of_lookup hfr) rfl
    obtain ⟨mX,hnX,hlX⟩:=I3.loc
    obtain ⟨u,r,l⟩:=hlX j x v hXN hσ (by rcases hXk with z | z; exact .inr (.inl z); exact .inr (.inr z))
    refine ⟨u,r,.inr ⟨relabel_free hfr,?_⟩⟩
    obtain ⟨c',hc'⟩:=K.has (x,.free) (PySem.mem_of_lookup hfr) rfl
    rcases l with ⟨k,_⟩ | ⟨_,c,e,z⟩
    · have k':X.env.scope.names.lookup x = some .local:=k
      rcases hXk with q | q <;> (rw [show X.env.scope.names.lookup x = _ from q] at k'; cases k')
    · have e2:=K.sub x c' hc'
      have ec:c = c':=by
        rw [e] at e2
        exact Option.some.inj e2
      exact ⟨c',hc',by rw [← ec]; exact z.keeps old⟩
  · obtain ⟨v,q⟩:=I3.cell x c (K.sub x c e)
    exact ⟨v,q.keeps old⟩
  · exact I.hok.fresh (Nat.le_succ _)
  · rcases List.mem_append.mp hp with z | z
    · obtain ⟨e,n,ne,nf,d⟩:=I3.pin p z
      exact ⟨old _ _ e,n,Nat.ne_of_lt (up _ _ e),stk _ ne nf,d⟩
    · have e:p = (s.heap.objs.size,accObj [] 0):=by simpa using z
      subst e
      refine ⟨old _ _ (Heap.get?_push_size _ rfl),I.hok.fresh (Nat.le_refl _),Nat.ne_of_lt (Nat.lt_succ_self _),stk _ (Nat.ne_of_gt I.lt) (I.nofs (Nat.le_refl _)),fun v q=>?_⟩
      have q':Data.seq _ _ = Data.cell v:=q
      cases q'
  · show (cp.map _).length = N.length
    rw [List.length_map]
    exact S.len
theorem comp_end {X:Cx} {sc:Scope} {N:List Str} {pins pins':List (Addr × Obj)} {σ σ':St} {H H5:Hp} {s s5:Shared} {fp:List Addr} {cl:List (Str × Addr)} {ys:List V} {its:List Value} {n:Nat}
    (I:Inv X pins σ H s) (hf:∀ b ∈ fp,FpOk X pins H b)
    (I5:Inv (cxC X sc N ⟨cl,s.heap.objs.size + 1,s.heap.objs.size,{ s with heap:=s.heap.push (accObj [] 0) },H,fp,pins⟩) pins' σ' H5 s5)
    (hD:s5.heap.get? s.heap.objs.size = some (accObj its n)) (hn:H5 s.heap.objs.size = none) (rv:Vals ys its) (hz:ys.length ≤ sizeLine) :
    Inv X pins σ (upd H5 s.heap.objs.size (.lst ys)) s5 ∧ FpOk X pins (upd H5 s.heap.objs.size (.lst ys)) (s.heap.objs.size + 1):=by
  have hH:H s.heap.objs.size = none:=I.hok.fresh (Nat.le_refl _)
  have lt:∀ b o,s.heap.get? b = some o → b ≠ s.heap.objs.size:=fun b o e=>Nat.ne_of_lt (Heap.lt_size e)
  have psh:∀ b o,s.heap.get? b = some o → (s.heap.push (accObj [] 0)).get? b = some o:=fun b o e=>Heap.get?_push_of_some _ e
  have nx:∀ b o,s.heap.get? b = some o → b ∉ fp → b ∉ s.heap.objs.size :: fp:=fun b o e h1 h2=>by
    rcases List.mem_cons.mp h2 with z | z
    · exact lt b o e z
    · exact h1 z
  have hU:Un (frs X.stack) fp H (upd H5 s.heap.objs.size (.lst ys)) s.heap s5.heap:=by
    have U:=I5.base
    refine ⟨fun b o e n1 hb hx=>U.keep b o (psh b o e) n1 hb (nx b o e hx),fun b o e n1 hb hx=>U.slot b o (psh b o e) n1 hb (nx b o e hx),fun b o e n1 hx=>?_,fun b o e hx=>U.there b o (psh b o e) (nx b o e hx),
      fun b xs e=>?_,fun b o u e=>?_,fun b ps e=>?_⟩
    · rw [upd_ne (lt b o e)]; exact U.free b o (psh b o e) n1 (nx b o e hx)
    · rw [upd_ne (ne_of_none e hH)]; exact U.tups b xs e
    · rw [upd_ne (ne_of_none e hH)]; exact U.frzs b o u e
    · rw [upd_ne (ne_of_none e hH)]; exact U.tbls b ps e
  have hok:HOk X.prog X.w (upd H5 s.heap.objs.size (.lst ys)) s5.heap:=fun b u q=>by
    by_cases hb:b = s.heap.objs.size
    · subst hb
      rw [upd_same] at q
      cases q
      exact ⟨hz,its,n,rv,hD⟩
    · rw [upd_ne hb] at q
      refine ObjOk.stay (I5.hok b u q) (fun c v _ q=>q) (fun c q=>?_) fun c xs q=>?_
      · rw [upd_ne (ne_of_none q hn)]; exact q
      · rw [upd_ne (ne_of_none q hn)]; exact q
  refine ⟨I.call' (ch:=fp) (show s5.os = s.os from I5.os) hU hok I5.bare fun b hb=>?_,I.fpOk (Nat.le_succ _) ?_⟩
  · obtain ⟨_,f1,_,f3,f4,f5⟩:=hf b hb
    exact ⟨f3,f1,f4,f5⟩
  · rw [upd_ne (Nat.ne_of_gt (Nat.lt_succ_self _))]
    exact I5.free
theorem comp_run {X:Cx} {sc:Scope} {N:List Str} {cp:List (Option Nat)} {tg iter elt:Expr} {ifs:List Expr} {pos:Pos} {g:TG} {tif:TT} {te:TE} {Sg:List Nat}
    (S:CompSc X.env.scope sc X.N N cp) (hc:X.calm = true) (hg:∀ z,PG (cxC X sc N z) tg g) (hset:Sets g Sg) (hloc:∀ k ∈ Sg,cp[k]? = some none)
    (hif:∀ z,PIf (cxC X sc N z) ifs tif) (he:∀ z,PE (cxC X sc N z) elt te)
    {pins:List (Addr × Obj)} {σ:St} {H:Hp} {s:Shared} {it:Addr} {fp:List Addr} {tn:Nat → Heap → Prop} {J:It} {cl:List (Str × Addr)} (I:Inv X pins σ H s) (T:Turn X.prog X.w X.K tg J fp it tn) (st:tn 0 s.heap) (hf:∀ b ∈ fp,FpOk X pins H b)
    (K:ClOk X.env sc cl) {W:Nat → Nat → List V → Hp → Prop} {F:List V → Hp → Prop} {m0:Nat} (w0:W 0 m0 [] H)
    (turn:∀ i m ys H,W i m ys H → (J.stop i H ∧ ys.length ≤ sizeLine ∧ F ys H) ∨ (J.go i H ∧ ys.length ≤ sizeLine ∧ ∃ (N1:V → Hp → Prop) (N0:Hp → Prop),(∀ y H',N1 y H' → ∃ m',m' < m ∧ W (i + 1) m' (ys ++ [y]) H') ∧ (∀ H',N0 H' → ∃ m',m' < m ∧ W (i + 1) m' ys H') ∧ ∀ x H',J.yld i H x H' → g x (captS cp σ) H' fun σ2 H2=>tif σ2 H2 fun b H3=>if b = true then te σ2 H3 N1 else N0 H3))
    {RR:Value → Addr → Result → Shared → Prop} {E:Value → Shared → Prop}
    (fin:∀ D C s5 ys H5,H5 D = none → F ys H5 → Inv X pins σ (upd H5 D (.lst ys)) s5 → (∃ m,s5.heap.Ns C m) → FpOk X pins (upd H5 D (.lst ys)) C → RR (.ref D) C (.ok .next) s5) :
    wpAny (model X.prog X.w) X.A (newList []) (fun acc s₃=>wpAny (model X.prog X.w) X.A (newFunctionEnv sc X.env.globals cl [] X.env.qual none .none (some X.env)) (fun cenv s₄ =>
      codeAny (model X.prog X.w) X.A (.compStart (.ListComp elt [⟨tg,iter,ifs,0⟩] sc pos) 0 (.ref it) acc { cenv with scope:=relabel sc X.env }) (RR acc cenv.locals) s₄) E s₃) E s:=by
  have hfo:∀ b ∈ fp,∃ o,s.heap.get? b = some o:=fun b hb=>by obtain ⟨o,e,_⟩:=T.obj 0 _ st b hb; exact ⟨o,e⟩
  refine wpAny_newObj_type (wpAny_newFunctionEnv S.nocell (by intro y hy; simp at hy) (fun h4 hns hsb=>?_) S.kind)
  have hns':h4.Ns (s.heap.objs.size + 1) (fun x=>([]:List (Str × Value)).reverse.lookup x):=by
    have z:=hns
    rw [show (s.heap.push { cls:=.type "list", dict:=none,data:=.seq ([]:List Value).toArray }).objs.size = s.heap.objs.size + 1 from Heap.size_push ..] at z
    exact z
  have hC:(s.heap.push (accObj [] 0)).objs.size = s.heap.objs.size + 1:=Heap.size_push ..
  have hsb':∀ b o,b ≠ s.heap.objs.size + 1 → (s.heap.push (accObj [] 0)).get? b = some o → h4.get? b = some o:=fun b o hb e =>
    hsb.extBut b o (by show b ≠ (s.heap.push (accObj [] 0)).objs.size; rw [hC]; exact hb) (Heap.get?_push_of_some _ e)
  have I4:=comp_start (tk:=s.toks + ([]:List (Str × Value)).length) S I hf hfo K hns' hsb'
  have loop:∀ it',it' = Value.ref it →
      codeAny (model X.prog X.w) X.A (.compLoop (.ListComp elt [⟨tg,iter,ifs,0⟩] sc pos) 0 it' (.ref s.heap.objs.size) (compEnvC sc cl (s.heap.objs.size + 1) X.env)) (RR (.ref s.heap.objs.size) (s.heap.objs.size + 1))
        { s with heap:=h4,toks:=s.toks + ([]:List (Str × Value)).length }:=by
    rintro _ rfl
    refine codeAny_compLoop_own (fun k s'=>∃ i ys its n H',Inv (cxC X sc N ⟨cl,s.heap.objs.size + 1,s.heap.objs.size,{ s with heap:=s.heap.push (accObj [] 0) },H,fp,pins⟩) [(s.heap.objs.size,accObj its n)] (captS cp σ) H' s' ∧
      Vals ys its ∧ tn i s'.heap ∧ (∀ b ∈ fp,H' b = none) ∧ W i k ys H') ?_ m0 ⟨0,[],[],0,H,I4,.nil,T.keep _ _ _ st fun b hb o e=>?_,fun b hb=>(hf b hb).1,w0⟩
    · rintro k s1 ⟨i,ys,its,n,H1,I1,rv,st1,fr1,w1⟩
      have fpY:∀ {H':Hp} {p:List (Addr × Obj)},(∀ b ∈ fp,H' b = none) → (∀ q ∈ p,q.1 = s.heap.objs.size) → ∀ b ∈ fp,FpOk (cxC X sc N ⟨cl,s.heap.objs.size + 1,s.heap.objs.size,{ s with heap:=s.heap.push (accObj [] 0) },H,fp,pins⟩) p H' b:=fun {H' p} hn hp b hb=>by
        obtain ⟨f0,f1,f2,f3,f4,f5⟩:=hf b hb
        obtain ⟨o,e⟩:=hfo b hb
        have hlt:=Heap.lt_size e
        refine ⟨hn b hb,Nat.ne_of_lt (Nat.lt_succ_of_lt hlt),fun z=>?_,.inl (List.mem_cons_of_mem _ hb),fun x c ec=>f4 x c (K.sub x c ec),fun q hq z=>?_⟩
        · rcases List.mem_cons.mp (I.stkSub b z) with z | z
          · exact f1 z
          · exact f2 z
        · rcases List.mem_append.mp hq with hq | hq
          · exact f5 q hq z
          · rw [hp q hq] at z
            rw [z] at hlt
            exact absurd hlt (Nat.lt_irrefl _)
      have pD:∀ {its':List Value} {n':Nat},∀ q ∈ [(s.heap.objs.size,accObj its' n')],q.1 = s.heap.objs.size:=fun {its' n'} q hq=>by
        have e:q = (s.heap.objs.size,accObj its' n'):=by simpa using hq
        rw [e]
      rcases turn i k ys H1 w1 with ⟨stop,hz,f⟩ | ⟨go,hz,N1,N0,hN1,hN0,step⟩
      · refine wpAny_mono (T.done (cxC X sc N ⟨cl,s.heap.objs.size + 1,s.heap.objs.size,{ s with heap:=s.heap.push (accObj [] 0) },H,fp,pins⟩) rfl rfl rfl hc i _ s1 _ H1 (fun _ _=>False) I1 (fpY fr1 pD) st1 stop) (fun r s2 ⟨hr,I2⟩=>?_) fun _ _ z=>z
        subst hr
        obtain ⟨e,nn,_⟩:=I2.pin (s.heap.objs.size,accObj its n) (List.mem_append_right _ (by simp))
        obtain ⟨IX,fC⟩:=comp_end I hf I2 e nn rv hz
        obtain ⟨mC,hC2,_⟩:=I2.loc
        exact fin _ _ s2 ys H1 nn f IX ⟨mC,hC2⟩ fC
      · refine wpAny_mono (T.item (cxC X sc N ⟨cl,s.heap.objs.size + 1,s.heap.objs.size,{ s with heap:=s.heap.push (accObj [] 0) },H,fp,pins⟩) rfl rfl rfl hc i _ s1 _ H1 (fun _ _=>False) I1 (fpY fr1 pD) st1 go) (fun r s2 ⟨u,hr,h2⟩=>?_) fun _ _ z=>z
        subst hr
        refine wpAny_mono h2 (fun _ s3 ⟨x,H3,I3,rx,y3,st3,fr3⟩=>?_) fun _ _ z=>z
        have I3':=I3.pinned (fpY fr3 pD) (T.obj _ _ st3)
        refine wpAny_mono (hg _ _ s3 _ H3 x u _ I3' rx (hset _ _ _ _ (step x H3 y3))) (fun _ s4 ⟨σ4,H4,I4',q4,len4,sm4⟩=>?_) fun _ _ z=>z
        refine wpAny_mono (hif _ _ s4 σ4 H4 _ I4' q4) (fun ok s5 ⟨H5,I5,q5⟩=>?_) fun _ _ z=>z
        have weak:∀ (j:Nat) v,(captS cp σ)[j]? = some (some v) → σ4[j]? = some (some v):=fun j v e=>by
          rw [sm4 j ?_]
          · exact e
          · intro hj
            obtain ⟨l,e1,_⟩:=captS_get e
            rw [hloc j hj] at e1
            cases e1
        cases ok with
        | false =>
          obtain ⟨m',hm,w5⟩:=hN0 _ q5
          show ∃ m,m < k ∧ _
          refine ⟨m',hm,i + 1,ys,its,n,H5,?_,rv,?_,fun b hb=>?_,w5⟩
          · exact (I5.unpinned).weak len4.symm weak
          · exact T.keep _ _ _ st3 fun b hb o e=>(I5.pin (b,o) (List.mem_append_right _ (List.mem_append_right _ (mem_pinsAt hb e)))).1
          · obtain ⟨o,e,d⟩:=T.obj _ _ st3 b hb
            exact (I5.pin (b,o) (List.mem_append_right _ (List.mem_append_right _ (mem_pinsAt hb e)))).2.1
        | true =>
          show wpAny _ _ (eval elt _) _ _ s5
          refine wpAny_mono (he _ _ s5 σ4 H5 _ I5 q5) (fun v s6 ⟨y,H6,I6,r6,q6⟩=>?_) fun _ _ z=>z
          obtain ⟨m',hm,w6⟩:=hN1 _ _ q6
          obtain ⟨eD,nD,_⟩:=I6.pin (s.heap.objs.size,accObj its n) (List.mem_append_right _ (List.mem_append_left _ (by simp)))
          refine wpAny_list_append_plain (items:=its.toArray) ⟨n,eD⟩ (fun h7 pl sb=>?_) (by rw [List.size_toArray,← rv.length]; exact hz)
          obtain ⟨n7,e7⟩:=pl
          have e7':h7.get? s.heap.objs.size = some (accObj (its ++ [v]) n7):=by
            rw [e7]
            show some _ = some _
            unfold accObj
            rw [show its.toArray.push v = (its ++ [v]).toArray by simp]
          have J0:Inv (cxC X sc N ⟨cl,s.heap.objs.size + 1,s.heap.objs.size,{ s with heap:=s.heap.push (accObj [] 0) },H,fp,pins⟩) [] σ4 H6 s6:=I6.pins_of fun p hp=>by cases hp
          have dY:s.heap.objs.size ≠ s.heap.objs.size + 1:=Nat.ne_of_lt (Nat.lt_succ_self _)
          have J1:Inv (cxC X sc N ⟨cl,s.heap.objs.size + 1,s.heap.objs.size,{ s with heap:=s.heap.push (accObj [] 0) },H,fp,pins⟩) [] σ4 H6 { s6 with heap:=h7 }:=by
            refine J0.turned (it:=s.heap.objs.size) (t':=s6.toks) (fun b o hb e=>(sb.2 b hb).trans e) nD dY (.inl List.mem_cons_self) (fun x c ec=>?_) (fun p hp=>?_)
            · obtain ⟨v',q⟩:=I.cell x c (K.sub x c ec)
              exact Nat.ne_of_lt q.lt
            · have hp':p ∈ X.pn ++ pins:=by simpa using hp
              exact Nat.ne_of_lt (Heap.lt_size (I.pin p hp').1)
          have J2:=J1.weak (σ':=captS cp σ) len4.symm weak
          refine ⟨m',hm,i + 1,ys ++ [y],its ++ [v],n7,H6,?_,rv.append (.cons r6 .nil),?_,fun b hb=>?_,w6⟩
          · refine J2.pins_of fun p hp=>?_
            have ep:p = (s.heap.objs.size,accObj (its ++ [v]) n7):=by simpa using hp
            subst ep
            obtain ⟨_,_,d1,d2,_⟩:=I6.pin (s.heap.objs.size,accObj its n) (List.mem_append_right _ (List.mem_append_left _ (by simp)))
            refine ⟨e7',nD,d1,d2,fun v' q=>?_⟩
            have q':Data.seq _ _ = Data.cell v':=q
            cases q'
          · refine T.keep _ _ _ st3 fun b hb o e=>?_
            have e6:=(I6.pin (b,o) (List.mem_append_right _ (List.mem_append_right _ (mem_pinsAt hb e)))).1
            obtain ⟨o',eo⟩:=hfo b hb
            exact (sb.2 b (Nat.ne_of_lt (Heap.lt_size eo))).trans e6
          · obtain ⟨o,e,d⟩:=T.obj _ _ st3 b hb
            exact (I6.pin (b,o) (List.mem_append_right _ (List.mem_append_right _ (mem_pinsAt hb e)))).2.1
    · obtain ⟨o',eo⟩:=hfo b hb
      exact hsb' b o (Nat.ne_of_lt (Nat.lt_succ_of_lt (Heap.lt_size eo))) (Heap.get?_push_of_some _ e)
  have st4:tn 0 h4:=T.keep _ _ _ st fun b hb o e=>hsb' b o (Nat.ne_of_lt (Nat.lt_succ_of_lt (Heap.lt_size e))) (Heap.get?_push_of_some _ e)
  have hCC:(s.heap.push { cls:=.type "list", dict:=none,data:=.seq ([]:List Value).toArray }).objs.size = s.heap.objs.size + 1:=Heap.size_push ..
  have goal:codeAny (model X.prog X.w) X.A (.compStart (.ListComp elt [⟨tg,iter,ifs,0⟩] sc pos) 0 (.ref it) (.ref s.heap.objs.size) (compEnvC sc cl (s.heap.objs.size + 1) X.env)) (RR (.ref s.heap.objs.size) (s.heap.objs.size + 1))
      { s with heap:=h4,toks:=s.toks + ([]:List (Str × Value)).length } :=
    codeAny_compStart_list (loop _ rfl) (T.self X.A 0 { s with heap:=h4,toks:=s.toks + ([]:List (Str × Value)).length } _ _ st4 (loop _ rfl))
  rw [← hCC] at goal
  exact goal
section
variable {X:Cx} {sc:Scope} {N:List Str} {cp:List (Option Nat)} {tg iter elt:Expr} {ifs:List Expr} {pos:Pos} {g:TG} {tif:TT} {te:TE} {wi:TI} {Sg:List Nat}
theorem Inv.clOk {pins:List (Addr × Obj)} {σ:St} {H:Hp} {s:Shared} (I:Inv X pins σ H s) (S:CompSc X.env.scope sc X.N N cp):∃ cl,ClOk X.env sc cl :=
  closure_ok fun y hy hf=>I.ok.has y.1 (S.free y hy hf)
theorem Inv.letGo {pins:List (Addr × Obj)} {σ:St} {H:Hp} {s:Shared} {C:Addr} {h':Heap} (I:Inv X pins σ H s) (f:FpOk X pins H C) (sb:Heap.SameBut C s.heap h'):Inv X pins σ H { s with heap:=h' }:=by
  obtain ⟨f0,f1,f2,f3,f4,f5⟩:=f
  exact I.turned (t':=s.toks) (fun b o hb e=>(sb.2 b hb).trans e) f0 f1 f3 f4 f5
end
def tComp0 (wi:TI) (cp:List (Option Nat)) (g:TG) (te:TE):TE:=fun σ H Q=>wi σ H fun J H1=>∃ W:Nat → Nat → List V → Hp → Prop,(∃ m,W 0 m [] H1) ∧ ∀ i m ys H,W i m ys H →
  (J.stop i H ∧ ys.length ≤ sizeLine ∧ ∀ p,H p = none → Q (.ref p) (upd H p (.lst ys))) ∨
  (J.go i H ∧ ys.length ≤ sizeLine ∧ ∃ N1:V → Hp → Prop,(∀ y H',N1 y H' → ∃ m',m' < m ∧ W (i + 1) m' (ys ++ [y]) H') ∧ ∀ x H',J.yld i H x H' → g x (captS cp σ) H' fun σ2 H2=>te σ2 H2 N1)
theorem comp0_turn {J:It} {cp:List (Option Nat)} {g:TG} {te:TE} {σ:St} {F:List V → Hp → Prop} {W:Nat → Nat → List V → Hp → Prop}
    (turn:∀ i m ys H,W i m ys H → (J.stop i H ∧ ys.length ≤ sizeLine ∧ F ys H) ∨ (J.go i H ∧ ys.length ≤ sizeLine ∧ ∃ N1:V → Hp → Prop,(∀ y H',N1 y H' → ∃ m',m' < m ∧ W (i + 1) m' (ys ++ [y]) H') ∧ ∀ x H',J.yld i H x H' → g x (captS cp σ) H' fun σ2 H2=>te σ2 H2 N1)) :
    ∀ i m ys H,W i m ys H → (J.stop i H ∧ ys.length ≤ sizeLine ∧ F ys H) ∨ (J.go i H ∧ ys.length ≤ sizeLine ∧ ∃ (N1:V → Hp → Prop) (N0:Hp → Prop),(∀ y H',N1 y H' → ∃ m',m' < m ∧ W (i + 1) m' (ys ++ [y]) H') ∧ (∀ H',N0 H' → ∃ m',m' < m ∧ W (i + 1) m' ys H') ∧
      ∀ x H',J.yld i H x H' → g x (captS cp σ) H' fun σ2 H2=>tYes σ2 H2 fun b H3=>if b = true then te σ2 H3 N1 else N0 H3):=fun i m ys H w=>by
  rcases turn i m ys H w with z | ⟨go,hz,N1,h1,h2⟩
  · exact .inl z
  · refine .inr ⟨go,hz,N1,fun _=>False,h1,fun _ z=>z.elim,fun x H' y=>?_⟩
    have e:(fun (σ2:St) (H2:Hp)=>tYes σ2 H2 fun b H3=>if b = true then te σ2 H3 N1 else False) = fun σ2 H2=>te σ2 H2 N1:=by
      funext σ2 H2
      show (if true = true then te σ2 H2 N1 else False) = te σ2 H2 N1
      rw [if_pos rfl]
    rw [e]
    exact h2 x H' y
section
variable {X:Cx} {sc:Scope} {N:List Str} {cp:List (Option Nat)} {tg iter elt:Expr} {pos:Pos} {g:TG} {te:TE} {wi:TI} {Sg:List Nat}
theorem pe_comp0 (S:CompSc X.env.scope sc X.N N cp) (hc:X.calm = true) (hi:PI X tg iter wi) (hg:∀ z,PG (cxC X sc N z) tg g) (hset:Sets g Sg) (hloc:∀ k ∈ Sg,cp[k]? = some none)
    (he:∀ z,PE (cxC X sc N z) elt te) (hs:∀ x,foldedSetIterable iter X.env x = pure x:=by intro _; rfl) :
    PE X (.ListComp elt [⟨tg,iter,[],0⟩] sc pos) (tComp0 wi cp g te):=by
  intro pins s σ H Q I h
  obtain ⟨cl,K⟩:=I.clOk S
  rw [eval_ListComp]
  refine wpAny_comprehension_free (use:=none) rfl hs K.clos S.kind S.names (thn (hi pins s σ H _ I h) fun xv s1 h1=>thn h1 fun itv s2 h2=>?_)
  obtain ⟨it,fp,tn,J,H2,e,I2,T,st2,f2,W,⟨m0,w0⟩,turn⟩:=h2
  subst e
  refine comp_run (RR:=fun acc C=>compPost (model X.prog X.w) X.A X.xe none (EP X pins σ Q) acc C) (F:=fun ys H5=>∀ p,H5 p = none → Q (.ref p) (upd H5 p (.lst ys))) S hc hg hset hloc (fun z=>pif_nil) he I2 T st2 f2 K w0 (comp0_turn turn) ?_
  intro D C s5 ys H5 hD f I5 ⟨m,hn⟩ fC
  exact ⟨m,hn,fun h' sb=>⟨.ref D,_,I5.letGo fC sb,rfl,f D hD⟩⟩
theorem ps_setComp0 {i:Nat} {x:Str} {px spos:Pos} (hN:X.N.Nodup) (hx:X.N[i]? = some x) (hl:X.env.scope.names.lookup x = some .local) (S:CompSc X.env.scope sc X.N N cp) (hc:X.calm = true) (hi:PI X tg iter wi) (hg:∀ z,PG (cxC X sc N z) tg g) (hset:Sets g Sg) (hloc:∀ k ∈ Sg,cp[k]? = some none)
    (he:∀ z,PE (cxC X sc N z) elt te)
    (hsw:swapsWith (.ListComp elt [⟨tg,iter,[],0⟩] sc pos) (some (.Name x px)) spos.line X.env = pure true:=by rfl) (hs:∀ x,foldedSetIterable iter X.env x = pure x:=by intro _; rfl) :
    PS X (.Assign [.Name x px] (.ListComp elt [⟨tg,iter,[],0⟩] sc pos) spos) (tAsg (tComp0 wi cp g te) (gName i)):=by
  intro pins s σ H D0 I h
  obtain ⟨cl,K⟩:=I.clOk S
  rw [exec_Assign_Name_used _ _ _ _ hsw]
  refine wpAny_bind (wpAny_standAt (wpAny_bind ?_))
  show wpAny _ _ (do let _ ← comprehension (.ListComp elt [⟨tg,iter,[],0⟩] sc pos) sc X.env _ (newList []) false (eval iter X.env) (some (assign (.Name x px) X.env))) _ _ s
  refine wpAny_bind (wpAny_mono (wpAny_comprehension_free (use:=some (assign (.Name x px) X.env)) (Q:=fun _ s'=>SP X pins D0 .next s') rfl hs K.clos S.kind S.names
    (thn (hi pins s σ H _ I h) fun xv s1 h1=>thn h1 fun itv s2 h2=>?_)) (fun _ s' hq=>wpAny_pure (wpAny_pure hq)) fun _ _ e=>e)
  obtain ⟨it,fp,tn,J,H2,e,I2,T,st2,f2,W,⟨m0,w0⟩,turn⟩:=h2
  subst e
  refine comp_run (RR:=fun acc C=>compPost (model X.prog X.w) X.A X.xe (some (assign (.Name x px) X.env)) (fun _ s'=>SP X pins D0 .next s') acc C) (F:=fun ys H5=>∀ p,H5 p = none → gName i (.ref p) σ (upd H5 p (.lst ys)) D0.nx) S hc hg hset hloc (fun z=>pif_nil) he I2 T st2 f2 K w0 (comp0_turn turn) ?_
  intro D C s5 ys H5 hD f I5 ⟨m,hn⟩ fC
  show wpAny _ _ (assign (.Name x px) X.env (.ref D)) _ _ _
  refine wpAny_assign_Name (store_ok2 I5 hN hx (.inl hl) (v:=.ref D) rfl (fun s6 I6 ⟨a,sa,ha⟩=>?_) (.inr hl))
  have hCa:C ≠ a:=by
    rcases ha with z | z
    · rw [z]; exact fC.2.1
    · exact fun q=>fC.2.2.2.2.1 x a z q.symm
  exact ⟨m,hn.sameBut sa hCa,fun h' sb=>⟨_,_,I6.letGo fC sb,f D hD⟩⟩
end
theorem comp_list {K:PySem.W.Frag} {a:Addr} {xs:List V} {B:V → Hp → (V → Hp → Prop) → Prop} {F:List V → Hp → Prop} {H:Hp} (Pv:Nat → List V → Hp → Prop) (h0:Pv 0 [] H) (hz:xs.length ≤ sizeLine)
    (hl:∀ i ys H,i ≤ xs.length → Pv i ys H → SqL K H a xs ∧ ys.length = i)
    (hs:∀ i x ys H,xs[i]? = some x → Pv i ys H → B x H fun y H4=>Pv (i + 1) (ys ++ [y]) H4)
    (hd:∀ ys H,Pv xs.length ys H → F ys H) :
    ∃ W:Nat → Nat → List V → Hp → Prop,(∃ m,W 0 m [] H) ∧ ∀ i m ys H,W i m ys H →
      ((Itl K a).stop i H ∧ ys.length ≤ sizeLine ∧ F ys H) ∨
      ((Itl K a).go i H ∧ ys.length ≤ sizeLine ∧ ∃ N1:V → Hp → Prop,(∀ y H',N1 y H' → ∃ m',m' < m ∧ W (i + 1) m' (ys ++ [y]) H') ∧ ∀ x H',(Itl K a).yld i H x H' → B x H' N1):=by
  refine ⟨fun i m ys H=>m = xs.length - i ∧ i ≤ xs.length ∧ Pv i ys H,⟨xs.length,by simp,Nat.zero_le _,h0⟩,?_⟩
  rintro i m ys H ⟨rfl,hi,p⟩
  obtain ⟨q,el⟩:=hl i ys H hi p
  have hzz:ys.length ≤ sizeLine:=by rw [el]; exact Nat.le_trans hi hz
  by_cases hlt:i < xs.length
  · refine .inr ⟨⟨xs,xs[i],q,by simp [hlt]⟩,hzz,fun y H4=>Pv (i + 1) (ys ++ [y]) H4,fun y H' q4=>⟨xs.length - (i + 1),by omega,rfl,hlt,q4⟩,fun x H' y=>?_⟩
    obtain ⟨e,y⟩:=y
    subst e
    exact hs i x ys _ (y xs q) p
  · have e:i = xs.length:=by omega
    subst e
    exact .inl ⟨⟨xs,q,Nat.le_refl _⟩,hzz,hd ys H p⟩
end L2
set_option Elab.async false
set_option linter.all false
set_option maxRecDepth 100000
namespace L2
open PySem PySem.Spec PyProof.Rows
section
variable {X:Cx}
theorem call_sum (hc:X.calm = true):CallR X (.builtin "sum") (fun xs H Q=>∃ (p:Addr) (ns:List Int),xs = [.ref p] ∧ SqL X.K H p (ns.map V.int) ∧ Q (.int ns.sum) H):=by
  intro pins s σ H xs us Q I r h
  obtain ⟨p,ns,e,hq,q⟩:=h
  subst e
  obtain ⟨u,rfl,ru⟩:=vals1 r
  cases ru
  obtain ⟨its,rv,pl,hz⟩:=I.list hq
  have hi:=intsAre_of rv
  have hl:s.heap.IsList p its.toArray:=pl.isList
  obtain ⟨zs,ez⟩:=hi.allInts.items
  rw [ez] at hl
  refine sum_intListG (I.ok.hd hc) hl fun h' tk t' hk=>?_
  refine ⟨.int ns.sum,H,I.kept hk,⟨t',?_⟩,q⟩
  have e2:numsOf its = ns:=hi.numsOf
  rw [preSum_eq,List.take_of_length_le (by simp),← nums_intItems,← ez,List.toList_toArray,e2]
theorem call_all (hc:X.calm = true):CallR X (.builtin "all") (fun xs H Q=>∃ (p:Addr) (bs:List Bool),xs = [.ref p] ∧ SqL X.K H p (bs.map V.bl) ∧ Q (.bl (bs.all id)) H):=by
  intro pins s σ H xs us Q I r h
  obtain ⟨p,bs,e,hq,q⟩:=h
  subst e
  obtain ⟨u,rfl,ru⟩:=vals1 r
  cases ru
  obtain ⟨its,rv,pl,hz⟩:=I.list hq
  have hl:s.heap.IsList p its.toArray:=pl.isList
  have hlt:p < s.heap.objs.size:=by obtain ⟨o,ho,_⟩:=hl; exact Heap.lt_size ho
  have hlen:bs.length = its.length:=by have:=rv.length; rwa [List.length_map] at this
  refine call_all_walk (wpAny_pyIter_list hl ?_)
  refine ⟨s.heap.objs.size,_,_,_,_,_,fun i=>bs.getD i true,rfl,Walks.list (A:=X.A.in1) (I.ok.hd hc) _ p (Nat.ne_of_lt hlt) its.toArray,⟨⟨_,Heap.get?_push_size _ rfl,rfl,rfl⟩,hl.push _⟩,?_,fun h' tk hk=>?_⟩
  · intro i v s' Q' E' hP hQ
    have hv:its[i]? = some v:=by simpa using hP
    have hib:i < its.length:=(List.getElem?_eq_some_iff.mp hv).1
    have hb:(bs.map V.bl)[i]? = some (V.bl (bs[i]'(by omega))):=by rw [List.getElem?_map,List.getElem?_eq_getElem (by omega)]; rfl
    obtain ⟨v',hv',rb⟩:=rv.get hb
    rw [hv] at hv'
    cases hv'
    cases rb
    refine wpAny_truthy_bool ?_
    have e:bs.getD i true = bs[i]'(by omega):=by rw [List.getD_eq_getElem?_getD,List.getElem?_eq_getElem (by omega)]; rfl
    have hQ':Q' (bs.getD i true) s':=hQ
    rw [e] at hQ'
    exact hQ'
  · have I2:Inv X pins σ H { s with heap:=h',toks:=tk }:=I.kept fun b o e=>hk b o (by
      intro z
      have z':b = s.heap.objs.size:=by simpa using z
      rw [z'] at e
      exact absurd (Heap.lt_size e) (Nat.lt_irrefl _)) (Heap.get?_push_of_some _ e)
    refine ⟨.bl (bs.all id),H,I2,?_,q⟩
    show Value.bool _ = Value.bool _
    congr 1
    have e1:its.toArray.size = bs.length:=by rw [List.size_toArray,hlen]
    rw [e1]
    apply Bool.eq_iff_iff.mpr
    simp only [List.all_eq_true,List.mem_range,id]
    constructor
    · intro hh x hx
      obtain ⟨n,hn,rfl⟩:=List.mem_iff_getElem.mp hx
      have:=hh n hn
      rw [List.getD_eq_getElem?_getD,List.getElem?_eq_getElem hn] at this
      exact this
    · intro hh n hn
      rw [List.getD_eq_getElem?_getD,List.getElem?_eq_getElem hn]
      exact hh _ (List.getElem_mem hn)
theorem Inv.turnedNew {pins:List (Addr × Obj)} {σ:St} {H:Hp} {s:Shared} {h':Heap} {ch:List Addr} {p:Addr} {o:HO} {t':Nat} (I:Inv X pins σ H s) (hch:∀ b ∈ ch,FpOk X pins H b)
    (k:∀ b ob,b ∉ ch → s.heap.get? b = some ob → h'.get? b = some ob) (hp:s.heap.objs.size ≤ p) (new:ObjOk X.prog X.w (upd H p o) h' p o):Inv X pins σ (upd H p o) { s with heap:=h',toks:=t' }:=by
  have hn:H p = none:=I.hok.fresh hp
  have nch:∀ b u,H b = some u → b ∉ ch:=fun b u e z=>by rw [(hch b z).1] at e; cases e
  have lt:∀ b ob,s.heap.get? b = some ob → b ≠ p:=fun b ob e=>Nat.ne_of_lt (Nat.lt_of_lt_of_le (Heap.lt_size e) hp)
  refine I.step (g':=s.gens) (d':=s.drawn) (ch:=ch) (fun b hb=>?_) (fun b ob _ _ hc e _=>k b ob hc e) (fun b ob _ _ hc e _=>⟨ob.slots,k b ob hc e⟩) (fun b ob _ e n=>by rw [upd_ne (lt b ob e)]; exact n)
    (fun b ob hc e=>⟨ob,k b ob hc e⟩) (fun b xs e=>by rw [upd_ne (ne_of_none e hn)]; exact e) (fun b u xs e=>by rw [upd_ne (ne_of_none e hn)]; exact e) (fun b ps e=>⟨#[],by rw [upd_ne (ne_of_none e hn),e]; simp⟩)
    (fun m hm=>?_) (fun b u e=>?_) I.bare
  · obtain ⟨_,f1,_,f3,f4,f5⟩:=hch b hb
    exact ⟨f3,f1,f4,f5⟩
  · obtain ⟨ob,es,ep,ho,r⟩:=hm
    exact ⟨ob,es,ep,k _ ob (fun z=>(hch _ z).2.1 rfl) ho,r⟩
  · by_cases hb:b = p
    · subst hb; rw [upd_same] at e; cases e; exact new
    · rw [upd_ne hb] at e
      refine (I.hok b u e).stay (fun c v hc q=>k c v ?_ q) (fun c q=>by rw [upd_ne (ne_of_none q hn)]; exact q) fun c xs q=>by rw [upd_ne (ne_of_none q hn)]; exact q
      rcases hc with z | z
      · rw [z]; exact nch b u e
      · exact nch c _ z
theorem Inv.turnedL {pins:List (Addr × Obj)} {σ:St} {H:Hp} {s:Shared} {h':Heap} {ch:List Addr} {t':Nat} (I:Inv X pins σ H s) (hch:∀ b ∈ ch,FpOk X pins H b)
    (k:∀ b ob,b ∉ ch → s.heap.get? b = some ob → h'.get? b = some ob):Inv X pins σ H { s with heap:=h',toks:=t' }:=by
  have nch:∀ b u,H b = some u → b ∉ ch:=fun b u e z=>by rw [(hch b z).1] at e; cases e
  refine I.step (g':=s.gens) (d':=s.drawn) (ch:=ch) (fun b hb=>?_) (fun b ob _ _ hc e _=>k b ob hc e) (fun b ob _ _ hc e _=>⟨ob.slots,k b ob hc e⟩) (fun b ob _ e n=>n)
    (fun b ob hc e=>⟨ob,k b ob hc e⟩) (fun b xs e=>e) (fun b u xs e=>e) (fun b ps e=>⟨#[],by rw [e]; simp⟩)
    (fun m hm=>?_) (fun b u e=>?_) I.bare
  · obtain ⟨_,f1,_,f3,f4,f5⟩:=hch b hb
    exact ⟨f3,f1,f4,f5⟩
  · obtain ⟨ob,es,ep,ho,r⟩:=hm
    exact ⟨ob,es,ep,k _ ob (fun z=>(hch _ z).2.1 rfl) ho,r⟩
  · refine (I.hok b u e).stay (fun c v hc q=>k c v ?_ q) (fun c q=>q) fun c xs q=>q
    rcases hc with z | z
    · rw [z]; exact nch b u e
    · exact nch c _ z
end
def Ite (K:PySem.W.Frag) (a:Addr):It :=
  ⟨fun i H=>∃ xs x,SqL K H a xs ∧ xs[i]? = some x,
   fun i H v H'=>∃ p x,v = .ref p ∧ H p = none ∧ H' = upd H p (.tup [.int (i:Nat),x]) ∧ ∀ xs,SqL K H a xs → xs[i]? = some x,
   fun i H=>∃ xs,SqL K H a xs ∧ xs.length ≤ i⟩
theorem turn_enum {P:Program} {w:World} {K:PySem.W.Frag} {elts:List Expr} {k0:Nat} {tp:Pos} {e it a:Addr} (hne:e ≠ it) :
    Turn P w K (.Tuple elts k0 tp) (Ite K a) [e,it] e (fun i h=>(∃ old,IsEnum h e it i old) ∧ h.IsListIter it a i) where
  mem:=by simp
  obj:=fun i h st c hc=>by
    obtain ⟨⟨old,he⟩,⟨o1,e1,_,d1⟩⟩:=st
    have hc':c = e ∨ c = it:=by simpa using hc
    rcases hc' with rfl | rfl
    · exact ⟨_,he,fun v q=>nomatch (show Data.fields _ = Data.cell v from q)⟩
    · exact ⟨o1,e1,fun v q=>by rw [d1] at q; cases q⟩
  keep:=fun i h h' st k=>by
    obtain ⟨⟨old,he⟩,h1⟩:=st
    exact ⟨⟨old,k e (by simp) _ he⟩,h1.at fun o q=>k it (by simp) o q⟩
  item:=by
    intro X hP hw hK hc i pins s σ H E I hf st hg
    subst hP hw hK
    obtain ⟨xs,x,hqa,hx⟩:=hg
    obtain ⟨⟨old,he⟩,h1⟩:=st
    obtain ⟨ita,rva,pa,_⟩:=I.list hqa
    obtain ⟨u,hu,ru⟩:=rva.get hx
    refine wpAny_pyNext_enum_item he h1 pa.isList (x:=u) (by simpa using hu) hne fun h' a1 a2 a3 a4 a5=>?_
    refine ⟨_,rfl,?_⟩
    refine wpAny_letOwnedTupleGo_enum a1 fun h'' he'' hs''=>?_
    have ne:s.heap.objs.size ≠ e:=Nat.ne_of_gt (Heap.lt_size he)
    have kk:∀ c o,c ∉ [e,it] → s.heap.get? c = some o → h''.get? c = some o:=fun c o hcn q=>by
      have hcn':¬ (c = e ∨ c = it):=by simpa using hcn
      exact hs''.extBut c o (fun z=>hcn' (.inl z)) (a5 c o (fun z=>hcn' (.inl z)) (fun z=>hcn' (.inr z)) q)
    have hn:H s.heap.objs.size = none:=I.hok.fresh (Nat.le_refl _)
    refine ⟨.ref s.heap.objs.size,upd H s.heap.objs.size (.tup [.int (i:Nat),x]),I.turnedNew (ch:=[e,it]) (t':=s.toks + 1) hf kk (Nat.le_refl _) ?_,rfl,
      ⟨_,x,rfl,hn,rfl,fun zs hq=>by rw [I.list_inj hq hqa]; exact hx⟩,⟨⟨u,?_⟩,a2.extBut hs''.extBut (Ne.symm hne)⟩,fun c hcm=>?_⟩
    · exact ⟨by show 2 ≤ sizeLine; decide,[.int i s.toks,u],.cons ⟨_,rfl⟩ (.cons ru .nil),⟨_,hs''.extBut _ _ ne a3,rfl,_,rfl⟩⟩
    · have q:((i:Int) + 1) = (((i + 1:Nat)):Int):=by omega
      rw [← q]
      exact he''
    · obtain ⟨o,q,_⟩:∃ o,s.heap.get? c = some o ∧ True:=by
        have hc':c = e ∨ c = it:=by simpa using hcm
        obtain ⟨o1,e1,_⟩:=h1
        rcases hc' with rfl | rfl
        · exact ⟨_,he,trivial⟩
        · exact ⟨_,e1,trivial⟩
      rw [upd_ne (Nat.ne_of_lt (Heap.lt_size q))]
      exact (hf c hcm).1
  done:=by
    intro X hP hw hK hc i pins s σ H E I hf st hg
    subst hP hw hK
    obtain ⟨xs,hqa,hend⟩:=hg
    obtain ⟨⟨old,he⟩,h1⟩:=st
    obtain ⟨ita,rva,pa,_⟩:=I.list hqa
    have la:=rva.length
    refine wpAny_pyNext_enum_end (I.ok.hd hc) he h1 pa.isList (by simp; omega) fun h' k=>⟨rfl,?_⟩
    refine I.turnedL (ch:=[e,it]) (t':=s.toks) hf fun c o hcn q=>?_
    have hcn':¬ (c = e ∨ c = it):=by simpa using hcn
    exact k c o (fun z=>hcn' (.inr z)) q
  self:=fun _ _ _ _ _ st h=>wpAny_pyIter_enum st.1.choose_spec h
section
variable {X:Cx} {elts:List Expr} {k0:Nat} {tp p pos:Pos}
end
end L2
set_option Elab.async false
set_option linter.all false
set_option maxRecDepth 100000
namespace L2
open PySem PySem.Spec PyProof.Rows
section
variable {X:Cx}
theorem op_eqI:OpR X (compareOp .Eq) (rI0 fun i j=>.bl (decide (i = j))):=opB0 fun i j _ _ _ _ _ q=>eq_int (by rw [Bool.beq_eq_decide_eq]; exact q)
def EqTy (X:Cx) {α:Type} [DecidableEq α] (rep:Hp → V → α → Prop):Prop :=
  ∀ (pins:List (Addr × Obj)) (s:Shared) (σ:St) (H:Hp) (x y:V) (u v:Value) (a b:α),Inv X pins σ H s → RelV x u → RelV y v → rep H x a → rep H y b → SeqAt.EqAt X.A.in1 s u v (decide (a = b))
def repB:Hp → V → Bool → Prop:=fun _ x i=>x = .bl i
def repP (K:PySem.W.Frag):Hp → V → Int × Int → Prop:=fun H x p=>∃ a,x = .ref a ∧ SqT K H a [.int p.1,.int p.2]
theorem eqty_bl:EqTy X repB:=by
  intro pins s σ H x y u v a b I rx ry ea eb
  have ea':x = .bl a:=ea
  have eb':y = .bl b:=eb
  subst ea'; subst eb'
  have z:=eqAt_V (A:=X.A.in1) (s:=s) rx ry rfl rfl
  have e:eqV (.bl a) (.bl b) = decide (a = b):=by
    show (a == b) = _
    exact Bool.beq_eq_decide_eq a b
  rw [e] at z
  exact z
def RepL (K:PySem.W.Frag) {α:Type} (rep:Hp → V → α → Prop) (H:Hp) (a:Addr) (ds:List α):Prop:=∃ xs,SqL K H a xs ∧ Paired (rep H) xs ds
theorem Paired.get' {α β:Type} {F:α → β → Prop}:∀ {l₁:List α} {l₂:List β},Paired F l₁ l₂ → ∀ (i:Nat) (b:β),l₂[i]? = some b → ∃ a,l₁[i]? = some a ∧ F a b
  | _,_,.nil,_,_,h=>by simp at h
  | _,_,.cons r t,0,b,h=>by simp at h; subst h; exact ⟨_,rfl,r⟩
  | _,_,.cons r t,i + 1,b,h=>by simpa using Paired.get' t i b (by simpa using h)
theorem all_range_eq {α:Type} [DecidableEq α] (ds es:List α) (h:ds.length = es.length) (e:Nat → Bool) (he:∀ i a b,ds[i]? = some a → es[i]? = some b → e i = decide (a = b)):(List.range ds.length).all e = decide (ds = es):=by
  apply Bool.eq_iff_iff.mpr
  simp only [List.all_eq_true,List.mem_range,decide_eq_true_eq]
  constructor
  · intro hh
    apply List.ext_getElem?
    intro i
    by_cases hi:i < ds.length
    · have q:=hh i hi
      rw [he i _ _ (List.getElem?_eq_getElem hi) (List.getElem?_eq_getElem (by omega))] at q
      rw [List.getElem?_eq_getElem hi,List.getElem?_eq_getElem (by omega),of_decide_eq_true q]
    · rw [List.getElem?_eq_none (by omega),List.getElem?_eq_none (by omega)]
  · intro hh i hi
    subst hh
    rw [he i _ _ (List.getElem?_eq_getElem hi) (List.getElem?_eq_getElem hi)]
    exact decide_eq_true rfl
theorem lists_items {α:Type} [DecidableEq α] {rep:Hp → V → α → Prop} (E:EqTy X rep) {pins:List (Addr × Obj)} {s:Shared} {σ:St} {H:Hp} {xs ys:List V} {us vs:List Value} {ds es:List α}
    (I:Inv X pins σ H s) (ru:Vals xs us) (rv:Vals ys vs) (pd:Paired (rep H) xs ds) (pe:Paired (rep H) ys es) :
    ∃ e:Nat → Bool,(∀ i a b,ds[i]? = some a → es[i]? = some b → e i = decide (a = b)) ∧ ∀ j (h1:j < us.toArray.size) (h2:j < vs.toArray.size),SeqAt.EqAt X.A.in1 s us.toArray[j] vs.toArray[j] (e j):=by
  refine ⟨fun i=>match ds[i]?,es[i]? with | some a,some b=>decide (a = b) | _,_=>true,fun i a b h1 h2=>by simp only [h1,h2],fun j h1 h2=>?_⟩
  have lu:us.length = ds.length:=by rw [← ru.length,pd.length]
  have lv:vs.length = es.length:=by rw [← rv.length,pe.length]
  have j1:j < us.length:=by simpa using h1
  have j2:j < vs.length:=by simpa using h2
  have d1:ds[j]? = some (ds[j]'(by omega)):=List.getElem?_eq_getElem (by omega)
  have d2:es[j]? = some (es[j]'(by omega)):=List.getElem?_eq_getElem (by omega)
  obtain ⟨x,hx,rx⟩:=Paired.get' pd j _ d1
  obtain ⟨y,hy,ry⟩:=Paired.get' pe j _ d2
  obtain ⟨u,hu,rxu⟩:=ru.get hx
  obtain ⟨v,hv,ryv⟩:=rv.get hy
  have e1:us.toArray[j] = u:=by
    have:=List.getElem?_eq_getElem j1
    rw [hu] at this
    simpa using (Option.some.inj this).symm
  have e2:vs.toArray[j] = v:=by
    have:=List.getElem?_eq_getElem j2
    rw [hv] at this
    simpa using (Option.some.inj this).symm
  rw [e1,e2]
  simp only [d1,d2]
  exact E pins s σ H x y u v _ _ I rxu ryv rx ry
theorem op_eqL {α:Type} [DecidableEq α] {rep:Hp → V → α → Prop} (E:EqTy X rep) (hu:X.A.units < cLine):OpR X (compareOp .Eq) (fun x y H Q=>∃ a b ds es,x = .ref a ∧ y = .ref b ∧ RepL X.K rep H a ds ∧ RepL X.K rep H b es ∧ Q (.bl (decide (ds = es))) H):=by
  intro pins s σ H x y v u Q I rx ry h
  obtain ⟨a,b,ds,es,e1,e2,⟨xs,hxs,pd⟩,⟨ys,hys,pe⟩,q⟩:=h
  subst e1; subst e2
  cases rx; cases ry
  obtain ⟨us,ru,pu,_⟩:=I.list hxs
  obtain ⟨vs,rv,pv,_⟩:=I.list hys
  have lu:us.length = ds.length:=by rw [← ru.length,pd.length]
  have lv:vs.length = es.length:=by rw [← rv.length,pe.length]
  by_cases hl:ds.length = es.length
  · obtain ⟨e,he,hq⟩:=lists_items E I ru rv pd pe
    refine SeqAt.eq_listAt (e:=e) pu.isList pv.isList (by simp; omega) hu hq ⟨.bl (decide (ds = es)),H,I,?_,q⟩
    show Value.bool _ = Value.bool _
    rw [show us.toArray.size = ds.length by simp [lu],all_range_eq ds es hl e he]
  · refine SeqAt.eq_list_lengthsAt pu.isList pv.isList (by simp; omega) hu ⟨.bl (decide (ds = es)),H,I,?_,q⟩
    show Value.bool _ = Value.bool _
    rw [decide_eq_false fun z=>hl (by rw [z])]
theorem op_neL {α:Type} [DecidableEq α] {rep:Hp → V → α → Prop} (E:EqTy X rep) (hu:X.A.units < cLine):OpR X (compareOp .NotEq) (fun x y H Q=>∃ a b ds es,x = .ref a ∧ y = .ref b ∧ RepL X.K rep H a ds ∧ RepL X.K rep H b es ∧ Q (.bl (!decide (ds = es))) H):=by
  intro pins s σ H x y v u Q I rx ry h
  obtain ⟨a,b,ds,es,e1,e2,⟨xs,hxs,pd⟩,⟨ys,hys,pe⟩,q⟩:=h
  subst e1; subst e2
  cases rx; cases ry
  obtain ⟨us,ru,pu,_⟩:=I.list hxs
  obtain ⟨vs,rv,pv,_⟩:=I.list hys
  have lu:us.length = ds.length:=by rw [← ru.length,pd.length]
  have lv:vs.length = es.length:=by rw [← rv.length,pe.length]
  by_cases hl:ds.length = es.length
  · obtain ⟨e,he,hq⟩:=lists_items E I ru rv pd pe
    refine SeqAt.RcNeAt.lists (e:=e) pu.isList pv.isList (by simp; omega) hu hq X.prog X.w X.xe _ ⟨.bl (!decide (ds = es)),H,I,?_,q⟩
    show Value.bool _ = Value.bool _
    rw [show us.toArray.size = ds.length by simp [lu],all_range_eq ds es hl e he]
  · refine SeqAt.RcNeAt.lists_lengths pu.isList pv.isList (by simp; omega) hu X.prog X.w X.xe _ ⟨.bl (!decide (ds = es)),H,I,?_,q⟩
    show Value.bool _ = Value.bool _
    rw [decide_eq_false fun z=>hl (by rw [z])]
    rfl
theorem eqty_pair (hu:X.A.units + 1 < cLine):EqTy X (repP X.K):=by
  intro pins s σ H x y u v a b I rx ry ea eb
  obtain ⟨p,ex,hp⟩:=ea
  obtain ⟨q,ey,hq⟩:=eb
  subst ex; subst ey
  cases rx; cases ry
  by_cases hpq:p = q
  · subst hpq
    have e:a = b:=by
      have z:=I.tuple_inj hp hq
      obtain ⟨a1,a2⟩:=a
      obtain ⟨b1,b2⟩:=b
      injection z with z1 z2
      injection z1 with z1
      injection z2 with z2 _
      injection z2 with z2
      subst z1; subst z2; rfl
    subst e
    rw [decide_eq_true rfl]
    exact SeqAt.EqAt.same _
  · obtain ⟨us,ru,tu,_⟩:=I.tuple hp
    obtain ⟨vs,rv,tv,_⟩:=I.tuple hq
    obtain ⟨u1,u2,rfl,ru1,ru2⟩:=vals2 ru
    obtain ⟨v1,v2,rfl,rv1,rv2⟩:=vals2 rv
    have e1:=eqAt_V (A:=X.A.in1.in1) (s:=s) ru1 rv1 rfl rfl
    have e2:=eqAt_V (A:=X.A.in1.in1) (s:=s) ru2 rv2 rfl rfl
    have z:=SeqAt.RcAt.tuples (A:=X.A.in1) (s:=s) (e:=fun j=>if j = 0 then eqV (.int a.1) (.int b.1) else eqV (.int a.2) (.int b.2)) (show s.heap.IsTuple p #[u1,u2] from tu) (show s.heap.IsTuple q #[v1,v2] from tv) hu (fun j h1 h2=>by
      have h1':j < 2:=h1
      match j,h1' with
      | 0,_=>exact e1
      | 1,_=>exact e2)
    have w:=SeqAt.EqAt.of_refs hpq z
    have ek:((List.range (min (#[u1,u2]:Array Value).size (#[v1,v2]:Array Value).size)).all (fun j=>if j = 0 then eqV (.int a.1) (.int b.1) else eqV (.int a.2) (.int b.2)) && (#[u1,u2]:Array Value).size == (#[v1,v2]:Array Value).size) = decide (a = b):=by
      show ((if 0 = 0 then (a.1 == b.1) else (a.2 == b.2)) && ((if 1 = 0 then (a.1 == b.1) else (a.2 == b.2)) && true) && true) = _
      obtain ⟨a1,a2⟩:=a
      obtain ⟨b1,b2⟩:=b
      by_cases h1:a1 = b1
      · by_cases h2:a2 = b2
        · subst h1; subst h2; simp
        · rw [decide_eq_false (fun z=>h2 (Prod.mk.inj z).2)]; simp [h2]
      · rw [decide_eq_false (fun z=>h1 (Prod.mk.inj z).1)]; simp [h1]
    rw [ek] at w
    exact w
end
end L2
set_option Elab.async false
set_option linter.all false
set_option maxRecDepth 100000
namespace L2
open PySem PySem.Spec PyProof.Rows
section
variable {X:Cx} {a b c d:Expr} {ta tb tc td:TE} {pos:Pos}
end
end L2
set_option Elab.async false
set_option linter.all false
set_option maxRecDepth 100000
namespace L2
open PySem PySem.Spec PyProof.Rows
section
variable {X:Cx}
def clsV:V → Option Value
  | .ref a=>some (.ref a)
  | .ty n=>some (.type n)
  | _=>none
theorem call_isinst:CallR X (.builtin "isinstance") (fun xs H Q=>∃ x c t k b,xs = [x,c] ∧ TyOf X.K H x t ∧ clsV c = some k ∧ PySem.W.kitOne X.K t k = some b ∧ Q (.bl b) H):=by
  intro pins s σ H xs us Q I r h
  obtain ⟨x,c,t,k,b,e,ty,hk,e2,q⟩:=h
  subst e
  obtain ⟨u,v,rfl,ru,rv⟩:=vals2 r
  have ev:v = k:=by
    cases c with
    | ref a=>cases rv; cases hk; rfl
    | ty n=>cases rv; cases hk; rfl
    | _=>cases hk
  subst ev
  exact isinst_ok I ru ty e2 fun tk=>⟨.bl b,H,I.tok tk,rfl,q⟩
end
end L2
set_option Elab.async false
set_option linter.all false
set_option maxRecDepth 100000
namespace L2
open PySem
theorem Same.tup {K:PySem.W.Frag} {H H':Hp} {a:Addr} {xs:List V} (e:Same H H') (h:SqT K H a xs):SqT K H' a xs:=by
  rcases h with (h | ⟨o,h⟩) | h
  · exact .inl (.inl (e _ _ h))
  · exact .inl (.inr ⟨o,e _ _ h⟩)
  · exact .inr h
theorem same_new {H:Hp} {p:Addr} (h:H p = none) (o:HO):Same H (upd H p o):=fun b u q=>by rw [upd_ne (ne_of_none q h)]; exact q
def IntsAt (K:PySem.W.Frag) (H:Hp) (a:Addr) (ns:List Int):Prop:=SqL K H a (ns.map V.int)
theorem Same.ints {K:PySem.W.Frag} {H H':Hp} {a:Addr} {ns:List Int} (e:Same H H') (h:IntsAt K H a ns):IntsAt K H' a ns:=e.seq h
def PairsAt (K:PySem.W.Frag) (H:Hp) (a:Addr) (rs:List (Int × Int)):Prop:=∃ as:List Addr,SqL K H a (as.map V.ref) ∧ Paired (fun b (p:Int × Int)=>SqT K H b [.int p.1,.int p.2]) as rs
theorem Same.pairs {K:PySem.W.Frag} {H H':Hp} {a:Addr} {rs:List (Int × Int)} (e:Same H H') (h:PairsAt K H a rs):PairsAt K H' a rs:=by
  obtain ⟨as,h1,h2⟩:=h
  exact ⟨as,e.seq h1,Paired.mapP h2 fun b p q=>e.tup q⟩
theorem ints_get {ns:List Int} {i:Nat} {x:V} (h:(ns.map V.int)[i]? = some x):∃ n,ns[i]? = some n ∧ x = .int n:=by
  rw [List.getElem?_map] at h
  cases e:ns[i]? with
  | none=>rw [e] at h; cases h
  | some n=>rw [e] at h; exact ⟨n,rfl,(Option.some.inj h).symm⟩
theorem take_snoc {α:Type} {xs:List α} {i:Nat} {x:α} (h:xs[i]? = some x):xs.take (i + 1) = xs.take i ++ [x]:=by
  rw [List.take_add_one,h]; rfl
theorem small100 {n:Nat} (h:n ≤ 1000):n ≤ sizeLine:=Nat.le_of_lt (small1000 h)
theorem decT {p:Prop} [Decidable p] (h:p):decide p = true:=decide_eq_true h
theorem decF {p:Prop} [Decidable p] (h:¬ p):decide p = false:=decide_eq_false h
end L2
namespace L2
open PySem
theorem comp_enum {K:PySem.W.Frag} {a:Addr} {xs:List V} {B:V → Hp → (V → Hp → Prop) → Prop} {F:List V → Hp → Prop} {H:Hp} (Pv:Nat → List V → Hp → Prop) (h0:Pv 0 [] H) (hz:xs.length ≤ sizeLine)
    (hl:∀ i zs H,i ≤ xs.length → Pv i zs H → SqL K H a xs ∧ zs.length = i)
    (hs:∀ i x zs H p,xs[i]? = some x → Pv i zs H → H p = none → B (.ref p) (upd H p (.tup [.int (i:Nat),x])) fun z H4=>Pv (i + 1) (zs ++ [z]) H4)
    (hd:∀ zs H,Pv xs.length zs H → F zs H) :
    ∃ W:Nat → Nat → List V → Hp → Prop,(∃ m,W 0 m [] H) ∧ ∀ i m zs H,W i m zs H →
      ((Ite K a).stop i H ∧ zs.length ≤ sizeLine ∧ F zs H) ∨
      ((Ite K a).go i H ∧ zs.length ≤ sizeLine ∧ ∃ N1:V → Hp → Prop,(∀ y H',N1 y H' → ∃ m',m' < m ∧ W (i + 1) m' (zs ++ [y]) H') ∧ ∀ x H',(Ite K a).yld i H x H' → B x H' N1):=by
  refine ⟨fun i m zs H=>m = xs.length - i ∧ i ≤ xs.length ∧ Pv i zs H,⟨xs.length,by simp,Nat.zero_le _,h0⟩,?_⟩
  rintro i m zs H ⟨rfl,hi,p⟩
  obtain ⟨q1,el⟩:=hl i zs H hi p
  have hzz:zs.length ≤ sizeLine:=by rw [el]; exact Nat.le_trans hi hz
  by_cases hlt:i < xs.length
  · refine .inr ⟨⟨xs,xs[i],q1,by simp [hlt]⟩,hzz,fun y H4=>Pv (i + 1) (zs ++ [y]) H4,fun y H' q4=>⟨xs.length - (i + 1),by omega,rfl,hlt,q4⟩,fun x H' y=>?_⟩
    obtain ⟨r,u,rfl,hr,rfl,hu⟩:=y
    exact hs i u zs H r (hu xs q1) p hr
  · have e:i = xs.length:=by omega
    exact .inl ⟨⟨xs,q1,by omega⟩,hzz,hd zs H (e ▸ p)⟩
end L2
set_option Elab.async false
set_option linter.all false
set_option maxRecDepth 100000
namespace L2
open PySem PySem.Spec PyProof.Rows
def notStar:Expr → Bool
  | .Starred _ _=>false
  | _=>true
theorem starEach_ns {e:Expr} {es:List Expr} {env:Env} (h:notStar e = true):starEach (e :: es) env = (false,eval e env) :: starEach es env:=by
  cases e <;> first | rfl | cases h
theorem pa_consN {X:Cx} {e:Expr} {es:List Expr} {te:TE} {t:TA} (ha:PE X e te) (hr:PA X es t) (hn:notStar e = true:=by rfl):PA X (e :: es) (tCons te t):=pa_cons ha hr (starEach_ns hn)
def intsOf:List Expr → Option (List Int)
  | []=>some []
  | .Constant (.int i) _ _ :: es=>(intsOf es).map (i :: ·)
  | _=>none
def tInts (ns:List Int):TA:=fun _ H Q=>Q (ns.map V.int) H
theorem pa_ints {X:Cx}:∀ {es:List Expr} {ns:List Int},intsOf es = some ns → PA X es (tInts ns)
  | [],ns,h=>by
    cases h
    exact fun pos pins s σ H Q I hq=>pa_nil pos pins s σ H Q I hq
  | e :: es,ns,h=>by
    cases e with
    | Constant c k p =>
      cases c with
      | int i =>
        have h':(intsOf es).map (i :: ·) = some ns:=h
        cases e2:intsOf es with
        | none=>rw [e2] at h'; cases h'
        | some ms =>
          rw [e2] at h'
          cases h'
          have ih:=pa_ints (X:=X) e2
          exact fun pos pins s σ H Q I hq=>pa_cons (X:=X) (pe_int (i:=i)) ih (starEach_ns rfl) pos pins s σ H Q I hq
      | _=>cases h
    | _=>cases h
theorem pe_tupI {X:Cx} {es:List Expr} {k:Nat} {pos:Pos} {ns:List Int} (h:intsOf es = some ns):PE X (.Tuple es k pos) (tTup (tInts ns)):=pe_tup (pa_ints h)
end L2
set_option Elab.async false
set_option linter.all false
set_option maxRecDepth 100000
namespace L2
open PySem PySem.Spec PyProof.Rows
section
variable {prog:Program} {w:World} {A:Around} {E:Value → Shared → Prop} {s:Shared}
end
section
variable {X:Cx} {tg:Expr}
end
end L2
set_option Elab.async false
set_option linter.all false
set_option maxRecDepth 100000
namespace L2
open PySem PySem.Spec PyProof.Rows
end L2
set_option Elab.async false
set_option linter.all false
set_option maxRecDepth 100000
namespace L2
open PySem PySem.Spec PyProof.Rows
def SqX (K:PySem.W.Frag) (H:Hp) (a:Addr) (xs:List V):Prop :=
  Rd H a (.lst xs) ∨ ∃ (its:Array Value) (n:Nat),K.lookup a = some { cls:=.type "list", dict:=none,data:=.seq its n,slots:=#[] } ∧ its.size ≤ sizeLine ∧ Vals xs its.toList
theorem SqX.sq {K:PySem.W.Frag} {H:Hp} {a:Addr} {xs:List V} (h:SqX K H a xs):SqL K H a xs:=by
  rcases h with h | ⟨its,n,hk,hz,r⟩
  · exact .inl h
  · exact .inr ⟨_,its,n,hk,rfl,rfl,rfl,hz,r⟩
theorem SqX.same {K:PySem.W.Frag} {H H':Hp} {a:Addr} {xs:List V} (e:Same H H') (h:SqX K H a xs):SqX K H' a xs:=by
  rcases h with (h | ⟨o,h⟩) | h
  · exact .inl (.inl (e _ _ h))
  · exact .inl (.inr ⟨o,e _ _ h⟩)
  · exact .inr h
theorem SqX.of {K:PySem.W.Frag} {H:Hp} {a:Addr} {xs:List V} (h:H a = some (.lst xs)):SqX K H a xs:=.inl (.inl h)
theorem SqX.obj {X:Cx} {pins:List (Addr × Obj)} {σ:St} {H:Hp} {s:Shared} {a:Addr} {xs:List V} (h:SqX X.K H a xs) (I:Inv X pins σ H s):∃ (its:Array Value) (n:Nat),s.heap.get? a = some { cls:=.type "list", dict:=none,data:=.seq its n,slots:=#[] }:=by
  rcases h with h | ⟨its,n,hk,_,_⟩
  · obtain ⟨_,its,n,_,eo⟩:=h.ok I.hok
    exact ⟨_,_,eo⟩
  · exact ⟨its,n,I.kIn a _ hk⟩
section
variable {X:Cx} {elts:List Expr} {k0:Nat} {tp p pos:Pos}
def iEnumX (K:PySem.W.Frag) (ta:TA):TI:=fun σ H R=>ta σ H fun vs H1=>∃ a,vs = [.ref a] ∧ (∃ xs,SqX K H1 a xs) ∧ R (Ite K a) H1
theorem pi_enumX {a:Expr} {ta:TA} (hg:Gl X "enumerate") (hm:X.mg "enumerate" = none) (ha:PA X [a] ta) (hs:starEach [a] X.env = [(false,eval a X.env)]:=by rfl) :
    PI X (.Tuple elts k0 tp) (.Call (.Name "enumerate" p) [a] [] pos) (iEnumX X.K ta):=by
  intro pins s σ H R I h
  refine Call_ (ld_blt I hg hm boot_enumerate (PyProof.Rows.callWith_type1 (thn (ha pos pins s σ H _ I h) fun us s1 ⟨vs,H1,I1,r1,q1⟩=>?_) hs rfl))
  obtain ⟨l1,e,⟨xs,hqa⟩,q⟩:=q1
  subst e
  obtain ⟨u,rfl,ru⟩:=vals1 r1
  cases ru
  obtain ⟨its,n,eo⟩:=hqa.obj I1
  refine call_enumerate_1 eo fun h' a1 a2 a3 a4=>wpAny_pyIter_enum a1 ?_
  refine ⟨s1.heap.objs.size + 1,_,_,_,H1,rfl,I1.kept (t':=s1.toks) a4,turn_enum (Nat.ne_of_gt (Nat.lt_succ_self _)),⟨⟨_,a1⟩,a2⟩,fun c hc=>?_,q⟩
  have hc':c = s1.heap.objs.size + 1 ∨ c = s1.heap.objs.size:=by simpa using hc
  have hge:s1.heap.objs.size ≤ c:=by rcases hc' with z | z <;> (rw [z]; first | exact Nat.le_refl _ | exact Nat.le_add_right _ _)
  exact I1.fpOk hge (I1.hok.fresh hge)
end
theorem law_callX {P:Program} {w:World} {K:PySem.W.Frag} {mg mb:Str → Option Value} {CX:CXT} {k:Nat} {fa a:Addr} {fd:FuncData} {x:Str} {sp:Sp} {s₁:Shared} {vs:List Value} {ns:List Int}
    (KX:K.In s₁.heap) (hns:s₁.heap.Ns mainGlobals mg) (hb:s₁.heap.Ns builtinsNs mb) (hbb:∀ x:Str,x ≠ "__name__" → mb x = bootBuiltins x) (hlim:s₁.heap.NoLimit) (hg:s₁.gens = #[])
    (ha:s₁.heap.get? a = some { cls:=.type "list", data:=.seq vs.toArray }) (hi:IntsAre vs ns) (hl:ns.length ≤ sizeLine) (hr:Room k callerA)
    (F:∀ base:Heap,K.In base → base.Ns mainGlobals mg → FnOk P w K mg base CX k fa fd [x] sp) (hbind:∀ (s:Shared) (u:Value),BindsTo s fd ⟨[u],[]⟩ [(x,u)])
    (hsp:∀ H:Hp,Only H → SqX K H a (ns.map V.int) → sp [.ref a] H (fun v _=>v = .bl true) fun _ _ _=>False)
    (hCX:∀ H e s',CX [] H s₁ (fun _ _ _=>False) e s' → False) :
    codeAny (model P w) callerA (.call (.ref fa) ⟨[.ref a],[]⟩) (fun r s'=>r = .ok (.ret (.bool true)) ∧ OldK s₁.heap s'.heap ∧ s'.os = s₁.os ∧ AllBare s'.gens) s₁:=by
  have rv:=vals_ints hi
  have lenV:=hi.length
  have core:∀ H:Hp,Only H → SqX K H a (ns.map V.int) → HOk P w H s₁.heap → (∀ b,H b ≠ none → b = a) → (H a ≠ none → K.lookup a = none) →
      codeAny (model P w) callerA (.call (.ref fa) ⟨[.ref a],[]⟩) (fun r s'=>r = .ok (.ret (.bool true)) ∧ OldK s₁.heap s'.heap ∧ s'.os = s₁.os ∧ AllBare s'.gens) s₁:=by
    intro H hO hS hok hA hK
    have base_of:∀ {b:Addr} {o:Obj},s₁.heap.get? b = some o → H b = none → (hidT s₁.heap H).get? b = some o:=fun e n=>hidT_get e n
    have noA:∀ {b:Addr} {o:Obj} {es:Array DictEntry} {ep:Nat},s₁.heap.get? b = some o → o.data = .dict es ep → H b = none:=fun {b o es ep} e d=>by
      cases q:H b with
      | none=>rfl
      | some u =>
        have e':b = a:=hA b (by rw [q]; simp)
        subst e'
        rw [ha] at e; cases e
        have d':Data.seq vs.toArray _ = Data.dict es ep:=d
        cases d'
    have nsK:∀ {b:Addr} {m:Str → Option Value},s₁.heap.Ns b m → (hidT s₁.heap H).Ns b m:=fun {b m} ⟨o,es,ep,e,d,r⟩=>⟨o,es,ep,base_of e (noA e d),d,r⟩
    have hKb:K.In (hidT s₁.heap H):=fun b o e=>base_of (KX b o e) (by
      cases q:H b with
      | none=>rfl
      | some u =>
        have e':b = a:=hA b (by rw [q]; simp)
        subst e'
        rw [hK (by rw [q]; simp)] at e; cases e)
    have hM:Mod K mg (hidT s₁.heap H):=⟨hKb,nsK hns,⟨mb,nsK hb,hbb⟩,let ⟨mc,h1,h2⟩:=hlim; ⟨mc,nsK h1,h2⟩⟩
    have e0:Env0 P w K mg (hidT s₁.heap H) callerA [] s₁ H:=⟨rfl,hM,fun b o e=>of_hidT e,Nat.le_of_eq (hidT_size _ _),trivial,fun b hb=>absurd (show b ∈ ([]:List Addr) from hb) (by simp),hok,.of_eq hg⟩
    refine codeAny_mono ((F _ hKb (nsK hns)).run callerA [] s₁ H ⟨[.ref a],[]⟩ [.ref a] [.ref a] _ _ hr e0 (hbind s₁ (.ref a)) (.cons rfl .nil) (hsp H hO hS)) fun r s' h=>?_
    cases r with
    | error e=>exact (hCX H e s' h).elim
    | ok fl =>
      cases fl with
      | next=>exact False.elim h
      | brk=>exact False.elim h
      | cont=>exact False.elim h
      | ret u =>
        obtain ⟨v,H',os,bare,un,hok',r',q⟩:=h
        have q':v = .bl true:=q
        subst q'
        obtain rfl:u = Value.bool true:=r'
        refine ⟨rfl,OldK.of_keep fun b o e=>?_,os,bare⟩
        cases q:H b with
        | none=>exact un.keep b o e q (by intro z; exact absurd (show b ∈ ([]:List Addr) from z) (by simp)) (by simp)
        | some u =>
          rcases hO b with z | ⟨ob,xs,z⟩
          · rw [q] at z; cases z
          · have z2:=un.frzs b ob _ z
            obtain ⟨e1,_⟩:=hok b _ z
            obtain ⟨e2,_⟩:=hok' b _ z2
            rw [e] at e1; cases e1
            exact e2
  cases hk:K.lookup a with
  | some o =>
    have e:=KX a o hk
    rw [ha] at e
    cases e
    refine core (fun _=>none) (fun _=>.inl rfl) (.inr ⟨vs.toArray,_,hk,by rw [List.size_toArray,lenV]; exact hl,by simpa using rv⟩) (fun b u z=>by have z':(none:Option HO) = some u:=z; cases z') (fun b z=>absurd rfl z) fun z=>absurd rfl z
  | none =>
    refine core (fun b=>if b = a then some (.frz { cls:=.type "list", data:=.seq vs.toArray } (.lst (ns.map V.int))) else none) (fun b=>?_) (.inl (.inr ⟨{ cls:=.type "list", data:=.seq vs.toArray },if_pos rfl⟩)) (fun b u z=>?_) (fun b z=>?_) fun _=>hk
    · by_cases hb:b = a
      · exact .inr ⟨_,_,if_pos hb⟩
      · exact .inl (if_neg hb)
    · by_cases hb:b = a
      · have z':=(if_pos hb).symm.trans z
        cases z'
        subst hb
        exact ⟨ha,by rw [List.length_map]; exact hl,vs,_,rv,ha⟩
      · have z':=(if_neg hb).symm.trans z
        cases z'
    · by_cases hb:b = a
      · exact hb
      · exact absurd (if_neg hb) z
theorem walk_ofX {l:PySem.W.OpenLaw} {n k:Nat} {q:Program} {loose:List Str} {XP:(Str → Option Value) → Heap → Prop} {YP:World → Heap → Prop} {d:DefRec} {K:Params → PySem.W.Frag} {CX:World → CXT} {sp:World → Sp} {x:Str}
    (hn:l.most = some n) (hn2:n ≤ sizeLine) (hdf:d.params.defaults = []) (hr:Room k callerA)
    (hY:∀ (w:World) (h:Heap),YP w h → (K w.params).In h)
    (F:∀ (w:World) (mg:Str → Option Value) (fa:Addr) (h:Heap),(K w.params).In h → h.Ns mainGlobals mg → mg d.name = some (.ref fa) →
      ∃ fd:FuncData,(∀ (s:Shared) (u:Value),BindsTo s fd ⟨[u],[]⟩ [(x,u)]) ∧
        ∀ base:Heap,(K w.params).In base → base.Ns mainGlobals mg → FnOk l.prog w (K w.params) mg base (CX w) k fa fd [x] (sp w))
    (hsp:∀ (w:World) (H:Hp) (a:Addr) (ns:List Int),ns.length ≤ n → Only H → SqX (K w.params) H a (ns.map V.int) → sp w [.ref a] H (fun v _=>v = .bl true) fun _ _ _=>False)
    (hCX:∀ (w:World) (H:Hp) (s:Shared) (e:Value) (s':Shared),CX w [] H s (fun _ _ _=>False) e s' → False) :
    PySem.W.WalkO q loose XP YP l.row.toRowW d [] (fun f vs=>PySem.call f vs):=by
  refine Att.attach_call hn hdf fun w s₀ s₁ mg mb fa o pm cd doc a vs ns G Y ho hd hcd hmg hobj hints hlen hg=>?_
  have KX:=hY w _ Y
  obtain ⟨fd,hb,hF⟩:=F w mg fa _ KX G.T.g hmg
  exact law_callX KX G.T.g G.T.b G.T.builtins G.T.nolimit hg hobj hints (Nat.le_trans hlen hn2) hr hF hb (fun H hO hS=>hsp w H a ns hlen hO hS) fun H e s'=>hCX w H s₁ e s'
end L2
set_option linter.all false
namespace Wr
end Wr
set_option linter.all false
namespace Wr
structure EI (A B p o l lo:Int):Prop where
  p0:0 ≤ p
  l0:0 ≤ l
  lM:l ≤ 1000000
  oM : -1000000 ≤ o ∧ o ≤ 1000000
  loM : -1000000 ≤ lo ∧ lo ≤ 1000000
  g:Int.gcd p l = Int.gcd A B
  dp:B ∣ p - o * A
  dl:B ∣ l - lo * A
  sg:(0 ≤ o ∧ lo ≤ 0 ∧ o * l - lo * p = B) ∨ (o ≤ 0 ∧ 0 ≤ lo ∧ lo * p - o * l = B)
theorem EI.start {A B:Int} (hA:0 ≤ A) (hB:0 ≤ B) (hB2:B ≤ 1000000):EI A B A 1 B 0 :=
  ⟨hA,hB,hB2,⟨by decide,by decide⟩,⟨by decide,by decide⟩,rfl,by simp,by simp,.inl ⟨by decide,by decide,by simp⟩⟩
theorem le_mul_pos {a b:Int} (ha:0 ≤ a) (hb:1 ≤ b):a ≤ a * b:=by
  have:=Int.mul_le_mul_of_nonneg_left hb ha
  simpa using this
theorem EI.turn {A B p o l lo:Int} (hB2:B ≤ 1000000) (h:EI A B p o l lo) (hl:l ≠ 0):EI A B l lo (p - p / l * l) (o - p / l * lo):=by
  obtain ⟨p0,l0,lM,oM,loM,g,dp,dl,sg⟩:=h
  have hl1:1 ≤ l:=by omega
  have e:p - p / l * l = p % l:=by
    have:=Int.emod_add_mul_ediv p l
    rw [Int.mul_comm] at this
    omega
  have r0:=Int.emod_nonneg p hl
  have r1:=Int.emod_lt_of_pos p (show 0 < l by omega)
  have w0:0 ≤ p / l:=Int.ediv_nonneg p0 l0
  have hg:Int.gcd l (p % l) = Int.gcd A B:=by
    rw [← g]
    show Nat.gcd l.natAbs (p % l).natAbs = Nat.gcd p.natAbs l.natAbs
    rw [Int.natAbs_emod_of_nonneg p0,Nat.gcd_comm l.natAbs,← Nat.gcd_rec,Nat.gcd_comm]
  have hd:B ∣ (p - p / l * l) - (o - p / l * lo) * A:=by
    have:(p - p / l * l) - (o - p / l * lo) * A = (p - o * A) - p / l * (l - lo * A):=by
      rw [Int.sub_mul,Int.mul_sub,Int.mul_assoc]; omega
    rw [this]
    exact Int.dvd_sub dp (Int.dvd_mul_of_dvd_right dl)
  have hs:(0 ≤ lo ∧ (o - p / l * lo) ≤ 0 ∧ lo * (p - p / l * l) - (o - p / l * lo) * l = B) ∨ (lo ≤ 0 ∧ 0 ≤ (o - p / l * lo) ∧ (o - p / l * lo) * l - lo * (p - p / l * l) = B):=by
    rcases sg with ⟨s1,s2,s3⟩ | ⟨s1,s2,s3⟩
    · right
      refine ⟨s2,?_,?_⟩
      · have:p / l * lo ≤ 0:=Int.mul_nonpos_of_nonneg_of_nonpos w0 s2
        omega
      · rw [← s3,Int.sub_mul,Int.mul_sub]
        have:p / l * lo * l = lo * (p / l * l):=by ac_rfl
        omega
    · left
      refine ⟨s2,?_,?_⟩
      · have:0 ≤ p / l * lo:=Int.mul_nonneg w0 s2
        omega
      · rw [← s3,Int.sub_mul,Int.mul_sub]
        have:p / l * lo * l = lo * (p / l * l):=by ac_rfl
        omega
  rw [e] at hd hs ⊢
  generalize o - p / l * lo = n at *
  refine ⟨l0,r0,by omega,loM,?_,hg,dl,hd,hs⟩
  rcases hs with ⟨s1,s2,s3⟩ | ⟨s1,s2,s3⟩
  · have h1:0 ≤ lo * (p % l):=Int.mul_nonneg s1 r0
    have h2:=le_mul_pos (show 0 ≤ -n by omega) hl1
    rw [Int.neg_mul] at h2
    omega
  · have h1:lo * (p % l) ≤ 0:=Int.mul_nonpos_of_nonpos_of_nonneg s1 r0
    have h2:=le_mul_pos s2 hl1
    omega
structure Pwt (a b g x y:Int):Prop where
  g_:g = (Int.gcd a b:Int)
  s:a * x + b * y = g
  xM : -1000000 ≤ x ∧ x ≤ 1000000
  yM : -1000001000000 ≤ y ∧ y ≤ 1000001000000
theorem mul_small {x a M N:Int} (hx : -M ≤ x ∧ x ≤ M) (ha : -N ≤ a ∧ a ≤ N) (hM:0 ≤ M) (hN:0 ≤ N) : -(M * N) ≤ x * a ∧ x * a ≤ M * N:=by
  have h1:(x * a).natAbs ≤ M.natAbs * N.natAbs:=by
    rw [Int.natAbs_mul]
    exact Nat.mul_le_mul (by omega) (by omega)
  have h2:((M.natAbs * N.natAbs:Nat):Int) = M * N:=by
    rw [Int.natCast_mul]
    rw [show (M.natAbs:Int) = M by omega,show (N.natAbs:Int) = N by omega]
  omega
theorem EI.done {a b p o lo:Int} (ha : -1000000 ≤ a ∧ a ≤ 1000000) (hb : -1000000 ≤ b ∧ b ≤ 1000000) (h:EI (a.natAbs:Int) (b.natAbs:Int) p o 0 lo) :
    Pwt a b p (if a < 0 then -o else o) (if b = 0 then 0 else Int.fdiv (p - (if a < 0 then -o else o) * a) b) ∧ -1000001000000 ≤ p - (if a < 0 then -o else o) * a ∧ p - (if a < 0 then -o else o) * a ≤ 1000001000000:=by
  obtain ⟨p0,l0,lM,oM,loM,g,dp,dl,sg⟩:=h
  have hp:p = (Int.gcd a b:Int):=by
    have e:Int.gcd (a.natAbs:Int) (b.natAbs:Int) = Int.gcd a b:=by simp [Int.gcd]
    rw [e,Int.gcd_zero_right] at g
    omega
  have hx:(if a < 0 then -o else o) * a = o * (a.natAbs:Int):=by
    split
    · rw [show (a.natAbs:Int) = -a by omega,Int.neg_mul,Int.mul_neg]
    · rw [show (a.natAbs:Int) = a by omega]
  have hxM : -1000000 ≤ (if a < 0 then -o else o) ∧ (if a < 0 then -o else o) ≤ 1000000:=by split <;> omega
  have hb2:b ∣ p - (if a < 0 then -o else o) * a:=by
    rw [hx]
    exact Int.natAbs_dvd.mp dp
  have hpM:p ≤ 1000000:=by
    rw [hp]
    by_cases hz:a = 0
    · subst hz
      rw [Int.gcd_zero_left]; omega
    · have:(Int.gcd a b) ≤ a.natAbs:=Nat.le_of_dvd (by omega) (Nat.gcd_dvd_left _ _)
      omega
  have hm:=mul_small (M:=1000000) (N:=1000000) hxM ha (by decide) (by decide)
  rw [show (1000000:Int) * 1000000 = 1000000000000 by decide] at hm
  generalize (if a < 0 then -o else o) = x at *
  refine ⟨?_,by omega,by omega⟩
  by_cases hb0:b = 0
  · rw [if_pos hb0]
    subst hb0
    refine ⟨hp,?_,hxM,by omega⟩
    obtain ⟨c,hc⟩:=hb2
    rw [Int.zero_mul] at hc
    rw [Int.mul_comm a x]
    omega
  · rw [if_neg hb0]
    obtain ⟨c,hc⟩:=hb2
    have ec:Int.fdiv (p - x * a) b = c:=by rw [hc]; exact Int.mul_fdiv_cancel_left c hb0
    rw [ec]
    refine ⟨hp,?_,hxM,?_⟩
    · rw [Int.mul_comm a x]; omega
    · have h1:(b * c).natAbs = b.natAbs * c.natAbs:=Int.natAbs_mul b c
      have h2:c.natAbs ≤ b.natAbs * c.natAbs:=Nat.le_mul_of_pos_left _ (by omega)
      omega
end Wr
set_option Elab.async false
set_option linter.all false
set_option maxRecDepth 100000
namespace L2
open PySem
def TrdAt (h:Heap) (ea:Addr) (cls:Value) (T:Addr) (fl:Value):Prop :=
  ∃ oe vs oT ts,h.get? ea = some oe ∧ oe.cls = cls ∧ oe.dict = none ∧ oe.data = .fields vs ∧ vs[1]? = some (.ref T) ∧ T ≠ ea ∧ h.get? T = some oT ∧ oT.data = .fields ts ∧ ts[3]? = some fl
structure KeptX (fs:List Addr) (ea T:Addr) (h h':Heap):Prop where
  keep:∀ b o,h.get? b = some o → b ∉ fs → b ≠ ea → b ≠ T → h'.get? b = some o
  slot:∀ b o,h.get? b = some o → b ∈ fs → ∃ sl,h'.get? b = some { o with slots:=sl }
abbrev frsL (l:List Env):List Addr:=l.filterMap (·.frame)
section
variable {M:Model} {A:Around} {E:Value → Shared → Prop} {s:Shared} {base:Heap} {env:Env} {outer:List Env} {L e T:Addr}
theorem fr_notfields {h:Heap} {l:List Env} (hl:h.FunFrames base l) {b:Addr} {o:Obj} {vs:Array Value} (ho:h.get? b = some o) (hd:o.data = .fields vs):b ∉ frsL l:=fun hm=>by
  obtain ⟨_,o',ho',hnf⟩:=hl.mem hm
  rw [ho] at ho'; cases ho'; exact hnf vs hd
theorem fly_entry {oe:Obj} {vs:Array Value} {head:Value} {hadNext:Bool} {Q:Unit → Shared → Prop}
    (hfr:A.frames = some (env :: outer)) (hl:s.heap.FunFrames base (env :: outer)) (hf:env.frame = some L)
    (he:s.heap.get? e = some oe) (hd:oe.data = .fields vs) (hsz:1 < vs.size) (hdi:oe.dict = none)
    (h:∀ h' T',s.heap.get? T' = none → TrdAt h' e oe.cls T' (rawInt L) → KeptX (frsL (env :: outer)) e e s.heap h' → Q () { s with heap:=h' }) :
    wpAny M A (do let a ← frameOf env; let pl ← entryPlaceOf L hadNext; let b ← EntryCells.newEntry head a .none (rawInt L) .none pl; setField (.ref e) 1 b) Q E s:=by
  have hene:=fr_notfields hl he hd
  refine wpAny_bind (wpAny_frameOf_fun hfr hl hf fun h₁ hs₁=>?_)
  refine wpAny_bind (wpAny_entryPlaceOf fun pl hpl=>?_)
  unfold EntryCells.newEntry newFields
  refine wpAny_bind (wpAny_newObj_type ?_ (hpl.sizeOk5 _ _ _ _ _))
  generalize hN:({ cls:=.type "traceback", dict:=none,data:=.fields ([head,.ref L,.none,rawInt L,.none] ++ (if pl.isEmpty then List.replicate 6 Value.none else pl)).toArray }:Obj) = oN
  have he₁:h₁.get? e = some oe:=(hs₁.2.1 e hene).trans he
  have he₂:=Heap.get?_push_of_some (h:=h₁) oN he₁
  refine wpAny_setField he₂ hd hsz ?_
  have hTe:h₁.objs.size ≠ e:=Nat.ne_of_gt (Heap.lt_size he₁)
  have hd₃:=Obj.data_mapFields hd (·.setIfInBounds 1 (Value.ref h₁.objs.size))
  have hnew:s.heap.get? h₁.objs.size = none:=by
    cases q:s.heap.get? h₁.objs.size with
    | none=>rfl
    | some o =>
      obtain ⟨sl,z⟩:=hs₁.2.2 _ o q
      exact absurd (Heap.lt_size z) (Nat.lt_irrefl _)
  have hoN:oN.isFreed = false:=by rw [← hN]; rfl
  refine h _ h₁.objs.size hnew ⟨_,_,_,_,Heap.get?_update_self _ he₂ (Obj.isFreed_of_fields hd₃),Obj.cls_mapFields _ _,?_,hd₃,?_,hTe,(Heap.get?_update_other _ _ (Ne.symm hTe)).trans (Heap.get?_push_size h₁ hoN),(by rw [← hN]),?_⟩ ⟨fun b o hb hnf hbe _=>?_,fun b o hb hm=>?_⟩
  · obtain ⟨c,d,dt,sl⟩:=oe
    have hdt:dt = .fields vs:=hd
    subst hdt
    exact hdi
  · simp [hsz]
  · rcases hpl with rfl | ⟨_,_,_,_,_,_,_,rfl⟩ <;> simp
  · rw [Heap.get?_update_other _ _ (Ne.symm hbe)]
    exact Heap.get?_push_of_some _ ((hs₁.2.1 b hnf).trans hb)
  · obtain ⟨sl,z⟩:=hs₁.2.2 b o hb
    refine ⟨sl,?_⟩
    rw [Heap.get?_update_other _ _ (fun (q:e = b)=>hene (by rw [q]; exact hm))]
    exact Heap.get?_push_of_some _ z
theorem fly_still {cls fl:Value} {Q:Unit → Shared → Prop} (ht:TrdAt s.heap e cls T fl) (hl:s.heap.FunFrames base outer)
    (h:∀ h',TrdAt h' e cls T .none → KeptX (frsL outer) e T s.heap h' → Q () { s with heap:=h' }):wpAny M A (setFlight (.ref e) none) Q E s:=by
  obtain ⟨oe,vs,oT,ts,he,hc,hdi,hd,h1,hTe,hT,hdT,h3⟩:=ht
  have hsz3:3 < ts.size:=(Array.getElem?_eq_some_iff.mp h3).1
  have hnT:=fr_notfields hl hT hdT
  unfold setFlight
  refine wpAny_bind (wpAny_field he hd h1 ?_)
  rw [if_pos (show (Value.ref T != Value.none) = true from by simp)]
  refine wpAny_setField hT hdT hsz3 (h _ ⟨oe,vs,_,_,(Heap.get?_update_other _ _ hTe).trans he,hc,hdi,hd,h1,hTe,Heap.get?_update_self _ hT (Obj.isFreed_of_fields (Obj.data_mapFields hdT _)),Obj.data_mapFields hdT _,by simp [hsz3]⟩ ⟨fun b o hb _ _ hbT=>(Heap.get?_update_other _ _ (Ne.symm hbT)).trans hb,fun b o hb hm=>⟨o.slots,(Heap.get?_update_other _ _ fun (q:T = b)=>hnT (by rw [q]; exact hm)).trans hb⟩⟩)
theorem fly_note {cls:Value} {Q:Unit → Shared → Prop} (hfr:A.frames = some (env :: outer)) (hl:s.heap.FunFrames base (env :: outer)) (hf:env.frame = some L) (ht:TrdAt s.heap e cls T .none)
    (h:∀ h' T',s.heap.get? T' = none → TrdAt h' e cls T' (rawInt L) → KeptX (frsL (env :: outer)) e T s.heap h' → Q () { s with heap:=h' }):wpAny M A (noteFrame (.ref e) env) Q E s:=by
  obtain ⟨oe,vs,oT,ts,he,hc,hdi,hd,h1,hTe,hT,hdT,h3⟩:=ht
  subst hc
  unfold noteFrame
  simp only [hf]
  refine wpAny_bind (wpAny_field he hd h1 ?_)
  rw [if_pos (show (Value.ref T != Value.none) = true from by simp)]
  refine wpAny_bind (wpAny_field hT hdT h3 ?_)
  rw [if_neg (show ¬ ((Value.none == rawInt L) = true) from by simp [rawInt])]
  refine wpAny_bind (wpAny_setField hT hdT (Array.getElem?_eq_some_iff.mp h3).1 ?_)
  have hnT:=fr_notfields hl hT hdT
  have other:∀ b,b ≠ T → (s.heap.update T (Obj.mapFields (·.setIfInBounds 3 Value.none))).get? b = s.heap.get? b:=fun b hb=>Heap.get?_update_other _ _ (Ne.symm hb)
  refine fly_entry hfr (hl.of_keeps fun b o hb hnf=>⟨o,(other b fun q=>by rw [q,hT] at hb; cases hb; exact hnf ts hdT).trans hb,rfl⟩) hf ((other e (Ne.symm hTe)).trans he) hd (Array.getElem?_eq_some_iff.mp h1).1 hdi fun h' T' hn ht' hk=>?_
  refine h h' T' ?_ ht' ⟨fun b o hb hnf hbe hbT=>hk.keep b o ((other b hbT).trans hb) hnf hbe hbe,fun b o hb hm=>hk.slot b o ((other b fun q=>hnT (q ▸ hm)).trans hb) hm⟩
  by_cases q:T' = T
  · rw [q,Heap.get?_update_self _ hT (Obj.isFreed_of_fields (Obj.data_mapFields hdT _))] at hn; cases hn
  · exact (other T' q).symm.trans hn
theorem fly_first {oe:Obj} {vs:Array Value} {Q:Unit → Shared → Prop} (hfr:A.frames = some (env :: outer)) (hl:s.heap.FunFrames base (env :: outer)) (hf:env.frame = some L) (he:s.heap.get? e = some oe) (hd:oe.data = .fields vs) (h1:vs[1]? = some .none) (hdi:oe.dict = none)
    (h:∀ h' T',s.heap.get? T' = none → TrdAt h' e oe.cls T' (rawInt L) → KeptX (frsL (env :: outer)) e e s.heap h' → Q () { s with heap:=h' }):wpAny M A (noteFrame (.ref e) env) Q E s:=by
  unfold noteFrame
  simp only [hf]
  refine wpAny_bind (wpAny_field he hd h1 ?_)
  rw [if_neg (by decide)]
  exact fly_entry hfr hl hf he hd (Array.getElem?_eq_some_iff.mp h1).1 hdi h
theorem KeptX.frames {h h':Heap} {l:List Env} {vs ts:Array Value} {oe oT:Obj} (k:KeptX (frsL l) e T h h') (hl:h.FunFrames base l) (he:h.get? e = some oe) (hd:oe.data = .fields vs) (hT:h.get? T = some oT) (hdT:oT.data = .fields ts):h'.FunFrames base l :=
  hl.of_keeps fun b o hb hnf=>by
    by_cases hm:b ∈ frsL l
    · obtain ⟨sl,z⟩:=k.slot b o hb hm
      exact ⟨_,z,rfl⟩
    · exact ⟨o,k.keep b o hb hm (fun q=>by rw [q,he] at hb; cases hb; exact hnf vs hd) fun q=>by rw [q,hT] at hb; cases hb; exact hnf ts hdT,rfl⟩
end
end L2
set_option Elab.async false
set_option linter.all false
set_option maxRecDepth 100000
namespace L2
open PySem PySem.Spec PyProof.Rows
section
variable {X:Cx} {pins:List (Addr × Obj)} {σ:List (Option V)} {H H':Hp} {s:Shared} {h':Heap}
theorem Inv.stepW {g':Array GenState} {t':Nat} {d':Drawn} {ch:List Addr} (I:Inv X pins σ H s)
    (hch:∀ b ∈ ch,(b ∈ X.ex ∨ X.s₀.heap.get? b = none) ∧ b ≠ X.env.locals ∧ (∀ x c,X.env.cells.lookup x = some c → c ≠ b) ∧ ∀ p ∈ X.pn ++ pins,p.1 ≠ b)
    (keep:∀ b o,b ≠ X.env.locals → b ∉ X.fs → b ∉ ch → s.heap.get? b = some o → H b = none → h'.get? b = some o)
    (slot:∀ b o,b ≠ X.env.locals → b ∈ X.fs → b ∉ ch → s.heap.get? b = some o → H b = none → ∃ sl,h'.get? b = some { o with slots:=sl }) (free:∀ b o,b ∉ ch → s.heap.get? b = some o → H b = none → H' b = none)
    (there:∀ b o,b ∉ ch → s.heap.get? b = some o → ∃ o',h'.get? b = some o')
    (tups:∀ b xs,H b = some (.tup xs) → H' b = some (.tup xs)) (frzs:∀ b o u,H b = some (.frz o u) → H' b = some (.frz o u)) (tbls:∀ b ps,H b = some (.tbl ps) → ∃ more,H' b = some (.tbl (ps ++ more)))
    (ns:∀ m,s.heap.Ns X.env.locals m → h'.Ns X.env.locals m) (hok:HOk X.prog X.w H' h') (hg:AllBare g') :
    Inv X pins σ H' { s with heap:=h',gens:=g',drawn:=d',toks:=t' }:=by
  have neL:∀ b o,X.s₀.heap.get? b = some o → b ≠ X.env.locals:=fun b o e=>Nat.ne_of_lt (Nat.lt_of_lt_of_le (Heap.lt_size e) I.ok.above)
  have neC:∀ b o,X.s₀.heap.get? b = some o → b ∉ X.ex → b ∉ ch:=fun b o e hx hb=>by
    rcases (hch b hb).1 with z | z
    · exact hx z
    · rw [z] at e; cases e
  have cellK:∀ x c,X.env.cells.lookup x = some c → ∀ v,s.heap.IsCell c v → h'.IsCell c v:=fun x c e v ⟨o,ho,hd⟩=>by
    have nch:c ∉ ch:=fun z=>(hch c z).2.2.1 x c e rfl
    by_cases hc:c ∈ X.fs
    · obtain ⟨sl,q⟩:=slot c o (I.cne x c e) hc nch ho (I.freeC x c e)
      exact ⟨_,q,hd⟩
    · exact ⟨o,keep c o (I.cne x c e) hc nch ho (I.freeC x c e),hd⟩
  refine ⟨I.ok,I.os,hg,⟨fun b o e n hb hx=>?_,fun b o e n hb hx=>?_,fun b o e n hx=>?_,fun b o e hx=>?_,fun b xs e=>tups b xs (I.base.tups b xs e),fun b o xs e=>frzs b o xs (I.base.frzs b o xs e),fun b ps e=>?_⟩,?_,fun x c e=>?_,?_,fun x c e=>?_,fun p hp=>?_,hok,I.len⟩
  · exact keep b o (neL b o e) hb (neC b o e hx) (I.base.keep b o e n hb hx) (I.base.free b o e n hx)
  · obtain ⟨sl,e1⟩:=I.base.slot b o e n hb hx
    obtain ⟨sl',e2⟩:=slot b _ (neL b o e) hb (neC b o e hx) e1 (I.base.free b o e n hx)
    exact ⟨sl',e2⟩
  · obtain ⟨o',e1⟩:=I.base.there b o e hx
    exact free b o' (neC b o e hx) e1 (I.base.free b o e n hx)
  · obtain ⟨o',e1⟩:=I.base.there b o e hx
    exact there b o' (neC b o e hx) e1
  · obtain ⟨m1,e1⟩:=I.base.tbls b ps e
    obtain ⟨m2,e2⟩:=tbls b _ e1
    exact ⟨m1 ++ m2,by rw [e2,Array.append_assoc]⟩
  · obtain ⟨m,hn,hl⟩:=I.loc
    refine ⟨m,ns m hn,fun i x v e1 e2 e3=>?_⟩
    obtain ⟨u,r,l⟩:=hl i x v e1 e2 e3
    refine ⟨u,r,?_⟩
    rcases l with l | ⟨k,c,e,z⟩
    · exact .inl l
    · exact .inr ⟨k,c,e,cellK x c e _ z⟩
  · obtain ⟨v,z⟩:=I.cell x c e
    exact ⟨v,cellK x c e v z⟩
  · obtain ⟨m,⟨o,_,_,ho,_⟩,_⟩:=I.loc
    exact free _ o (fun z=>(hch _ z).2.1 rfl) ho I.free
  · obtain ⟨v,o,ho,hd⟩:=I.cell x c e
    exact free c o (fun z=>(hch c z).2.2.1 x c e rfl) ho (I.freeC x c e)
  · obtain ⟨e,n,ne,nf,d⟩:=I.pin p hp
    have nch:p.1 ∉ ch:=fun z=>(hch p.1 z).2.2.2 p hp rfl
    exact ⟨keep p.1 p.2 ne nf nch e n,free p.1 p.2 nch e n,ne,nf,d⟩
theorem Inv.callW {g':Array GenState} {t':Nat} {d':Drawn} {ch:List Addr} (I:Inv X pins σ H s) (u:Un (frs X.stack) ch H H' s.heap h') (hok:HOk X.prog X.w H' h') (hg:AllBare g')
    (hch:∀ b ∈ ch,(b ∈ X.ex ∨ X.s₀.heap.get? b = none) ∧ b ≠ X.env.locals ∧ (∀ x c,X.env.cells.lookup x = some c → c ≠ b) ∧ ∀ p ∈ X.pn ++ pins,p.1 ≠ b) :
    Inv X pins σ H' { s with heap:=h',gens:=g',drawn:=d',toks:=t' }:=by
  obtain ⟨m,⟨o,es,ep,ho,r⟩,_⟩:=id I.loc
  obtain ⟨sl,hL⟩:=u.any ho I.free fun z=>(hch _ z).2.1 rfl
  exact I.stepW (ch:=ch) hch (fun b o hL hb hc e n=>u.keep b o e n (fun z=>(List.mem_cons.mp (I.stkSub b z)).elim hL hb) hc) (fun b o _ _ hc e n=>u.any e n hc) (fun b o hc e n=>u.free b o e n hc) (fun b o hc e=>u.there b o e hc) u.tups u.frzs u.tbls (fun m' hm=>by
    obtain ⟨o',es',ep',ho',r'⟩:=hm
    rw [ho] at ho'; cases ho'
    exact ⟨_,es',ep',hL,r'⟩) hok hg
end
theorem ObjOk.there {P:Program} {w:World} {H:Hp} {h:Heap} {a:Addr} {o:HO} (x:ObjOk P w H h a o):∃ ob,h.get? a = some ob:=by
  cases o with
  | lst xs=>obtain ⟨_,_,_,_,e⟩:=x; exact ⟨_,e⟩
  | tup xs=>obtain ⟨_,_,_,⟨o,e,_⟩⟩:=x; exact ⟨o,e⟩
  | dK kvs=>obtain ⟨_,_,_,_,o,_,_,e,_⟩:=x; exact ⟨_,e⟩
  | dT kvs=>obtain ⟨_,_,_,_,o,_,_,e,_⟩:=x; exact ⟨_,e⟩
  | set S n=>obtain ⟨o,_,_,_,e,_⟩:=x; exact ⟨_,e⟩
  | ins C dx fs=>obtain ⟨_,_,_,e,_⟩:=x; exact ⟨_,e⟩
  | own y=>exact x
  | xd fs=>obtain ⟨_,⟨_,_,_,e,_⟩,_⟩:=x; exact ⟨_,e⟩
  | rng lo hi=>obtain ⟨_,_,_,e⟩:=x; exact ⟨_,e⟩
  | frz ob u=>exact ⟨_,x.1⟩
  | tbl ps=>exact ⟨_,show h.get? a = some _ from x⟩
  | met f y=>exact ⟨_,show h.get? a = some _ from x⟩
  | ext φ=>exact x.2.1
def CXx (P:Program) (w:World):CXT:=fun outer H s E e s'=>∃ ea C T H',e = .ref ea ∧ s'.os = s.os ∧ AllBare s'.gens ∧ Un (frs outer) [] H H' s.heap s'.heap ∧ HOk P w H' s'.heap ∧ TrdAt s'.heap ea (.ref C) T .none ∧
  s.heap.get? ea = none ∧ s.heap.get? T = none ∧ H' ea = none ∧ H' T = none ∧ E (.ref C) (some ea) H'
section
variable {X:Cx} {pins:List (Addr × Obj)} {σ:List (Option V)} {H:Hp} {s:Shared}
def Own (X:Cx) (pins:List (Addr × Obj)) (b:Addr):Prop:=X.s₀.heap.get? b = none ∧ b ≠ X.env.locals ∧ (∀ x c,X.env.cells.lookup x = some c → c ≠ b) ∧ ∀ p ∈ X.pn ++ pins,p.1 ≠ b
theorem Inv.freshX (I:Inv X pins σ H s) (hx:X.ex = []) {b:Addr} (hb:s.heap.get? b = none):Own X pins b:=by
  refine ⟨?_,fun z=>?_,fun x c ec z=>?_,fun p hp z=>?_⟩
  · cases q:X.s₀.heap.get? b with
    | none=>rfl
    | some o =>
      obtain ⟨o',e'⟩:=I.base.there b o q (by rw [hx]; simp)
      rw [hb] at e'; cases e'
  · obtain ⟨m,⟨o,_,_,ho,_⟩,_⟩:=I.loc
    rw [← z,hb] at ho; cases ho
  · obtain ⟨v,o,ho,_⟩:=I.cell x c ec
    rw [z,hb] at ho; cases ho
  · have:=(I.pin p hp).1
    rw [z,hb] at this; cases this
theorem Inv.freeX (I:Inv X pins σ H s) {b:Addr} (hb:s.heap.get? b = none):H b = none:=by
  cases q:H b with
  | none=>rfl
  | some u =>
    obtain ⟨ob,hob⟩:=(I.hok b u q).there
    rw [hb] at hob; cases hob
theorem Inv.keptX {h'':Heap} {ea T:Addr} (I:Inv X pins σ H s) (hea:H ea = none) (hT:H T = none) (oa:Own X pins ea) (oT:Own X pins T) (k:KeptX (frs X.stack) ea T s.heap h''):Inv X pins σ H { s with heap:=h'' }:=by
  have u:Un (frs X.stack) [ea,T] H H s.heap h'':=by
    refine ⟨fun b o e n hb hx=>?_,fun b o e n hb hx=>k.slot b o e hb,fun b o e n hx=>n,fun b o e hx=>?_,fun b xs e=>e,fun b o xs e=>e,fun b ps e=>⟨#[],by rw [e]; simp⟩⟩
    · have hx':¬ (b = ea ∨ b = T):=by simpa using hx
      exact k.keep b o e hb (fun z=>hx' (.inl z)) fun z=>hx' (.inr z)
    · have hx':¬ (b = ea ∨ b = T):=by simpa using hx
      by_cases hb:b ∈ frs X.stack
      · obtain ⟨sl,q⟩:=k.slot b o e hb
        exact ⟨_,q⟩
      · exact ⟨o,k.keep b o e hb (fun z=>hx' (.inl z)) fun z=>hx' (.inr z)⟩
  have hok:HOk X.prog X.w H h'':=fun b o e=>(I.hok b o e).stay (fun c v hc q=>by
    have hc':∃ u,H c = some u:=by
      rcases hc with z | z
      · exact ⟨o,by rw [z]; exact e⟩
      · exact ⟨_,z⟩
    obtain ⟨u',hu⟩:=hc'
    exact k.keep c v q (fun z=>by rw [I.stkFree c z] at hu; cases hu) (fun z=>by rw [z,hea] at hu; cases hu) fun z=>by rw [z,hT] at hu; cases hu) (fun _ q=>q) fun _ _ q=>q
  exact I.callW (g':=s.gens) (t':=s.toks) (d':=s.drawn) (ch:=[ea,T]) u hok I.bare fun b hb=>by
    have hb':b = ea ∨ b = T:=by simpa using hb
    rcases hb' with z | z <;> subst z
    · exact ⟨.inr oa.1,oa.2⟩
    · exact ⟨.inr oT.1,oT.2⟩
theorem note_still {M:Model} {A:Around} {E:Value → Shared → Prop} {Q:Unit → Shared → Prop} {ea T:Addr} {cls:Value} (I:Inv X pins σ H s) (hx:X.ex = []) (stk:X.stack = X.env :: X.outer) (fr:X.env.frame = some X.env.locals) (hA:A.frames = some X.stack)
    (tr:TrdAt s.heap ea cls T .none) (hea:H ea = none) (hT:H T = none) (oa:Own X pins ea) (oT:Own X pins T)
    (h:∀ h' T',Inv X pins σ H { s with heap:=h' } → TrdAt h' ea cls T' .none → H T' = none → Own X pins T' → Q () { s with heap:=h' }) :
    wpAny M A (noteFrame (.ref ea) X.env) (fun _ s'=>wpAny M A (setFlight (.ref ea) none) Q E s') E s:=by
  refine fly_note (base:=X.base) (outer:=X.outer) (L:=X.env.locals) (by rw [hA,stk]) (by rw [← stk]; exact I.stack) fr tr fun h' T' hn ht' hk=>?_
  rw [← stk] at hk
  have I1:=I.keptX hea hT oa oT hk
  have hT':=I.freeX hn
  have oT':=I.freshX hx hn
  refine fly_still (s:={ s with heap:=h' }) (base:=X.base) (outer:=X.stack) ht' I1.stack fun h2 ht2 hk2=>?_
  exact h h2 T' (I1.keptX hea hT' oa oT' hk2) ht2 hT' oT'
theorem note_first {M:Model} {A:Around} {E:Value → Shared → Prop} {Q:Unit → Shared → Prop} {ea:Addr} {oe:Obj} {vs:Array Value} (I:Inv X pins σ H s) (hx:X.ex = []) (stk:X.stack = X.env :: X.outer) (fr:X.env.frame = some X.env.locals) (hA:A.frames = some X.stack)
    (he:s.heap.get? ea = some oe) (hd:oe.data = .fields vs) (h1:vs[1]? = some .none) (hdi:oe.dict = none) (hea:H ea = none) (oa:Own X pins ea)
    (h:∀ h' T',Inv X pins σ H { s with heap:=h' } → TrdAt h' ea oe.cls T' .none → H T' = none → Own X pins T' → Q () { s with heap:=h' }) :
    wpAny M A (noteFrame (.ref ea) X.env) (fun _ s'=>wpAny M A (setFlight (.ref ea) none) Q E s') E s:=by
  refine fly_first (base:=X.base) (outer:=X.outer) (L:=X.env.locals) (by rw [hA,stk]) (by rw [← stk]; exact I.stack) fr he hd h1 hdi fun h' T' hn ht' hk=>?_
  rw [← stk] at hk
  have I1:=I.keptX hea hea oa oa hk
  have hT':=I.freeX hn
  have oT':=I.freshX hx hn
  refine fly_still (s:={ s with heap:=h' }) (base:=X.base) (outer:=X.stack) ht' I1.stack fun h2 ht2 hk2=>?_
  exact h h2 T' (I1.keptX hea hT' oa oT' hk2) ht2 hT' oT'
structure Leaves (X:Cx) (E₀:XK):Prop where
  ex:X.ex = []
  stk:X.stack = X.env :: X.outer
  fr:X.env.frame = some X.env.locals
  xe:X.xe = fun e s'=>wpAny (model X.prog X.w) X.A (leaving X.env e) (fun _ s''=>CXx X.prog X.w X.outer X.H₀ X.s₀ E₀ e s'') (fun e' s''=>CXx X.prog X.w X.outer X.H₀ X.s₀ E₀ e' s'') s'
theorem leaves_cx {P:Program} {w:World} {K:PySem.W.Frag} {mg:Str → Option Value} {base:Heap} {N:List Str} {qual:Str} {scope:Scope} {f:Addr} {cd:Value} {A:Around} {outer:List Env} {s:Shared} {H:Hp} {E:XK} :
    Leaves (cxOf (CXx P w) P w K mg base N qual scope f cd A outer s H E) E:=⟨rfl,rfl,rfl,rfl⟩
theorem Inv.cxx {ea C T:Addr} {E₀:XK} (I:Inv X pins σ H s) (hx:X.ex = []) (tr:TrdAt s.heap ea (.ref C) T .none) (hea:H ea = none) (hT:H T = none) (oa:Own X pins ea) (oT:Own X pins T) (hq:E₀ (.ref C) (some ea) H) :
    CXx X.prog X.w X.outer X.H₀ X.s₀ E₀ (.ref ea) s:=by
  have u:=I.base
  rw [hx] at u
  exact ⟨ea,C,T,H,rfl,I.os,I.bare,u,I.hok,tr,oa.1,oT.1,hea,hT,hq⟩
theorem passx {E E₀:XK} (L:Leaves X E₀) (hE:∀ C ea H',E (.ref C) ea H' → E₀ (.ref C) ea H'):Passes (CXx X.prog X.w) X E:=by
  intro pins σ H s e s' I h
  obtain ⟨ea,C,T,H',rfl,os,bare,un,hok,tr,ne,nT,he,hT,hq⟩:=h
  have I2:Inv X pins σ H' s':=I.call' (ch:=[]) os un hok bare fun b z=>nomatch z
  rw [L.xe]
  unfold leaving
  refine wpAny_bind (note_still I2 L.ex L.stk L.fr I.ok.frames tr he hT (I.freshX L.ex ne) (I.freshX L.ex nT) fun h' T' I3 tr' hT' oT'=>?_)
  exact I3.cxx L.ex tr' he hT' (I.freshX L.ex ne) oT' (hE _ _ _ hq)
abbrev veM:List Value:=[.type "ValueError", .type "Exception", .type "BaseException", .type "object"]
def ExObj (K:PySem.W.Frag) (C:Addr):Prop:=∃ bm N nm q bs hdct sn sub ab col dd k0 k1 k2 k3 k5,K.lookup C = some (excClassObj nm q C N bs bm hdct sn sub ab col dd k0 k1 k2 k3 k5 "ValueError.__new__") ∧
  PySem.W.nsOkIn K N = true ∧ PySem.W.nsIn K N "__init__" = some none ∧ PySem.W.tailIn K veM bm = true
def tRaise (C:Addr) (E₀:XK):TS:=fun _ _ H=>∀ ea,H ea = none → E₀ (.ref C) (some ea) H
theorem ps_raise {E₀:XK} (L:Leaves X E₀) (hc:X.calm = true) {x:Str} {m:Str} {k:Nat} {C:Addr} {np cp cpos pos:Pos} (hg:Gl X x) (hm:X.mg x = some (.ref C)) (hx:ExObj X.K C) (hd:(x == ("__debug__" : Str)) = false:=by decide) :
    PS X (.Raise (some (.Call (.Name x np) [.Constant (.str m) k cp] [] cpos)) none pos) (tRaise C E₀):=by
  intro pins s σ H D I h
  obtain ⟨bm,N,nm,q,bs,hdct,sn,sub,ab,col,dd,k0,k1,k2,k3,k5,hC,hN,hni,hT⟩:=hx
  have FB:=PySem.F.excBase_ValueError
  have T0:OwnTail X.base veM bm:=PySem.W.tail_of_in I.ok.mod.kin hT
  have Ns0:X.base.Ns N (X.base.nsMap N):=.of_isNs (PySem.W.isNs_of_in I.ok.mod.kin hN)
  refine wpAny_Raise_call_subT (C:=C) (nm:=nm) (q:=q) (N:=N) (bs:=bs) (bm:=bm) (hdct:=hdct) (sn:=sn) (sub:=sub) (ab:=ab) (col:=col) (dd:=dd) (k0:=k0) (k1:=k1) (k2:=k2) (k3:=k3) (k5:=k5)
    FB (mN:=X.base.nsMap N) (T0.hasType FB.hasBase) (I.ok.hd hc) rfl (PySem.W.nsMap_none_of_in I.ok.mod.kin hN hni) (ld_glob I hg hm ⟨rfl,?_⟩ hd)
  refine Calls.evalArgs_plain (x:=eval (.Constant (.str m) k cp) X.env) (Calls.spliced_cons ?_)
  refine Calls.Constant_str (k:=k) (pos:=cp) ?_
  refine Calls.spliced_nil ?_
  have I1:Inv X pins σ H { s with toks:=s.toks + 1 }:=I.tok _
  refine ⟨rfl,(by show 1 ≤ sizeLine; decide),I1.bk _ _ (I1.ok.mod.kin _ _ hC),Ns0.keeps I1.bk,T0.keeps I1.bk,fun h1 e hx=>?_⟩
  obtain ⟨t,he,htn,ht⟩:=hx.there
  have hkeep:=hx.keeps
  have hne:H e = none:=I.freeX hx.new
  have oe:=I.freshX L.ex hx.new
  have I2:Inv X pins σ H { s with heap:=h1,toks:=s.toks + 1 }:=I1.kept (t':=s.toks + 1) hkeep
  rw [L.xe]
  unfold leaving
  refine wpAny_bind (note_first (s:={ s with heap:=h1,toks:=s.toks + 1 }) I2 L.ex L.stk L.fr I.ok.frames he rfl rfl rfl hne oe fun h' T' I3 tr' hT' oT'=>?_)
  exact I3.cxx L.ex tr' hne hT' oe oT' (h e hne)
theorem Fun.okx {P:Program} {w:World} {K:PySem.W.Frag} {mg:Str → Option Value} {base:Heap} {x qual:Str} {st:Stmt} {f:Addr} {fd:FuncData} {N ps:List Str} {k:Nat} {sp:Sp} (F:Fun K x qual st f fd) (S:FnScope N ps (defScope st)) (len:∀ vs H Q E,sp vs H Q E → vs.length = ps.length)
    (hbody:∀ (cdv:Value) (A:Around) (outer:List Env) (s:Shared) (H:Hp) (vs:List V) (Q:VK) (E:XK),Room k (A.deeper (envOfC qual (defScope st) s.heap.objs.size f cdv)) → sp vs H Q E →
      ∃ t,PSs (cxOf (CXx P w) P w K mg base N qual (defScope st) f cdv A outer s H E) (defBody st) t ∧ t { nx:=fun _ H'=>Q .non H',rt:=Q } (start N vs) H):FnOk P w K mg base (CXx P w) (k + 1) f fd ps sp:=by
  obtain ⟨oc,od,kV,doc,pm,an,cdv,ct,osl,rfl,lk,hcd⟩:=F.ex
  exact fn_of lk hcd S len fun A outer s H vs Q E hr hsp=>hbody cdv A outer s H vs Q E hr hsp
end
end L2
set_option Elab.async false
set_option linter.all false
set_option maxRecDepth 100000
namespace L2
open PySem PySem.Spec PyProof.Rows
section
variable {X:Cx} {pins:List (Addr × Obj)} {σ:List (Option V)} {H:Hp} {s:Shared}
def exo (C ea:Addr):HO:=.ext fun h=>∃ o vs,h.get? ea = some o ∧ o.cls = .ref C ∧ o.dict = none ∧ o.data = .fields vs
theorem exo_ok {P:Program} {w:World} {h:Heap} {ea C T:Addr} {fl:Value} (tr:TrdAt h ea (.ref C) T fl):ObjOk P w H h ea (exo C ea):=by
  obtain ⟨oe,vs,oT,ts,he,hc,hdi,hd,_⟩:=tr
  exact ⟨⟨oe,vs,he,hc,hdi,hd⟩,⟨oe,he⟩,fun h1 h2 ⟨o,us,e,c⟩ k=>⟨o,us,k o e,c⟩⟩
theorem Inv.takeX {ea:Addr} {o:HO} (I:Inv X pins σ H s) (hea:H ea = none) (oa:Own X pins ea) (new:ObjOk X.prog X.w (upd H ea o) s.heap ea o):Inv X pins σ (upd H ea o) s:=by
  have ne:∀ b u,H b = some u → b ≠ ea:=fun b u e=>ne_of_none e hea
  have u:Un (frs X.stack) [ea] H (upd H ea o) s.heap s.heap:=by
    refine ⟨fun b o e n hb hx=>e,fun b o e n hb hx=>⟨o.slots,e⟩,fun b o e n hx=>?_,fun b o e hx=>⟨o,e⟩,fun b xs e=>?_,fun b o xs e=>?_,fun b ps e=>⟨#[],?_⟩⟩
    · rw [upd_ne (by simpa using hx)]; exact n
    · rw [upd_ne (ne b _ e)]; exact e
    · rw [upd_ne (ne b _ e)]; exact e
    · rw [upd_ne (ne b _ e),e]; simp
  have hok:HOk X.prog X.w (upd H ea o) s.heap:=fun b v e=>by
    by_cases hb:b = ea
    · subst hb; rw [upd_same] at e; cases e; exact new
    · rw [upd_ne hb] at e
      exact (I.hok b v e).stay (fun c v _ q=>q) (fun c q=>by rw [upd_ne (ne c _ q)]; exact q) fun c xs q=>by rw [upd_ne (ne c _ q)]; exact q
  exact I.callW (h':=s.heap) (g':=s.gens) (t':=s.toks) (d':=s.drawn) (ch:=[ea]) u hok I.bare fun b hb=>by
    have z:b = ea:=by simpa using hb
    subst z
    exact ⟨.inr oa.1,oa.2⟩
theorem Inv.forget {h':Heap} {m':Str → Option Value} {t':Nat} (I:Inv X pins σ H s) (hn:h'.Ns X.env.locals m') (hs:Heap.SameBut X.env.locals s.heap h'):Inv X pins (List.replicate σ.length none) H { s with heap:=h',toks:=t' }:=by
  have ne:∀ b o,X.s₀.heap.get? b = some o → b ≠ X.env.locals:=fun b o e=>Nat.ne_of_lt (Nat.lt_of_lt_of_le (Heap.lt_size e) I.ok.above)
  refine ⟨I.ok,I.os,I.bare,⟨fun b o e n hb hx=>(hs.2 b (ne b o e)).trans (I.base.keep b o e n hb hx),fun b o e n hb hx=>?_,I.base.free,fun b o e hx=>?_,I.base.tups,I.base.frzs,I.base.tbls⟩,⟨m',hn,fun i x v e1 e2 e3=>?_⟩,fun y c e=>?_,I.free,I.freeC,fun p hp=>?_,fun b o e=>?_,by rw [List.length_replicate]; exact I.len⟩
  · obtain ⟨sl,e1⟩:=I.base.slot b o e n hb hx
    exact ⟨sl,(hs.2 b (ne b o e)).trans e1⟩
  · obtain ⟨o',e1⟩:=I.base.there b o e hx
    exact ⟨o',(hs.2 b (ne b o e)).trans e1⟩
  · rw [List.getElem?_replicate] at e2
    split at e2 <;> cases e2
  · obtain ⟨w',z⟩:=I.cell y c e
    exact ⟨w',z.sameBut hs (I.cne y c e)⟩
  · obtain ⟨e,n,ne',nf,d⟩:=I.pin p hp
    exact ⟨(hs.2 p.1 ne').trans e,n,ne',nf,d⟩
  · refine (I.hok b o e).stay (fun c v hc q=>(hs.2 c ?_).trans q) (fun _ q=>q) fun _ _ q=>q
    rintro rfl
    rcases hc with rfl | hc
    · rw [I.free] at e; cases e
    · rw [I.free] at hc; cases hc
abbrev Cx.pinX (X:Cx) (pins:List (Addr × Obj)) (xe:Value → Shared → Prop):Cx:={ X with pn:=X.pn ++ pins,xe:=xe }
theorem Inv.pinX {xe:Value → Shared → Prop} (I:Inv X pins σ H s):Inv (X.pinX pins xe) [] σ H s :=
  have o:=I.ok
  ⟨⟨o.mod,o.kind,o.glob,o.blt,o.above,o.inj,o.has,o.cab,o.hd,o.frames,o.stk,o.exf,o.bs,o.bsz,o.noex,o.exfs,o.funs,o.frf⟩,I.os,I.bare,I.base,I.loc,I.cell,I.free,I.freeC,fun p hp=>I.pin p (by simpa using hp),I.hok,I.len⟩
theorem Inv.unpinX {xe:Value → Shared → Prop} {pins2:List (Addr × Obj)} (I:Inv (X.pinX pins xe) pins2 σ H s):Inv X pins σ H s :=
  have o:=I.ok
  ⟨⟨o.mod,o.kind,o.glob,o.blt,o.above,o.inj,o.has,o.cab,o.hd,o.frames,o.stk,o.exf,o.bs,o.bsz,o.noex,o.exfs,o.funs,o.frf⟩,I.os,I.bare,I.base,I.loc,I.cell,I.free,I.freeC,fun p hp=>I.pin p (List.mem_append_left _ hp),I.hok,I.len⟩
abbrev Cx.inExc (X:Cx) (e:Value):Cx:={ X with A:=X.A.mark (some e),calm:=false,xe:=fun _ _=>False }
theorem Inv.inExc {e:Value} (I:Inv X pins σ H s):Inv (X.inExc e) pins σ H s :=
  have o:=I.ok
  ⟨⟨o.mod,o.kind,o.glob,o.blt,o.above,o.inj,o.has,o.cab,fun z=>(Bool.false_ne_true z).elim,o.frames,o.stk,o.exf,o.bs,o.bsz,o.noex,o.exfs,o.funs,o.frf⟩,I.os,I.bare,I.base,I.loc,I.cell,I.free,I.freeC,I.pin,I.hok,I.len⟩
theorem Inv.outExc {e:Value} (ok:X.Ok) (I:Inv (X.inExc e) pins σ H s):Inv X pins σ H s:=⟨ok,I.os,I.bare,I.base,I.loc,I.cell,I.free,I.freeC,I.pin,I.hok,I.len⟩
theorem handle_exm {prog:Program} {w:World} {A:Around} {E:Value → Shared → Prop} {s:Shared} {env:Env} {e R:Addr} {t:Expr} {n:Str} {b₀:Stmt} {suite:List Stmt} {pos:Pos} {rest:List ExceptHandler} {Q:Flow → Shared → Prop}
    (h:wpAny (model prog w) (A.mark (some (.ref e))) (eval t env) (fun c s₁=>c = .ref R ∧ PySem.W.Looks (model prog w) s₁.heap (excMatches (.ref e) (.ref R)) true ∧
      wpAny (model prog w) (A.mark (some (.ref e))) (setFlight (.ref e) none) (fun _ s₂=>wpAny (model prog w) (A.mark (some (.ref e))) (storeName env n (.ref e)) (fun _ s₃ =>
            wpAny (model prog w) (A.mark (some (.ref e))) (execs (b₀ :: suite) env)
              (fun f s₄=>wpAny (model prog w) A (do bindName env n .none; unbindBehindTheSuite env n pos) (fun _ s₅=>Q f s₅) E s₄) (fun _ _=>False) s₃) (fun _ _=>False) s₂) (fun _ _=>False) s₁) (fun _ _=>False) s) :
    wpAny (model prog w) A (handleBy (.ref e) env (.ExceptHandler (some t) (some n) (b₀ :: suite) pos :: rest)) Q E s:=by
  refine wpAny_handleBy_cons (codeAny_handlers_test (wpAny_mono h (fun c s₁ h₁=>?_) fun _ _ z=>z.elim)) (by intro q; cases q)
  obtain ⟨rfl,LT,hk⟩:=h₁
  exact LT.here (codeAny_handlers_suite_as (wpAny_mono hk (fun _ s₂ h₂=>wpAny_mono h₂ (fun _ s₃ h₃=>wpAny_mono h₃ (fun _ _ z=>z) fun _ _ z=>z.elim) fun _ _ z=>z.elim) fun _ _ z=>z.elim))
def tTry (K:PySem.W.Frag) (R:Addr) (k:Nat) (tb:XK → TS) (ts:TS):TS:=fun D σ H =>
  tb (fun c a H'=>∃ C ea,c = .ref C ∧ a = some ea ∧ PySem.W.exmOne K (.ref C) (.ref R) = some true ∧ ∀ σ':St,σ'.length = σ.length → ts { nx:=fun _ _=>False,rt:=D.rt } (σ'.set k (some (.ref ea))) (upd H' ea (exo C ea))) D σ H
theorem ps_try {x n:Str} {R:Addr} {k:Nat} {tb:XK → TS} {ts:TS} {body suite:List Stmt} {b₀:Stmt} {np hpos pos:Pos} (hex:X.ex = []) (stk:X.stack = X.env :: X.outer) (fr:X.env.frame = some X.env.locals) (hN:X.N.Nodup) (hk:X.N[k]? = some n) (hl:X.env.scope.names.lookup n = some .local)
    (hg:Gl X x) (hm:X.mg x = some (.ref R)) (hb:∀ pins xe E,Passes (CXx X.prog X.w) (X.pinX pins xe) E → PSs (X.pinX pins xe) body (tb E)) (hs:∀ e,PSs (X.inExc e) (b₀ :: suite) ts) (hd:(x == ("__debug__" : Str)) = false:=by decide) :
    PS X (.Try body [.ExceptHandler (some (.Name x np)) (some n) (b₀ :: suite) hpos] [] [] pos) (tTry X.K R k tb ts):=by
  intro pins s σ H D I h
  refine wpAny_Try_except ?_
  obtain ⟨E0,hE0⟩:∃ E0:XK,E0 = (fun c a H'=>∃ C ea,c = .ref C ∧ a = some ea ∧ PySem.W.exmOne X.K (.ref C) (.ref R) = some true ∧ ∀ σ':St,σ'.length = σ.length → ts { nx:=fun _ _=>False,rt:=D.rt } (σ'.set k (some (.ref ea))) (upd H' ea (exo C ea))):=⟨_,rfl⟩
  have h0:tb E0 D σ H:=by rw [hE0]; exact h
  obtain ⟨xe,hxe⟩:∃ xe:Value → Shared → Prop,xe = fun e s'=>∃ σ' H' ea C T,e = .ref ea ∧ Inv X pins σ' H' s' ∧ TrdAt s'.heap ea (.ref C) T .none ∧ H' ea = none ∧ H' T = none ∧ Own X pins ea ∧ Own X pins T ∧ E0 (.ref C) (some ea) H':=⟨_,rfl⟩
  have hpass:Passes (CXx X.prog X.w) (X.pinX pins xe) E0:=by
    intro pins2 σ2 H2 s2 e s' I2 hx
    obtain ⟨ea,C,T,H',rfl,os,bare,un,hok,tr,ne,nT,he,hT,hq⟩:=hx
    have I2':Inv X pins σ2 H2 s2:=I2.unpinX
    have I3:Inv X pins σ2 H' s':=I2'.call' (ch:=[]) os un hok bare fun b z=>nomatch z
    show xe _ _
    rw [hxe]
    exact ⟨σ2,H',ea,C,T,rfl,I3,tr,he,hT,I2'.freshX hex ne,I2'.freshX hex nT,hq⟩
  refine wpAny_mono (hb pins xe E0 hpass [] s σ H D I.pinX h0) (fun f s1 q=>?_) (fun e s1 q=>?_)
  · cases f with
    | next=>obtain ⟨σ',H',I',q⟩:=q; exact wpAny_execs_nil ⟨σ',H',I'.unpinX,q⟩
    | brk=>obtain ⟨σ',H',I',q⟩:=q; exact ⟨σ',H',I'.unpinX,q⟩
    | cont=>obtain ⟨σ',H',I',q⟩:=q; exact ⟨σ',H',I'.unpinX,q⟩
    | ret u=>obtain ⟨v,σ',H',I',q⟩:=q; exact ⟨v,σ',H',I'.unpinX,q⟩
  · have q:xe e s1:=q
    rw [hxe] at q
    obtain ⟨σ',H',ea,C,T,rfl,I',tr,hea,hT,oea,oT,q⟩:=q
    rw [hE0] at q
    obtain ⟨C',ea',e1,e2,hx,hq⟩:=q
    cases e1; cases e2
    refine note_still I' hex stk fr I.ok.frames tr hea hT oea oT fun h2 T2 I2 tr2 hT2 oT2=>?_
    refine handle_exm (R:=R) ?_
    refine ld_glob (X:=X.inExc (.ref ea)) I2.inExc hg hm ⟨rfl,?_,?_⟩ hd
    · obtain ⟨oe,vs,_,_,he,hc,_⟩:=id tr2
      exact PySem.W.exm_one I2.kIn (hc ▸ (PySem.W.Looks.ld he).andThen .now) hx
    · refine fly_still (base:=X.base) (outer:=X.stack) tr2 I2.stack fun h3 tr3 hk3=>?_
      have I3:=I2.keptX hea hT2 oea oT2 hk3
      have I4:=I3.takeX (o:=exo C ea) hea oea (exo_ok tr3)
      refine store_ok (X:=X.inExc (.ref ea)) (v:=.ref ea) I4.inExc hN hk (.inl hl) rfl (fun s' I5=>?_) (.inr hl)
      refine wpAny_mono (hs _ pins s' _ _ _ I5 (hq σ' (by rw [I'.len,I.len]))) (fun f s5 q=>?_) (fun _ _ z=>z)
      cases f with
      | next=>obtain ⟨_,_,_,q⟩:=q; exact q.elim
      | brk=>obtain ⟨_,_,_,q⟩:=q; exact q.elim
      | cont=>obtain ⟨_,_,_,q⟩:=q; exact q.elim
      | ret u =>
        obtain ⟨v,σ5,H5,I6,r,q⟩:=q
        have I6':Inv X pins σ5 H5 s5:=Inv.outExc I.ok I6
        obtain ⟨m,hn,_⟩:=id I6'.loc
        refine wpAny_nameGoes hl hn (by rw [I.ok.kind]; rfl) fun h' m' hn' hs'=>?_
        exact ⟨v,_,H5,I6'.forget hn' hs',r,q⟩
structure ExCls (K:PySem.W.Frag) (C:Addr):Prop where
  ga:PySem.W.findIn K (.ref C) "__getattribute__" = some (some (.builtin "BaseException.__getattribute__"))
  gt:PySem.W.findIn K (.ref C) "__getattr__" = some none
  fc:PySem.W.findIn K (.ref C) "__class__" = some (some (.builtin "object.__class__"))
  mro:PySem.W.mroIn K C (.type "object") = some true
  be:PySem.W.subIn K (.ref C) (.type "BaseException") = some true
  cls:(PySem.W.clsIn K C).isSome = true
section
variable {prog:Program} {w:World} {A:Around} {E:Value → Shared → Prop} {K:PySem.W.Frag} {x C:Addr} {ox:Obj} {h:Heap} {g:Array GenState} {d:Drawn} {t:Nat} {os:OsState}
theorem class_entry_exc {tk:Tok} {Q:Fin → Shared → Prop} (c:ExCls K C) (KX:K.In h) (I:PySem.W.InstAt h x ox C none) (hq:Q (.done (.ret (.ref C))) ⟨h,g,d,t,os⟩) :
    wpAny (model prog w) A (Builtin.«object.__getattribute__» ⟨[.ref x,.str "__class__" tk],[]⟩) Q E ⟨h,g,d,t,os⟩:=by
  have hx:=I.at_
  have hc:=I.cls
  have hT5:(⟨h,g,d,t,os⟩:Shared).TypeIs (.builtin "object.__class__") "getset_descriptor" := F.typeOf_object_class
  have f5:=F.typeOf_object_class
  have f6:=F.slot_gs_get.lookup
  have f7:=F.slot_gs_set.lookup
  have L3:=PySem.W.looks_findIn (M:=model prog w) KX c.fc
  repeat (any_goals (first | assumption | (with_reducible refine wpAny_loadPart_at hx ?_; rw [hc]) | (with_reducible refine L3.at ?_) | wp_step))
  refine PySem.W.class_get (s:=⟨h,g,d,t,os⟩) (od:=none) KX I c.mro ?_
  repeat (any_goals (first | assumption | wp_step))
theorem check_ga_exc {nameV:Value} {Q:Unit → Shared → Prop} (c:ExCls K C) (KX:K.In h) (I:PySem.W.InstAt h x ox C none) (hq:Q () ⟨h,g,d,t,os⟩):wpAny (model prog w) A (checkBuiltinCall "BaseException.__getattribute__" ⟨[.ref x,nameV],[]⟩) Q E ⟨h,g,d,t,os⟩:=by
  have hk:builtinKind "BaseException.__getattribute__" = some .slot:=by decide +kernel
  have hsplit:splitId "BaseException.__getattribute__" = some ("BaseException", "__getattribute__"):=by decide +kernel
  have ha:=F.args_bexc_ga (.ref x) nameV
  have LI:PySem.W.Looks (model prog w) h (isInstance (.ref x) (.type "BaseException")) true:=(I.type (M:=model prog w)).andThen (PySem.W.looks_subIn KX c.be)
  simp only [checkBuiltinCall,hk,hsplit]
  refine wpAny_bind (LI.at ?_)
  repeat (any_goals (first | assumption | wp_step))
theorem class_by_exc {tk:Tok} {fill expr:Bool} {Q:Value → Shared → Prop} (c:ExCls K C) (KX:K.In h) (I:PySem.W.InstAt h x ox C none) (hq:Q (.ref C) ⟨h,g,d,t,os⟩) :
    wpAny (model prog w) A (getAttrBy (.ref x) (.str "__class__" tk) fill expr) Q E ⟨h,g,d,t,os⟩:=by
  have hx:=I.at_
  have hc:=I.cls
  have f3:=F.excAttr_ValueError.ga.bind (.ref x)
  have hx0:(expr && onTheHeap (Value.builtin "BaseException.__getattribute__")) = false:=by cases expr <;> rfl
  have hx2:(Value.builtin "BaseException.__getattribute__" == Value.builtin "object.__getattribute__") = false:=by decide +kernel
  have hx1:(onTheHeap (Value.ref C) && Value.builtin "BaseException.__getattribute__" == Value.builtin "object.__getattribute__") = false:=by rw [hx2]; rfl
  have L1:=PySem.W.looks_findIn (M:=model prog w) KX c.ga
  have L2:=PySem.W.looks_findIn (M:=model prog w) KX c.gt
  repeat (any_goals (first | assumption | (with_reducible refine wpAny_loadPart_at hx ?_; rw [hc]) | (with_reducible refine L1.at ?_) | (with_reducible refine L2.at ?_) | wp_step))
  refine codeAny_call_builtin F.excAttr_ValueError.ga.plain F.entry_bexc_ga (check_ga_exc c KX I (class_entry_exc c KX I ?_))
  repeat (any_goals (first | assumption | wp_step))
theorem class_attr_exc {Q:Option Value → Shared → Prop} (c:ExCls K C) (KX:K.In h) (I:PySem.W.InstAt h x ox C none) (hq:Q (some (.ref C)) ⟨h,g,d,t + 1,os⟩):wpAny (model prog w) A (getAttr? (.ref x) "__class__") Q E ⟨h,g,d,t,os⟩:=by
  unfold getAttr? getAttrBy?
  repeat (any_goals (first | assumption | with_reducible apply class_by_exc c KX I | wp_step))
end
theorem kitx_exc {K:PySem.W.Frag} {x D:Addr} (c:ExCls K D):PySem.W.KitX K (.ref x) (.ref D) (fun h=>∃ ox,PySem.W.InstAt h x ox D none) where
  ty:=fun _ _ _ ⟨_,I⟩=>I.type
  it:=fun _ _ X _=>by
    obtain ⟨cd,hcD⟩:=Option.isSome_iff_exists.mp c.cls
    unfold PySem.W.clsIn at hcD
    split at hcD
    · rename_i c' d' cd' sl' ho
      intro A' Q' E' s' k q
      unfold isType loadHead
      exact wpAny_bind (wpAny_loadPart (k _ _ (X _ _ ho)) (wpAny_pure q))
    · cases hcD
  ne:=fun h tp dd its n sl X htp=>by
    obtain ⟨cd,hcD⟩:=Option.isSome_iff_exists.mp c.cls
    refine Bool.eq_false_iff.mpr fun q=>?_
    have e:D = tp:=Value.ref.inj (beq_iff_eq.mp q)
    subst e
    unfold PySem.W.clsIn at hcD
    split at hcD
    · rename_i c' d' cd' sl' ho
      have z:=(X _ _ ho).symm.trans htp
      cases z
    · cases hcD
  ca:=fun {_ _ _ _ _ s} X ⟨ox,I⟩ k=>by
    obtain ⟨h,g,d,t,os⟩:=s
    exact class_attr_exc c X I k
theorem call_isexc:CallR X (.builtin "isinstance") (fun xs H Q=>∃ ea c C k b,xs = [.ref ea,c] ∧ H ea = some (exo C ea) ∧ ExCls X.K C ∧ clsV c = some k ∧ PySem.W.kitOne X.K (.ref C) k = some b ∧ Q (.bl b) H):=by
  intro pins s σ H xs us Q I r h
  obtain ⟨ea,c,C,k,b,e,ho,hC,hk,e2,q⟩:=h
  subst e
  obtain ⟨u,v,rfl,ru,rv⟩:=vals2 r
  have ev:v = k:=by
    cases c with
    | ref a=>cases rv; cases hk; rfl
    | ty n=>cases rv; cases hk; rfl
    | _=>cases hk
  subst ev
  cases (show u = Value.ref ea from ru)
  obtain ⟨⟨o,vs,h1,h2,h3,h4⟩,_⟩:=(show ObjOk X.prog X.w H s.heap ea (exo C ea) from I.hok ea _ ho)
  refine PySem.W.kia_one (kitx_exc hC) I.kIn ⟨o,h1,h2,?_,?_⟩ e2 (fun z=>nomatch z) fun tk=>⟨.bl b,H,I.tok tk,rfl,q⟩
  · unfold PySem.W.notCls; rw [h4]
  · rw [h3]; trivial
def tCallV (P:Program) (w:World) (K:PySem.W.Frag) (mg:Str → Option Value) (base:Heap) (kk i:Nat) (E:XK) (t:TA):TE:=fun σ H Q=>∃ f,σ[i]? = some (some (.ref f)) ∧ PySem.W.keepIn K (.ref f) = true ∧
  t σ H fun vs H1=>∃ fd ps sp k,FnOk P w K mg base (CXx P w) k f fd ps sp ∧ k ≤ kk ∧ Binds K fd ps [] ∧ sp vs H1 Q E
theorem pe_callV {P:Program} {w:World} {K:PySem.W.Frag} {mg:Str → Option Value} {base:Heap} {kk i:Nat} {x:Str} {e:Expr} {es:List Expr} {p pos:Pos} {t:TA} {E:XK} (hP:X.prog = P) (hw:X.w = w) (hK:X.K = K) (hmg:X.mg = mg) (hbs:X.base = base)
    (hl:PE X (.Name x p) (tVar i)) (hx:Passes (CXx X.prog X.w) X E) (hr:Room kk X.A) (ha:PA X (e :: es) t)
    (he:starEach (e :: es) X.env = (false,eval e X.env) :: starEach es X.env:=by rfl) (hpl:(backTo pos (starEach es X.env)).any (·.1) = false:=by rfl) :
    PE X (.Call (.Name x p) (e :: es) [] pos) (tCallV P w K mg base kk i E t):=by
  subst hP hw hK hmg hbs
  intro pins s σ H Q I h
  obtain ⟨f,hf,hk,h⟩:=h
  refine wpAny_Call_Name_kw (thn (hl pins s σ H (fun v H1=>v = .ref f ∧ H1 = H) I ⟨_,hf,rfl,rfl⟩) fun u s1 ⟨v,H1,I1,rv,e1,e2⟩=>?_)
  subst e1 e2
  obtain rfl:u = Value.ref f:=rv
  refine PySem.W.callWith_K (h₀:=X.base) I.ok.mod.kin hk (thn (ha pos pins s1 σ H1 _ I1 h) fun us s2 ⟨vs,H2,I2,r,fd,ps,sp,k,F,hk,hb,q⟩=>⟨I2.kIn,?_⟩) he hpl
  exact run_fn F (hr.mono hk) hb .nil hx I2 r (by rw [List.append_nil]; exact q)
structure RoomH (k:Nat) (A:Around):Prop where
  dp:A.depth + 3 * k + 5 < recursionLimit
  un:A.units + 16 * k + 200 < cLine
theorem RoomH.mono {j k:Nat} {A:Around} (r:RoomH k A) (h:j ≤ k):RoomH j A:=⟨by have:=r.dp; omega,by have:=r.un; omega⟩
theorem Room.inExc {k:Nat} {A:Around} {e:Option Value} (r:Room k A):RoomH k (A.mark e):=⟨r.dp,r.un⟩
structure FnOkH (P:Program) (w:World) (K:PySem.W.Frag) (mg:Str → Option Value) (base:Heap) (k:Nat) (f:Addr) (fd:FuncData) (ps:List Str) (sp:Sp):Prop where
  len:∀ vs H Q E,sp vs H Q E → vs.length = ps.length
  run:∀ (A:Around) (outer:List Env) (s:Shared) (H:Hp) (args:Args) (us:List Value) (vs:List V) (Q:VK) (E:XK),RoomH k A → Env0 P w K mg base A outer s H → BindsTo s fd args (ps.zip us) → Vals vs us → sp vs H Q E →
    codeAny (model P w) A (.call (.ref f) args) (CR CX0 outer P w H s Q E) s
abbrev Cx.uncalm (X:Cx):Cx:={ X with calm:=false,xe:=fun _ _=>False }
theorem Fun.okH {P:Program} {w:World} {K:PySem.W.Frag} {mg:Str → Option Value} {base:Heap} {x qual:Str} {st:Stmt} {f:Addr} {fd:FuncData} {N ps:List Str} {k:Nat} {sp:Sp} (F:Fun K x qual st f fd) (S:FnScope N ps (defScope st)) (len:∀ vs H Q E,sp vs H Q E → vs.length = ps.length)
    (hbody:∀ (cdv:Value) (A:Around) (outer:List Env) (s:Shared) (H:Hp) (vs:List V) (Q:VK) (E:XK),sp vs H Q E →
      ∃ t,PSs (cxOf CX0 P w K mg base N qual (defScope st) f cdv A outer s H E).uncalm (defBody st) t ∧ t { nx:=fun _ H'=>Q .non H',rt:=Q } (start N vs) H):FnOkH P w K mg base (k + 1) f fd ps sp:=by
  obtain ⟨oc,od,kV,doc,pm,an,cdv,ct,osl,rfl,lk,hcd⟩:=F.ex
  refine ⟨len,fun A outer s H args us vs Q E hr e0 hb r hsp=>?_⟩
  have hl:=len _ _ _ _ hsp
  have KX:K.In s.heap:=e0.mod.kin.keeps fun b o e=>(e0.bs b o e).1
  have lim:s.heap.NoLimit:=e0.mod.nolimit.keeps fun b o e=>(e0.bs b o e).1
  have hkind:∀ y ∈ ps.zip us,(defScope st).names.lookup y.1 = some .local ∨ ((defScope st).names.lookup y.1 = some .cell ∧ ((cellsFrom (s.heap.objs.size + 1) (defScope st).names []).lookup y.1).isSome = true):=fun ⟨n,v⟩ hy=>by
    rcases S.par n (List.of_mem_zip hy).1 with q | q
    · exact .inl q
    · exact .inr ⟨q,PySem.W.cellsFrom_some _ _ _ (.inl q)⟩
  refine codeAny_call_function (by have:=hr.dp; omega) (KX _ _ lk) rfl S.co S.gen rfl (PySem.W.codeRec_of KX hcd) (hb _ _ _ _ ?_)
  refine wpAny_newFunctionEnv_cells S.kind hkind fun env he s1 x=>?_
  subst he
  refine ⟨lim.keeps x.toInCall.keep,codeAny_func ?_⟩
  obtain ⟨t,ht,hq⟩:=hbody cdv A outer s H vs Q E hsp
  have e1:Env0 P w K mg base { A with handled:=none } outer s H:=⟨e0.frames,e0.mod,e0.bs,e0.bsz,e0.funs,e0.frf,e0.hok,e0.bare⟩
  have I0:Inv (cxOf CX0 P w K mg base N qual (defScope st) f cdv { A with handled:=none } outer s H E) [] (start N vs) H s1:=inv_start S rfl e1 hl r x
  have o:=I0.ok
  have I:Inv (cxOf CX0 P w K mg base N qual (defScope st) f cdv A outer s H E).uncalm [] (start N vs) H s1 :=
    ⟨⟨o.mod,o.kind,o.glob,o.blt,o.above,o.inj,o.has,o.cab,fun z=>(Bool.false_ne_true z).elim,Around.frames_deeper e0.frames,o.stk,o.exf,o.bs,o.bsz,o.noex,o.exfs,o.funs,o.frf⟩,I0.os,I0.bare,I0.base,I0.loc,I0.cell,I0.free,I0.freeC,I0.pin,I0.hok,I0.len⟩
  refine wpAny_mono (ht [] s1 (start N vs) H _ I hq) (fun fl s' hs=>?_) fun e s' hs=>hs.elim
  have fin:∀ {σ':St} {H':Hp} {v:V} {u:Value},Inv (cxOf CX0 P w K mg base N qual (defScope st) f cdv A outer s H E).uncalm [] σ' H' s' → RelV v u → Q v H' → CE outer P w H s Q u s' :=
    fun {σ' H' v u} J rv q=>⟨v,H',J.os,J.bare,J.base,J.hok,rv,q⟩
  cases fl with
  | ret u =>
    obtain ⟨v,σ',H',J,rv,q⟩:=hs
    exact fin J rv q
  | next =>
    obtain ⟨σ',H',J,q⟩:=hs
    exact fin (v:=V.non) (u:=Value.none) J rfl q
  | brk =>
    obtain ⟨_,_,_,q⟩:=hs
    exact False.elim q
  | cont =>
    obtain ⟨_,_,_,q⟩:=hs
    exact False.elim q
def tCallH (sp:Sp) (t:TA):TE:=fun σ H Q=>t σ H fun vs H1=>sp vs H1 Q fun _ _ _=>False
theorem pe_callH {k:Nat} {f:Addr} {fd:FuncData} {ps:List Str} {sp:Sp} {x:Str} {e:Expr} {es:List Expr} {p pos:Pos} {t:TA} (F:FnOkH X.prog X.w X.K X.mg X.base k f fd ps sp) (hr:RoomH k X.A) (hg:Gl X x) (hm:X.mg x = some (.ref f)) (hk:PySem.W.keepIn X.K (.ref f) = true) (hb:Binds X.K fd ps [])
    (ha:PA X (e :: es) t) (hdb:(x == ("__debug__" : Str)) = false:=by decide) (he:starEach (e :: es) X.env = (false,eval e X.env) :: starEach es X.env:=by rfl) (hpl:(backTo pos (starEach es X.env)).any (·.1) = false:=by rfl) :
    PE X (.Call (.Name x p) (e :: es) [] pos) (tCallH sp t):=by
  intro pins s σ H Q I h
  refine wpAny_Call_Name_kw (ld_glob I hg hm ?_ hdb)
  refine PySem.W.callWith_K (h₀:=X.base) I.ok.mod.kin hk (thn (ha pos pins s σ H _ I h) fun us s1 ⟨vs,H1,I1,r,q⟩=>⟨I1.kIn,?_⟩) he hpl
  have hl:(us ++ []).length = ps.length:=by rw [List.append_nil,← r.length]; exact F.len _ _ _ _ q
  have hbs:=hb s1 us I1.kIn hl
  rw [List.append_nil] at hbs
  refine wpAny_call (codeAny_mono (F.run X.A X.stack s1 H1 ⟨us,[]⟩ us vs Q _ hr I1.env0 hbs r q) fun r s' hq=>?_)
  cases r with
  | error e=>exact False.elim hq
  | ok fl =>
    cases fl with
    | ret u=>exact I1.after hq
    | next=>exact False.elim hq
    | brk=>exact False.elim hq
    | cont=>exact False.elim hq
end
end L2
set_option Elab.async false
set_option linter.all false
set_option maxRecDepth 100000
namespace L2
open PySem PySem.Spec PyProof.Rows
theorem dk_none {P:Program} {w:World} {H:Hp} (h:Heap) (hb:sysModules < h.objs.size):ObjOk P w H (h.push { cls:=.type "dict", data:=.dict #[] }) h.objs.size (.dK []) :=
  ⟨Nat.zero_le _,beq_eq_false_iff_ne.mpr (Ne.symm (Nat.ne_of_lt hb)),[],.nil,Heap.DictOf.new h⟩
def tDict0:TE:=fun _ H Q=>∀ p,H p = none → Q (.ref p) (upd H p (.dK []))
section
variable {X:Cx} {pos:Pos}
theorem Inv.past {pins:List (Addr × Obj)} {σ:St} {H:Hp} {s:Shared} (I:Inv X pins σ H s):sysModules < s.heap.objs.size:=Nat.lt_trans (by decide) (I.mod.glob.keeps I.bk).lt
theorem pe_dict0:PE X (.Dict [] [] pos) tDict0:=fun pins s σ H Q I h =>
  wpAny_Dict_empty ⟨.ref s.heap.objs.size,_,I.laid (a:=s.heap.objs.size) (o:=.dK []) (t':=s.toks) (fun _ _ q=>Heap.get?_push_of_some _ q) (Nat.le_refl _) (dk_none s.heap I.past),rfl,h _ (I.hok.fresh (Nat.le_refl _))⟩
def Its (lo c:Int) (n:Nat):It:=⟨fun i _=>i < n,fun i H x H'=>H' = H ∧ x = .int (lo + i * c),fun i _=>n ≤ i⟩
theorem turn_step {P:Program} {w:World} {K:PySem.W.Frag} {tg:Expr} (it:Addr) (lo c:Int) (n:Nat):Turn P w K tg (Its lo c n) [it] it (fun i h=>IsRangeIter h it (lo + (i:Nat) * c) ((n:Int) - (i:Nat)) c) where
  mem:=by simp
  obj:=fun i h st b hb=>by
    have e:b = it:=by simpa using hb
    subst e
    exact ⟨_,st,fun v z=>by
      have z':Data.fields _ = Data.cell v:=z
      cases z'⟩
  keep:=fun i h h' st k=>k it (by simp) _ st
  item:=by
    intro X hP hw hK hc i pins s σ H E I hf st hg
    subst hP hw hK
    obtain ⟨f0,f1,f2,f3,f4,f5⟩:=hf it (by simp)
    have W:=Walks.range (prog:=X.prog) (w:=X.w) (I.ok.hd hc) it lo c n
    refine W.item i s _ _ hg st fun v h' tk hv st' kk=>?_
    obtain ⟨t,rfl⟩:=hv
    have I1:Inv X pins σ H { s with heap:=h',toks:=tk }:=I.turned (fun b o hb e=>kk b o (by simpa using hb) e) f0 f1 f3 f4 f5
    exact ⟨_,rfl,go_of (s:={ s with heap:=h',toks:=tk }) (n := "range_iterator") st' rfl rfl (by decide) ⟨.int (lo + i * c),H,I1,⟨t,rfl⟩,⟨rfl,rfl⟩,st',fun b hb=>(hf b hb).1⟩⟩
  done:=by
    intro X hP hw hK hc i pins s σ H E I hf st hg
    subst hP hw hK
    obtain ⟨f0,f1,f2,f3,f4,f5⟩:=hf it (by simp)
    exact wpAny_pyNext_range_end (I.ok.hd hc) st (by have:n ≤ i:=hg; omega) fun h' eb=>⟨rfl,I.turned (t':=s.toks) (fun b o hb e=>eb b o hb e) f0 f1 f3 f4 f5⟩
  self:=fun _ _ _ _ _ st h=>wpAny_pyIter_rangeiter st h
def stepN (m c:Int):Nat:=if 0 < m then ((m - 1) / c + 1).toNat else 0
theorem stepN_size {m c:Int} (hc:0 < c):Builtin.Range.rangeSize 0 m c = stepN m c:=by
  unfold Builtin.Range.rangeSize stepN
  rw [if_pos hc]
  by_cases h:0 < m
  · rw [if_pos h,if_pos h]
    have:0 ≤ (m - 1) / c:=Int.ediv_nonneg (by omega) (by omega)
    rw [show m - 0 - 1 = m - 1 by omega]
    omega
  · rw [if_neg h,if_neg h]; rfl
theorem stepN_lt {m c:Int} (hc:0 < c) {i:Nat} (h:i < stepN m c):0 ≤ (i:Int) * c ∧ (i:Int) * c < m:=by
  unfold stepN at h
  by_cases hm:0 < m
  · rw [if_pos hm] at h
    have h0:0 ≤ (m - 1) / c:=Int.ediv_nonneg (by omega) (by omega)
    have h1:(i:Int) ≤ (m - 1) / c:=by omega
    have h2:(i:Int) * c ≤ (m - 1) / c * c:=Int.mul_le_mul_of_nonneg_right h1 (by omega)
    have h3:(m - 1) / c * c ≤ m - 1:=Int.ediv_mul_le _ (by omega)
    have h4:0 ≤ (i:Int) * c:=Int.mul_nonneg (by omega) (by omega)
    omega
  · rw [if_neg hm] at h; omega
theorem stepN_le {m c:Int} (hc:0 < c) (hm:0 ≤ m):(stepN m c:Int) ≤ m:=by
  unfold stepN
  by_cases h:0 < m
  · rw [if_pos h]
    have h0:0 ≤ (m - 1) / c:=Int.ediv_nonneg (by omega) (by omega)
    have h1:(m - 1) / c ≤ m - 1:=Int.ediv_le_self _ (by omega)
    omega
  · rw [if_neg h]; omega
def iStep (ta:TA):TI:=fun σ H R=>ta σ H fun vs H1=>∃ m c:Int,vs = [.int 0,.int m,.int c] ∧ (0 ≤ m ∧ m < 100000) ∧ (0 < c ∧ c < 100000) ∧ R (Its 0 c (stepN m c)) H1
theorem small_step {m c:Int} (hm:0 ≤ m ∧ m < 100000) (hc:0 < c ∧ c < 100000):Builtin.Range.small 0 m c = true:=by
  have h1:=stepN_size (m:=m) hc.1
  have h2:=stepN_le hc.1 hm.1
  unfold Builtin.Range.small
  rw [h1]
  simp only [Builtin.Range.rangeFitsLong,Bool.and_eq_true,Bool.or_eq_true,decide_eq_true_eq,beq_iff_eq]
  have p63:(2:Int) ^ 63 = 9223372036854775808:=by decide
  rw [if_pos (show c > 0 from hc.1),Bool.and_eq_true,decide_eq_true_eq,decide_eq_true_eq,p63]
  omega
theorem pi_range3 {tg:Expr} {a b d:Expr} {ta:TA} {p pos:Pos} (hg:Gl X "range") (hm:X.mg "range" = none) (ha:PA X [a,b,d] ta) (hs:starEach [a,b,d] X.env = [(false,eval a X.env),(false,eval b X.env),(false,eval d X.env)]:=by rfl) (hs2:starEach [b,d] X.env = [(false,eval b X.env),(false,eval d X.env)]:=by rfl) :
    PI X tg (.Call (.Name "range" p) [a,b,d] [] pos) (iStep ta):=by
  intro pins s σ H R I h
  refine Call_ (ld_blt I hg hm boot_range (PyProof.Rows.callWith_type1 (thn (ha pos pins s σ H _ I h) fun us s1 ⟨vs,H1,I1,r1,q1⟩=>?_) (by rw [hs,hs2]) (by rw [hs2]; rfl)))
  obtain ⟨m,c,e,hm,hc,q⟩:=q1
  subst e
  obtain ⟨u0,u1,u2,rfl,⟨t0,rfl⟩,⟨t1,rfl⟩,⟨t2,rfl⟩⟩:∃ u0 u1 u2,us = [u0,u1,u2] ∧ RelV (.int 0) u0 ∧ RelV (.int m) u1 ∧ RelV (.int c) u2:=by
    cases r1 with
    | cons r0 rr =>
      cases rr with
      | cons r1 rr =>
        cases rr with
        | cons r2 rr =>
          cases rr
          exact ⟨_,_,_,rfl,r0,r1,r2⟩
  refine call_range_3 (by omega) ?_ (.inl (PyProof.noPylong_small (by omega)))
  refine wpAny_pyIter_range (IsRange.new ..) (small_step hm hc) ?_
  have I2:Inv X pins σ H1 { s1 with heap:=s1.heap.push { cls:=.type "range", data:=.fields #[.int 0 t0,.int m t1,.int c t2] },toks:=s1.toks }:=I1.kept fun b o e=>Heap.get?_push_of_some _ e
  refine ⟨(s1.heap.push { cls:=.type "range", data:=.fields #[.int 0 t0,.int m t1,.int c t2] }).objs.size,[(s1.heap.push { cls:=.type "range", data:=.fields #[.int 0 t0,.int m t1,.int c t2] }).objs.size],_,_,H1,rfl,
    I2.kept (t':=s1.toks) fun b o e=>Heap.get?_push_of_some _ e,turn_step _ 0 c (stepN m c),?_,fun b hb=>?_,q⟩
  · show IsRangeIter _ _ (0 + ((0:Nat):Int) * c) (((stepN m c:Nat):Int) - ((0:Nat):Int)) c
    have e1:(0:Int) + ((0:Nat):Int) * c = 0:=by simp
    have e2:((stepN m c:Nat):Int) - ((0:Nat):Int) = Builtin.Range.rangeSize 0 m c:=by rw [stepN_size hc.1]; simp
    rw [e1,e2]
    exact Heap.get?_push_size _ rfl
  · have e:b = (s1.heap.push { cls:=.type "range", data:=.fields #[.int 0 t0,.int m t1,.int c t2] }).objs.size:=by simpa using hb
    subst e
    exact I2.fpOk (Nat.le_refl _) (I2.hok.fresh (Nat.le_refl _))
end
theorem for_step {lo c:Int} {n:Nat} {g:TG} {tb:TS} {D:Ends} {σ:St} {H:Hp} (Pv:Nat → St → Hp → Prop) (h0:Pv 0 σ H)
    (hs:∀ (i:Nat) σ H,i < n → Pv i σ H → g (.int (lo + i * c)) σ H fun σ2 H2=>tb { D with nx:=Pv (i + 1),ct:=Pv (i + 1),bk:=D.nx } σ2 H2) (hd:∀ σ H,Pv n σ H → D.nx σ H) :
    ∃ W:Nat → Nat → St → Hp → Prop,(∃ m,W 0 m σ H) ∧ ∀ i m σ H,W i m σ H →
      ((Its lo c n).stop i H ∧ D.nx σ H) ∨ ((Its lo c n).go i H ∧ ∃ N:St → Hp → Prop,(∀ σ' H',N σ' H' → ∃ m',m' < m ∧ W (i + 1) m' σ' H') ∧ ∀ x H',(Its lo c n).yld i H x H' → g x σ H' fun σ2 H2=>tb { D with nx:=N,ct:=N,bk:=D.nx } σ2 H2):=by
  refine ⟨fun i m σ H=>m = n - i ∧ i ≤ n ∧ Pv i σ H,⟨n,by simp,Nat.zero_le _,h0⟩,?_⟩
  rintro i m σ H ⟨rfl,hi,p⟩
  by_cases hlt:i < n
  · refine .inr ⟨hlt,Pv (i + 1),fun σ' H' p'=>⟨n - (i + 1),by omega,rfl,hlt,p'⟩,fun x H' y=>?_⟩
    obtain ⟨e,y⟩:=y
    subst e y
    exact hs i σ _ hlt p
  · have e:i = n:=by omega
    exact .inl ⟨show n ≤ i by omega,hd σ H (e ▸ p)⟩
section
variable {X:Cx}
def tListRng (ta:TA):TE:=fun σ H Q=>ta σ H fun vs H1=>∃ n:Nat,vs = [.int n] ∧ n ≤ 1000 ∧ ∀ l,H1 l = none → Q (.ref l) (upd H1 l (.lst ((List.range n).map fun (i:Nat)=>V.int i)))
theorem paired_of_get {α β:Type} {F:α → β → Prop}:∀ {l₁:List α} {l₂:List β},l₁.length = l₂.length → (∀ (i:Nat) x y,l₁[i]? = some x → l₂[i]? = some y → F x y) → Paired F l₁ l₂
  | [],[],_,_=>.nil
  | x :: r,y :: t,h,f=>.cons (f 0 x y rfl rfl) (paired_of_get (by simpa using h) fun i a b h1 h2=>f (i + 1) a b (by simpa using h1) (by simpa using h2))
  | [],_ :: _,h,_=>nomatch h
  | _ :: _,[],h,_=>nomatch h
theorem rng_items {acc:Array Value} {n:Nat} (h:ItemsOf (fun i v=>∃ t,v = .int (0 + i * 1) t) acc n):Vals ((List.range n).map fun (i:Nat)=>V.int i) acc.toList:=by
  refine paired_of_get (by rw [List.length_map,List.length_range,Array.length_toList,h.1]) fun i x y h1 h2=>?_
  rw [Array.getElem?_toList] at h2
  obtain ⟨t,rfl⟩:=h.2 i y h2
  rw [List.getElem?_map] at h1
  have hi:i < n:=by
    have:=(Array.getElem?_eq_some_iff.mp h2).1
    rw [h.1] at this
    exact this
  rw [List.getElem?_range hi] at h1
  cases h1
  exact ⟨t,by rw [Int.mul_one,Int.zero_add]⟩
theorem pe_listRng {a:Expr} {ta:TA} {p pos p2 pos2:Pos} (hc:X.calm = true) (hg:Gl X "range") (hm:X.mg "range" = none) (hg2:Gl X "list") (hm2:X.mg "list" = none) (hv2:bootBuiltins "list" = some (.type "list")) (ha:PA X [a] ta)
    (hs:starEach [a] X.env = [(false,eval a X.env)]:=by rfl):PE X (.Call (.Name "list" p2) [.Call (.Name "range" p) [a] [] pos] [] pos2) (tListRng ta):=by
  intro pins s σ H Q I h
  refine Call_ (ld_blt I hg2 hm2 hv2 (PyProof.Rows.callWith_type1 (Calls.spliced_cons ?_) (starEach_ns rfl) rfl))
  refine Call_ (ld_blt I hg hm boot_range (PyProof.Rows.callWith_type1 (thn (ha pos pins s σ H _ I h) fun us s1 ⟨vs,H1,I1,r1,q1⟩=>?_) hs rfl))
  obtain ⟨n,e,hn,q⟩:=q1
  subst e
  obtain ⟨u,rfl,ru⟩:=vals1 r1
  obtain ⟨t,rfl⟩:=ru
  refine call_range_1 ?_
  refine Calls.spliced_nil ?_
  have I2:Inv X pins σ H1 { s1 with heap:=s1.heap.push { cls:=.type "range", data:=.fields #[.int 0 s1.toks,.int n t,.int 1 (s1.toks + 1)] },toks:=s1.toks + 1 + 1 }:=I1.kept fun b o e=>Heap.get?_push_of_some _ e
  refine call_list_range (n:=n) (I1.ok.hd hc) (IsRange.new ..) (small_one (by decide) (by decide) (by omega) (by omega)) (by rw [rangeSize_one]; split <;> omega) (by omega) fun h' tk acc' c' kp e hacc=>?_
  refine ⟨.ref _,_,I2.laid (t':=tk) kp (Nat.le_refl _) (show ObjOk X.prog X.w _ h' _ (.lst ((List.range n).map fun (i:Nat)=>V.int i)) from ⟨?_,acc'.toList,c',rng_items hacc,e⟩),rfl,q _ (I2.hok.fresh (Nat.le_refl _))⟩
  rw [List.length_map,List.length_range]
  exact Nat.le_trans hn (by decide)
theorem op_eqLK {X:Cx} {K:PySem.W.Frag} {α:Type} [DecidableEq α] {rep:Hp → V → α → Prop} (hK:X.K = K) (h:EqTy X rep) (hu:X.A.units < cLine) :
    OpR X (compareOp .Eq) (fun x y H Q=>∃ a b ds es,x = .ref a ∧ y = .ref b ∧ RepL K rep H a ds ∧ RepL K rep H b es ∧ Q (.bl (decide (ds = es))) H):=hK ▸ op_eqL h hu
theorem passNo {X:Cx} {P:Program} {w:World}:Passes (CXx P w) X (fun _ _ _=>False):=by
  intro pins σ H s e s' I h
  obtain ⟨ea,C,T,H',_,_,_,_,_,_,_,_,_,_,q⟩:=h
  exact q.elim
def tPar3 (i j k:Nat) (ta:TA):TS:=fun D σ H=>ta σ H fun vs H1=>∃ u v w,vs = [u,v,w] ∧ D.nx (((σ.set i (some u)).set j (some v)).set k (some w)) H1
theorem ps_par3 {X:Cx} {i j k:Nat} {x y z:Str} {a b c:Expr} {ta:TA} {px py pz pt pos:Pos} {kt k2 pt2} (hc:X.calm = true) (hN:X.N.Nodup) (hi:X.N[i]? = some x) (hj:X.N[j]? = some y) (hk:X.N[k]? = some z) (hij:i ≠ j) (hik:i ≠ k) (hjk:j ≠ k)
    (hx:X.env.scope.names.lookup x = some .local) (hy:X.env.scope.names.lookup y = some .local) (hz:X.env.scope.names.lookup z = some .local) (ha:PA X [a,b,c] ta)
    (hw:swappedStores [.Tuple [.Name x px,.Name y py,.Name z pz] kt pt] (.Tuple [a,b,c] k2 pt2) X.env = pure (some [x,y,z]))
    (hs:swapsWithSole [.Tuple [.Name x px,.Name y py,.Name z pz] kt pt] (.Tuple [a,b,c] k2 pt2) pos.line X.env = pure false:=by rfl) :
    PS X (.Assign [.Tuple [.Name x px,.Name y py,.Name z pz] kt pt] (.Tuple [a,b,c] k2 pt2) pos) (tPar3 i j k ta):=by
  intro pins s σ H D I h
  rw [exec_Assign_arm]
  refine wpAny_bind (wpAny_standAt ?_)
  rw [hs]
  refine wpAny_bind (wpAny_pure ?_)
  rw [if_neg (by decide)]
  refine wpAny_bind (Tuple_ (thn (ha _ pins s σ H _ I h) fun us s1 ⟨vs,H1,I1,r1,q1⟩=>?_))
  obtain ⟨u,v,w,e1,q1⟩:=q1
  subst e1
  obtain ⟨u1,u2,u3,rfl,ru,rv,rw'⟩:∃ u1 u2 u3,us = [u1,u2,u3] ∧ RelV u u1 ∧ RelV v u2 ∧ RelV w u3:=by
    cases r1 with
    | cons p q =>
      cases q with
      | cons p' q' =>
        cases q' with
        | cons p'' q'' =>
          cases q''
          exact ⟨_,_,_,rfl,p,p',p''⟩
  refine wpAny_newObj_type ?_ (by show 3 ≤ sizeLine; decide)
  have I2:Inv X pins σ H1 { s1 with heap:=s1.heap.push { cls:=.type "tuple", data:=.seq [u1,u2,u3].toArray } }:=I1.kept (t':=s1.toks) fun b o e=>Heap.get?_push_of_some _ e
  rw [hw]
  refine wpAny_bind (wpAny_pure ?_)
  show wpAny (model X.prog X.w) X.A (do rule "assign.swapped-stores"; let items ← unpackItems (.ref s1.heap.objs.size) 3 none; assignInOrder [fun v=>bindName X.env z v,fun v=>bindName X.env y v,fun v=>bindName X.env x v] items.reverse; pure Flow.next) _ _ _
  refine wpAny_bind (wpAny_rule (wpAny_bind (unpackItems_tuple (items:=#[u1,u2,u3]) (I.ok.hd hc) (IsTup.new s1.heap _) fun h' hx'=>?_)))
  have I3:=I2.kept (h':=h') (t':=s1.toks) fun b o e=>hx' b o (Nat.ne_of_lt (Heap.lt_size e)) e
  show wpAny _ _ (assignInOrder [fun v=>bindName X.env z v,fun v=>bindName X.env y v,fun v=>bindName X.env x v] [u3,u2,u1] >>= fun _=>pure Flow.next) _ _ _
  refine wpAny_bind (assignInOrder_cons (wpAny_bindName (store_ok I3 hN hk (.inl hz) rw' (fun s2 I4=>?_) (.inr hz))))
  refine assignInOrder_cons (wpAny_bindName (store_ok I4 hN hj (.inl hy) rv (fun s3 I5=>?_) (.inr hy)))
  refine assignInOrder_cons (wpAny_bindName (store_ok I5 hN hi (.inl hx) ru (fun s4 I6=>assignInOrder_nil (wpAny_pure ?_)) (.inr hx)))
  rw [List.set_comm _ _ (Ne.symm hij),List.set_comm _ _ (Ne.symm hik),List.set_comm _ _ (Ne.symm hjk)] at I6
  exact ⟨_,H1,I6,q1⟩
end
end L2
set_option Elab.async false
set_option linter.all false
set_option maxRecDepth 100000
namespace B
theorem ValueError:PySem.bootBuiltins "ValueError" = some (.type "ValueError"):=by decide +kernel
theorem abs:PySem.bootBuiltins "abs" = some (.builtin "abs"):=by decide +kernel
theorem all:PySem.bootBuiltins "all" = some (.builtin "all"):=by decide +kernel
theorem bool:PySem.bootBuiltins "bool" = some (.type "bool"):=by decide +kernel
theorem enumerate:PySem.bootBuiltins "enumerate" = some (.type "enumerate"):=by decide +kernel
theorem int:PySem.bootBuiltins "int" = some (.type "int"):=by decide +kernel
theorem isinstance:PySem.bootBuiltins "isinstance" = some (.builtin "isinstance"):=by decide +kernel
theorem len:PySem.bootBuiltins "len" = some (.builtin "len"):=by decide +kernel
theorem list:PySem.bootBuiltins "list" = some (.type "list"):=by decide +kernel
theorem range:PySem.bootBuiltins "range" = some (.type "range"):=by decide +kernel
theorem sum:PySem.bootBuiltins "sum" = some (.builtin "sum"):=by decide +kernel
theorem tuple:PySem.bootBuiltins "tuple" = some (.type "tuple"):=by decide +kernel
end B
namespace W08
open PySem L2
def top (i:Nat):Stmt:=PySem.Challenge.pw_wheelrow_k08_refused.main.body.getD i (.Pass ⟨0,0,0,0⟩)
abbrev xj0:Stmt:=top 4
theorem xh4:FnScope ["value"] ["value"] (defScope xj0):=⟨rfl,rfl,rfl,by decide +kernel,rfl,by decide +kernel,by decide +kernel⟩
abbrev xh1:Stmt:=top 5
theorem xgh:FnScope ["value"] ["value"] (defScope xh1):=⟨rfl,rfl,rfl,by decide +kernel,rfl,by decide +kernel,by decide +kernel⟩
abbrev xes:Stmt:=top 6
theorem xdq:FnScope ["value"] ["value"] (defScope xes):=⟨rfl,rfl,rfl,by decide +kernel,rfl,by decide +kernel,by decide +kernel⟩
theorem xb0:CompSc (defScope xes) { kind:=PySem.ScopeKind.function,names:=[ (PySem.Str.ofString ".0", PySem.NameKind.local),(PySem.Str.ofString "number", PySem.NameKind.local),(PySem.Str.ofString "is_number", PySem.NameKind.globalImplicit)],isGenerator:=false,isCoroutine:=false,more:=[]:PySem.Scope } ["value"] ["number"] [none]:=⟨rfl,by decide +kernel,by decide +kernel,by decide +kernel,rfl,by decide +kernel,by decide +kernel⟩
abbrev xjZ:Stmt:=top 7
theorem xh3:FnScope ["value"] ["value"] (defScope xjZ):=⟨rfl,rfl,rfl,by decide +kernel,rfl,by decide +kernel,by decide +kernel⟩
abbrev xgd:Stmt:=top 8
theorem xew:FnScope ["value"] ["value"] (defScope xgd):=⟨rfl,rfl,rfl,by decide +kernel,rfl,by decide +kernel,by decide +kernel⟩
theorem xcr:CompSc (defScope xgd) { kind:=PySem.ScopeKind.function,names:=[ (PySem.Str.ofString ".0", PySem.NameKind.local),(PySem.Str.ofString "turn", PySem.NameKind.local),(PySem.Str.ofString "is_round", PySem.NameKind.globalImplicit)],isGenerator:=false,isCoroutine:=false,more:=[]:PySem.Scope } ["value"] ["turn"] [none]:=⟨rfl,by decide +kernel,by decide +kernel,by decide +kernel,rfl,by decide +kernel,by decide +kernel⟩
abbrev xlg:Stmt:=top 9
theorem xj1:FnScope ["value", "turn"] ["value", "turn"] (defScope xlg):=⟨rfl,rfl,rfl,by decide +kernel,rfl,by decide +kernel,by decide +kernel⟩
abbrev xdo:Stmt:=top 10
theorem xcP:FnScope ["value"] ["value"] (defScope xdo):=⟨rfl,rfl,rfl,by decide +kernel,rfl,by decide +kernel,by decide +kernel⟩
abbrev xh0:Stmt:=top 11
theorem xgg:FnScope ["value"] ["value"] (defScope xh0):=⟨rfl,rfl,rfl,by decide +kernel,rfl,by decide +kernel,by decide +kernel⟩
theorem xcO:CompSc (defScope xh0) { kind:=PySem.ScopeKind.function,names:=[ (PySem.Str.ofString ".0", PySem.NameKind.local),(PySem.Str.ofString "pair", PySem.NameKind.local),(PySem.Str.ofString "is_rest_pair", PySem.NameKind.globalImplicit)],isGenerator:=false,isCoroutine:=false,more:=[]:PySem.Scope } ["value"] ["pair"] [none]:=⟨rfl,by decide +kernel,by decide +kernel,by decide +kernel,rfl,by decide +kernel,by decide +kernel⟩
abbrev xlH:Stmt:=top 37
theorem xlk:FnScope ["numbers"] ["numbers"] (defScope xlH):=⟨rfl,rfl,rfl,by decide +kernel,rfl,by decide +kernel,by decide +kernel⟩
abbrev xng:Stmt:=top 40
theorem xmn:FnScope ["numbers", "turn", "rest", "made", "parts"] ["numbers", "turn", "rest"] (defScope xng):=⟨rfl,rfl,rfl,by decide +kernel,rfl,by decide +kernel,by decide +kernel⟩
abbrev xnf:Stmt:=top 41
theorem xmm:FnScope ["number", "turn", "part"] ["number", "turn"] (defScope xnf):=⟨rfl,rfl,rfl,by decide +kernel,rfl,by decide +kernel,by decide +kernel⟩
abbrev xni:Stmt:=top 43
theorem xmp:FnScope ["rests", "so_far", "place", "pair", "following"] ["rests"] (defScope xni):=⟨rfl,rfl,rfl,by decide +kernel,rfl,by decide +kernel,by decide +kernel⟩
abbrev xnh:Stmt:=top 46
theorem xmo:FnScope ["number", "rounds"] ["number", "rounds"] (defScope xnh):=⟨rfl,rfl,rfl,by decide +kernel,rfl,by decide +kernel,by decide +kernel⟩
theorem xj2:CompSc (defScope xnh) { kind:=PySem.ScopeKind.function,names:=[ (PySem.Str.ofString ".0", PySem.NameKind.local),(PySem.Str.ofString "turn", PySem.NameKind.local),(PySem.Str.ofString "number", PySem.NameKind.free)],isGenerator:=false,isCoroutine:=false,more:=[]:PySem.Scope } ["number", "rounds"] ["number", "turn"] [some 0,none]:=⟨rfl,by decide +kernel,by decide +kernel,by decide +kernel,rfl,by decide +kernel,by decide +kernel⟩
abbrev xlh:Stmt:=top 48
theorem xj3:FnScope ["numbers", "begins", "last", "total"] ["numbers"] (defScope xlh):=⟨rfl,rfl,rfl,by decide +kernel,rfl,by decide +kernel,by decide +kernel⟩
abbrev xlG:Stmt:=top 49
theorem xlj:FnScope ["numbers", "groups", "prime"] ["numbers"] (defScope xlG):=⟨rfl,rfl,rfl,by decide +kernel,rfl,by decide +kernel,by decide +kernel⟩
abbrev xli:Stmt:=top 59
theorem xj4:FnScope ["rests"] ["rests"] (defScope xli):=⟨rfl,rfl,rfl,by decide +kernel,rfl,by decide +kernel,by decide +kernel⟩
abbrev xdn:Stmt:=top 61
theorem xcN:FnScope ["_law_script", "_law_k"] ["_law_script", "_law_k"] (defScope xdn):=⟨rfl,rfl,rfl,by decide +kernel,rfl,by decide +kernel,by decide +kernel⟩
abbrev xhY:Stmt:=top 62
theorem xge:FnScope ["_law_cell", "_law_k", "_law_many", "_law_primes"] ["_law_cell", "_law_k", "_law_many"] (defScope xhY):=⟨rfl,rfl,rfl,by decide +kernel,rfl,by decide +kernel,by decide +kernel⟩
abbrev xgc:Stmt:=top 63
theorem xev:FnScope ["_law_script", "_law_kind", "_law_found", "_law_k", "_law_turn"] ["_law_script"] (defScope xgc):=⟨rfl,rfl,rfl,by decide +kernel,rfl,by decide +kernel,by decide +kernel⟩
abbrev xgb:Stmt:=top 64
theorem xeu:FnScope ["_law_script", "_law_far", "_law_found", "_law_at"] ["_law_script"] (defScope xgb):=⟨rfl,rfl,rfl,by decide +kernel,rfl,by decide +kernel,by decide +kernel⟩
theorem xcp:CompSc (defScope xgb) { kind:=PySem.ScopeKind.function,names:=[ (PySem.Str.ofString ".0", PySem.NameKind.local),(PySem.Str.ofString "_law_k", PySem.NameKind.local),(PySem.Str.ofString "_law_cell", PySem.NameKind.local),(PySem.Str.ofString "abs", PySem.NameKind.globalImplicit)],isGenerator:=false,isCoroutine:=false,more:=[]:PySem.Scope } ["_law_script", "_law_far", "_law_found", "_law_at"] ["_law_k", "_law_cell"] [none,none]:=⟨rfl,by decide +kernel,by decide +kernel,by decide +kernel,rfl,by decide +kernel,by decide +kernel⟩
theorem xcq:CompSc (defScope xgb) { kind:=PySem.ScopeKind.function,names:=[ (PySem.Str.ofString ".0", PySem.NameKind.local),(PySem.Str.ofString "_law_turn", PySem.NameKind.local),(PySem.Str.ofString "_law_far", PySem.NameKind.free)],isGenerator:=false,isCoroutine:=false,more:=[]:PySem.Scope } ["_law_script", "_law_far", "_law_found", "_law_at"] ["_law_far", "_law_turn"] [some 1,none]:=⟨rfl,by decide +kernel,by decide +kernel,by decide +kernel,rfl,by decide +kernel,by decide +kernel⟩
abbrev xga:Stmt:=top 68
theorem xet:FnScope ["_law_error", "_law_found"] ["_law_error"] (defScope xga):=⟨rfl,rfl,rfl,by decide +kernel,rfl,by decide +kernel,by decide +kernel⟩
abbrev xbX:Stmt:=top 69
theorem xbs:FnScope ["_law_door", "_law_thing"] ["_law_door", "_law_thing"] (defScope xbX):=⟨rfl,rfl,rfl,by decide +kernel,rfl,by decide +kernel,by decide +kernel⟩
abbrev xa3:Stmt:=top 70
theorem xaB:FnScope ["_law_door", "_law_thing"] ["_law_door", "_law_thing"] (defScope xa3):=⟨rfl,rfl,rfl,by decide +kernel,rfl,by decide +kernel,by decide +kernel⟩
abbrev xco:Stmt:=top 71
theorem xbZ:FnScope ["_law_door", "_law_thing"] ["_law_door", "_law_thing"] (defScope xco):=⟨rfl,rfl,rfl,by decide +kernel,rfl,by decide +kernel,by decide +kernel⟩
abbrev xcn:Stmt:=top 72
theorem xbY:FnScope ["_law_turn", "_law_thing"] ["_law_turn", "_law_thing"] (defScope xcn):=⟨rfl,rfl,rfl,by decide +kernel,rfl,by decide +kernel,by decide +kernel⟩
abbrev xbr:Stmt:=top 73
theorem xa4:FnScope ["_law_door", "_law_thing"] ["_law_door", "_law_thing"] (defScope xbr):=⟨rfl,rfl,rfl,by decide +kernel,rfl,by decide +kernel,by decide +kernel⟩
abbrev xhZ:Stmt:=top 74
theorem xgf:FnScope ["_law_ask", "_law_one", "_law_other", "_law_error"] ["_law_ask", "_law_one", "_law_other"] (defScope xhZ):=⟨rfl,rfl,rfl,by decide +kernel,rfl,by decide +kernel,by decide +kernel⟩
abbrev xjY:Stmt:=top 75
theorem xh2:FnScope ["_law_ask", "_law_doors", "_law_things", "_law_due", "_law_door"] ["_law_ask", "_law_doors", "_law_things", "_law_due"] (defScope xjY):=⟨rfl,rfl,rfl,by decide +kernel,rfl,by decide +kernel,by decide +kernel⟩
theorem xdp:CompSc (defScope xjY) { kind:=PySem.ScopeKind.function,names:=[ (PySem.Str.ofString ".0", PySem.NameKind.local),(PySem.Str.ofString "_law_thing", PySem.NameKind.local),(PySem.Str.ofString "_law_told", PySem.NameKind.globalImplicit),(PySem.Str.ofString "_law_ask", PySem.NameKind.free),(PySem.Str.ofString "_law_door", PySem.NameKind.free),(PySem.Str.ofString "_law_due", PySem.NameKind.free)],isGenerator:=false,isCoroutine:=false,more:=[]:PySem.Scope } ["_law_ask", "_law_doors", "_law_things", "_law_due", "_law_door"] ["_law_ask", "_law_due", "_law_door", "_law_thing"] [some 0,some 3,some 4,none]:=⟨rfl,by decide +kernel,by decide +kernel,by decide +kernel,rfl,by decide +kernel,by decide +kernel⟩
abbrev s_law:Stmt:=top 76
theorem xnj:FnScope ["_law_script", "_law_far", "_law_due", "_law_k", "_law_rests_here", "_law_numbers_here", "_law_many", "_law_kept", "_law_bad", "_law_at"] ["_law_script"] (defScope s_law):=⟨rfl,rfl,rfl,by decide +kernel,rfl,by decide +kernel,by decide +kernel⟩
theorem xll:CompSc (defScope s_law) { kind:=PySem.ScopeKind.function,names:=[ (PySem.Str.ofString ".0", PySem.NameKind.local),(PySem.Str.ofString "_law_rest", PySem.NameKind.local),(PySem.Str.ofString "_law_turn", PySem.NameKind.local)],isGenerator:=false,isCoroutine:=false,more:=[]:PySem.Scope } ["_law_script", "_law_far", "_law_due", "_law_k", "_law_rests_here", "_law_numbers_here", "_law_many", "_law_kept", "_law_bad", "_law_at"] ["_law_rest", "_law_turn"] [none,none]:=⟨rfl,by decide +kernel,by decide +kernel,by decide +kernel,rfl,by decide +kernel,by decide +kernel⟩
structure Adr where
  xiM:Addr
  xja:FuncData
  xgA:Addr
  xg2:FuncData
  xdv:Addr
  xdQ:FuncData
  xiL:Addr
  xi9:FuncData
  xeZ:Addr
  xfq:FuncData
  xku:Addr
  xkK:FuncData
  xcY:Addr
  xc7:FuncData
  xgz:Addr
  xg1:FuncData
  xlt:Addr
  xlx:FuncData
  xmE:Addr
  xmQ:FuncData
  xmD:Addr
  xmP:FuncData
  xmG:Addr
  xmS:FuncData
  xmF:Addr
  xmR:FuncData
  xkv:Addr
  xkL:FuncData
  xls:Addr
  xlw:FuncData
  xkw:Addr
  xkM:FuncData
  xcX:Addr
  xc6:FuncData
  xgx:Addr
  xgZ:FuncData
  xeY:Addr
  xfp:FuncData
  xeX:Addr
  xfo:FuncData
  xeW:Addr
  xfn:FuncData
  xbv:Addr
  xbF:FuncData
  xaF:Addr
  xaL:FuncData
  xb7:Addr
  xcb:FuncData
  xb6:Addr
  xca:FuncData
  xa7:Addr
  xbd:FuncData
  xgy:Addr
  xg0:FuncData
  xiK:Addr
  xi8:FuncData
  a_law:Addr
  d_law:FuncData
  xgN:Addr
  xiX:Addr
  xe8:Addr
  xiY:Addr
  xkB:Addr
  xiW:Addr
  xkC:Addr
  xcs:Tok
  xb3:Tok
structure Txt (K:PySem.W.Frag) (mg:Str → Option Value) (A:Adr):Prop where
  xiE:Fun K "is_whole" "is_whole" xj0 A.xiM A.xja
  xgI:Binds K A.xja ["value"] []
  xjH:mg "is_whole" = some (.ref A.xiM)
  xjy:PySem.W.keepIn K (.ref A.xiM) = true
  xgs:Fun K "is_number" "is_number" xh1 A.xgA A.xg2
  xe7:Binds K A.xg2 ["value"] []
  xhI:mg "is_number" = some (.ref A.xgA)
  xhz:PySem.W.keepIn K (.ref A.xgA) = true
  xdt:Fun K "are_numbers" "are_numbers" xes A.xdv A.xdQ
  xc0:Binds K A.xdQ ["value"] []
  xed:mg "are_numbers" = some (.ref A.xdv)
  xeb:PySem.W.keepIn K (.ref A.xdv) = true
  xiD:Fun K "is_round" "is_round" xjZ A.xiL A.xi9
  xgH:Binds K A.xi9 ["value"] []
  xjG:mg "is_round" = some (.ref A.xiL)
  xjx:PySem.W.keepIn K (.ref A.xiL) = true
  xeQ:Fun K "are_rounds" "are_rounds" xgd A.xeZ A.xfq
  xdE:Binds K A.xfq ["value"] []
  xfR:mg "are_rounds" = some (.ref A.xeZ)
  xfI:PySem.W.keepIn K (.ref A.xeZ) = true
  xkn:Fun K "is_rest" "is_rest" xlg A.xku A.xkK
  xiR:Binds K A.xkK ["value", "turn"] []
  xk4:mg "is_rest" = some (.ref A.xku)
  xkW:PySem.W.keepIn K (.ref A.xku) = true
  xcU:Fun K "is_rest_pair" "is_rest_pair" xdo A.xcY A.xc7
  xcw:Binds K A.xc7 ["value"] []
  xdh:mg "is_rest_pair" = some (.ref A.xcY)
  xdd:PySem.W.keepIn K (.ref A.xcY) = true
  xgr:Fun K "are_rests" "are_rests" xh0 A.xgz A.xg1
  xe6:Binds K A.xg1 ["value"] []
  xhH:mg "are_rests" = some (.ref A.xgz)
  xhy:PySem.W.keepIn K (.ref A.xgz) = true
  xlp:Fun K "common" "common" xlH A.xlt A.xlx
  xkA:Binds K A.xlx ["numbers"] []
  xlF:mg "common" = some (.ref A.xlt)
  xlB:PySem.W.keepIn K (.ref A.xlt) = true
  xmw:Fun K "come" "come" xng A.xmE A.xmQ
  xlN:Binds K A.xmQ ["numbers", "turn", "rest"] []
  xm8:mg "come" = some (.ref A.xmE)
  xm0:PySem.W.keepIn K (.ref A.xmE) = true
  xmv:Fun K "back" "back" xnf A.xmD A.xmP
  xlM:Binds K A.xmP ["number", "turn"] []
  xm7:mg "back" = some (.ref A.xmD)
  xmZ:PySem.W.keepIn K (.ref A.xmD) = true
  xmy:Fun K "told" "told" xni A.xmG A.xmS
  xlP:Binds K A.xmS ["rests"] []
  xna:mg "told" = some (.ref A.xmG)
  xm2:PySem.W.keepIn K (.ref A.xmG) = true
  xmx:Fun K "left" "left" xnh A.xmF A.xmR
  xlO:Binds K A.xmR ["number", "rounds"] []
  xm9:mg "left" = some (.ref A.xmF)
  xm1:PySem.W.keepIn K (.ref A.xmF) = true
  xko:Fun K "stretch" "stretch" xlh A.xkv A.xkL
  xiS:Binds K A.xkL ["numbers"] []
  xk5:mg "stretch" = some (.ref A.xkv)
  xkX:PySem.W.keepIn K (.ref A.xkv) = true
  xlo:Fun K "chosen" "chosen" xlG A.xls A.xlw
  xkz:Binds K A.xlw ["numbers"] []
  xlE:mg "chosen" = some (.ref A.xls)
  xlA:PySem.W.keepIn K (.ref A.xls) = true
  xkp:Fun K "written" "written" xli A.xkw A.xkM
  xiT:Binds K A.xkM ["rests"] []
  xk6:mg "written" = some (.ref A.xkw)
  xkY:PySem.W.keepIn K (.ref A.xkw) = true
  xcT:Fun K "_law_cell_at" "_law_cell_at" xdn A.xcX A.xc6
  xcv:Binds K A.xc6 ["_law_script", "_law_k"] []
  xdg:mg "_law_cell_at" = some (.ref A.xcX)
  xdc:PySem.W.keepIn K (.ref A.xcX) = true
  xgp:Fun K "_law_draw" "_law_draw" xhY A.xgx A.xgZ
  xe4:Binds K A.xgZ ["_law_cell", "_law_k", "_law_many"] []
  xhF:mg "_law_draw" = some (.ref A.xgx)
  xhw:PySem.W.keepIn K (.ref A.xgx) = true
  xeP:Fun K "_law_turns" "_law_turns" xgc A.xeY A.xfp
  xdD:Binds K A.xfp ["_law_script"] []
  xfQ:mg "_law_turns" = some (.ref A.xeY)
  xfH:PySem.W.keepIn K (.ref A.xeY) = true
  xeO:Fun K "_law_rests" "_law_rests" xgb A.xeX A.xfo
  xdC:Binds K A.xfo ["_law_script"] []
  xfP:mg "_law_rests" = some (.ref A.xeX)
  xfG:PySem.W.keepIn K (.ref A.xeX) = true
  xeN:Fun K "_law_kinds" "_law_kinds" xga A.xeW A.xfn
  xdB:Binds K A.xfn ["_law_error"] []
  xfO:mg "_law_kinds" = some (.ref A.xeW)
  xfF:PySem.W.keepIn K (.ref A.xeW) = true
  xbu:Fun K "_law_with_rests" "_law_with_rests" xbX A.xbv A.xbF
  xa9:Binds K A.xbF ["_law_door", "_law_thing"] []
  xbP:mg "_law_with_rests" = some (.ref A.xbv)
  xbN:PySem.W.keepIn K (.ref A.xbv) = true
  xaE:Fun K "_law_with_numbers" "_law_with_numbers" xa3 A.xaF A.xaL
  xan:Binds K A.xaL ["_law_door", "_law_thing"] []
  xaY:mg "_law_with_numbers" = some (.ref A.xaF)
  xaW:PySem.W.keepIn K (.ref A.xaF) = true
  xb5:Fun K "_law_with_turn" "_law_with_turn" xco A.xb7 A.xcb
  xbz:Binds K A.xcb ["_law_door", "_law_thing"] []
  xck:mg "_law_with_turn" = some (.ref A.xb7)
  xcg:PySem.W.keepIn K (.ref A.xb7) = true
  xb4:Fun K "_law_with_rest" "_law_with_rest" xcn A.xb6 A.xca
  xby:Binds K A.xca ["_law_turn", "_law_thing"] []
  xcj:mg "_law_with_rest" = some (.ref A.xb6)
  xcf:PySem.W.keepIn K (.ref A.xb6) = true
  xa6:Fun K "_law_with_number" "_law_with_number" xbr A.xa7 A.xbd
  xaH:Binds K A.xbd ["_law_door", "_law_thing"] []
  xbm:mg "_law_with_number" = some (.ref A.xa7)
  xbk:PySem.W.keepIn K (.ref A.xa7) = true
  xgq:Fun K "_law_told" "_law_told" xhZ A.xgy A.xg0
  xe5:Binds K A.xg0 ["_law_ask", "_law_one", "_law_other"] []
  xhG:mg "_law_told" = some (.ref A.xgy)
  xhx:PySem.W.keepIn K (.ref A.xgy) = true
  xiC:Fun K "_law_all" "_law_all" xjY A.xiK A.xi8
  xgG:Binds K A.xi8 ["_law_ask", "_law_doors", "_law_things", "_law_due"] []
  xjF:mg "_law_all" = some (.ref A.xiK)
  xjw:PySem.W.keepIn K (.ref A.xiK) = true
  F_law:Fun K "law" "law" s_law A.a_law A.d_law
  xmI:Binds K A.d_law ["_law_script"] []
  m_law:mg "law" = some (.ref A.a_law)
  k_law:PySem.W.keepIn K (.ref A.a_law) = true
  xhE:mg "RestError" = some (.ref A.xgN)
  xjD:mg "BadRests" = some (.ref A.xiX)
  xfN:mg "BadNumbers" = some (.ref A.xe8)
  xjE:mg "BadRound" = some (.ref A.xiY)
  xk2:mg "BadRest" = some (.ref A.xkB)
  xjC:mg "BadCount" = some (.ref A.xiW)
  xk3:mg "BadText" = some (.ref A.xkC)
  xdX:ExObj K A.xe8
  xdW:ExCls K A.xe8
  xab:PySem.W.exmOne K (.ref A.xe8) (.ref A.xgN) = some true
  xad:PySem.W.kitOne K (.ref A.xe8) (.ref A.xiX) = some false
  xaa:PySem.W.kitOne K (.ref A.xe8) (.ref A.xe8) = some true
  xae:PySem.W.kitOne K (.ref A.xe8) (.ref A.xiY) = some false
  xah:PySem.W.kitOne K (.ref A.xe8) (.ref A.xkB) = some false
  xac:PySem.W.kitOne K (.ref A.xe8) (.ref A.xiW) = some false
  xai:PySem.W.kitOne K (.ref A.xe8) (.ref A.xkC) = some false
  xd1:PySem.W.kitOne K (.ref A.xe8) (.type "ValueError") = some true
  xhb:ExObj K A.xiY
  xg9:ExCls K A.xiY
  xal:PySem.W.exmOne K (.ref A.xiY) (.ref A.xgN) = some true
  xav:PySem.W.kitOne K (.ref A.xiY) (.ref A.xiX) = some false
  xag:PySem.W.kitOne K (.ref A.xiY) (.ref A.xe8) = some false
  xaw:PySem.W.kitOne K (.ref A.xiY) (.ref A.xiY) = some true
  xaT:PySem.W.kitOne K (.ref A.xiY) (.ref A.xkB) = some false
  xau:PySem.W.kitOne K (.ref A.xiY) (.ref A.xiW) = some false
  xaU:PySem.W.kitOne K (.ref A.xiY) (.ref A.xkC) = some false
  xhi:PySem.W.kitOne K (.ref A.xiY) (.type "ValueError") = some true
  xjg:ExObj K A.xkB
  xjf:ExCls K A.xkB
  xaD:PySem.W.exmOne K (.ref A.xkB) (.ref A.xgN) = some true
  xaP:PySem.W.kitOne K (.ref A.xkB) (.ref A.xiX) = some false
  xaj:PySem.W.kitOne K (.ref A.xkB) (.ref A.xe8) = some false
  xaQ:PySem.W.kitOne K (.ref A.xkB) (.ref A.xiY) = some false
  xbh:PySem.W.kitOne K (.ref A.xkB) (.ref A.xkB) = some true
  xaO:PySem.W.kitOne K (.ref A.xkB) (.ref A.xiW) = some false
  xbi:PySem.W.kitOne K (.ref A.xkB) (.ref A.xkC) = some false
  xjn:PySem.W.kitOne K (.ref A.xkB) (.type "ValueError") = some true
  xha:ExObj K A.xiX
  xg8:ExCls K A.xiX
  xak:PySem.W.exmOne K (.ref A.xiX) (.ref A.xgN) = some true
  xas:PySem.W.kitOne K (.ref A.xiX) (.ref A.xiX) = some true
  xaf:PySem.W.kitOne K (.ref A.xiX) (.ref A.xe8) = some false
  xat:PySem.W.kitOne K (.ref A.xiX) (.ref A.xiY) = some false
  xaR:PySem.W.kitOne K (.ref A.xiX) (.ref A.xkB) = some false
  xar:PySem.W.kitOne K (.ref A.xiX) (.ref A.xiW) = some false
  xaS:PySem.W.kitOne K (.ref A.xiX) (.ref A.xkC) = some false
  xhh:PySem.W.kitOne K (.ref A.xiX) (.type "ValueError") = some true
  xce:mg "GREATEST_ROUND" = some (.int 1000000 A.xcs)
  xbJ:mg "GREATEST_NUMBER" = some (.int 1000000 A.xb3)
  b_ValueError:mg "ValueError" = none
  b_abs:mg "abs" = none
  b_all:mg "all" = none
  b_bool:mg "bool" = none
  b_enumerate:mg "enumerate" = none
  b_int:mg "int" = none
  b_isinstance:mg "isinstance" = none
  b_len:mg "len" = none
  b_list:mg "list" = none
  b_range:mg "range" = none
  b_sum:mg "sum" = none
  b_tuple:mg "tuple" = none
  is_NoneType_int:PySem.W.kitOne K (.type "NoneType") (.type "int") = some false
  is_bool_int:PySem.W.kitOne K (.type "bool") (.type "int") = some true
  is_int_int:PySem.W.kitOne K (.type "int") (.type "int") = some true
  is_str_int:PySem.W.kitOne K (.type "str") (.type "int") = some false
  is_list_int:PySem.W.kitOne K (.type "list") (.type "int") = some false
  is_tuple_int:PySem.W.kitOne K (.type "tuple") (.type "int") = some false
  is_dict_int:PySem.W.kitOne K (.type "dict") (.type "int") = some false
  is_int_bool:PySem.W.kitOne K (.type "int") (.type "bool") = some false
  is_bool_bool:PySem.W.kitOne K (.type "bool") (.type "bool") = some true
  is_NoneType_list:PySem.W.kitOne K (.type "NoneType") (.type "list") = some false
  is_bool_list:PySem.W.kitOne K (.type "bool") (.type "list") = some false
  is_int_list:PySem.W.kitOne K (.type "int") (.type "list") = some false
  is_str_list:PySem.W.kitOne K (.type "str") (.type "list") = some false
  is_list_list:PySem.W.kitOne K (.type "list") (.type "list") = some true
  is_tuple_list:PySem.W.kitOne K (.type "tuple") (.type "list") = some false
  is_dict_list:PySem.W.kitOne K (.type "dict") (.type "list") = some false
  is_NoneType_tuple:PySem.W.kitOne K (.type "NoneType") (.type "tuple") = some false
  is_bool_tuple:PySem.W.kitOne K (.type "bool") (.type "tuple") = some false
  is_int_tuple:PySem.W.kitOne K (.type "int") (.type "tuple") = some false
  is_str_tuple:PySem.W.kitOne K (.type "str") (.type "tuple") = some false
  is_list_tuple:PySem.W.kitOne K (.type "list") (.type "tuple") = some false
  is_tuple_tuple:PySem.W.kitOne K (.type "tuple") (.type "tuple") = some true
  is_dict_tuple:PySem.W.kitOne K (.type "dict") (.type "tuple") = some false
end W08
set_option Elab.async false
set_option linter.all false
set_option maxRecDepth 100000
namespace W08
open PySem L2
section
variable {P:Program} {w:World} {K:PySem.W.Frag} {mg:Str → Option Value} {base:Heap} {A:Adr}
inductive Ty7 | non | bl | int | str | lst | tup | dct
def Ty7.val:Ty7 → Value
  | .non=>.type "NoneType" | .bl=>.type "bool" | .int=>.type "int" | .str=>.type "str" | .lst=>.type "list" | .tup=>.type "tuple" | .dct=>.type "dict"
def Ty7.i:Ty7 → Bool
  | .bl | .int=>true
  | _=>false
def Ty7.l:Ty7 → Bool
  | .lst=>true
  | _=>false
def Ty7.t:Ty7 → Bool
  | .tup=>true
  | _=>false
theorem kit_i (T:Txt K mg A):∀ c:Ty7,PySem.W.kitOne K c.val (.type "int") = some c.i
  | .non=>T.is_NoneType_int | .bl=>T.is_bool_int | .int=>T.is_int_int | .str=>T.is_str_int | .lst=>T.is_list_int | .tup=>T.is_tuple_int | .dct=>T.is_dict_int
theorem kit_l (T:Txt K mg A):∀ c:Ty7,PySem.W.kitOne K c.val (.type "list") = some c.l
  | .non=>T.is_NoneType_list | .bl=>T.is_bool_list | .int=>T.is_int_list | .str=>T.is_str_list | .lst=>T.is_list_list | .tup=>T.is_tuple_list | .dct=>T.is_dict_list
theorem kit_t (T:Txt K mg A):∀ c:Ty7,PySem.W.kitOne K c.val (.type "tuple") = some c.t
  | .non=>T.is_NoneType_tuple | .bl=>T.is_bool_tuple | .int=>T.is_int_tuple | .str=>T.is_str_tuple | .lst=>T.is_list_tuple | .tup=>T.is_tuple_tuple | .dct=>T.is_dict_tuple
theorem tyof_same {H H':Hp} (e:Same H H') {v:V} {t:Value} (h:TyOf K H v t):TyOf K H' v t:=by
  cases h with
  | non=>exact .non
  | bl x=>exact .bl x
  | int i=>exact .int i
  | str x=>exact .str x
  | flt x=>exact .flt x
  | lst z=>exact .lst (e _ _ z)
  | frz z=>exact .frz (e _ _ z)
  | tup z=>exact .tup (e _ _ z)
  | dK z=>exact .dK (e _ _ z)
  | dT z=>exact .dT (e _ _ z)
  | ins z a b c d f=>exact .ins (e _ _ z) a b c d f
def Whl (K:PySem.W.Frag) (H:Hp) (v:V) (o:Option Int):Prop:=(∃ i,v = .int i ∧ o = some i) ∨ (o = none ∧ ∃ c:Ty7,TyOf K H v c.val ∧ c ≠ .int)
theorem Whl.same {H H':Hp} (e:Same H H') {v:V} {o:Option Int} (h:Whl K H v o):Whl K H' v o:=by
  rcases h with h | ⟨h,c,ty,n⟩
  · exact .inl h
  · exact .inr ⟨h,c,tyof_same e ty,n⟩
def xic (K:PySem.W.Frag):Sp:=fun vs H Q _=>∃ v o,vs = [v] ∧ Whl K H v o ∧ Q (.bl o.isSome) H
theorem xhS (T:Txt K mg A):FnOk P w K mg base CX0 1 A.xiM A.xja ["value"] (xic K):=by
  refine T.xiE.ok xh4 (fun vs H Q E h=>?_) (fun cdv Ar outer s H vs Q E hr h=>?_)
  · obtain ⟨v,o,rfl,_⟩:=h
    rfl
  obtain ⟨v,o,rfl,hv,q⟩:=h
  refine ⟨_,(@pss_one _ _ _ (@ps_ret _ _ _ _ (@pe_and _ _ _ _ _ _ _ (@pe_callB _ _ _ _ _ _ _ _ _ call_isinst rfl T.b_isinstance B.isinstance (@pa_consN _ _ _ _ _ (@pv _ 0 _ _ (by rfl) (Or.inl rfl) (by decide) (by decide)) (@pa_consN _ _ _ _ _ (@pe_bltn _ _ (.ty "int") _ _ rfl T.b_int B.int rfl (by decide) (by decide)) (@pa_nil _) (by rfl)) (by rfl)) (by decide) (by decide) (by rfl) (by rfl)) (@pe_one _ _ _ _ _ (@pe_not _ _ _ _ (@pe_callB _ _ _ _ _ _ _ _ _ call_isinst rfl T.b_isinstance B.isinstance (@pa_consN _ _ _ _ _ (@pv _ 0 _ _ (by rfl) (Or.inl rfl) (by decide) (by decide)) (@pa_consN _ _ _ _ _ (@pe_bltn _ _ (.ty "bool") _ _ rfl T.b_bool B.bool rfl (by decide) (by decide)) (@pa_nil _) (by rfl)) (by rfl)) (by decide) (by decide) (by rfl) (by rfl))))))),?_⟩
  rcases hv with ⟨i,rfl,rfl⟩ | ⟨rfl,c,ty,n⟩
  · exact ⟨_,rfl,_,_,_,_,_,rfl,TyOf.int i,rfl,T.is_int_int,_,rfl,iteT ⟨_,rfl,_,_,_,_,_,rfl,TyOf.int i,rfl,T.is_int_bool,_,rfl,q⟩⟩
  · refine ⟨_,rfl,_,_,_,_,_,rfl,ty,rfl,kit_i T c,_,rfl,?_⟩
    cases c with
    | bl=>exact iteT ⟨_,rfl,_,_,_,_,_,rfl,ty,rfl,T.is_bool_bool,_,rfl,q⟩
    | int=>exact (n rfl).elim
    | _=>exact iteF q
def inB (o:Option Int) (lo hi:Int):Bool:=match o with
  | some i=>decide (lo ≤ i) && decide (i ≤ hi)
  | none=>false
theorem inB_some {i lo hi:Int}:inB (some i) lo hi = (decide (lo ≤ i) && decide (i ≤ hi)):=rfl
def sp_in (K:PySem.W.Frag) (lo hi:Int):Sp:=fun vs H Q _=>∃ v o,vs = [v] ∧ Whl K H v o ∧ Q (.bl (inB o lo hi)) H
theorem xf1 (T:Txt K mg A):FnOk P w K mg base CX0 2 A.xgA A.xg2 ["value"] (sp_in K (-1000000) 1000000):=by
  have xiH:=xhS (P:=P) (w:=w) (base:=base) T
  refine T.xgs.ok xgh (fun vs H Q E h=>?_) (fun cdv Ar outer s H vs Q E hr h=>?_)
  · obtain ⟨v,o,rfl,_⟩:=h
    rfl
  obtain ⟨v,o,rfl,hv,q⟩:=h
  refine ⟨_,(@pss_one _ _ _ (@ps_ret _ _ _ _ (@pe_and _ _ _ _ _ _ _ (@pe_call _ _ _ _ _ _ _ _ _ _ _ _ _ _ _ _ xiH (hr.mono (by decide)) rfl T.xjH T.xjy T.xgI .nil pass0 (@pa_consN _ _ _ _ _ (@pv _ 0 _ _ (by rfl) (Or.inl rfl) (by decide) (by decide)) (@pa_nil _) (by rfl)) (by decide) (by rfl) (by rfl)) (@pe_one _ _ _ _ _ (@pe_chain _ _ _ _ _ _ _ _ _ _ _ _ op_le op_le (@pe_un _ _ _ _ _ _ un_neg (@pe_glob _ _ (.int 1000000) _ _ rfl T.xbJ ⟨_,rfl⟩ (by decide))) (@pv _ 0 _ _ (by rfl) (Or.inl rfl) (by decide) (by decide)) (@pe_glob _ _ (.int 1000000) _ _ rfl T.xbJ ⟨_,rfl⟩ (by decide)) (by with_unfolding_all rfl)))))),?_⟩
  refine ⟨_,rfl,v,o,rfl,hv,_,rfl,?_⟩
  rcases hv with ⟨i,rfl,rfl⟩ | ⟨rfl,_⟩
  · refine iteT ⟨_,rfl,_,rfl,_,_,rfl,rfl,_,rfl,?_⟩
    by_cases h1 : -1000000 ≤ i
    · rw [show inB (some i) (-1000000) 1000000 = decide (i ≤ 1000000) by rw [inB_some,decT h1]; rfl] at q
      rw [decT h1]
      exact iteT ⟨_,_,rfl,rfl,q⟩
    · rw [show inB (some i) (-1000000) 1000000 = false by rw [inB_some,decF h1]; rfl] at q
      rw [decF h1]
      exact iteF q
  · exact iteF q
theorem xhR (T:Txt K mg A):FnOk P w K mg base CX0 2 A.xiL A.xi9 ["value"] (sp_in K 1 1000000):=by
  have xiH:=xhS (P:=P) (w:=w) (base:=base) T
  refine T.xiD.ok xh3 (fun vs H Q E h=>?_) (fun cdv Ar outer s H vs Q E hr h=>?_)
  · obtain ⟨v,o,rfl,_⟩:=h
    rfl
  obtain ⟨v,o,rfl,hv,q⟩:=h
  refine ⟨_,(@pss_one _ _ _ (@ps_ret _ _ _ _ (@pe_and _ _ _ _ _ _ _ (@pe_call _ _ _ _ _ _ _ _ _ _ _ _ _ _ _ _ xiH (hr.mono (by decide)) rfl T.xjH T.xjy T.xgI .nil pass0 (@pa_consN _ _ _ _ _ (@pv _ 0 _ _ (by rfl) (Or.inl rfl) (by decide) (by decide)) (@pa_nil _) (by rfl)) (by decide) (by rfl) (by rfl)) (@pe_one _ _ _ _ _ (@pe_chain _ _ _ _ _ _ _ _ _ _ _ _ op_le op_le (@pe_int _ _ _ _) (@pv _ 0 _ _ (by rfl) (Or.inl rfl) (by decide) (by decide)) (@pe_glob _ _ (.int 1000000) _ _ rfl T.xce ⟨_,rfl⟩ (by decide)) (by with_unfolding_all rfl)))))),?_⟩
  refine ⟨_,rfl,v,o,rfl,hv,_,rfl,?_⟩
  rcases hv with ⟨i,rfl,rfl⟩ | ⟨rfl,_⟩
  · refine iteT ⟨_,rfl,_,_,rfl,rfl,_,rfl,?_⟩
    by_cases h1:1 ≤ i
    · rw [show inB (some i) 1 1000000 = decide (i ≤ 1000000) by rw [inB_some,decT h1]; rfl] at q
      rw [decT h1]
      exact iteT ⟨_,_,rfl,rfl,q⟩
    · rw [show inB (some i) 1 1000000 = false by rw [inB_some,decF h1]; rfl] at q
      rw [decF h1]
      exact iteF q
  · exact iteF q
def restB (o p:Option Int):Bool:=inB p 1 1000000 && match o,p with
  | some r,some t=>decide (0 ≤ r) && decide (r < t)
  | _,_=>false
def xj9 (K:PySem.W.Frag):Sp:=fun vs H Q _=>∃ v u o p,vs = [v,u] ∧ Whl K H v o ∧ Whl K H u p ∧ Q (.bl (restB o p)) H
theorem xjP (T:Txt K mg A):FnOk P w K mg base CX0 3 A.xku A.xkK ["value", "turn"] (xj9 K):=by
  have xiH:=xhS (P:=P) (w:=w) (base:=base) T
  have xiG:=xhR (P:=P) (w:=w) (base:=base) T
  refine T.xkn.ok xj1 (fun vs H Q E h=>?_) (fun cdv Ar outer s H vs Q E hr h=>?_)
  · obtain ⟨v,u,o,p,rfl,_⟩:=h
    rfl
  obtain ⟨v,u,o,p,rfl,hv,hu,q⟩:=h
  refine ⟨_,(@pss_one _ _ _ (@ps_ret _ _ _ _ (@pe_and _ _ _ _ _ _ _ (@pe_call _ _ _ _ _ _ _ _ _ _ _ _ _ _ _ _ xiG (hr.mono (by decide)) rfl T.xjG T.xjx T.xgH .nil pass0 (@pa_consN _ _ _ _ _ (@pv _ 1 _ _ (by rfl) (Or.inl rfl) (by decide) (by decide)) (@pa_nil _) (by rfl)) (by decide) (by rfl) (by rfl)) (@pe_and _ _ _ _ _ _ _ (@pe_call _ _ _ _ _ _ _ _ _ _ _ _ _ _ _ _ xiH (hr.mono (by decide)) rfl T.xjH T.xjy T.xgI .nil pass0 (@pa_consN _ _ _ _ _ (@pv _ 0 _ _ (by rfl) (Or.inl rfl) (by decide) (by decide)) (@pa_nil _) (by rfl)) (by decide) (by rfl) (by rfl)) (@pe_one _ _ _ _ _ (@pe_chain _ _ _ _ _ _ _ _ _ _ _ _ op_le op_lt (@pe_int _ _ _ _) (@pv _ 0 _ _ (by rfl) (Or.inl rfl) (by decide) (by decide)) (@pv _ 1 _ _ (by rfl) (Or.inl rfl) (by decide) (by decide)) (by with_unfolding_all rfl))))))),?_⟩
  refine ⟨_,rfl,u,p,rfl,hu,_,rfl,?_⟩
  unfold restB at q
  cases hp:inB p 1 1000000 with
  | false=>rw [hp] at q; exact iteF q
  | true =>
    rw [hp] at q
    refine iteT ⟨_,rfl,v,o,rfl,hv,_,rfl,?_⟩
    rcases hu with ⟨t,rfl,rfl⟩ | ⟨rfl,_⟩
    case inr=>cases hp
    rcases hv with ⟨r,rfl,rfl⟩ | ⟨rfl,_⟩
    · refine iteT ⟨_,rfl,_,_,rfl,rfl,_,rfl,?_⟩
      by_cases h1:0 ≤ r
      · rw [show (true && (match some r,some t with | some r,some t=>decide (0 ≤ r) && decide (r < t) | _,_=>false)) = decide (r < t) by show (true && (decide (0 ≤ r) && decide (r < t))) = _; rw [decT h1]; rfl] at q
        rw [decT h1]
        exact iteT ⟨_,rfl,_,_,rfl,rfl,q⟩
      · rw [show (true && (match some r,some t with | some r,some t=>decide (0 ≤ r) && decide (r < t) | _,_=>false)) = false by show (true && (decide (0 ≤ r) && decide (r < t))) = _; rw [decF h1]; rfl] at q
        rw [decF h1]
        exact iteF q
    · exact iteF q
def PrOf (K:PySem.W.Frag) (H:Hp) (x:V) (b:Bool):Prop:=(b = false ∧ ∃ c:Ty7,TyOf K H x c.val ∧ c ≠ .tup) ∨
  ∃ a ys,x = .ref a ∧ H a = some (.tup ys) ∧ ((ys.length ≠ 2 ∧ b = false) ∨ ∃ y z o p,ys = [y,z] ∧ Whl K H y o ∧ Whl K H z p ∧ b = restB o p)
theorem PrOf.same {H H':Hp} (e:Same H H') {x:V} {b:Bool} (h:PrOf K H x b):PrOf K H' x b:=by
  rcases h with ⟨h,c,ty,n⟩ | ⟨a,ys,h1,h2,h3⟩
  · exact .inl ⟨h,c,tyof_same e ty,n⟩
  · refine .inr ⟨a,ys,h1,e _ _ h2,?_⟩
    rcases h3 with h3 | ⟨y,z,o,p,e1,e2,e3,e4⟩
    · exact .inl h3
    · exact .inr ⟨y,z,o,p,e1,e2.same e,e3.same e,e4⟩
def xcS (K:PySem.W.Frag):Sp:=fun vs H Q _=>∃ x b,vs = [x] ∧ PrOf K H x b ∧ Q (.bl b) H
theorem xcK (T:Txt K mg A):FnOk P w K mg base CX0 4 A.xcY A.xc7 ["value"] (xcS K):=by
  have xkq:=xjP (P:=P) (w:=w) (base:=base) T
  refine T.xcU.ok xcP (fun vs H Q E h=>?_) (fun cdv Ar outer s H vs Q E hr h=>?_)
  · obtain ⟨x,b,rfl,_⟩:=h
    rfl
  obtain ⟨x,b,rfl,hx,q⟩:=h
  refine ⟨_,(@pss_one _ _ _ (@ps_ret _ _ _ _ (@pe_and _ _ _ _ _ _ _ (@pe_callB _ _ _ _ _ _ _ _ _ call_isinst rfl T.b_isinstance B.isinstance (@pa_consN _ _ _ _ _ (@pv _ 0 _ _ (by rfl) (Or.inl rfl) (by decide) (by decide)) (@pa_consN _ _ _ _ _ (@pe_bltn _ _ (.ty "tuple") _ _ rfl T.b_tuple B.tuple rfl (by decide) (by decide)) (@pa_nil _) (by rfl)) (by rfl)) (by decide) (by decide) (by rfl) (by rfl)) (@pe_and _ _ _ _ _ _ _ (@pe_cmpR _ _ _ _ _ _ _ _ op_eqI (@pe_callB _ _ _ _ _ _ _ _ _ call_len_seq rfl T.b_len B.len (@pa_consN _ _ _ _ _ (@pv _ 0 _ _ (by rfl) (Or.inl rfl) (by decide) (by decide)) (@pa_nil _) (by rfl)) (by decide) (by decide) (by rfl) (by rfl)) (@pe_int _ _ _ _) (nomark _)) (@pe_one _ _ _ _ _ (@pe_call _ _ _ _ _ _ _ _ _ _ _ _ _ _ _ _ xkq (hr.mono (by decide)) rfl T.xk4 T.xkW T.xiR .nil pass0 (@pa_consN _ _ _ _ _ (@pe_ix _ _ _ _ _ _ _ ix_tup (@pv _ 0 _ _ (by rfl) (Or.inl rfl) (by decide) (by decide)) (@pe_int _ _ _ _) (fun _ _=>rfl)) (@pa_consN _ _ _ _ _ (@pe_ix _ _ _ _ _ _ _ ix_tup (@pv _ 0 _ _ (by rfl) (Or.inl rfl) (by decide) (by decide)) (@pe_int _ _ _ _) (fun _ _=>rfl)) (@pa_nil _) (by rfl)) (by rfl)) (by decide) (by rfl) (by rfl))))))),?_⟩
  rcases hx with ⟨rfl,c,ty,n⟩ | ⟨a,ys,rfl,ha,h3⟩
  · refine ⟨_,rfl,_,_,_,_,_,rfl,ty,rfl,kit_t T c,_,rfl,?_⟩
    cases c with
    | tup=>exact (n rfl).elim
    | _=>exact iteF q
  · refine ⟨_,rfl,_,_,_,_,_,rfl,TyOf.tup ha,rfl,T.is_tuple_tuple,_,rfl,iteT ⟨_,rfl,a,_,rfl,.inr (SqT.of ha),_,_,rfl,rfl,_,rfl,?_⟩⟩
    rcases h3 with ⟨h3,rfl⟩ | ⟨y,z,o,p,rfl,hy,hz,rfl⟩
    · rw [decF (show ¬ ((ys.length:Nat):Int) = 2 by omega)]
      exact iteF q
    · rw [decT (show (([y,z].length:Nat):Int) = 2 from rfl)]
      exact iteT ⟨_,rfl,a,_,_,_,rfl,rfl,SqT.of ha,rfl,_,rfl,a,_,_,_,rfl,rfl,SqT.of ha,rfl,y,z,o,p,rfl,hy,hz,q⟩
def ListB (K:PySem.W.Frag) (F:Hp → V → Bool → Prop) (H:Hp) (v:V) (b:Bool):Prop:=(b = false ∧ ∃ c:Ty7,TyOf K H v c.val ∧ c ≠ .lst) ∨
  ∃ a xs bs,v = .ref a ∧ H a = some (.lst xs) ∧ xs.length ≤ 1000 ∧ Paired (F H) xs bs ∧ b = bs.all id
theorem ListB.same {F:Hp → V → Bool → Prop} (hF:∀ {H H':Hp},Same H H' → ∀ x b,F H x b → F H' x b) {H H':Hp} (e:Same H H') {v:V} {b:Bool} (h:ListB K F H v b):ListB K F H' v b:=by
  rcases h with ⟨h,c,ty,n⟩ | ⟨a,xs,bs,h1,h2,h3,h4,h5⟩
  · exact .inl ⟨h,c,tyof_same e ty,n⟩
  · exact .inr ⟨a,xs,bs,h1,e _ _ h2,h3,Paired.mapP h4 (hF e),h5⟩
def sp_list (K:PySem.W.Frag) (F:Hp → V → Bool → Prop):Sp:=fun vs H Q _=>∃ v b,vs = [v] ∧ ListB K F H v b ∧ ∀ H',Same H H' → Q (.bl b) H'
theorem paired_get {α β:Type} {F:α → β → Prop}:∀ {l₁:List α} {l₂:List β} {i:Nat} {x:α},Paired F l₁ l₂ → l₁[i]? = some x → ∃ y,l₂[i]? = some y ∧ F x y
  | _,_,0,x,.cons r _,h=>by cases h; exact ⟨_,rfl,r⟩
  | _,_,i + 1,x,.cons _ t,h=>by
    obtain ⟨y,h1,h2⟩:=paired_get (i:=i) t (by simpa using h)
    exact ⟨y,by simpa using h1,h2⟩
end
end W08
set_option Elab.async false
set_option linter.all false
set_option maxRecDepth 100000
namespace W08
open PySem L2
section
variable {P:Program} {w:World} {K:PySem.W.Frag} {mg:Str → Option Value} {base:Heap} {A:Adr}
def PrsAt (H:Hp) (a:Addr) (rs:List (Int × Int)):Prop:=∃ as:List Addr,H a = some (.lst (as.map V.ref)) ∧ Paired (fun b (p:Int × Int)=>H b = some (.tup [.int p.1,.int p.2])) as rs
theorem PrsAt.same {H H':Hp} {a:Addr} {rs:List (Int × Int)} (e:Same H H') (h:PrsAt H a rs):PrsAt H' a rs:=by
  obtain ⟨as,h1,h2⟩:=h
  exact ⟨as,e _ _ h1,Paired.mapP h2 fun b p q=>e _ _ q⟩
theorem PrsAt.pairs {H:Hp} {a:Addr} {rs:List (Int × Int)} (h:PrsAt H a rs):PairsAt K H a rs:=by
  obtain ⟨as,h1,h2⟩:=h
  exact ⟨as,SqL.of h1,Paired.mapP h2 fun b p q=>SqT.of q⟩
theorem prs_get {H:Hp} {as:List Addr} {rs:List (Int × Int)} (h:Paired (fun b (p:Int × Int)=>H b = some (.tup [.int p.1,.int p.2])) as rs) {i:Nat} {x:V} (hx:(as.map V.ref)[i]? = some x) :
    ∃ b p,x = .ref b ∧ as[i]? = some b ∧ rs[i]? = some p ∧ H b = some (.tup [.int p.1,.int p.2]):=by
  rw [List.getElem?_map] at hx
  cases e:as[i]? with
  | none=>rw [e] at hx; cases hx
  | some b =>
    rw [e] at hx
    have hi:i < rs.length:=by
      have:=h.length
      have:=(List.getElem?_eq_some_iff.mp e).1
      omega
    obtain ⟨b',eb,hq⟩:=Paired.get' h i _ (List.getElem?_eq_getElem hi)
    rw [e] at eb
    cases eb
    exact ⟨b,_,(Option.some.inj hx).symm,rfl,List.getElem?_eq_getElem hi,hq⟩
def RsOk (rs:List (Int × Int)):Prop:=∀ p ∈ rs,0 ≤ p.1 ∧ p.1 < p.2 ∧ p.2 ≤ 1000000
def LstAt (H:Hp) (a:Addr) (ns:List Int):Prop:=H a = some (.lst (ns.map V.int))
theorem paired_snoc {α β:Type} {F:α → β → Prop} {a:α} {b:β}:∀ {l₁:List α} {l₂:List β},Paired F l₁ l₂ → F a b → Paired F (l₁ ++ [a]) (l₂ ++ [b])
  | [],[],_,h=>.cons h .nil
  | [],_ :: _,r,_=>nomatch r
  | _ :: _,[],r,_=>nomatch r
  | _ :: _,_ :: _,.cons x r,h=>.cons x (paired_snoc r h)
theorem LstAt.ints {H:Hp} {a:Addr} {ns:List Int} (h:LstAt H a ns):IntsAt K H a ns:=SqL.of h
def InOf (K:PySem.W.Frag) (lo hi:Int) (H:Hp) (v:V) (b:Bool):Prop:=∃ o,Whl K H v o ∧ b = inB o lo hi
theorem InOf.same {lo hi:Int} {H H':Hp} (e:Same H H') (v:V) (b:Bool) (h:InOf K lo hi H v b):InOf K lo hi H' v b:=let ⟨o,a,z⟩:=h; ⟨o,a.same e,z⟩
theorem xf0 (T:Txt K mg A):FnOk P w K mg base CX0 5 A.xgz A.xg1 ["value"] (sp_list K (PrOf K)):=by
  have xcW:=xcK (P:=P) (w:=w) (base:=base) T
  refine T.xgr.ok xgg (fun vs H Q E h=>?_) (fun cdv Ar outer s H vs Q E hr h=>?_)
  · obtain ⟨v,b,rfl,_⟩:=h
    rfl
  obtain ⟨v,b,rfl,hv,q⟩:=h
  refine ⟨_,(@pss_one _ _ _ (@ps_ret _ _ _ _ (@pe_and _ _ _ _ _ _ _ (@pe_callB _ _ _ _ _ _ _ _ _ call_isinst rfl T.b_isinstance B.isinstance (@pa_consN _ _ _ _ _ (@pv _ 0 _ _ (by rfl) (Or.inl rfl) (by decide) (by decide)) (@pa_consN _ _ _ _ _ (@pe_bltn _ _ (.ty "list") _ _ rfl T.b_list B.list rfl (by decide) (by decide)) (@pa_nil _) (by rfl)) (by rfl)) (by decide) (by decide) (by rfl) (by rfl)) (@pe_one _ _ _ _ _ (@pe_callB _ _ _ _ _ _ _ _ _ (call_all rfl) rfl T.b_all B.all (@pa_consN _ _ _ _ _ (@pe_comp0 _ _ (["pair"]) ([none]) _ _ _ _ _ _ _ _ xcO rfl (@pi_list _ _ _ _ (@pv _ 0 _ _ (by rfl) (Or.inl rfl) (by decide) (by decide))) (fun z=>(@pg_name _ _ (0) _ xcO.nd rfl (Or.inl rfl) (by exact .inr rfl))) (sets_name 0) (by decide) (fun z=>(@pe_call _ _ _ _ _ _ _ _ _ _ _ _ _ _ _ _ xcW (hr.mono (by decide)) rfl T.xdh T.xdd T.xcw .nil pass0 (@pa_consN _ _ _ _ _ (@pv _ 0 _ _ (by rfl) (by exact .inl rfl) (by decide) (by decide)) (@pa_nil _) (by rfl)) (by decide) (by rfl) (by rfl))) (by intro _; rfl)) (@pa_nil _) (by rfl)) (by decide) (by decide) (by rfl) (by rfl)))))),?_⟩
  rcases hv with ⟨rfl,c,ty,n⟩ | ⟨a,xs,bs,rfl,ha,hl,hP,rfl⟩
  · refine ⟨_,rfl,_,_,_,_,_,rfl,ty,rfl,kit_l T c,_,rfl,?_⟩
    cases c with
    | lst=>exact (n rfl).elim
    | _=>exact iteF (q H (Same.refl H))
  · refine ⟨_,rfl,_,_,_,_,_,rfl,TyOf.lst ha,rfl,T.is_list_list,_,rfl,iteT ⟨_,rfl,a,rfl,⟨_,SqL.of ha⟩,comp_list (K:=K) (a:=a) (xs:=xs) (fun i ys H'=>H' = H ∧ ys = (bs.take i).map V.bl) ⟨rfl,rfl⟩ (small100 hl) ?_ ?_ ?_⟩⟩
    · rintro i ys H' hi ⟨rfl,rfl⟩
      exact ⟨SqL.of ha,by rw [List.length_map,List.length_take,← hP.length]; omega⟩
    · rintro i x ys H' hx ⟨rfl,rfl⟩
      obtain ⟨y,hy,hF⟩:=paired_get hP hx
      refine ⟨_,rfl,x,y,rfl,hF,rfl,?_⟩
      rw [take_snoc hy,List.map_append]
      rfl
    · rintro ys H' ⟨rfl,rfl⟩ m hm
      exact ⟨m,bs,rfl,SqL.of (by rw [upd_same,hP.length,List.take_length]),q _ (same_new hm _)⟩
theorem xdk (T:Txt K mg A):FnOk P w K mg base CX0 3 A.xdv A.xdQ ["value"] (sp_list K (InOf K (-1000000) 1000000)):=by
  have xgw:=xf1 (P:=P) (w:=w) (base:=base) T
  refine T.xdt.ok xdq (fun vs H Q E h=>?_) (fun cdv Ar outer s H vs Q E hr h=>?_)
  · obtain ⟨v,b,rfl,_⟩:=h
    rfl
  obtain ⟨v,b,rfl,hv,q⟩:=h
  refine ⟨_,(@pss_one _ _ _ (@ps_ret _ _ _ _ (@pe_and _ _ _ _ _ _ _ (@pe_callB _ _ _ _ _ _ _ _ _ call_isinst rfl T.b_isinstance B.isinstance (@pa_consN _ _ _ _ _ (@pv _ 0 _ _ (by rfl) (Or.inl rfl) (by decide) (by decide)) (@pa_consN _ _ _ _ _ (@pe_bltn _ _ (.ty "list") _ _ rfl T.b_list B.list rfl (by decide) (by decide)) (@pa_nil _) (by rfl)) (by rfl)) (by decide) (by decide) (by rfl) (by rfl)) (@pe_one _ _ _ _ _ (@pe_callB _ _ _ _ _ _ _ _ _ (call_all rfl) rfl T.b_all B.all (@pa_consN _ _ _ _ _ (@pe_comp0 _ _ (["number"]) ([none]) _ _ _ _ _ _ _ _ xb0 rfl (@pi_list _ _ _ _ (@pv _ 0 _ _ (by rfl) (Or.inl rfl) (by decide) (by decide))) (fun z=>(@pg_name _ _ (0) _ xb0.nd rfl (Or.inl rfl) (by exact .inr rfl))) (sets_name 0) (by decide) (fun z=>(@pe_call _ _ _ _ _ _ _ _ _ _ _ _ _ _ _ _ xgw (hr.mono (by decide)) rfl T.xhI T.xhz T.xe7 .nil pass0 (@pa_consN _ _ _ _ _ (@pv _ 0 _ _ (by rfl) (by exact .inl rfl) (by decide) (by decide)) (@pa_nil _) (by rfl)) (by decide) (by rfl) (by rfl))) (by intro _; rfl)) (@pa_nil _) (by rfl)) (by decide) (by decide) (by rfl) (by rfl)))))),?_⟩
  rcases hv with ⟨rfl,c,ty,n⟩ | ⟨a,xs,bs,rfl,ha,hl,hP,rfl⟩
  · refine ⟨_,rfl,_,_,_,_,_,rfl,ty,rfl,kit_l T c,_,rfl,?_⟩
    cases c with
    | lst=>exact (n rfl).elim
    | _=>exact iteF (q H (Same.refl H))
  · refine ⟨_,rfl,_,_,_,_,_,rfl,TyOf.lst ha,rfl,T.is_list_list,_,rfl,iteT ⟨_,rfl,a,rfl,⟨_,SqL.of ha⟩,comp_list (K:=K) (a:=a) (xs:=xs) (fun i ys H'=>H' = H ∧ ys = (bs.take i).map V.bl) ⟨rfl,rfl⟩ (small100 hl) ?_ ?_ ?_⟩⟩
    · rintro i ys H' hi ⟨rfl,rfl⟩
      exact ⟨SqL.of ha,by rw [List.length_map,List.length_take,← hP.length]; omega⟩
    · rintro i x ys H' hx ⟨rfl,rfl⟩
      obtain ⟨y,hy,hF⟩:=paired_get hP hx
      obtain ⟨o,ho,rfl⟩:=hF
      refine ⟨_,rfl,x,o,rfl,ho,rfl,?_⟩
      rw [take_snoc hy,List.map_append]
      rfl
    · rintro ys H' ⟨rfl,rfl⟩ m hm
      exact ⟨m,bs,rfl,SqL.of (by rw [upd_same,hP.length,List.take_length]),q _ (same_new hm _)⟩
theorem xen (T:Txt K mg A):FnOk P w K mg base CX0 3 A.xeZ A.xfq ["value"] (sp_list K (InOf K 1 1000000)):=by
  have xiG:=xhR (P:=P) (w:=w) (base:=base) T
  refine T.xeQ.ok xew (fun vs H Q E h=>?_) (fun cdv Ar outer s H vs Q E hr h=>?_)
  · obtain ⟨v,b,rfl,_⟩:=h
    rfl
  obtain ⟨v,b,rfl,hv,q⟩:=h
  refine ⟨_,(@pss_one _ _ _ (@ps_ret _ _ _ _ (@pe_and _ _ _ _ _ _ _ (@pe_callB _ _ _ _ _ _ _ _ _ call_isinst rfl T.b_isinstance B.isinstance (@pa_consN _ _ _ _ _ (@pv _ 0 _ _ (by rfl) (Or.inl rfl) (by decide) (by decide)) (@pa_consN _ _ _ _ _ (@pe_bltn _ _ (.ty "list") _ _ rfl T.b_list B.list rfl (by decide) (by decide)) (@pa_nil _) (by rfl)) (by rfl)) (by decide) (by decide) (by rfl) (by rfl)) (@pe_one _ _ _ _ _ (@pe_callB _ _ _ _ _ _ _ _ _ (call_all rfl) rfl T.b_all B.all (@pa_consN _ _ _ _ _ (@pe_comp0 _ _ (["turn"]) ([none]) _ _ _ _ _ _ _ _ xcr rfl (@pi_list _ _ _ _ (@pv _ 0 _ _ (by rfl) (Or.inl rfl) (by decide) (by decide))) (fun z=>(@pg_name _ _ (0) _ xcr.nd rfl (Or.inl rfl) (by exact .inr rfl))) (sets_name 0) (by decide) (fun z=>(@pe_call _ _ _ _ _ _ _ _ _ _ _ _ _ _ _ _ xiG (hr.mono (by decide)) rfl T.xjG T.xjx T.xgH .nil pass0 (@pa_consN _ _ _ _ _ (@pv _ 0 _ _ (by rfl) (by exact .inl rfl) (by decide) (by decide)) (@pa_nil _) (by rfl)) (by decide) (by rfl) (by rfl))) (by intro _; rfl)) (@pa_nil _) (by rfl)) (by decide) (by decide) (by rfl) (by rfl)))))),?_⟩
  rcases hv with ⟨rfl,c,ty,n⟩ | ⟨a,xs,bs,rfl,ha,hl,hP,rfl⟩
  · refine ⟨_,rfl,_,_,_,_,_,rfl,ty,rfl,kit_l T c,_,rfl,?_⟩
    cases c with
    | lst=>exact (n rfl).elim
    | _=>exact iteF (q H (Same.refl H))
  · refine ⟨_,rfl,_,_,_,_,_,rfl,TyOf.lst ha,rfl,T.is_list_list,_,rfl,iteT ⟨_,rfl,a,rfl,⟨_,SqL.of ha⟩,comp_list (K:=K) (a:=a) (xs:=xs) (fun i ys H'=>H' = H ∧ ys = (bs.take i).map V.bl) ⟨rfl,rfl⟩ (small100 hl) ?_ ?_ ?_⟩⟩
    · rintro i ys H' hi ⟨rfl,rfl⟩
      exact ⟨SqL.of ha,by rw [List.length_map,List.length_take,← hP.length]; omega⟩
    · rintro i x ys H' hx ⟨rfl,rfl⟩
      obtain ⟨y,hy,hF⟩:=paired_get hP hx
      obtain ⟨o,ho,rfl⟩:=hF
      refine ⟨_,rfl,x,o,rfl,ho,rfl,?_⟩
      rw [take_snoc hy,List.map_append]
      rfl
    · rintro ys H' ⟨rfl,rfl⟩ m hm
      exact ⟨m,bs,rfl,SqL.of (by rw [upd_same,hP.length,List.take_length]),q _ (same_new hm _)⟩
def Thr (C:Addr) (H:Hp) (E:XK):Prop:=∀ ea H',Same H H' → H' ea = none → E (.ref C) (some ea) H'
def sp_bad1 (C:Addr) (Pb:Hp → V → Prop):Sp:=fun vs H _ E=>∃ v,vs = [v] ∧ Pb H v ∧ Thr C H E
theorem xmh (T:Txt K mg A):FnOk P w K mg base (CXx P w) 6 A.xmG A.xmS ["rests"] (sp_bad1 A.xiX fun H v=>ListB K (PrOf K) H v false):=by
  have xgv:=xf0 (P:=P) (w:=w) (base:=base) T
  refine T.xmy.okx xmp (fun vs H Q E h=>?_) (fun cdv Ar outer s H vs Q E hr h=>?_)
  · obtain ⟨v,rfl,_⟩:=h
    rfl
  obtain ⟨v,rfl,hv,q⟩:=h
  refine ⟨_,(@pss_cons _ _ _ _ _ (@ps_if _ _ _ _ _ _ _ _ (@pt_not _ _ _ _ (@pt_val _ _ _ (@pe_call _ _ _ _ _ _ _ _ _ _ _ _ _ _ _ _ xgv (hr.mono (by decide)) rfl T.xhH T.xhy T.xe6 .nil pass0 (@pa_consN _ _ _ _ _ (@pv _ 0 _ _ (by rfl) (Or.inl rfl) (by decide) (by decide)) (@pa_nil _) (by rfl)) (by decide) (by rfl) (by rfl)) (by intro _; rfl))) (@pss_one _ _ _ (@ps_raise _ _ leaves_cx rfl _ _ _ _ _ _ _ _ rfl T.xjD T.xha (by decide))) (@pss_nil _)) (@pss_never _ _)),?_⟩
  exact ⟨_,rfl,v,false,rfl,hv,fun H' s'=>⟨_,rfl,iteT fun ea he=>q ea H' s' he⟩⟩
theorem xjS (T:Txt K mg A):FnOk P w K mg base (CXx P w) 6 A.xkw A.xkM ["rests"] (sp_bad1 A.xiX fun H v=>ListB K (PrOf K) H v false):=by
  have xgv:=xf0 (P:=P) (w:=w) (base:=base) T
  refine T.xkp.okx xj4 (fun vs H Q E h=>?_) (fun cdv Ar outer s H vs Q E hr h=>?_)
  · obtain ⟨v,rfl,_⟩:=h
    rfl
  obtain ⟨v,rfl,hv,q⟩:=h
  refine ⟨_,(@pss_cons _ _ _ _ _ (@ps_if _ _ _ _ _ _ _ _ (@pt_not _ _ _ _ (@pt_val _ _ _ (@pe_call _ _ _ _ _ _ _ _ _ _ _ _ _ _ _ _ xgv (hr.mono (by decide)) rfl T.xhH T.xhy T.xe6 .nil pass0 (@pa_consN _ _ _ _ _ (@pv _ 0 _ _ (by rfl) (Or.inl rfl) (by decide) (by decide)) (@pa_nil _) (by rfl)) (by decide) (by rfl) (by rfl)) (by intro _; rfl))) (@pss_one _ _ _ (@ps_raise _ _ leaves_cx rfl _ _ _ _ _ _ _ _ rfl T.xjD T.xha (by decide))) (@pss_nil _)) (@pss_never _ _)),?_⟩
  exact ⟨_,rfl,v,false,rfl,hv,fun H' s'=>⟨_,rfl,iteT fun ea he=>q ea H' s' he⟩⟩
theorem xlc (T:Txt K mg A):FnOk P w K mg base (CXx P w) 6 A.xlt A.xlx ["numbers"] (sp_bad1 A.xe8 fun H v=>ListB K (InOf K (-1000000) 1000000) H v false):=by
  have xdu:=xdk (P:=P) (w:=w) (base:=base) T
  refine T.xlp.okx xlk (fun vs H Q E h=>?_) (fun cdv Ar outer s H vs Q E hr h=>?_)
  · obtain ⟨v,rfl,_⟩:=h
    rfl
  obtain ⟨v,rfl,hv,q⟩:=h
  refine ⟨_,(@pss_cons _ _ _ _ _ (@ps_if _ _ _ _ _ _ _ _ (@pt_not _ _ _ _ (@pt_val _ _ _ (@pe_call _ _ _ _ _ _ _ _ _ _ _ _ _ _ _ _ xdu (hr.mono (by decide)) rfl T.xed T.xeb T.xc0 .nil pass0 (@pa_consN _ _ _ _ _ (@pv _ 0 _ _ (by rfl) (Or.inl rfl) (by decide) (by decide)) (@pa_nil _) (by rfl)) (by decide) (by rfl) (by rfl)) (by intro _; rfl))) (@pss_one _ _ _ (@ps_raise _ _ leaves_cx rfl _ _ _ _ _ _ _ _ rfl T.xfN T.xdX (by decide))) (@pss_nil _)) (@pss_never _ _)),?_⟩
  exact ⟨_,rfl,v,false,rfl,hv,fun H' s'=>⟨_,rfl,iteT fun ea he=>q ea H' s' he⟩⟩
theorem xjR (T:Txt K mg A):FnOk P w K mg base (CXx P w) 6 A.xkv A.xkL ["numbers"] (sp_bad1 A.xe8 fun H v=>ListB K (InOf K (-1000000) 1000000) H v false):=by
  have xdu:=xdk (P:=P) (w:=w) (base:=base) T
  refine T.xko.okx xj3 (fun vs H Q E h=>?_) (fun cdv Ar outer s H vs Q E hr h=>?_)
  · obtain ⟨v,rfl,_⟩:=h
    rfl
  obtain ⟨v,rfl,hv,q⟩:=h
  refine ⟨_,(@pss_cons _ _ _ _ _ (@ps_if _ _ _ _ _ _ _ _ (@pt_not _ _ _ _ (@pt_val _ _ _ (@pe_call _ _ _ _ _ _ _ _ _ _ _ _ _ _ _ _ xdu (hr.mono (by decide)) rfl T.xed T.xeb T.xc0 .nil pass0 (@pa_consN _ _ _ _ _ (@pv _ 0 _ _ (by rfl) (Or.inl rfl) (by decide) (by decide)) (@pa_nil _) (by rfl)) (by decide) (by rfl) (by rfl)) (by intro _; rfl))) (@pss_one _ _ _ (@ps_raise _ _ leaves_cx rfl _ _ _ _ _ _ _ _ rfl T.xfN T.xdX (by decide))) (@pss_nil _)) (@pss_never _ _)),?_⟩
  exact ⟨_,rfl,v,false,rfl,hv,fun H' s'=>⟨_,rfl,iteT fun ea he=>q ea H' s' he⟩⟩
theorem xlb (T:Txt K mg A):FnOk P w K mg base (CXx P w) 6 A.xls A.xlw ["numbers"] (sp_bad1 A.xe8 fun H v=>ListB K (InOf K (-1000000) 1000000) H v false):=by
  have xdu:=xdk (P:=P) (w:=w) (base:=base) T
  refine T.xlo.okx xlj (fun vs H Q E h=>?_) (fun cdv Ar outer s H vs Q E hr h=>?_)
  · obtain ⟨v,rfl,_⟩:=h
    rfl
  obtain ⟨v,rfl,hv,q⟩:=h
  refine ⟨_,(@pss_cons _ _ _ _ _ (@ps_if _ _ _ _ _ _ _ _ (@pt_not _ _ _ _ (@pt_val _ _ _ (@pe_call _ _ _ _ _ _ _ _ _ _ _ _ _ _ _ _ xdu (hr.mono (by decide)) rfl T.xed T.xeb T.xc0 .nil pass0 (@pa_consN _ _ _ _ _ (@pv _ 0 _ _ (by rfl) (Or.inl rfl) (by decide) (by decide)) (@pa_nil _) (by rfl)) (by decide) (by rfl) (by rfl)) (by intro _; rfl))) (@pss_one _ _ _ (@ps_raise _ _ leaves_cx rfl _ _ _ _ _ _ _ _ rfl T.xfN T.xdX (by decide))) (@pss_nil _)) (@pss_never _ _)),?_⟩
  exact ⟨_,rfl,v,false,rfl,hv,fun H' s'=>⟨_,rfl,iteT fun ea he=>q ea H' s' he⟩⟩
def xib (K:PySem.W.Frag) (A:Adr):Sp:=fun vs H _ E=>∃ v t r,vs = [v,t,r] ∧ ((ListB K (InOf K (-1000000) 1000000) H v false ∧ Thr A.xe8 H E) ∨
  (ListB K (InOf K (-1000000) 1000000) H v true ∧ ∃ o,Whl K H t o ∧ ((inB o 1 1000000 = false ∧ Thr A.xiY H E) ∨ (inB o 1 1000000 = true ∧ ∃ p,Whl K H r p ∧ restB p o = false ∧ Thr A.xkB H E))))
theorem xmf (T:Txt K mg A):FnOk P w K mg base (CXx P w) 6 A.xmE A.xmQ ["numbers", "turn", "rest"] (xib K A):=by
  have xdu:=xdk (P:=P) (w:=w) (base:=base) T
  have xiG:=xhR (P:=P) (w:=w) (base:=base) T
  have xkq:=xjP (P:=P) (w:=w) (base:=base) T
  refine T.xmw.okx xmn (fun vs H Q E h=>?_) (fun cdv Ar outer s H vs Q E hr h=>?_)
  · obtain ⟨v,t,r,rfl,_⟩:=h
    rfl
  obtain ⟨v,t,r,rfl,h⟩:=h
  refine ⟨_,(@pss_cons _ _ _ _ _ (@ps_if _ _ _ _ _ _ _ _ (@pt_not _ _ _ _ (@pt_val _ _ _ (@pe_call _ _ _ _ _ _ _ _ _ _ _ _ _ _ _ _ xdu (hr.mono (by decide)) rfl T.xed T.xeb T.xc0 .nil pass0 (@pa_consN _ _ _ _ _ (@pv _ 0 _ _ (by rfl) (Or.inl rfl) (by decide) (by decide)) (@pa_nil _) (by rfl)) (by decide) (by rfl) (by rfl)) (by intro _; rfl))) (@pss_one _ _ _ (@ps_raise _ _ leaves_cx rfl _ _ _ _ _ _ _ _ rfl T.xfN T.xdX (by decide))) (@pss_nil _)) (@pss_cons _ _ _ _ _ (@ps_if _ _ _ _ _ _ _ _ (@pt_not _ _ _ _ (@pt_val _ _ _ (@pe_call _ _ _ _ _ _ _ _ _ _ _ _ _ _ _ _ xiG (hr.mono (by decide)) rfl T.xjG T.xjx T.xgH .nil pass0 (@pa_consN _ _ _ _ _ (@pv _ 1 _ _ (by rfl) (Or.inr (Or.inl rfl)) (by decide) (by decide)) (@pa_nil _) (by rfl)) (by decide) (by rfl) (by rfl)) (by intro _; rfl))) (@pss_one _ _ _ (@ps_raise _ _ leaves_cx rfl _ _ _ _ _ _ _ _ rfl T.xjE T.xhb (by decide))) (@pss_nil _)) (@pss_cons _ _ _ _ _ (@ps_if _ _ _ _ _ _ _ _ (@pt_not _ _ _ _ (@pt_val _ _ _ (@pe_call _ _ _ _ _ _ _ _ _ _ _ _ _ _ _ _ xkq (hr.mono (by decide)) rfl T.xk4 T.xkW T.xiR .nil pass0 (@pa_consN _ _ _ _ _ (@pv _ 2 _ _ (by rfl) (Or.inl rfl) (by decide) (by decide)) (@pa_consN _ _ _ _ _ (@pv _ 1 _ _ (by rfl) (Or.inr (Or.inl rfl)) (by decide) (by decide)) (@pa_nil _) (by rfl)) (by rfl)) (by decide) (by rfl) (by rfl)) (by intro _; rfl))) (@pss_one _ _ _ (@ps_raise _ _ leaves_cx rfl _ _ _ _ _ _ _ _ rfl T.xk2 T.xjg (by decide))) (@pss_nil _)) (@pss_never _ _)))),?_⟩
  rcases h with ⟨hv,q⟩ | ⟨hv,o,ht,h⟩
  · exact ⟨_,rfl,v,false,rfl,hv,fun H' s'=>⟨_,rfl,iteT fun ea he=>q ea H' s' he⟩⟩
  refine ⟨_,rfl,v,true,rfl,hv,fun H' s'=>⟨_,rfl,iteF ⟨_,rfl,t,o,rfl,ht.same s',_,rfl,?_⟩⟩⟩
  rcases h with ⟨h1,q⟩ | ⟨h1,p,hr',h2,q⟩
  · rw [h1]
    exact iteT fun ea he=>q ea H' s' he
  · rw [h1]
    refine iteF ⟨_,rfl,_,rfl,r,t,p,o,rfl,hr'.same s',ht.same s',_,rfl,?_⟩
    rw [h2]
    exact iteT fun ea he=>q ea H' s' he
def xia (K:PySem.W.Frag) (A:Adr):Sp:=fun vs H _ E=>∃ v t o,vs = [v,t] ∧ Whl K H v o ∧ ((inB o (-1000000) 1000000 = false ∧ Thr A.xe8 H E) ∨ (inB o (-1000000) 1000000 = true ∧ ∃ p,Whl K H t p ∧ inB p 1 1000000 = false ∧ Thr A.xiY H E))
theorem xme (T:Txt K mg A):FnOk P w K mg base (CXx P w) 6 A.xmD A.xmP ["number", "turn"] (xia K A):=by
  have xgw:=xf1 (P:=P) (w:=w) (base:=base) T
  have xiG:=xhR (P:=P) (w:=w) (base:=base) T
  refine T.xmv.okx xmm (fun vs H Q E h=>?_) (fun cdv Ar outer s H vs Q E hr h=>?_)
  · obtain ⟨v,t,o,rfl,_⟩:=h
    rfl
  obtain ⟨v,t,o,rfl,hv,h⟩:=h
  refine ⟨_,(@pss_cons _ _ _ _ _ (@ps_if _ _ _ _ _ _ _ _ (@pt_not _ _ _ _ (@pt_val _ _ _ (@pe_call _ _ _ _ _ _ _ _ _ _ _ _ _ _ _ _ xgw (hr.mono (by decide)) rfl T.xhI T.xhz T.xe7 .nil pass0 (@pa_consN _ _ _ _ _ (@pv _ 0 _ _ (by rfl) (Or.inl rfl) (by decide) (by decide)) (@pa_nil _) (by rfl)) (by decide) (by rfl) (by rfl)) (by intro _; rfl))) (@pss_one _ _ _ (@ps_raise _ _ leaves_cx rfl _ _ _ _ _ _ _ _ rfl T.xfN T.xdX (by decide))) (@pss_nil _)) (@pss_cons _ _ _ _ _ (@ps_if _ _ _ _ _ _ _ _ (@pt_not _ _ _ _ (@pt_val _ _ _ (@pe_call _ _ _ _ _ _ _ _ _ _ _ _ _ _ _ _ xiG (hr.mono (by decide)) rfl T.xjG T.xjx T.xgH .nil pass0 (@pa_consN _ _ _ _ _ (@pv _ 1 _ _ (by rfl) (Or.inl rfl) (by decide) (by decide)) (@pa_nil _) (by rfl)) (by decide) (by rfl) (by rfl)) (by intro _; rfl))) (@pss_one _ _ _ (@ps_raise _ _ leaves_cx rfl _ _ _ _ _ _ _ _ rfl T.xjE T.xhb (by decide))) (@pss_nil _)) (@pss_never _ _))),?_⟩
  refine ⟨_,rfl,v,o,rfl,hv,_,rfl,?_⟩
  rcases h with ⟨h1,q⟩ | ⟨h1,p,ht,h2,q⟩
  · rw [h1]
    exact iteT fun ea he=>q ea H (Same.refl H) he
  · rw [h1]
    refine iteF ⟨_,rfl,t,p,rfl,ht,_,rfl,?_⟩
    rw [h2]
    exact iteT fun ea he=>q ea H (Same.refl H) he
theorem ints_in {H:Hp}:∀ ts:List Int,(∀ x ∈ ts,1 ≤ x ∧ x ≤ 1000000) → Paired (InOf K 1 1000000 H) (ts.map V.int) (ts.map fun _=>true)
  | [],_=>.nil
  | t :: ts,h=>.cons ⟨some t,.inl ⟨t,rfl,rfl⟩,by have:=h t List.mem_cons_self; rw [inB_some,decT this.1,decT this.2]; rfl⟩ (ints_in ts fun x hx=>h x (List.mem_cons_of_mem _ hx))
def xmu (K:PySem.W.Frag) (A:Adr):Sp:=fun vs H Q E=>∃ v t o,vs = [v,t] ∧ Whl K H v o ∧ ((o = none ∧ Thr A.xiX H E) ∨ (o.isSome = true ∧ ListB K (InOf K 1 1000000) H t false ∧ Thr A.xiX H E) ∨
  ∃ n a ts,o = some n ∧ t = .ref a ∧ LstAt H a ts ∧ (∀ x ∈ ts,1 ≤ x ∧ x ≤ 1000000) ∧ ts.length ≤ 1000 ∧ ∀ l H',PrsAt H' l (ts.map fun x=>(n % x,x)) → Same H H' → Q (.ref l) H')
theorem xmg (T:Txt K mg A):FnOk P w K mg base (CXx P w) 6 A.xmF A.xmR ["number", "rounds"] (xmu K A):=by
  have xiH:=xhS (P:=P) (w:=w) (base:=base) T
  have xeU:=xen (P:=P) (w:=w) (base:=base) T
  refine T.xmx.okx xmo (fun vs H Q E h=>?_) (fun cdv Ar outer s H vs Q E hr h=>?_)
  · obtain ⟨v,t,o,rfl,_⟩:=h
    rfl
  obtain ⟨v,t,o,rfl,hv,h⟩:=h
  refine ⟨_,(@pss_cons _ _ _ _ _ (@ps_if _ _ _ _ _ _ _ _ (@pt_not _ _ _ _ (@pt_val _ _ _ (@pe_call _ _ _ _ _ _ _ _ _ _ _ _ _ _ _ _ xiH (hr.mono (by decide)) rfl T.xjH T.xjy T.xgI .nil pass0 (@pa_consN _ _ _ _ _ (@pv _ 0 _ _ (by rfl) (Or.inr (Or.inl rfl)) (by decide) (by decide)) (@pa_nil _) (by rfl)) (by decide) (by rfl) (by rfl)) (by intro _; rfl))) (@pss_one _ _ _ (@ps_raise _ _ leaves_cx rfl _ _ _ _ _ _ _ _ rfl T.xjD T.xha (by decide))) (@pss_nil _)) (@pss_cons _ _ _ _ _ (@ps_if _ _ _ _ _ _ _ _ (@pt_not _ _ _ _ (@pt_val _ _ _ (@pe_call _ _ _ _ _ _ _ _ _ _ _ _ _ _ _ _ xeU (hr.mono (by decide)) rfl T.xfR T.xfI T.xdE .nil pass0 (@pa_consN _ _ _ _ _ (@pv _ 1 _ _ (by rfl) (Or.inl rfl) (by decide) (by decide)) (@pa_nil _) (by rfl)) (by decide) (by rfl) (by rfl)) (by intro _; rfl))) (@pss_one _ _ _ (@ps_raise _ _ leaves_cx rfl _ _ _ _ _ _ _ _ rfl T.xjD T.xha (by decide))) (@pss_nil _)) (@pss_one _ _ _ (@ps_ret _ _ _ _ (@pe_comp0 _ _ (["number", "turn"]) ([some 0,none]) _ _ _ _ _ _ _ _ xj2 rfl (@pi_list _ _ _ _ (@pv _ 1 _ _ (by rfl) (Or.inl rfl) (by decide) (by decide))) (fun z=>(@pg_name _ _ (1) _ xj2.nd rfl (Or.inl rfl) (by exact .inr rfl))) (sets_name 1) (by decide) (fun z=>(@pe_tup _ _ _ _ _ (@pa_consN _ _ _ _ _ (@pe_op _ _ _ _ _ _ _ _ op_mod (@pv _ 0 _ _ (by rfl) (by exact .inr (.inl rfl)) (by decide) (by decide)) (@pv _ 1 _ _ (by rfl) (by exact .inl rfl) (by decide) (by decide))) (@pa_consN _ _ _ _ _ (@pv _ 1 _ _ (by rfl) (by exact .inl rfl) (by decide) (by decide)) (@pa_nil _) (by rfl)) (by rfl)))) (by intro _; rfl)))))),?_⟩
  refine ⟨_,rfl,v,o,rfl,hv,_,rfl,?_⟩
  rcases h with ⟨rfl,q⟩ | ⟨h1,ht,q⟩ | ⟨n,a,ts,rfl,rfl,ha,hts,hl,q⟩
  · exact iteT fun ea he=>q ea H (Same.refl H) he
  · rw [h1]
    exact iteF ⟨_,rfl,t,false,rfl,ht,fun H' s'=>⟨_,rfl,iteT fun ea he=>q ea H' s' he⟩⟩
  rcases hv with ⟨i,rfl,hi⟩ | ⟨hi,_⟩
  case inr=>cases hi
  cases hi
  refine iteF ⟨_,rfl,.ref a,true,rfl,.inr ⟨a,_,ts.map fun _=>true,rfl,ha,by rw [List.length_map]; exact hl,ints_in ts hts,by simp⟩,fun H' s'=>⟨_,rfl,iteF ?_⟩⟩
  have ha':LstAt H' a ts:=s' _ _ ha
  refine ⟨_,rfl,a,rfl,⟨_,SqL.of ha'⟩,comp_list (K:=K) (a:=a) (xs:=ts.map V.int) (fun i ys H2=>Same H' H2 ∧ ∃ as:List Addr,ys = as.map V.ref ∧ Paired (fun b (p:Int × Int)=>H2 b = some (.tup [.int p.1,.int p.2])) as ((ts.take i).map fun x=>(n % x,x))) ⟨Same.refl _,[],rfl,.nil⟩ (by rw [List.length_map]; exact small100 hl) ?_ ?_ ?_⟩
  · rintro i ys H2 hi ⟨hs,as,rfl,hP⟩
    rw [List.length_map] at hi
    exact ⟨SqL.of (hs _ _ ha'),by rw [List.length_map,hP.length,List.length_map,List.length_take]; omega⟩
  · rintro i x ys H2 hx ⟨hs,as,rfl,hP⟩
    obtain ⟨m,hm,rfl⟩:=ints_get hx
    have hb:=hts m (List.mem_of_getElem? hm)
    refine ⟨_,rfl,_,rfl,_,_,rfl,rfl,(by omega),_,rfl,(by show 2 ≤ sizeLine; decide),fun u hu=>⟨hs.trans (same_new hu _),as ++ [u],by rw [List.map_append]; rfl,?_⟩⟩
    rw [take_snoc hm,List.map_append]
    exact paired_snoc (Paired.mapP hP fun b p z=>(same_new hu _) _ _ z) upd_same
  · rintro ys H2 ⟨hs,as,rfl,hP⟩ l hl2
    rw [List.length_map,List.take_length] at hP
    exact q l _ ⟨as,upd_same,Paired.mapP hP fun b p z=>(same_new hl2 _) _ _ z⟩ (s'.trans (hs.trans (same_new hl2 _)))
end
end W08
set_option Elab.async false
set_option linter.all false
set_option maxRecDepth 100000
namespace W08
open PySem L2
section
variable {P:Program} {w:World} {K:PySem.W.Frag} {mg:Str → Option Value} {base:Heap} {A:Adr}
theorem atI_int {ns:List Int} {i:Int} (h0:0 ≤ i) (h1:i < ns.length):∃ v,v ∈ ns ∧ atI (ns.map V.int) i = some (.int v):=by
  have hl:i.toNat < ns.length:=by omega
  refine ⟨ns[i.toNat],List.getElem_mem hl,?_⟩
  have z:=atI_nat (xs:=ns.map V.int) (j:=i.toNat) (v:=.int ns[i.toNat]) (by rw [List.getElem?_map,List.getElem?_eq_getElem hl]; rfl)
  rw [show ((i.toNat:Nat):Int) = i by omega] at z
  exact z
def sp_cell_at (K:PySem.W.Frag):Sp:=fun vs H Q _=>∃ (a:Addr) (ns:List Int) (k:Int),vs = [.ref a,.int k] ∧ IntsAt K H a ns ∧ 0 ≤ k ∧ ∀ v,Q (.int v) H
theorem xdl (T:Txt K mg A):FnOk P w K mg base CX0 1 A.xcX A.xc6 ["_law_script", "_law_k"] (sp_cell_at K):=by
  refine T.xcT.ok xcN (fun vs H Q E h=>?_) (fun cdv Ar outer s H vs Q E hr h=>?_)
  · obtain ⟨a,ns,k,rfl,_⟩:=h
    rfl
  obtain ⟨a,ns,k,rfl,ha,hk,q⟩:=h
  refine ⟨_,(@pss_cons _ _ _ _ _ (@ps_if _ _ _ _ _ _ _ _ (@pt_cmpR _ _ _ _ _ _ _ _ op_lt (@pv _ 1 _ _ (by rfl) (Or.inl rfl) (by decide) (by decide)) (@pe_callB _ _ _ _ _ _ _ _ _ call_len_seq rfl T.b_len B.len (@pa_consN _ _ _ _ _ (@pv _ 0 _ _ (by rfl) (Or.inl rfl) (by decide) (by decide)) (@pa_nil _) (by rfl)) (by decide) (by decide) (by rfl) (by rfl)) (nomark _)) (@pss_one _ _ _ (@ps_ret _ _ _ _ (@pe_ix _ _ _ _ _ _ _ ix_list (@pv _ 0 _ _ (by rfl) (Or.inl rfl) (by decide) (by decide)) (@pv _ 1 _ _ (by rfl) (Or.inl rfl) (by decide) (by decide)) (fun _ _=>rfl)))) (@pss_nil _)) (@pss_one _ _ _ (@ps_ret _ _ _ _ (@pe_int _ _ _ _)))),?_⟩
  refine ⟨_,rfl,_,rfl,a,_,rfl,.inl ha,_,_,rfl,rfl,_,rfl,?_⟩
  rw [List.length_map]
  by_cases h1:k < (ns.length:Int)
  · rw [decT h1]
    obtain ⟨v,_,hv⟩:=atI_int hk h1
    exact iteT ⟨_,rfl,_,rfl,a,_,_,_,rfl,rfl,ha,hv,q v⟩
  · rw [decF h1]
    exact iteF (q 0)
def sp_draw:Sp:=fun vs H Q _=>∃ c k m:Int,vs = [.int c,.int k,.int m] ∧ 0 < m ∧ ∀ v H',0 ≤ v → v < m → Same H H' → Q (.int v) H'
theorem draw_prime {i:Int} (h0:0 ≤ i) (h1:i < 16):∃ v:Int,0 < v ∧ atI (List.map V.int [1000003,1000033,1000037,1000039,1000081,1000099,1000117,1000121,1000133,1000151,1000159,1000171,1000183,1000187,1000193,1000199]) i = some (.int v):=by
  obtain ⟨p,hp,ep⟩:=atI_int (ns:=[1000003,1000033,1000037,1000039,1000081,1000099,1000117,1000121,1000133,1000151,1000159,1000171,1000183,1000187,1000193,1000199]) h0 h1
  have:∀ z ∈ ([1000003,1000033,1000037,1000039,1000081,1000099,1000117,1000121,1000133,1000151,1000159,1000171,1000183,1000187,1000193,1000199]:List Int),0 < z:=by decide
  exact ⟨p,this p hp,ep⟩
set_option maxHeartbeats 1000000 in
theorem xhT (T:Txt K mg A):FnOk P w K mg base CX0 1 A.xgx A.xgZ ["_law_cell", "_law_k", "_law_many"] sp_draw:=by
  refine T.xgp.ok xge (fun vs H Q E h=>?_) (fun cdv Ar outer s H vs Q E hr h=>?_)
  · obtain ⟨c,k,m,rfl,_⟩:=h
    rfl
  obtain ⟨c,k,m,rfl,hm,q⟩:=h
  refine ⟨_,(@pss_cons _ _ _ _ _ (@ps_set _ _ (3) _ _ _ _ xge.nd rfl (Or.inl rfl) (@pe_tupI _ _ _ _ ([1000003,1000033,1000037,1000039,1000081,1000099,1000117,1000121,1000133,1000151,1000159,1000171,1000183,1000187,1000193,1000199]) rfl) (by rfl) (Or.inl rfl)) (@pss_one _ _ _ (@ps_ret _ _ _ _ (@pe_op _ _ _ _ _ _ _ _ op_mod (@pe_op _ _ _ _ _ _ _ _ op_mod (@pe_op _ _ _ _ _ _ _ _ op_add (@pe_op _ _ _ _ _ _ _ _ op_mul (@pv _ 0 _ _ (by rfl) (Or.inl rfl) (by decide) (by decide)) (@pe_int _ _ _ _)) (@pe_op _ _ _ _ _ _ _ _ op_mul (@pv _ 1 _ _ (by rfl) (Or.inl rfl) (by decide) (by decide)) (@pe_int _ _ _ _))) (@pe_ix _ _ _ _ _ _ _ ix_tup (@pv _ 3 _ _ (by rfl) (Or.inl rfl) (by decide) (by decide)) (@pe_op _ _ _ _ _ _ _ _ op_mod (@pv _ 1 _ _ (by rfl) (Or.inl rfl) (by decide) (by decide)) (@pe_int _ _ _ _)) (fun _ _=>rfl))) (@pv _ 2 _ _ (by rfl) (Or.inl rfl) (by decide) (by decide)))))),?_⟩
  refine ⟨(by show 16 ≤ sizeLine; decide),fun t ht=>?_⟩
  have h0:=Int.emod_nonneg k (show (16:Int) ≠ 0 by decide)
  have h1:=Int.emod_lt_of_pos k (show (0:Int) < 16 by decide)
  obtain ⟨p,hp0,ep⟩:=draw_prime h0 h1
  refine ⟨_,rfl,_,_,rfl,rfl,.inr ⟨by decide,by decide⟩,_,rfl,_,_,rfl,rfl,.inr ⟨by decide,by decide⟩,_,_,rfl,rfl,_,rfl,_,rfl,_,_,rfl,rfl,(by show (0:Int) < 16; decide),?_⟩
  refine ⟨t,_,_,_,rfl,rfl,SqT.of upd_same,ep,_,_,rfl,rfl,hp0,_,rfl,_,_,rfl,rfl,hm,?_⟩
  exact q _ _ (Int.emod_nonneg _ (by omega)) (Int.emod_lt_of_pos _ hm) (same_new ht _)
def TupAt (H:Hp) (b:Addr) (p:Int × Int):Prop:=H b = some (.tup [.int p.1,.int p.2])
theorem turns_most {k:Int} (h0:0 ≤ k) (h1:k < 4):∃ m:Int,atI (List.map V.int [12,200,1000000,30]) k = some (.int m) ∧ 12 ≤ m ∧ m ≤ 1000000:=by
  have:k = 0 ∨ k = 1 ∨ k = 2 ∨ k = 3:=by omega
  rcases this with rfl | rfl | rfl | rfl
  · exact ⟨12,rfl,by decide,by decide⟩
  · exact ⟨200,rfl,by decide,by decide⟩
  · exact ⟨1000000,rfl,by decide,by decide⟩
  · exact ⟨30,rfl,by decide,by decide⟩
theorem turns_few {k:Int} (h0:0 ≤ k) (h1:k < 15):∃ m:Int,atI (List.map V.int [1,2,4,8,3,9,27,6,12,18,36,5,10,20,60]) k = some (.int m) ∧ 1 ≤ m ∧ m ≤ 1000000:=by
  obtain ⟨v,hv,e⟩:=atI_int (ns:=[1,2,4,8,3,9,27,6,12,18,36,5,10,20,60]) h0 h1
  have:∀ z ∈ ([1,2,4,8,3,9,27,6,12,18,36,5,10,20,60]:List Int),1 ≤ z ∧ z ≤ 1000000:=by decide
  exact ⟨v,e,(this v hv).1,(this v hv).2⟩
def TsOk (ts:List Int):Prop:=∀ t ∈ ts,1 ≤ t ∧ t ≤ 1000000
def sp_turns (K:PySem.W.Frag):Sp:=fun vs H Q _=>∃ (a:Addr) (ns:List Int),vs = [.ref a] ∧ IntsAt K H a ns ∧ ns.length ≤ 63 ∧
  ∀ l ts H',TsOk ts → ts.length = ns.length → H l = none → LstAt H' l ts → Same H H' → Q (.ref l) H'
set_option maxHeartbeats 2000000 in
theorem xf4 (T:Txt K mg A):FnOk P w K mg base CX0 2 A.xeY A.xfp ["_law_script"] (sp_turns K):=by
  have xcV:=xdl (P:=P) (w:=w) (base:=base) T
  have xgt:=xhT (P:=P) (w:=w) (base:=base) T
  refine T.xeP.ok xev (fun vs H Q E h=>?_) (fun cdv Ar outer s H vs Q E hr h=>?_)
  · obtain ⟨a,ns,rfl,_⟩:=h
    rfl
  obtain ⟨a,ns,rfl,ha,hlen,q⟩:=h
  refine ⟨_,(@pss_cons _ _ _ _ _ (@ps_set _ _ (1) _ _ _ _ xev.nd rfl (Or.inl rfl) (@pe_call _ _ _ _ _ _ _ _ _ _ _ _ _ _ _ _ xgt (hr.mono (by decide)) rfl T.xhF T.xhw T.xe4 .nil pass0 (@pa_consN _ _ _ _ _ (@pe_call _ _ _ _ _ _ _ _ _ _ _ _ _ _ _ _ xcV (hr.mono (by decide)) rfl T.xdg T.xdc T.xcv .nil pass0 (@pa_consN _ _ _ _ _ (@pv _ 0 _ _ (by rfl) (Or.inl rfl) (by decide) (by decide)) (@pa_consN _ _ _ _ _ (@pe_int _ _ _ _) (@pa_nil _) (by rfl)) (by rfl)) (by decide) (by rfl) (by rfl)) (@pa_consN _ _ _ _ _ (@pe_int _ _ _ _) (@pa_consN _ _ _ _ _ (@pe_int _ _ _ _) (@pa_nil _) (by rfl)) (by rfl)) (by rfl)) (by decide) (by rfl) (by rfl)) (by rfl) (Or.inl rfl)) (@pss_cons _ _ _ _ _ (@ps_set _ _ (2) _ _ _ _ xev.nd rfl (Or.inl rfl) (@pe_lst _ _ _ _ (@pa_nil _)) (by rfl) (Or.inl rfl)) (@pss_cons _ _ _ _ _ (@ps_for _ _ _ _ _ _ _ _ PassesOwn.never rfl (@pi_range1 _ _ _ _ _ _ rfl T.b_range (@pa_consN _ _ _ _ _ (@pe_callB _ _ _ _ _ _ _ _ _ call_len_seq rfl T.b_len B.len (@pa_consN _ _ _ _ _ (@pv _ 0 _ _ (by rfl) (Or.inl rfl) (by decide) (by decide)) (@pa_nil _) (by rfl)) (by decide) (by decide) (by rfl) (by rfl)) (@pa_nil _) (by rfl)) (by rfl)) (@pg_name _ _ (3) _ xev.nd rfl (Or.inl rfl) (Or.inl rfl)) (@pss_cons _ _ _ _ _ (@ps_set _ _ (4) _ _ _ _ xev.nd rfl (Or.inl rfl) (@pe_op _ _ _ _ _ _ _ _ op_add (@pe_int _ _ _ _) (@pe_call _ _ _ _ _ _ _ _ _ _ _ _ _ _ _ _ xgt (hr.mono (by decide)) rfl T.xhF T.xhw T.xe4 .nil pass0 (@pa_consN _ _ _ _ _ (@pe_ix _ _ _ _ _ _ _ ix_list (@pv _ 0 _ _ (by rfl) (Or.inl rfl) (by decide) (by decide)) (@pv _ 3 _ _ (by rfl) (Or.inl rfl) (by decide) (by decide)) (fun _ _=>rfl)) (@pa_consN _ _ _ _ _ (@pe_op _ _ _ _ _ _ _ _ op_add (@pe_op _ _ _ _ _ _ _ _ op_mod (@pv _ 3 _ _ (by rfl) (Or.inl rfl) (by decide) (by decide)) (@pe_int _ _ _ _)) (@pe_int _ _ _ _)) (@pa_consN _ _ _ _ _ (@pe_ix _ _ _ _ _ _ _ ix_tup (@pe_tupI _ _ _ _ ([12,200,1000000,30]) rfl) (@pv _ 1 _ _ (by rfl) (Or.inl rfl) (by decide) (by decide)) (fun _ _=>rfl)) (@pa_nil _) (by rfl)) (by rfl)) (by rfl)) (by decide) (by rfl) (by rfl))) (by rfl) (Or.inl rfl)) (@pss_cons _ _ _ _ _ (@ps_if _ _ _ _ _ _ _ _ (@pt_cmpR _ _ _ _ _ _ _ _ op_eqI (@pv _ 1 _ _ (by rfl) (Or.inl rfl) (by decide) (by decide)) (@pe_int _ _ _ _) (nomark _)) (@pss_one _ _ _ (@ps_set _ _ (4) _ _ _ _ xev.nd rfl (Or.inl rfl) (@pe_ix _ _ _ _ _ _ _ ix_tup (@pe_tupI _ _ _ _ ([1,2,4,8,3,9,27,6,12,18,36,5,10,20,60]) rfl) (@pe_op _ _ _ _ _ _ _ _ op_mod (@pv _ 4 _ _ (by rfl) (Or.inl rfl) (by decide) (by decide)) (@pe_int _ _ _ _)) (fun _ _=>rfl)) (by rfl) (Or.inl rfl))) (@pss_nil _)) (@pss_one _ _ _ (@ps_expr _ _ _ _ (@pe_bm _ _ _ _ _ _ _ _ _ _ _ _ PySem.F.plainAttrs_list PySem.F.slot_list_append PySem.F.type_list_append mt_append (@pv _ 2 _ _ (by rfl) (Or.inl rfl) (by decide) (by decide)) (@pa_consN _ _ _ _ _ (@pv _ 4 _ _ (by rfl) (Or.inl rfl) (by decide) (by decide)) (@pa_nil _) (by rfl)) (by rfl) (by rfl) (by rfl) (by rfl) (by rfl)) (by rfl))))) (by intro _; rfl)) (@pss_one _ _ _ (@ps_ret _ _ _ _ (@pv _ 2 _ _ (by rfl) (Or.inl rfl) (by decide) (by decide))))))),?_⟩
  refine ⟨_,rfl,a,ns,0,rfl,ha,(by decide),fun c0=>⟨c0,6,4,rfl,(by decide),fun kind H1 k0 k1 s1=>?_⟩⟩
  refine ⟨(by show 0 ≤ sizeLine; decide),fun l hl=>?_⟩
  have s4:=s1.trans (same_new hl (.lst []))
  have hl0:H l = none:=s1.free hl
  refine ⟨_,rfl,a,_,rfl,.inl (s4.ints ha),_,rfl,?_⟩
  rw [List.length_map]
  refine ⟨by omega,by omega,?_⟩
  rw [show ((ns.length:Int)).toNat = ns.length by omega]
  refine for_range (lo:=0) (n:=ns.length) (fun i σ H'=>∃ (ts:List Int) (f1 f2:Option V),σ = [some (.ref a),some (.int kind),some (.ref l),f1,f2] ∧ Same H H' ∧ LstAt H' l ts ∧ ts.length = i ∧ TsOk ts) ⟨[],_,_,rfl,s4,upd_same,rfl,fun _ z=>nomatch z⟩ ?_ ?_
  · rintro i σ H' hi ⟨ts,f1,f2,rfl,sH,hL,hi2,hO⟩
    obtain ⟨c,hc,ec⟩:=atI_int (ns:=ns) (i:=0 + (i:Int)) (by omega) (by omega)
    obtain ⟨most,em,hm0,hm1⟩:=turns_most k0 k1
    have push:∀ (x:Int) (H5:Hp),1 ≤ x → x ≤ 1000000 → Same H' H5 → rAppend (.ref l) [.int x] H5 (fun _ H6=>∃ (ts:List Int) (f1 f2:Option V),[some (V.ref a),some (V.int kind),some (V.ref l),some (V.int (0 + (i:Int))),some (V.int x)] = [some (.ref a),some (.int kind),some (.ref l),f1,f2] ∧ Same H H6 ∧ LstAt H6 l ts ∧ ts.length = i + 1 ∧ TsOk ts):=fun x H5 x0 x1 sh=>by
      have hL5:=sh _ _ hL
      refine ⟨l,_,_,rfl,rfl,hL5,?_,ts ++ [x],_,_,rfl,?_,?_,?_,?_⟩
      · rw [List.length_map]; exact small1000 (by omega)
      · intro b o e
        rw [upd_ne (ne_of_none e hl0)]
        exact (sH.trans sh) b o e
      · show upd H5 l _ l = _
        rw [upd_same,List.map_append]; rfl
      · rw [List.length_append,hi2]; rfl
      · intro t ht
        rcases List.mem_append.mp ht with z | z
        · exact hO t z
        · rw [List.mem_singleton.mp z]; exact ⟨x0,x1⟩
    refine ⟨_,rfl,_,rfl,a,_,_,_,rfl,rfl,sH.ints ha,ec,_,rfl,_,_,rfl,rfl,(by show (0:Int) < 5; decide),_,_,rfl,rfl,?_⟩
    refine ⟨(by show 4 ≤ sizeLine; decide),fun u hu=>?_⟩
    have su:=same_new hu (.tup (List.map V.int [12,200,1000000,30]))
    refine ⟨_,rfl,u,_,_,_,rfl,rfl,SqT.of upd_same,em,c,_,most,rfl,(by omega),fun v H3 v0 v1 sv=>⟨_,_,rfl,rfl,?_⟩⟩
    have sK:=su.trans sv
    refine ⟨_,rfl,_,_,rfl,rfl,_,rfl,?_⟩
    by_cases h3:kind = 3
    · rw [decT h3]
      refine iteT ?_
      refine ⟨(by show 15 ≤ sizeLine; decide),fun u2 hu2=>?_⟩
      have sU:=sK.trans (same_new hu2 (.tup (List.map V.int [1,2,4,8,3,9,27,6,12,18,36,5,10,20,60])))
      have h0:=Int.emod_nonneg (1 + v) (show (15:Int) ≠ 0 by decide)
      have h1:=Int.emod_lt_of_pos (1 + v) (show (0:Int) < 15 by decide)
      obtain ⟨x,ex,x0,x1⟩:=turns_few h0 h1
      refine ⟨_,rfl,_,_,rfl,rfl,(by show (0:Int) < 15; decide),u2,_,_,_,rfl,rfl,SqT.of upd_same,ex,?_⟩
      refine ⟨_,rfl,.inl ⟨rfl,_,SqL.of (sU _ _ hL)⟩,_,rfl,?_⟩
      exact push x _ x0 x1 sU
    · rw [decF h3]
      refine iteF ?_
      refine ⟨_,rfl,.inl ⟨rfl,_,SqL.of (sK _ _ hL)⟩,_,rfl,?_⟩
      exact push (1 + v) _ (by omega) (by omega) sK
  · rintro σ H' ⟨ts,f1,f2,rfl,sH,hL,hi2,hO⟩
    exact ⟨_,rfl,q l ts H' hO hi2 hl0 hL sH⟩
theorem PrsAt.rep {H:Hp} {a:Addr} {rs:List (Int × Int)} (h:PrsAt H a rs):RepL K (repP K) H a rs:=by
  obtain ⟨as,h1,h2⟩:=h
  refine ⟨_,SqL.of h1,?_⟩
  clear h1
  induction h2 with
  | nil=>exact .nil
  | cons x r ih=>exact .cons ⟨_,rfl,SqT.of x⟩ ih
theorem paired_set {α β:Type} {F:α → β → Prop} {a:α} {b:β} (h:F a b):∀ {l₁:List α} {l₂:List β} (j:Nat),Paired F l₁ l₂ → Paired F (l₁.set j a) (l₂.set j b)
  | [],[],_,_=>.nil
  | [],_ :: _,_,r=>nomatch r
  | _ :: _,[],_,r=>nomatch r
  | _ :: _,_ :: _,0,.cons x r=>.cons h r
  | _ :: _,_ :: _,j + 1,.cons x r=>.cons x (paired_set h j r)
theorem rs_of {ts:List Int} (h:TsOk ts) (n:Int):RsOk (ts.map fun t=>(n % t,t)):=by
  intro p hp
  obtain ⟨t,ht,rfl⟩:=List.mem_map.mp hp
  have:=h t ht
  exact ⟨Int.emod_nonneg _ (by omega),Int.emod_lt_of_pos _ (by omega),this.2⟩
def sp_rests (K:PySem.W.Frag):Sp:=fun vs H Q _=>∃ (a:Addr) (ns:List Int),vs = [.ref a] ∧ SqX K H a (ns.map V.int) ∧ ns.length ≤ 63 ∧
  ∀ l rs H',RsOk rs → rs.length = ns.length → PrsAt H' l rs → Same H H' → Q (.ref l) H'
set_option maxHeartbeats 2000000 in
theorem xf3 (T:Txt K mg A):FnOk P w K mg base CX0 3 A.xeX A.xfo ["_law_script"] (sp_rests K):=by
  have xcV:=xdl (P:=P) (w:=w) (base:=base) T
  have xgt:=xhT (P:=P) (w:=w) (base:=base) T
  have xeT:=xf4 (P:=P) (w:=w) (base:=base) T
  refine T.xeO.ok xeu (fun vs H Q E h=>?_) (fun cdv Ar outer s H vs Q E hr h=>?_)
  · obtain ⟨a,ns,rfl,_⟩:=h
    rfl
  obtain ⟨a,ns,rfl,ha,hlen,q⟩:=h
  refine ⟨_,(@pss_cons _ _ _ _ _ (@ps_set _ _ (1) _ _ _ _ xeu.nd rfl (Or.inr rfl) (@pe_callB _ _ _ _ _ _ _ _ _ (call_sum rfl) rfl T.b_sum B.sum (@pa_consN _ _ _ _ _ (@pe_comp0 _ _ (["_law_k", "_law_cell"]) ([none,none]) _ _ _ _ _ _ _ _ xcp rfl (@pi_enumX _ _ _ _ _ _ _ _ rfl T.b_enumerate (@pa_consN _ _ _ _ _ (@pv _ 0 _ _ (by rfl) (Or.inl rfl) (by decide) (by decide)) (@pa_nil _) (by rfl)) (by rfl)) (fun z=>(@pg_tup _ _ _ _ _ (2) rfl (@pgs_cons _ _ _ _ _ (@pg_name _ _ (0) _ xcp.nd rfl (Or.inl rfl) (by exact .inr rfl)) (@pgs_cons _ _ _ _ _ (@pg_name _ _ (1) _ xcp.nd rfl (Or.inl rfl) (by exact .inr rfl)) (@pgs_nil _) (by rfl)) (by rfl)) (by rfl) (by rfl))) (sets_two _ _ 0 1) (by decide) (fun z=>(@pe_op _ _ _ _ _ _ _ _ op_mul (@pe_op _ _ _ _ _ _ _ _ op_mod (@pe_callB _ _ _ _ _ _ _ _ _ call_abs rfl T.b_abs B.abs (@pa_consN _ _ _ _ _ (@pv _ 1 _ _ (by rfl) (by exact .inl rfl) (by decide) (by decide)) (@pa_nil _) (by rfl)) (by decide) (by decide) (by rfl) (by rfl)) (@pe_op _ _ _ _ _ _ _ _ op_pow (@pe_int _ _ _ _) (@pe_int _ _ _ _))) (@pe_op _ _ _ _ _ _ _ _ op_add (@pv _ 0 _ _ (by rfl) (by exact .inl rfl) (by decide) (by decide)) (@pe_int _ _ _ _)))) (by intro _; rfl)) (@pa_nil _) (by rfl)) (by decide) (by decide) (by rfl) (by rfl)) (by rfl) (Or.inl rfl)) (@pss_cons _ _ _ _ _ (@ps_setComp0 _ _ (["_law_far", "_law_turn"]) ([some 1,none]) _ _ _ _ _ _ _ _ (2) _ _ _ xeu.nd rfl rfl xcq rfl (@pi_list _ _ _ _ (@pe_call _ _ _ _ _ _ _ _ _ _ _ _ _ _ _ _ xeT (hr.mono (by decide)) rfl T.xfQ T.xfH T.xdD .nil pass0 (@pa_consN _ _ _ _ _ (@pv _ 0 _ _ (by rfl) (Or.inl rfl) (by decide) (by decide)) (@pa_nil _) (by rfl)) (by decide) (by rfl) (by rfl))) (fun z=>(@pg_name _ _ (1) _ xcq.nd rfl (Or.inl rfl) (by exact .inr rfl))) (sets_name 1) (by decide) (fun z=>(@pe_tup _ _ _ _ _ (@pa_consN _ _ _ _ _ (@pe_op _ _ _ _ _ _ _ _ op_mod (@pv _ 0 _ _ (by rfl) (by exact .inr (.inl rfl)) (by decide) (by decide)) (@pv _ 1 _ _ (by rfl) (by exact .inl rfl) (by decide) (by decide))) (@pa_consN _ _ _ _ _ (@pv _ 1 _ _ (by rfl) (by exact .inl rfl) (by decide) (by decide)) (@pa_nil _) (by rfl)) (by rfl)))) (by rfl) (by intro _; rfl)) (@pss_cons _ _ _ _ _ (@ps_if _ _ _ _ _ _ _ _ (@PW.pt _ _ _ (@pw_and _ _ _ _ _ _ _ (@pt_cmpR _ _ _ _ _ _ _ _ (op_neL (eqty_pair (hu_of hr)) hr.units0) (@pv _ 2 _ _ (by rfl) (Or.inl rfl) (by decide) (by decide)) (@pe_lst _ _ _ _ (@pa_nil _)) (nomark _)) (@pw_and1 _ _ _ _ (@pt_cmpR _ _ _ _ _ _ _ _ op_eqI (@pe_call _ _ _ _ _ _ _ _ _ _ _ _ _ _ _ _ xgt (hr.mono (by decide)) rfl T.xhF T.xhw T.xe4 .nil pass0 (@pa_consN _ _ _ _ _ (@pe_call _ _ _ _ _ _ _ _ _ _ _ _ _ _ _ _ xcV (hr.mono (by decide)) rfl T.xdg T.xdc T.xcv .nil pass0 (@pa_consN _ _ _ _ _ (@pv _ 0 _ _ (by rfl) (Or.inl rfl) (by decide) (by decide)) (@pa_consN _ _ _ _ _ (@pe_int _ _ _ _) (@pa_nil _) (by rfl)) (by rfl)) (by decide) (by rfl) (by rfl)) (@pa_consN _ _ _ _ _ (@pe_int _ _ _ _) (@pa_consN _ _ _ _ _ (@pe_int _ _ _ _) (@pa_nil _) (by rfl)) (by rfl)) (by rfl)) (by decide) (by rfl) (by rfl)) (@pe_int _ _ _ _) (nomark _))))) (@pss_cons _ _ _ _ _ (@ps_set _ _ (3) _ _ _ _ xeu.nd rfl (Or.inl rfl) (@pe_call _ _ _ _ _ _ _ _ _ _ _ _ _ _ _ _ xgt (hr.mono (by decide)) rfl T.xhF T.xhw T.xe4 .nil pass0 (@pa_consN _ _ _ _ _ (@pe_call _ _ _ _ _ _ _ _ _ _ _ _ _ _ _ _ xcV (hr.mono (by decide)) rfl T.xdg T.xdc T.xcv .nil pass0 (@pa_consN _ _ _ _ _ (@pv _ 0 _ _ (by rfl) (Or.inl rfl) (by decide) (by decide)) (@pa_consN _ _ _ _ _ (@pe_int _ _ _ _) (@pa_nil _) (by rfl)) (by rfl)) (by decide) (by rfl) (by rfl)) (@pa_consN _ _ _ _ _ (@pe_int _ _ _ _) (@pa_consN _ _ _ _ _ (@pe_callB _ _ _ _ _ _ _ _ _ call_len_seq rfl T.b_len B.len (@pa_consN _ _ _ _ _ (@pv _ 2 _ _ (by rfl) (Or.inl rfl) (by decide) (by decide)) (@pa_nil _) (by rfl)) (by decide) (by decide) (by rfl) (by rfl)) (@pa_nil _) (by rfl)) (by rfl)) (by rfl)) (by decide) (by rfl) (by rfl)) (by rfl) (Or.inl rfl)) (@pss_one _ _ _ (@ps_asg _ _ _ _ _ _ (@pe_tup _ _ _ _ _ (@pa_consN _ _ _ _ _ (@pe_op _ _ _ _ _ _ _ _ op_mod (@pe_op _ _ _ _ _ _ _ _ op_add (@pe_ix _ _ _ _ _ _ _ ix_tup (@pe_ix _ _ _ _ _ _ _ ix_list (@pv _ 2 _ _ (by rfl) (Or.inl rfl) (by decide) (by decide)) (@pv _ 3 _ _ (by rfl) (Or.inl rfl) (by decide) (by decide)) (fun _ _=>rfl)) (@pe_int _ _ _ _) (fun _ _=>rfl)) (@pe_call _ _ _ _ _ _ _ _ _ _ _ _ _ _ _ _ xgt (hr.mono (by decide)) rfl T.xhF T.xhw T.xe4 .nil pass0 (@pa_consN _ _ _ _ _ (@pe_call _ _ _ _ _ _ _ _ _ _ _ _ _ _ _ _ xcV (hr.mono (by decide)) rfl T.xdg T.xdc T.xcv .nil pass0 (@pa_consN _ _ _ _ _ (@pv _ 0 _ _ (by rfl) (Or.inl rfl) (by decide) (by decide)) (@pa_consN _ _ _ _ _ (@pe_int _ _ _ _) (@pa_nil _) (by rfl)) (by rfl)) (by decide) (by rfl) (by rfl)) (@pa_consN _ _ _ _ _ (@pe_int _ _ _ _) (@pa_consN _ _ _ _ _ (@pe_int _ _ _ _) (@pa_nil _) (by rfl)) (by rfl)) (by rfl)) (by decide) (by rfl) (by rfl))) (@pe_ix _ _ _ _ _ _ _ ix_tup (@pe_ix _ _ _ _ _ _ _ ix_list (@pv _ 2 _ _ (by rfl) (Or.inl rfl) (by decide) (by decide)) (@pv _ 3 _ _ (by rfl) (Or.inl rfl) (by decide) (by decide)) (fun _ _=>rfl)) (@pe_int _ _ _ _) (fun _ _=>rfl))) (@pa_consN _ _ _ _ _ (@pe_ix _ _ _ _ _ _ _ ix_tup (@pe_ix _ _ _ _ _ _ _ ix_list (@pv _ 2 _ _ (by rfl) (Or.inl rfl) (by decide) (by decide)) (@pv _ 3 _ _ (by rfl) (Or.inl rfl) (by decide) (by decide)) (fun _ _=>rfl)) (@pe_int _ _ _ _) (fun _ _=>rfl)) (@pa_nil _) (by rfl)) (by rfl))) (@pg_sub _ _ _ _ _ _ _ (@pv _ 2 _ _ (by rfl) (Or.inl rfl) (by decide) (by decide)) (@pv _ 3 _ _ (by rfl) (Or.inl rfl) (by decide) (by decide)) set_list (by intro _; rfl)) (by rfl) (by rfl) (by rfl)))) (@pss_nil _)) (@pss_one _ _ _ (@ps_ret _ _ _ _ (@pv _ 2 _ _ (by rfl) (Or.inl rfl) (by decide) (by decide))))))),?_⟩
  refine ⟨_,rfl,a,rfl,⟨_,ha⟩,comp_enum (K:=K) (a:=a) (xs:=ns.map V.int) (fun i ys H'=>Same H H' ∧ ∃ ms:List Int,ys = ms.map V.int ∧ ms.length = i) ⟨Same.refl _,[],rfl,rfl⟩ (by rw [List.length_map]; exact small100 (by omega)) ?_ ?_ ?_⟩
  · rintro i ys H' hi ⟨hs,ms,rfl,hm⟩
    exact ⟨(ha.same hs).sq,by rw [List.length_map]; exact hm⟩
  · rintro i x ys H' u hx ⟨hs,ms,rfl,hm⟩ hu
    obtain ⟨n,hn,rfl⟩:=ints_get hx
    refine ⟨u,_,rfl,SqT.of upd_same,rfl,_,_,rfl,_,_,rfl,rfl,?_⟩
    refine ⟨_,rfl,n,rfl,_,_,rfl,rfl,⟨by decide,by decide,by decide⟩,_,_,rfl,rfl,(by show (0:Int) < 10 ^ (9:Int).toNat; decide),?_⟩
    have h0:=Int.emod_nonneg (if n < 0 then -n else n) (show ((10:Int) ^ (9:Int).toNat) ≠ 0 by decide)
    have h1:=Int.emod_lt_of_pos (if n < 0 then -n else n) (show (0:Int) < ((10:Int) ^ (9:Int).toNat) by decide)
    rw [show ((10:Int) ^ (9:Int).toNat) = 1000000000 by decide] at h0 h1 ⊢
    refine ⟨_,rfl,_,_,rfl,rfl,_,_,rfl,rfl,.inl ⟨by omega,by omega⟩,hs.trans (same_new hu _),?_⟩
    exact ⟨ms ++ [_],by rw [List.map_append]; rfl,by rw [List.length_append,hm]; rfl⟩
  · rintro ys H' ⟨hs,ms,rfl,hm⟩ l hl
    have s1:=hs.trans (same_new hl (.lst (ms.map V.int)))
    refine ⟨l,ms,rfl,SqL.of upd_same,?_⟩
    generalize ms.sum = far
    refine ⟨_,rfl,a,ns,rfl,(ha.same s1).sq,hlen,fun lt ts H2 hT hTl hfr hL s2=>?_⟩
    have s12:=s1.trans s2
    refine ⟨lt,rfl,⟨_,LstAt.ints hL⟩,comp_list (K:=K) (a:=lt) (xs:=ts.map V.int) (fun i ys H'=>Same H H' ∧ LstAt H' lt ts ∧ ∃ as:List Addr,ys = as.map V.ref ∧ Paired (TupAt H') as ((ts.take i).map fun t=>(far % t,t))) ⟨s12,hL,[],rfl,.nil⟩ (by rw [List.length_map]; exact small100 (by omega)) ?_ ?_ ?_⟩
    · rintro i ys H3 hi ⟨hs3,hL3,as,rfl,hP⟩
      rw [List.length_map] at hi
      have hal:=hP.length
      rw [List.length_map,List.length_take] at hal
      exact ⟨LstAt.ints hL3,by rw [List.length_map]; omega⟩
    · rintro i x ys H3 hx ⟨hs3,hL3,as,rfl,hP⟩
      obtain ⟨t,ht,rfl⟩:=ints_get hx
      have hb:=hT t (List.mem_of_getElem? ht)
      refine ⟨_,rfl,_,rfl,_,_,rfl,rfl,(by omega),_,rfl,(by show 2 ≤ sizeLine; decide),fun u hu=>?_⟩
      have su:=same_new hu (.tup [.int (far % t),.int t])
      refine ⟨hs3.trans su,su _ _ hL3,as ++ [u],by rw [List.map_append]; rfl,?_⟩
      rw [take_snoc ht,List.map_append]
      exact paired_snoc (Paired.mapP hP fun b p z=>su _ _ z) upd_same
    · rintro ys H3 ⟨hs3,hL3,as,rfl,hP⟩ l2 hl2
      rw [List.length_map,List.take_length] at hP
      have su:=same_new hl2 (.lst (as.map V.ref))
      have hF:H l2 = none:=hs3.free hl2
      have s4:=hs3.trans su
      have hP4:Paired (TupAt (upd H3 l2 (.lst (as.map V.ref)))) as (ts.map fun t=>(far % t,t)):=Paired.mapP hP fun b p z=>su _ _ z
      have hR:=rs_of hT far
      have hRl:(ts.map fun t=>(far % t,t)).length = ns.length:=by rw [List.length_map]; exact hTl
      generalize (ts.map fun t=>(far % t,t)) = rs at hP4 hR hRl
      have hA:PrsAt (upd H3 l2 (.lst (as.map V.ref))) l2 rs:=⟨as,upd_same,hP4⟩
      refine ⟨_,rfl,(by show 0 ≤ sizeLine; decide),fun e he=>?_⟩
      have se:=same_new he (.lst [])
      have s5:=s4.trans se
      refine ⟨l2,e,rs,[],rfl,rfl,(hA.same se).rep,⟨_,SqL.of upd_same,.nil⟩,_,rfl,?_⟩
      by_cases h0:rs = []
      · rw [decT h0]
        refine iteF ?_
        exact ⟨_,rfl,q l2 rs _ hR hRl (hA.same se) s5⟩
      rw [decF h0]
      refine iteT ?_
      refine ⟨_,rfl,a,ns,1,rfl,(ha.same s5).sq,(by decide),fun c1=>⟨c1,7,2,rfl,(by decide),fun d H5 d0 d1 sd=>⟨_,_,rfl,rfl,_,rfl,?_⟩⟩⟩
      have s6:=s5.trans sd
      have s46:=se.trans sd
      by_cases h1:d = 0
      case neg =>
        rw [decF h1]
        refine iteF ?_
        exact ⟨_,rfl,q l2 rs _ hR hRl (hA.same s46) s6⟩
      rw [decT h1]
      refine iteT ?_
      have hA6:=hA.same s46
      obtain ⟨as6,hL6,hP6⟩:=id hA6
      have hal6:=hP6.length
      have hpos:0 < rs.length:=by
        cases rs with
        | nil=>exact absurd rfl h0
        | cons=>rw [List.length_cons]; omega
      refine ⟨_,rfl,a,ns,2,rfl,(ha.same s6).sq,(by decide),fun c2=>⟨_,rfl,l2,_,rfl,.inl (SqL.of hL6),c2,1,_,rfl,(by rw [List.length_map,hal6]; omega),fun k H6 k0 k1 sk=>?_⟩⟩
      rw [List.length_map,hal6] at k1
      have s7:=s6.trans sk
      have hk:k.toNat < rs.length:=by omega
      have ek:((k.toNat:Nat):Int) = k:=by omega
      have hxs:(as6.map V.ref)[k.toNat]? = some (.ref (as6[k.toNat]'(by omega))):=by rw [List.getElem?_map,List.getElem?_eq_getElem (by omega)]; rfl
      obtain ⟨b,r,eb,hb,hr',hq⟩:=prs_get hP6 hxs
      have ea:=atI_nat hxs
      rw [ek,eb] at ea
      have hrO:=hR r (List.mem_of_getElem? hr')
      have hq6:=sk _ _ hq
      have hL7:=sk _ _ hL6
      refine ⟨_,rfl,_,rfl,l2,_,_,_,rfl,rfl,SqL.of hL7,ea,b,_,_,_,rfl,rfl,SqT.of hq6,rfl,?_⟩
      refine ⟨_,rfl,a,ns,3,rfl,(ha.same s7).sq,(by decide),fun c3=>⟨c3,2,7,rfl,(by decide),fun d3 H7 e0 e1 s8'=>⟨_,_,rfl,rfl,?_⟩⟩⟩
      have s8:=s7.trans s8'
      have hq7:=s8' _ _ hq6
      have hL8:=s8' _ _ hL7
      refine ⟨_,rfl,_,rfl,l2,_,_,_,rfl,rfl,SqL.of hL8,ea,b,_,_,_,rfl,rfl,SqT.of hq7,rfl,_,_,rfl,rfl,(by omega),?_⟩
      refine ⟨_,rfl,_,rfl,l2,_,_,_,rfl,rfl,SqL.of hL8,ea,b,_,_,_,rfl,rfl,SqT.of hq7,rfl,?_⟩
      refine ⟨(by show 2 ≤ sizeLine; decide),fun u hu=>?_⟩
      have s9':=same_new hu (.tup [.int ((r.1 + d3) % r.2),.int r.2])
      have hL9:=s9' _ _ hL8
      have hix:ixN (as6.map V.ref).length k = some k.toNat:=by
        unfold ixN
        rw [if_pos k0,if_pos (by rw [List.length_map,hal6]; omega)]
      refine ⟨_,rfl,_,rfl,l2,_,_,k.toNat,rfl,rfl,hL9,hix,_,rfl,?_⟩
      have hP9:Paired (TupAt (upd H7 u (.tup [.int ((r.1 + d3) % r.2),.int r.2]))) as6 rs:=Paired.mapP hP6 fun b p z=>s9' _ _ (s8' _ _ (sk _ _ z))
      have hu9:TupAt (upd H7 u (.tup [.int ((r.1 + d3) % r.2),.int r.2])) u ((r.1 + d3) % r.2,r.2):=upd_same
      have hP10:=paired_set hu9 k.toNat hP9
      refine q l2 (rs.set k.toNat ((r.1 + d3) % r.2,r.2)) _ ?_ (by rw [List.length_set]; exact hRl) ⟨as6.set k.toNat u,?_,?_⟩ ?_
      · intro p hp
        rcases List.mem_or_eq_of_mem_set hp with z | z
        · exact hR p z
        · rw [z]
          exact ⟨Int.emod_nonneg _ (by omega),Int.emod_lt_of_pos _ (by omega),hrO.2.2⟩
      · rw [upd_same,List.map_set]
      · refine Paired.mapP hP10 fun b p z=>?_
        have z':upd H7 u (.tup [.int ((r.1 + d3) % r.2),.int r.2]) b = some (.tup [.int p.1,.int p.2]):=z
        show upd _ l2 _ b = _
        rw [upd_ne]
        · exact z'
        · rintro rfl
          rw [hL9] at z'
          cases z'
      · intro b o e
        rw [upd_ne (ne_of_none e hF)]
        exact (s8.trans s9') b o e
end
end W08
set_option Elab.async false
set_option linter.all false
set_option maxRecDepth 100000
namespace W08
open PySem L2
section
variable {P:Program} {w:World} {K:PySem.W.Frag} {mg:Str → Option Value} {base:Heap} {A:Adr}
def cj (A:Adr):Nat → Addr
  | 0=>A.xiX | 1=>A.xe8 | 2=>A.xiY | _=>A.xkB
def kinds (j:Nat):List Bool:=[decide (j = 0),decide (j = 1),decide (j = 2),decide (j = 3),false,false,true]
def LstB (H:Hp) (l:Addr) (bs:List Bool):Prop:=H l = some (.lst (bs.map V.bl))
def sp_kinds (A:Adr):Sp:=fun vs H Q _=>∃ ea j,vs = [.ref ea] ∧ j < 4 ∧ H ea = some (exo (cj A j) ea) ∧ ∀ l H',Same H H' → LstB H' l (kinds j) → Q (.ref l) H'
theorem xm_j (T:Txt K mg A):∀ j,j < 4 → PySem.W.exmOne K (.ref (cj A j)) (.ref A.xgN) = some true
  | 0,_=>T.xak | 1,_=>T.xab | 2,_=>T.xal | 3,_=>T.xaD
  | n + 4,h=>absurd h (by omega)
set_option maxHeartbeats 2000000 in
theorem xf2 (T:Txt K mg A):FnOkH P w K mg base 1 A.xeW A.xfn ["_law_error"] (sp_kinds A):=by
  refine T.xeN.okH xet (fun vs H Q E h=>?_) (fun cdv Ar outer s H vs Q E h=>?_)
  · obtain ⟨ea,j,rfl,_⟩:=h
    rfl
  obtain ⟨ea,j,rfl,hj,ho,q⟩:=h
  refine ⟨_,(@pss_cons _ _ _ _ _ (@ps_set _ _ (1) _ _ _ _ xet.nd rfl (Or.inl rfl) (@pe_lst _ _ _ _ (@pa_consN _ _ _ _ _ (@pe_callB _ _ _ _ _ _ _ _ _ call_isexc rfl T.b_isinstance B.isinstance (@pa_consN _ _ _ _ _ (@pv _ 0 _ _ (by rfl) (Or.inl rfl) (by decide) (by decide)) (@pa_consN _ _ _ _ _ (@pe_glob _ _ (.ref _) _ _ rfl T.xjD rfl (by decide)) (@pa_nil _) (by rfl)) (by rfl)) (by decide) (by decide) (by rfl) (by rfl)) (@pa_consN _ _ _ _ _ (@pe_callB _ _ _ _ _ _ _ _ _ call_isexc rfl T.b_isinstance B.isinstance (@pa_consN _ _ _ _ _ (@pv _ 0 _ _ (by rfl) (Or.inl rfl) (by decide) (by decide)) (@pa_consN _ _ _ _ _ (@pe_glob _ _ (.ref _) _ _ rfl T.xfN rfl (by decide)) (@pa_nil _) (by rfl)) (by rfl)) (by decide) (by decide) (by rfl) (by rfl)) (@pa_consN _ _ _ _ _ (@pe_callB _ _ _ _ _ _ _ _ _ call_isexc rfl T.b_isinstance B.isinstance (@pa_consN _ _ _ _ _ (@pv _ 0 _ _ (by rfl) (Or.inl rfl) (by decide) (by decide)) (@pa_consN _ _ _ _ _ (@pe_glob _ _ (.ref _) _ _ rfl T.xjE rfl (by decide)) (@pa_nil _) (by rfl)) (by rfl)) (by decide) (by decide) (by rfl) (by rfl)) (@pa_nil _) (by rfl)) (by rfl)) (by rfl))) (by rfl) (Or.inl rfl)) (@pss_cons _ _ _ _ _ (@ps_set _ _ (1) _ _ _ _ xet.nd rfl (Or.inl rfl) (@pe_op _ _ _ _ _ _ _ _ op_cat (@pv _ 1 _ _ (by rfl) (Or.inl rfl) (by decide) (by decide)) (@pe_lst _ _ _ _ (@pa_consN _ _ _ _ _ (@pe_callB _ _ _ _ _ _ _ _ _ call_isexc rfl T.b_isinstance B.isinstance (@pa_consN _ _ _ _ _ (@pv _ 0 _ _ (by rfl) (Or.inl rfl) (by decide) (by decide)) (@pa_consN _ _ _ _ _ (@pe_glob _ _ (.ref _) _ _ rfl T.xk2 rfl (by decide)) (@pa_nil _) (by rfl)) (by rfl)) (by decide) (by decide) (by rfl) (by rfl)) (@pa_consN _ _ _ _ _ (@pe_callB _ _ _ _ _ _ _ _ _ call_isexc rfl T.b_isinstance B.isinstance (@pa_consN _ _ _ _ _ (@pv _ 0 _ _ (by rfl) (Or.inl rfl) (by decide) (by decide)) (@pa_consN _ _ _ _ _ (@pe_glob _ _ (.ref _) _ _ rfl T.xjC rfl (by decide)) (@pa_nil _) (by rfl)) (by rfl)) (by decide) (by decide) (by rfl) (by rfl)) (@pa_consN _ _ _ _ _ (@pe_callB _ _ _ _ _ _ _ _ _ call_isexc rfl T.b_isinstance B.isinstance (@pa_consN _ _ _ _ _ (@pv _ 0 _ _ (by rfl) (Or.inl rfl) (by decide) (by decide)) (@pa_consN _ _ _ _ _ (@pe_glob _ _ (.ref _) _ _ rfl T.xk3 rfl (by decide)) (@pa_nil _) (by rfl)) (by rfl)) (by decide) (by decide) (by rfl) (by rfl)) (@pa_nil _) (by rfl)) (by rfl)) (by rfl)))) (by rfl) (Or.inl rfl)) (@pss_one _ _ _ (@ps_ret _ _ _ _ (@pe_op _ _ _ _ _ _ _ _ op_cat (@pv _ 1 _ _ (by rfl) (Or.inl rfl) (by decide) (by decide)) (@pe_lst _ _ _ _ (@pa_consN _ _ _ _ _ (@pe_callB _ _ _ _ _ _ _ _ _ call_isexc rfl T.b_isinstance B.isinstance (@pa_consN _ _ _ _ _ (@pv _ 0 _ _ (by rfl) (Or.inl rfl) (by decide) (by decide)) (@pa_consN _ _ _ _ _ (@pe_bltn _ _ (.ty "ValueError") _ _ rfl T.b_ValueError B.ValueError rfl (by decide) (by decide)) (@pa_nil _) (by rfl)) (by rfl)) (by decide) (by decide) (by rfl) (by rfl)) (@pa_nil _) (by rfl)))))))),?_⟩
  match j,hj,ho,q with
  | 0,hj,ho,q =>
    refine ⟨_,rfl,ea,_,_,_,_,rfl,ho,T.xg8,rfl,T.xas,_,rfl,ea,_,_,_,_,rfl,ho,T.xg8,rfl,T.xaf,_,rfl,ea,_,_,_,_,rfl,ho,T.xg8,rfl,T.xat,(by show 3 ≤ sizeLine; decide),fun l1 h1=>?_⟩
    have s1:=same_new h1 (.lst (([decide (0 = 0),decide (0 = 1),decide (0 = 2)]:List Bool).map V.bl))
    have ho1:=s1 _ _ ho
    refine ⟨_,rfl,_,rfl,ea,_,_,_,_,rfl,ho1,T.xg8,rfl,T.xaR,_,rfl,ea,_,_,_,_,rfl,ho1,T.xg8,rfl,T.xar,_,rfl,ea,_,_,_,_,rfl,ho1,T.xg8,rfl,T.xaS,(by show 3 ≤ sizeLine; decide),fun l2 h2=>?_⟩
    have s2:=same_new h2 (.lst (([decide (0 = 3),false,false]:List Bool).map V.bl))
    refine ⟨l1,l2,_,_,rfl,rfl,s2 _ _ upd_same,upd_same,(by show 6 ≤ sizeLine; decide),fun l3 h3=>?_⟩
    have s3:=same_new h3 (.lst (([decide (0 = 0),decide (0 = 1),decide (0 = 2)]:List Bool).map V.bl ++ ([decide (0 = 3),false,false]:List Bool).map V.bl))
    have ho3:=s3 _ _ (s2 _ _ ho1)
    refine ⟨_,rfl,_,rfl,ea,_,_,_,_,rfl,ho3,T.xg8,rfl,T.xhh,(by show 1 ≤ sizeLine; decide),fun l4 h4=>?_⟩
    have s4:=same_new h4 (.lst (([true]:List Bool).map V.bl))
    refine ⟨l3,l4,_,_,rfl,rfl,s4 _ _ upd_same,upd_same,(by show 7 ≤ sizeLine; decide),fun l5 h5=>?_⟩
    exact q l5 _ ((((s1.trans s2).trans s3).trans s4).trans (same_new h5 _)) upd_same
  | 1,hj,ho,q =>
    refine ⟨_,rfl,ea,_,_,_,_,rfl,ho,T.xdW,rfl,T.xad,_,rfl,ea,_,_,_,_,rfl,ho,T.xdW,rfl,T.xaa,_,rfl,ea,_,_,_,_,rfl,ho,T.xdW,rfl,T.xae,(by show 3 ≤ sizeLine; decide),fun l1 h1=>?_⟩
    have s1:=same_new h1 (.lst (([decide (1 = 0),decide (1 = 1),decide (1 = 2)]:List Bool).map V.bl))
    have ho1:=s1 _ _ ho
    refine ⟨_,rfl,_,rfl,ea,_,_,_,_,rfl,ho1,T.xdW,rfl,T.xah,_,rfl,ea,_,_,_,_,rfl,ho1,T.xdW,rfl,T.xac,_,rfl,ea,_,_,_,_,rfl,ho1,T.xdW,rfl,T.xai,(by show 3 ≤ sizeLine; decide),fun l2 h2=>?_⟩
    have s2:=same_new h2 (.lst (([decide (1 = 3),false,false]:List Bool).map V.bl))
    refine ⟨l1,l2,_,_,rfl,rfl,s2 _ _ upd_same,upd_same,(by show 6 ≤ sizeLine; decide),fun l3 h3=>?_⟩
    have s3:=same_new h3 (.lst (([decide (1 = 0),decide (1 = 1),decide (1 = 2)]:List Bool).map V.bl ++ ([decide (1 = 3),false,false]:List Bool).map V.bl))
    have ho3:=s3 _ _ (s2 _ _ ho1)
    refine ⟨_,rfl,_,rfl,ea,_,_,_,_,rfl,ho3,T.xdW,rfl,T.xd1,(by show 1 ≤ sizeLine; decide),fun l4 h4=>?_⟩
    have s4:=same_new h4 (.lst (([true]:List Bool).map V.bl))
    refine ⟨l3,l4,_,_,rfl,rfl,s4 _ _ upd_same,upd_same,(by show 7 ≤ sizeLine; decide),fun l5 h5=>?_⟩
    exact q l5 _ ((((s1.trans s2).trans s3).trans s4).trans (same_new h5 _)) upd_same
  | 2,hj,ho,q =>
    refine ⟨_,rfl,ea,_,_,_,_,rfl,ho,T.xg9,rfl,T.xav,_,rfl,ea,_,_,_,_,rfl,ho,T.xg9,rfl,T.xag,_,rfl,ea,_,_,_,_,rfl,ho,T.xg9,rfl,T.xaw,(by show 3 ≤ sizeLine; decide),fun l1 h1=>?_⟩
    have s1:=same_new h1 (.lst (([decide (2 = 0),decide (2 = 1),decide (2 = 2)]:List Bool).map V.bl))
    have ho1:=s1 _ _ ho
    refine ⟨_,rfl,_,rfl,ea,_,_,_,_,rfl,ho1,T.xg9,rfl,T.xaT,_,rfl,ea,_,_,_,_,rfl,ho1,T.xg9,rfl,T.xau,_,rfl,ea,_,_,_,_,rfl,ho1,T.xg9,rfl,T.xaU,(by show 3 ≤ sizeLine; decide),fun l2 h2=>?_⟩
    have s2:=same_new h2 (.lst (([decide (2 = 3),false,false]:List Bool).map V.bl))
    refine ⟨l1,l2,_,_,rfl,rfl,s2 _ _ upd_same,upd_same,(by show 6 ≤ sizeLine; decide),fun l3 h3=>?_⟩
    have s3:=same_new h3 (.lst (([decide (2 = 0),decide (2 = 1),decide (2 = 2)]:List Bool).map V.bl ++ ([decide (2 = 3),false,false]:List Bool).map V.bl))
    have ho3:=s3 _ _ (s2 _ _ ho1)
    refine ⟨_,rfl,_,rfl,ea,_,_,_,_,rfl,ho3,T.xg9,rfl,T.xhi,(by show 1 ≤ sizeLine; decide),fun l4 h4=>?_⟩
    have s4:=same_new h4 (.lst (([true]:List Bool).map V.bl))
    refine ⟨l3,l4,_,_,rfl,rfl,s4 _ _ upd_same,upd_same,(by show 7 ≤ sizeLine; decide),fun l5 h5=>?_⟩
    exact q l5 _ ((((s1.trans s2).trans s3).trans s4).trans (same_new h5 _)) upd_same
  | 3,hj,ho,q =>
    refine ⟨_,rfl,ea,_,_,_,_,rfl,ho,T.xjf,rfl,T.xaP,_,rfl,ea,_,_,_,_,rfl,ho,T.xjf,rfl,T.xaj,_,rfl,ea,_,_,_,_,rfl,ho,T.xjf,rfl,T.xaQ,(by show 3 ≤ sizeLine; decide),fun l1 h1=>?_⟩
    have s1:=same_new h1 (.lst (([decide (3 = 0),decide (3 = 1),decide (3 = 2)]:List Bool).map V.bl))
    have ho1:=s1 _ _ ho
    refine ⟨_,rfl,_,rfl,ea,_,_,_,_,rfl,ho1,T.xjf,rfl,T.xbh,_,rfl,ea,_,_,_,_,rfl,ho1,T.xjf,rfl,T.xaO,_,rfl,ea,_,_,_,_,rfl,ho1,T.xjf,rfl,T.xbi,(by show 3 ≤ sizeLine; decide),fun l2 h2=>?_⟩
    have s2:=same_new h2 (.lst (([decide (3 = 3),false,false]:List Bool).map V.bl))
    refine ⟨l1,l2,_,_,rfl,rfl,s2 _ _ upd_same,upd_same,(by show 6 ≤ sizeLine; decide),fun l3 h3=>?_⟩
    have s3:=same_new h3 (.lst (([decide (3 = 0),decide (3 = 1),decide (3 = 2)]:List Bool).map V.bl ++ ([decide (3 = 3),false,false]:List Bool).map V.bl))
    have ho3:=s3 _ _ (s2 _ _ ho1)
    refine ⟨_,rfl,_,rfl,ea,_,_,_,_,rfl,ho3,T.xjf,rfl,T.xjn,(by show 1 ≤ sizeLine; decide),fun l4 h4=>?_⟩
    have s4:=same_new h4 (.lst (([true]:List Bool).map V.bl))
    refine ⟨l3,l4,_,_,rfl,rfl,s4 _ _ upd_same,upd_same,(by show 7 ≤ sizeLine; decide),fun l5 h5=>?_⟩
    exact q l5 _ ((((s1.trans s2).trans s3).trans s4).trans (same_new h5 _)) upd_same
  | n + 4,hj,_,_=>omega
end
end W08
set_option Elab.async false
set_option linter.all false
set_option maxRecDepth 100000
namespace W08
open PySem L2
section
variable {P:Program} {w:World} {K:PySem.W.Frag} {mg:Str → Option Value} {base:Heap} {A:Adr}
theorem Thr.same {C:Addr} {H H':Hp} {E:XK} (e:Same H H') (h:Thr C H E):Thr C H' E:=fun ea H2 s hea=>h ea H2 (e.trans s) hea
theorem prs_same {H H':Hp} (e:Same H H') (x:V) (b:Bool) (h:PrOf K H x b):PrOf K H' x b:=h.same e
def WrOk (K:PySem.W.Frag) (H:Hp) (d:Int) (v:V):Prop:=((d = 0 ∨ d = 1) ∧ ListB K (PrOf K) H v false) ∨ (d = 2 ∧ ListB K (InOf K 1 1000000) H v false)
theorem WrOk.same {H H':Hp} (e:Same H H') {d:Int} {v:V} (h:WrOk K H d v):WrOk K H' d v:=by
  rcases h with ⟨h,l⟩ | ⟨h,l⟩
  · exact .inl ⟨h,l.same prs_same e⟩
  · exact .inr ⟨h,l.same InOf.same e⟩
def sp_wr (K:PySem.W.Frag) (A:Adr):Sp:=fun vs H _ E=>∃ d v,vs = [.int d,v] ∧ WrOk K H d v ∧ Thr A.xiX H E
theorem xbU (T:Txt K mg A):FnOk P w K mg base (CXx P w) 7 A.xbv A.xbF ["_law_door", "_law_thing"] (sp_wr K A):=by
  have xmC:=xmh (P:=P) (w:=w) (base:=base) T
  have xks:=xjS (P:=P) (w:=w) (base:=base) T
  have xmB:=xmg (P:=P) (w:=w) (base:=base) T
  refine T.xbu.okx xbs (fun vs H Q E h=>?_) (fun cdv Ar outer s H vs Q E hr h=>?_)
  · obtain ⟨d,v,rfl,_⟩:=h
    rfl
  obtain ⟨d,v,rfl,h,q⟩:=h
  refine ⟨_,(@pss_one _ _ _ (@ps_ret _ _ _ _ (@pe_ifExp _ _ _ _ _ _ _ _ (@pt_cmpR _ _ _ _ _ _ _ _ op_eqI (@pv _ 0 _ _ (by rfl) (Or.inl rfl) (by decide) (by decide)) (@pe_int _ _ _ _) (nomark _)) (@pe_call _ _ _ _ _ _ _ _ _ _ _ _ _ _ _ _ xmC (hr.mono (by decide)) rfl T.xna T.xm2 T.xlP .nil (passx leaves_cx (fun _ _ _ z=>z)) (@pa_consN _ _ _ _ _ (@pv _ 1 _ _ (by rfl) (Or.inl rfl) (by decide) (by decide)) (@pa_nil _) (by rfl)) (by decide) (by rfl) (by rfl)) (@pe_ifExp _ _ _ _ _ _ _ _ (@pt_cmpR _ _ _ _ _ _ _ _ op_eqI (@pv _ 0 _ _ (by rfl) (Or.inl rfl) (by decide) (by decide)) (@pe_int _ _ _ _) (nomark _)) (@pe_call _ _ _ _ _ _ _ _ _ _ _ _ _ _ _ _ xks (hr.mono (by decide)) rfl T.xk6 T.xkY T.xiT .nil (passx leaves_cx (fun _ _ _ z=>z)) (@pa_consN _ _ _ _ _ (@pv _ 1 _ _ (by rfl) (Or.inl rfl) (by decide) (by decide)) (@pa_nil _) (by rfl)) (by decide) (by rfl) (by rfl)) (@pe_call _ _ _ _ _ _ _ _ _ _ _ _ _ _ _ _ xmB (hr.mono (by decide)) rfl T.xm9 T.xm1 T.xlO .nil (passx leaves_cx (fun _ _ _ z=>z)) (@pa_consN _ _ _ _ _ (@pe_int _ _ _ _) (@pa_consN _ _ _ _ _ (@pv _ 1 _ _ (by rfl) (Or.inl rfl) (by decide) (by decide)) (@pa_nil _) (by rfl)) (by rfl)) (by decide) (by rfl) (by rfl)))))),?_⟩
  refine ⟨_,rfl,_,_,rfl,rfl,_,rfl,?_⟩
  rcases h with ⟨h | h,l⟩ | ⟨h,l⟩
  · rw [decT h]
    exact iteT ⟨_,rfl,v,rfl,l,q⟩
  · rw [decF (by omega)]
    refine iteF ⟨_,rfl,_,_,rfl,rfl,_,rfl,?_⟩
    rw [decT h]
    exact iteT ⟨_,rfl,v,rfl,l,q⟩
  · rw [decF (by omega)]
    refine iteF ⟨_,rfl,_,_,rfl,rfl,_,rfl,?_⟩
    rw [decF (by omega)]
    exact iteF ⟨_,rfl,.int 5,v,some 5,rfl,.inl ⟨5,rfl,rfl⟩,.inr (.inl ⟨rfl,l,q⟩)⟩
def sp_wn (K:PySem.W.Frag) (A:Adr):Sp:=fun vs H _ E=>∃ (d:Int) (v:V),vs = [.int d,v] ∧ ListB K (InOf K (-1000000) 1000000) H v false ∧ Thr A.xe8 H E
theorem xa1 (T:Txt K mg A):FnOk P w K mg base (CXx P w) 7 A.xaF A.xaL ["_law_door", "_law_thing"] (sp_wn K A):=by
  have xlr:=xlc (P:=P) (w:=w) (base:=base) T
  have xmA:=xmf (P:=P) (w:=w) (base:=base) T
  have xkr:=xjR (P:=P) (w:=w) (base:=base) T
  have xlq:=xlb (P:=P) (w:=w) (base:=base) T
  refine T.xaE.okx xaB (fun vs H Q E h=>?_) (fun cdv Ar outer s H vs Q E hr h=>?_)
  · obtain ⟨d,v,rfl,_⟩:=h
    rfl
  obtain ⟨d,v,rfl,l,q⟩:=h
  refine ⟨_,(@pss_cons _ _ _ _ _ (@ps_if _ _ _ _ _ _ _ _ (@pt_cmpR _ _ _ _ _ _ _ _ op_lt (@pv _ 0 _ _ (by rfl) (Or.inl rfl) (by decide) (by decide)) (@pe_int _ _ _ _) (nomark _)) (@pss_one _ _ _ (@ps_ret _ _ _ _ (@pe_ifExp _ _ _ _ _ _ _ _ (@pt_cmpR _ _ _ _ _ _ _ _ op_eqI (@pv _ 0 _ _ (by rfl) (Or.inl rfl) (by decide) (by decide)) (@pe_int _ _ _ _) (nomark _)) (@pe_call _ _ _ _ _ _ _ _ _ _ _ _ _ _ _ _ xlr (hr.mono (by decide)) rfl T.xlF T.xlB T.xkA .nil (passx leaves_cx (fun _ _ _ z=>z)) (@pa_consN _ _ _ _ _ (@pv _ 1 _ _ (by rfl) (Or.inl rfl) (by decide) (by decide)) (@pa_nil _) (by rfl)) (by decide) (by rfl) (by rfl)) (@pe_call _ _ _ _ _ _ _ _ _ _ _ _ _ _ _ _ xmA (hr.mono (by decide)) rfl T.xm8 T.xm0 T.xlN .nil (passx leaves_cx (fun _ _ _ z=>z)) (@pa_consN _ _ _ _ _ (@pv _ 1 _ _ (by rfl) (Or.inl rfl) (by decide) (by decide)) (@pa_consN _ _ _ _ _ (@pe_non _ _ _) (@pa_consN _ _ _ _ _ (@pe_non _ _ _) (@pa_nil _) (by rfl)) (by rfl)) (by rfl)) (by decide) (by rfl) (by rfl))))) (@pss_nil _)) (@pss_one _ _ _ (@ps_ret _ _ _ _ (@pe_ifExp _ _ _ _ _ _ _ _ (@pt_cmpR _ _ _ _ _ _ _ _ op_eqI (@pv _ 0 _ _ (by rfl) (Or.inl rfl) (by decide) (by decide)) (@pe_int _ _ _ _) (nomark _)) (@pe_call _ _ _ _ _ _ _ _ _ _ _ _ _ _ _ _ xkr (hr.mono (by decide)) rfl T.xk5 T.xkX T.xiS .nil (passx leaves_cx (fun _ _ _ z=>z)) (@pa_consN _ _ _ _ _ (@pv _ 1 _ _ (by rfl) (Or.inl rfl) (by decide) (by decide)) (@pa_nil _) (by rfl)) (by decide) (by rfl) (by rfl)) (@pe_call _ _ _ _ _ _ _ _ _ _ _ _ _ _ _ _ xlq (hr.mono (by decide)) rfl T.xlE T.xlA T.xkz .nil (passx leaves_cx (fun _ _ _ z=>z)) (@pa_consN _ _ _ _ _ (@pv _ 1 _ _ (by rfl) (Or.inl rfl) (by decide) (by decide)) (@pa_nil _) (by rfl)) (by decide) (by rfl) (by rfl)))))),?_⟩
  refine ⟨_,rfl,_,_,rfl,rfl,_,rfl,?_⟩
  by_cases h:d < 2
  · rw [decT h]
    refine iteT ⟨_,rfl,_,_,rfl,rfl,_,rfl,?_⟩
    by_cases h0:d = 0
    · rw [decT h0]
      exact iteT ⟨_,rfl,v,rfl,l,q⟩
    · rw [decF h0]
      exact iteF ⟨_,rfl,v,.non,.non,rfl,.inl ⟨l,q⟩⟩
  · rw [decF h]
    refine iteF ⟨_,rfl,_,_,rfl,rfl,_,rfl,?_⟩
    by_cases h0:d = 2
    · rw [decT h0]
      exact iteT ⟨_,rfl,v,rfl,l,q⟩
    · rw [decF h0]
      exact iteF ⟨_,rfl,v,rfl,l,q⟩
theorem four_ok {H:Hp} {l:Addr} (h:H l = some (.lst [.int 4])):ListB K (InOf K (-1000000) 1000000) H (.ref l) true:=.inr ⟨l,_,[true],rfl,h,by decide,.cons ⟨some 4,.inl ⟨4,rfl,rfl⟩,rfl⟩ .nil,rfl⟩
def sp_wt (K:PySem.W.Frag) (A:Adr):Sp:=fun vs H _ E=>∃ (d:Int) (v:V) (o:Option Int),vs = [.int d,v] ∧ Whl K H v o ∧ inB o 1 1000000 = false ∧ Thr A.xiY H E
theorem xcm (T:Txt K mg A):FnOk P w K mg base (CXx P w) 7 A.xb7 A.xcb ["_law_door", "_law_thing"] (sp_wt K A):=by
  have xmA:=xmf (P:=P) (w:=w) (base:=base) T
  have xmz:=xme (P:=P) (w:=w) (base:=base) T
  refine T.xb5.okx xbZ (fun vs H Q E h=>?_) (fun cdv Ar outer s H vs Q E hr h=>?_)
  · obtain ⟨d,v,o,rfl,_⟩:=h
    rfl
  obtain ⟨d,v,o,rfl,hv,h1,q⟩:=h
  refine ⟨_,(@pss_one _ _ _ (@ps_ret _ _ _ _ (@pe_ifExp _ _ _ _ _ _ _ _ (@pt_cmpR _ _ _ _ _ _ _ _ op_eqI (@pv _ 0 _ _ (by rfl) (Or.inl rfl) (by decide) (by decide)) (@pe_int _ _ _ _) (nomark _)) (@pe_call _ _ _ _ _ _ _ _ _ _ _ _ _ _ _ _ xmA (hr.mono (by decide)) rfl T.xm8 T.xm0 T.xlN .nil (passx leaves_cx (fun _ _ _ z=>z)) (@pa_consN _ _ _ _ _ (@pe_lst _ _ _ _ (@pa_consN _ _ _ _ _ (@pe_int _ _ _ _) (@pa_nil _) (by rfl))) (@pa_consN _ _ _ _ _ (@pv _ 1 _ _ (by rfl) (Or.inl rfl) (by decide) (by decide)) (@pa_consN _ _ _ _ _ (@pe_non _ _ _) (@pa_nil _) (by rfl)) (by rfl)) (by rfl)) (by decide) (by rfl) (by rfl)) (@pe_call _ _ _ _ _ _ _ _ _ _ _ _ _ _ _ _ xmz (hr.mono (by decide)) rfl T.xm7 T.xmZ T.xlM .nil (passx leaves_cx (fun _ _ _ z=>z)) (@pa_consN _ _ _ _ _ (@pe_int _ _ _ _) (@pa_consN _ _ _ _ _ (@pv _ 1 _ _ (by rfl) (Or.inl rfl) (by decide) (by decide)) (@pa_nil _) (by rfl)) (by rfl)) (by decide) (by rfl) (by rfl))))),?_⟩
  refine ⟨_,rfl,_,_,rfl,rfl,_,rfl,?_⟩
  by_cases h:d = 0
  · rw [decT h]
    refine iteT ⟨(by show 1 ≤ sizeLine; decide),fun l hl=>⟨_,rfl,.ref l,v,.non,rfl,.inr ⟨four_ok upd_same,o,hv.same (same_new hl _),.inl ⟨h1,q.same (same_new hl _)⟩⟩⟩⟩
  · rw [decF h]
    exact iteF ⟨_,rfl,.int 4,v,some 4,rfl,.inl ⟨4,rfl,rfl⟩,.inr ⟨rfl,o,hv,h1,q⟩⟩
def sp_wx (K:PySem.W.Frag) (A:Adr):Sp:=fun vs H _ E=>∃ (t:Int) (v:V) (o:Option Int),vs = [.int t,v] ∧ Whl K H v o ∧ inB (some t) 1 1000000 = true ∧ restB o (some t) = false ∧ Thr A.xkB H E
theorem xcl (T:Txt K mg A):FnOk P w K mg base (CXx P w) 7 A.xb6 A.xca ["_law_turn", "_law_thing"] (sp_wx K A):=by
  have xmA:=xmf (P:=P) (w:=w) (base:=base) T
  refine T.xb4.okx xbY (fun vs H Q E h=>?_) (fun cdv Ar outer s H vs Q E hr h=>?_)
  · obtain ⟨t,v,o,rfl,_⟩:=h
    rfl
  obtain ⟨t,v,o,rfl,hv,h1,h2,q⟩:=h
  refine ⟨_,(@pss_one _ _ _ (@ps_ret _ _ _ _ (@pe_call _ _ _ _ _ _ _ _ _ _ _ _ _ _ _ _ xmA (hr.mono (by decide)) rfl T.xm8 T.xm0 T.xlN .nil (passx leaves_cx (fun _ _ _ z=>z)) (@pa_consN _ _ _ _ _ (@pe_lst _ _ _ _ (@pa_consN _ _ _ _ _ (@pe_int _ _ _ _) (@pa_nil _) (by rfl))) (@pa_consN _ _ _ _ _ (@pv _ 0 _ _ (by rfl) (Or.inl rfl) (by decide) (by decide)) (@pa_consN _ _ _ _ _ (@pv _ 1 _ _ (by rfl) (Or.inl rfl) (by decide) (by decide)) (@pa_nil _) (by rfl)) (by rfl)) (by rfl)) (by decide) (by rfl) (by rfl)))),?_⟩
  refine ⟨(by show 1 ≤ sizeLine; decide),fun l hl=>⟨_,rfl,_,rfl,.ref l,.int t,v,rfl,.inr ⟨four_ok upd_same,some t,.inl ⟨t,rfl,rfl⟩,.inr ⟨h1,o,hv.same (same_new hl _),h2,q.same (same_new hl _)⟩⟩⟩⟩
def sp_wm (K:PySem.W.Frag) (A:Adr):Sp:=fun vs H _ E=>∃ (d:Int) (v:V) (o:Option Int),vs = [.int d,v] ∧ Whl K H v o ∧ ((d = 0 ∧ inB o (-1000000) 1000000 = false ∧ Thr A.xe8 H E) ∨ (d = 1 ∧ o = none ∧ Thr A.xiX H E))
theorem xbp (T:Txt K mg A):FnOk P w K mg base (CXx P w) 7 A.xa7 A.xbd ["_law_door", "_law_thing"] (sp_wm K A):=by
  have xmz:=xme (P:=P) (w:=w) (base:=base) T
  have xmB:=xmg (P:=P) (w:=w) (base:=base) T
  refine T.xa6.okx xa4 (fun vs H Q E h=>?_) (fun cdv Ar outer s H vs Q E hr h=>?_)
  · obtain ⟨d,v,o,rfl,_⟩:=h
    rfl
  obtain ⟨d,v,o,rfl,hv,h⟩:=h
  refine ⟨_,(@pss_one _ _ _ (@ps_ret _ _ _ _ (@pe_ifExp _ _ _ _ _ _ _ _ (@pt_cmpR _ _ _ _ _ _ _ _ op_eqI (@pv _ 0 _ _ (by rfl) (Or.inl rfl) (by decide) (by decide)) (@pe_int _ _ _ _) (nomark _)) (@pe_call _ _ _ _ _ _ _ _ _ _ _ _ _ _ _ _ xmz (hr.mono (by decide)) rfl T.xm7 T.xmZ T.xlM .nil (passx leaves_cx (fun _ _ _ z=>z)) (@pa_consN _ _ _ _ _ (@pv _ 1 _ _ (by rfl) (Or.inl rfl) (by decide) (by decide)) (@pa_consN _ _ _ _ _ (@pe_non _ _ _) (@pa_nil _) (by rfl)) (by rfl)) (by decide) (by rfl) (by rfl)) (@pe_call _ _ _ _ _ _ _ _ _ _ _ _ _ _ _ _ xmB (hr.mono (by decide)) rfl T.xm9 T.xm1 T.xlO .nil (passx leaves_cx (fun _ _ _ z=>z)) (@pa_consN _ _ _ _ _ (@pv _ 1 _ _ (by rfl) (Or.inl rfl) (by decide) (by decide)) (@pa_consN _ _ _ _ _ (@pe_lst _ _ _ _ (@pa_consN _ _ _ _ _ (@pe_int _ _ _ _) (@pa_nil _) (by rfl))) (@pa_nil _) (by rfl)) (by rfl)) (by decide) (by rfl) (by rfl))))),?_⟩
  refine ⟨_,rfl,_,_,rfl,rfl,_,rfl,?_⟩
  rcases h with ⟨h,h1,q⟩ | ⟨h,rfl,q⟩
  · rw [decT h]
    exact iteT ⟨_,rfl,v,.non,o,rfl,hv,.inl ⟨h1,q⟩⟩
  · rw [decF (by omega)]
    exact iteF ⟨_,rfl,(by show 1 ≤ sizeLine; decide),fun l hl=>⟨v,.ref l,none,rfl,hv.same (same_new hl _),.inl ⟨rfl,q.same (same_new hl _)⟩⟩⟩
end
end W08
set_option Elab.async false
set_option linter.all false
set_option maxRecDepth 100000
namespace W08
open PySem L2
section
variable {P:Program} {w:World} {K:PySem.W.Frag} {mg:Str → Option Value} {base:Heap} {A:Adr}
def AskOk (P:Program) (w:World) (K:PySem.W.Frag) (mg:Str → Option Value) (base:Heap) (A:Adr) (f:Addr) (x y:V) (H:Hp) (j:Nat):Prop :=
  PySem.W.keepIn K (.ref f) = true ∧ ∃ fd ps sp,FnOk P w K mg base (CXx P w) 7 f fd ps sp ∧ Binds K fd ps [] ∧ ∀ H' Q E,Same H H' → Thr (cj A j) H' E → sp [x,y] H' Q E
theorem AskOk.same {f:Addr} {x y:V} {H H':Hp} {j:Nat} (e:Same H H') (h:AskOk P w K mg base A f x y H j):AskOk P w K mg base A f x y H' j :=
  let ⟨a,fd,ps,sp,b,c,d⟩:=h; ⟨a,fd,ps,sp,b,c,fun H2 Q E s t=>d H2 Q E (e.trans s) t⟩
def xid (P:Program) (w:World) (K:PySem.W.Frag) (mg:Str → Option Value) (base:Heap) (A:Adr):Sp:=fun vs H Q _=>∃ f x y j,vs = [.ref f,x,y] ∧ j < 4 ∧ AskOk P w K mg base A f x y H j ∧ ∀ l H',Same H H' → LstB H' l (kinds j) → Q (.ref l) H'
theorem xhU (T:Txt K mg A):FnOk P w K mg base CX0 8 A.xgy A.xg0 ["_law_ask", "_law_one", "_law_other"] (xid P w K mg base A):=by
  have xeR:=xf2 (P:=P) (w:=w) (base:=base) T
  refine T.xgq.ok xgf (fun vs H Q E h=>?_) (fun cdv Ar outer s H vs Q E hr h=>?_)
  · obtain ⟨f,x,y,j,rfl,_⟩:=h
    rfl
  obtain ⟨f,x,y,j,rfl,hj,⟨hk,fd,ps,sp,F,hB,hsp⟩,q⟩:=h
  refine ⟨_,(@pss_cons _ _ _ _ _ (@ps_try _ _ _ _ (3) _ _ _ _ _ _ _ _ rfl rfl rfl xgf.nd rfl rfl rfl T.xhE (fun pins xe E hp=>(@pss_one _ _ _ (@ps_expr _ _ _ _ (@pe_callV _ (P) (w) (K) (mg) (base) _ _ _ _ _ _ _ _ _ rfl rfl rfl rfl rfl (@pv _ 0 _ _ (by rfl) (Or.inl rfl) (by decide) (by decide)) hp hr (@pa_consN _ _ _ _ _ (@pv _ 1 _ _ (by rfl) (Or.inl rfl) (by decide) (by decide)) (@pa_consN _ _ _ _ _ (@pv _ 2 _ _ (by rfl) (Or.inl rfl) (by decide) (by decide)) (@pa_nil _) (by rfl)) (by rfl)) (by rfl) (by rfl)) (by rfl)))) (fun e=>(@pss_one _ _ _ (@ps_ret _ _ _ _ (@pe_callH _ _ _ _ _ _ _ _ _ _ _ _ xeR (hr.inExc.mono (by decide)) rfl T.xfO T.xfF T.xdB (@pa_consN _ _ _ _ _ (@pv _ 3 _ _ (by rfl) (Or.inl rfl) (by decide) (by decide)) (@pa_nil _) (by rfl)) (by decide) (by rfl) (by rfl))))) (by decide)) (@pss_one _ _ _ (@ps_ret _ _ _ _ (@pe_lst _ _ _ _ (@pa_nil _))))),?_⟩
  refine ⟨f,rfl,hk,_,rfl,_,rfl,fd,ps,sp,7,F,Nat.le_refl _,hB,hsp H _ _ (Same.refl H) fun ea H' s' hea=>?_⟩
  refine ⟨cj A j,ea,rfl,rfl,xm_j T j hj,fun σ' hl=>?_⟩
  exact ⟨_,List.getElem?_set_self (by rw [hl]; show 3 < 4; decide),ea,j,rfl,hj,upd_same,fun l H2 s2 hL=>q l H2 ((s'.trans (same_new hea _)).trans s2) hL⟩
end
end W08
set_option Elab.async false
set_option linter.all false
set_option maxRecDepth 100000
namespace W08
open PySem L2
section
variable {P:Program} {w:World} {K:PySem.W.Frag} {mg:Str → Option Value} {base:Heap} {A:Adr}
def xka (P:Program) (w:World) (K:PySem.W.Frag) (mg:Str → Option Value) (base:Heap) (A:Adr):Sp:=fun vs H Q _=>∃ (f a b d:Addr) (ds:List Int) (xs:List V) (j:Nat),vs = [.ref f,.ref a,.ref b,.ref d] ∧ LstAt H a ds ∧ H b = some (.lst xs) ∧ LstB H d (kinds j) ∧ j < 4 ∧ xs.length ≤ 200 ∧
  (∀ x ∈ ds,∀ y ∈ xs,AskOk P w K mg base A f (.int x) y H j) ∧ ∀ H',Same H H' → Q (.bl true) H'
theorem paired_bls (H:Hp):∀ bs:List Bool,Paired (repB H) (bs.map V.bl) bs
  | []=>.nil
  | n :: ns=>.cons rfl (paired_bls H ns)
theorem LstB.rep {H:Hp} {a:Addr} {bs:List Bool} (h:LstB H a bs):RepL K repB H a bs:=⟨_,SqL.of h,paired_bls H bs⟩
set_option maxHeartbeats 2000000 in
theorem xjQ (T:Txt K mg A):FnOk P w K mg base CX0 9 A.xiK A.xi8 ["_law_ask", "_law_doors", "_law_things", "_law_due"] (xka P w K mg base A):=by
  have xgu:=xhU (P:=P) (w:=w) (base:=base) T
  refine T.xiC.ok xh2 (fun vs H Q E h=>?_) (fun cdv Ar outer s H vs Q E hr h=>?_)
  · obtain ⟨f,a,b,d,ds,xs,j,rfl,_⟩:=h
    rfl
  obtain ⟨f,a,b,d,ds,xs,j,rfl,ha,hb,hd,hj,hl,hask,q⟩:=h
  refine ⟨_,(@pss_cons _ _ _ _ _ (@ps_for _ _ _ _ _ _ _ _ PassesOwn.never rfl (@pi_list _ _ _ _ (@pv _ 1 _ _ (by rfl) (Or.inl rfl) (by decide) (by decide))) (@pg_name _ _ (4) _ xh2.nd rfl (Or.inr rfl) (Or.inl rfl)) (@pss_one _ _ _ (@ps_if _ _ _ _ _ _ _ _ (@pt_not _ _ _ _ (@pt_val _ _ _ (@pe_callB _ _ _ _ _ _ _ _ _ (call_all rfl) rfl T.b_all B.all (@pa_consN _ _ _ _ _ (@pe_comp0 _ _ (["_law_ask", "_law_due", "_law_door", "_law_thing"]) ([some 0,some 3,some 4,none]) _ _ _ _ _ _ _ _ xdp rfl (@pi_list _ _ _ _ (@pv _ 2 _ _ (by rfl) (Or.inl rfl) (by decide) (by decide))) (fun z=>(@pg_name _ _ (3) _ xdp.nd rfl (Or.inl rfl) (by exact .inr rfl))) (sets_name 3) (by decide) (fun z=>(@pe_cmpR _ _ _ _ _ _ _ _ (op_eqLK (K:=K) (by rfl) eqty_bl hr.units0) (@pe_call _ _ _ _ _ _ _ _ _ _ _ _ _ _ _ _ xgu (hr.mono (by decide)) rfl T.xhG T.xhx T.xe5 .nil pass0 (@pa_consN _ _ _ _ _ (@pv _ 0 _ _ (by rfl) (by exact .inr (.inl rfl)) (by decide) (by decide)) (@pa_consN _ _ _ _ _ (@pv _ 2 _ _ (by rfl) (by exact .inr (.inl rfl)) (by decide) (by decide)) (@pa_consN _ _ _ _ _ (@pv _ 3 _ _ (by rfl) (by exact .inl rfl) (by decide) (by decide)) (@pa_nil _) (by rfl)) (by rfl)) (by rfl)) (by decide) (by rfl) (by rfl)) (@pv _ 1 _ _ (by rfl) (by exact .inr (.inl rfl)) (by decide) (by decide)) (nomark _))) (by intro _; rfl)) (@pa_nil _) (by rfl)) (by decide) (by decide) (by rfl) (by rfl)) (by intro _; rfl))) (@pss_one _ _ _ (@ps_ret _ _ _ _ (@pe_bl _ _ _ _))) (@pss_nil _))) (by intro _; rfl)) (@pss_one _ _ _ (@ps_ret _ _ _ _ (@pe_bl _ _ _ _)))),?_⟩
  refine ⟨_,rfl,a,rfl,⟨_,SqL.of ha⟩,for_list (K:=K) (a:=a) (xs:=ds.map V.int) (fun i σ H'=>∃ (f4:Option V),σ = [some (.ref f),some (.ref a),some (.ref b),some (.ref d),f4] ∧ Same H H') ⟨_,rfl,Same.refl _⟩ (fun i σ H' _ ⟨_,_,e⟩=>SqL.of (e _ _ ha)) ?_ ?_⟩
  · rintro i v σ H1 hi ⟨f4,rfl,e1⟩
    obtain ⟨n,hn,rfl⟩:=ints_get hi
    have hnd:=List.mem_of_getElem? hn
    have hb1:=e1 _ _ hb
    refine ⟨_,rfl,b,rfl,⟨_,SqL.of hb1⟩,comp_list (K:=K) (a:=b) (xs:=xs) (fun i ys H'=>Same H1 H' ∧ ys = (List.replicate i true).map V.bl) ⟨Same.refl _,rfl⟩ (small100 (by omega)) ?_ ?_ ?_⟩
    · rintro i ys H2 hi ⟨hs,rfl⟩
      exact ⟨SqL.of (hs _ _ hb1),by rw [List.length_map,List.length_replicate]⟩
    · rintro i x ys H2 hx ⟨hs,rfl⟩
      have e2:=e1.trans hs
      refine ⟨_,rfl,_,rfl,_,rfl,f,.int n,x,j,rfl,hj,(hask n hnd x (List.mem_of_getElem? hx)).same e2,fun l H4 s4 hL=>⟨_,rfl,l,d,kinds j,kinds j,rfl,rfl,hL.rep,LstB.rep (s4 _ _ (e2 _ _ hd)),hs.trans s4,?_⟩⟩
      rw [decT rfl,List.replicate_succ',List.map_append]
      rfl
    · rintro ys H2 ⟨hs,rfl⟩ l hl2
      refine ⟨l,List.replicate xs.length true,rfl,SqL.of upd_same,_,rfl,?_⟩
      rw [show (List.replicate xs.length true).all id = true by simp]
      exact iteF ⟨_,rfl,e1.trans (hs.trans (same_new hl2 _))⟩
  · rintro σ H1 ⟨f4,rfl,e1⟩
    exact q _ e1
end
end W08
set_option Elab.async false
set_option linter.all false
set_option maxRecDepth 100000
namespace W08
open PySem L2
section
variable {P:Program} {w:World} {K:PySem.W.Frag} {mg:Str → Option Value} {base:Heap} {A:Adr}
def Val (σ:St) (te:TE) (v:V):Prop:=∀ H (KK:VK),KK v H → te σ H KK
def Mks (σ:St) (F:Hp → V → Prop) (te:TE):Prop:=∀ H (KK:VK),(∀ x H',Same H H' → F H' x → KK x H') → te σ H KK
def MksA (σ:St) (F:Hp → V → Prop) (n:Nat) (ta:TA):Prop:=∀ H (KK:List V → Hp → Prop),(∀ xs H',Same H H' → (∀ x ∈ xs,F H' x) → xs.length = n → KK xs H') → ta σ H KK
section
variable {σ:St} {F:Hp → V → Prop} {te t1 t2:TE} {ta:TA} {v v1 v2:V} {n:Nat} {o p:Option Int}
theorem val_c:Val σ (tC v) v:=fun _ _ h=>h
theorem val_v {i:Nat} (h:σ[i]? = some (some v)):Val σ (tVar i) v:=fun _ _ k=>⟨v,h,k⟩
theorem val_neg {i:Int} (h:Val σ te (.int i)):Val σ (tUn (rU fun i=>V.int (-i)) te) (.int (-i)):=fun H KK k=>h H _ ⟨i,rfl,k⟩
theorem val_add {i j:Int} (h1:Val σ t1 (.int i)) (h2:Val σ t2 (.int j)):Val σ (tOp (rI0 fun i j=>V.int (i + j)) t1 t2) (.int (i + j)):=fun H KK k=>h1 H _ (h2 H _ ⟨i,j,rfl,rfl,k⟩)
theorem val_sub {i j:Int} (h1:Val σ t1 (.int i)) (h2:Val σ t2 (.int j)):Val σ (tOp (rI0 fun i j=>V.int (i - j)) t1 t2) (.int (i - j)):=fun H KK k=>h1 H _ (h2 H _ ⟨i,j,rfl,rfl,k⟩)
theorem mks_nil:MksA σ F 0 tNil:=fun H KK h=>h [] H (Same.refl H) (fun _ z=>nomatch z) rfl
theorem mks_cons (hF:∀ {H H':Hp} {x:V},Same H H' → F H x → F H' x) (h1:Mks σ F te) (h2:MksA σ F n ta):MksA σ F (n + 1) (tCons te ta):=fun H KK h =>
  h1 H _ fun x H1 s1 hx=>h2 H1 _ fun xs H2 s2 hxs hl=>h (x :: xs) H2 (s1.trans s2) (fun y hy=>(List.mem_cons.mp hy).elim (fun e=>e ▸ hF s2 hx) (hxs y)) (by rw [List.length_cons,hl])
theorem whl_int {H:Hp} {i:Int}:Whl K H (.int i) (some i):=.inl ⟨i,rfl,rfl⟩
theorem whl_non {H:Hp}:Whl K H .non none:=.inr ⟨rfl,.non,.non,nofun⟩
theorem whl_bl {H:Hp} {b:Bool}:Whl K H (.bl b) none:=.inr ⟨rfl,.bl,.bl b,nofun⟩
theorem whl_str {H:Hp} {x:Str}:Whl K H (.str x) none:=.inr ⟨rfl,.str,.str x,nofun⟩
variable {G:Hp → V → Bool → Prop}
theorem nl_non:Mks σ (fun H x=>ListB K G H x false) (tC .non):=fun H KK h=>h _ H (Same.refl H) (.inl ⟨rfl,.non,.non,nofun⟩)
theorem nl_int {i:Int}:Mks σ (fun H x=>ListB K G H x false) (tC (.int i)):=fun H KK h=>h _ H (Same.refl H) (.inl ⟨rfl,.int,.int i,nofun⟩)
theorem nl_str {x:Str}:Mks σ (fun H x=>ListB K G H x false) (tC (.str x)):=fun H KK h=>h _ H (Same.refl H) (.inl ⟨rfl,.str,.str x,nofun⟩)
theorem nl_tup:Mks σ (fun H x=>ListB K G H x false) (tTup tNil):=fun H KK h=>⟨Nat.zero_le _,fun u hu=>h _ _ (same_new hu _) (.inl ⟨rfl,.tup,.tup upd_same,nofun⟩)⟩
theorem nl_dict:Mks σ (fun H x=>ListB K G H x false) tDict0:=fun H KK h u hu=>h _ _ (same_new hu _) (.inl ⟨rfl,.dct,.dK upd_same,nofun⟩)
theorem rb_one {c:Ty7} (h:Val σ te v) (ty:∀ H,TyOf K H v c.val) (n:c ≠ .tup):Mks σ (fun H x=>ListB K (PrOf K) H x false) (tLst (tCons te tNil)):=fun H KK k =>
  h H _ ⟨(by show 1 ≤ sizeLine; decide),fun l hl=>k _ _ (same_new hl _) (.inr ⟨l,[v],[false],rfl,upd_same,by show _ + 1 ≤ 1000; simp,.cons (.inl ⟨rfl,c,ty _,n⟩) .nil,rfl⟩)⟩
theorem rb_tup1 (h:Val σ te v):Mks σ (fun H x=>ListB K (PrOf K) H x false) (tLst (tCons (tTup (tCons te tNil)) tNil)):=fun H KK k =>
  h H _ ⟨(by show 1 ≤ sizeLine; decide),fun u hu=>⟨(by show 1 ≤ sizeLine; decide),fun l hl=>k _ _ ((same_new hu _).trans (same_new hl _)) (.inr ⟨l,[.ref u],[false],rfl,upd_same,by show _ + 1 ≤ 1000; simp,.cons (.inr ⟨u,[v],rfl,(same_new hl _) _ _ upd_same,.inl ⟨by simp,rfl⟩⟩) .nil,rfl⟩)⟩⟩
theorem rb_tup3 {t3:TE} {v3:V} (h1:Val σ t1 v1) (h2:Val σ t2 v2) (h3:Val σ t3 v3):Mks σ (fun H x=>ListB K (PrOf K) H x false) (tLst (tCons (tTup (tCons t1 (tCons t2 (tCons t3 tNil)))) tNil)):=fun H KK k =>
  h1 H _ (h2 H _ (h3 H _ ⟨(by show 3 ≤ sizeLine; decide),fun u hu=>⟨(by show 1 ≤ sizeLine; decide),fun l hl=>k _ _ ((same_new hu _).trans (same_new hl _)) (.inr ⟨l,[.ref u],[false],rfl,upd_same,by show _ + 1 ≤ 1000; simp,.cons (.inr ⟨u,[v1,v2,v3],rfl,(same_new hl _) _ _ upd_same,.inl ⟨by simp,rfl⟩⟩) .nil,rfl⟩)⟩⟩))
theorem rb_lst (h1:Val σ t1 v1) (h2:Val σ t2 v2):Mks σ (fun H x=>ListB K (PrOf K) H x false) (tLst (tCons (tLst (tCons t1 (tCons t2 tNil))) tNil)):=fun H KK k =>
  h1 H _ (h2 H _ ⟨(by show 2 ≤ sizeLine; decide),fun u hu=>⟨(by show 1 ≤ sizeLine; decide),fun l hl=>k _ _ ((same_new hu _).trans (same_new hl _)) (.inr ⟨l,[.ref u],[false],rfl,upd_same,by show _ + 1 ≤ 1000; simp,.cons (.inl ⟨rfl,.lst,.lst ((same_new hl _) _ _ upd_same),nofun⟩) .nil,rfl⟩)⟩⟩)
theorem rb_pair (h1:Val σ t1 v1) (h2:Val σ t2 v2) (w1:∀ H,Whl K H v1 o) (w2:∀ H,Whl K H v2 p) (hb:restB o p = false):Mks σ (fun H x=>ListB K (PrOf K) H x false) (tLst (tCons (tTup (tCons t1 (tCons t2 tNil))) tNil)):=fun H KK k =>
  h1 H _ (h2 H _ ⟨(by show 2 ≤ sizeLine; decide),fun u hu=>⟨(by show 1 ≤ sizeLine; decide),fun l hl=>k _ _ ((same_new hu _).trans (same_new hl _)) (.inr ⟨l,[.ref u],[false],rfl,upd_same,by show _ + 1 ≤ 1000; simp,.cons (.inr ⟨u,[v1,v2],rfl,(same_new hl _) _ _ upd_same,.inr ⟨v1,v2,o,p,rfl,w1 _,w2 _,hb.symm⟩⟩) .nil,rfl⟩)⟩⟩)
variable {lo hi:Int}
theorem ib_one (h:Val σ te v) (w1:∀ H,Whl K H v o) (hb:inB o lo hi = false):Mks σ (fun H x=>ListB K (InOf K lo hi) H x false) (tLst (tCons te tNil)):=fun H KK k =>
  h H _ ⟨(by show 1 ≤ sizeLine; decide),fun l hl=>k _ _ (same_new hl _) (.inr ⟨l,[v],[false],rfl,upd_same,by show _ + 1 ≤ 1000; simp,.cons ⟨o,w1 _,hb.symm⟩ .nil,rfl⟩)⟩
theorem ib_lst (h:Val σ te v):Mks σ (fun H x=>ListB K (InOf K lo hi) H x false) (tLst (tCons (tLst (tCons te tNil)) tNil)):=fun H KK k =>
  h H _ ⟨(by show 1 ≤ sizeLine; decide),fun u hu=>⟨(by show 1 ≤ sizeLine; decide),fun l hl=>k _ _ ((same_new hu _).trans (same_new hl _)) (.inr ⟨l,[.ref u],[false],rfl,upd_same,by show _ + 1 ≤ 1000; simp,.cons ⟨none,.inr ⟨rfl,.lst,.lst ((same_new hl _) _ _ upd_same),nofun⟩,rfl⟩ .nil,rfl⟩)⟩⟩
theorem ib_two (h1:Val σ t1 v1) (h2:Val σ t2 v2) (w1:∀ H,Whl K H v1 o) (w2:∀ H,Whl K H v2 p) (hb:inB p lo hi = false):Mks σ (fun H x=>ListB K (InOf K lo hi) H x false) (tLst (tCons t1 (tCons t2 tNil))):=fun H KK k =>
  h1 H _ (h2 H _ ⟨(by show 2 ≤ sizeLine; decide),fun l hl=>k _ _ (same_new hl _) (.inr ⟨l,[v1,v2],[inB o lo hi,false],rfl,upd_same,by show _ + 1 ≤ 1000; simp,.cons ⟨o,w1 _,rfl⟩ (.cons ⟨p,w2 _,hb.symm⟩ .nil),by show false = (inB o lo hi && (false && true)); rw [Bool.false_and,Bool.and_false]⟩)⟩)
def NoIn (K:PySem.W.Frag) (lo hi:Int) (H:Hp) (v:V):Prop:=∃ o,Whl K H v o ∧ inB o lo hi = false
theorem NoIn.same {H H':Hp} {x:V} (e:Same H H') (h:NoIn K lo hi H x):NoIn K lo hi H' x:=let ⟨o,a,b⟩:=h; ⟨o,a.same e,b⟩
theorem ni_val (h:Val σ te v) (w1:∀ H,Whl K H v o) (hb:inB o lo hi = false):Mks σ (NoIn K lo hi) te:=fun H KK k=>h H _ (k _ _ (Same.refl H) ⟨o,w1 _,hb⟩)
theorem ni_lst (h:Val σ te v):Mks σ (NoIn K lo hi) (tLst (tCons te tNil)):=fun H KK k =>
  h H _ ⟨(by show 1 ≤ sizeLine; decide),fun l hl=>k _ _ (same_new hl _) ⟨none,.inr ⟨rfl,.lst,.lst upd_same,nofun⟩,rfl⟩⟩
def NoWhl (K:PySem.W.Frag) (H:Hp) (v:V):Prop:=Whl K H v none
theorem NoWhl.same {H H':Hp} {x:V} (e:Same H H') (h:NoWhl K H x):NoWhl K H' x:=Whl.same e h
theorem nw_val (h:Val σ te v) (w1:∀ H,Whl K H v none):Mks σ (NoWhl K) te:=fun H KK k=>h H _ (k _ _ (Same.refl H) (w1 _))
theorem nw_lst (h:Val σ te v):Mks σ (NoWhl K) (tLst (tCons te tNil)):=fun H KK k =>
  h H _ ⟨(by show 1 ≤ sizeLine; decide),fun l hl=>k _ _ (same_new hl _) (.inr ⟨rfl,.lst,.lst upd_same,nofun⟩)⟩
def NoRest (K:PySem.W.Frag) (H:Hp) (v:V):Prop:=∃ o,Whl K H v o ∧ restB o (some 1) = false ∧ restB o (some 6) = false
theorem NoRest.same {H H':Hp} {x:V} (e:Same H H') (h:NoRest K H x):NoRest K H' x:=let ⟨o,a,b⟩:=h; ⟨o,a.same e,b⟩
theorem nr_val (h:Val σ te v) (w1:∀ H,Whl K H v o) (h1:restB o (some 1) = false) (h6:restB o (some 6) = false):Mks σ (NoRest K) te:=fun H KK k=>h H _ (k _ _ (Same.refl H) ⟨o,w1 _,h1,h6⟩)
theorem nr_lst (h:Val σ te v):Mks σ (NoRest K) (tLst (tCons te tNil)):=fun H KK k =>
  h H _ ⟨(by show 1 ≤ sizeLine; decide),fun l hl=>k _ _ (same_new hl _) ⟨none,.inr ⟨rfl,.lst,.lst upd_same,nofun⟩,rfl,rfl⟩⟩
theorem mks_lst (h:MksA σ F n ta) (hn:n ≤ 200) {H:Hp} {KK:VK} (k:∀ l xs H',Same H H' → H l = none → H' l = some (.lst xs) → (∀ x ∈ xs,F H' x) → xs.length = n → KK (.ref l) H') (hF:∀ {H H':Hp} {x:V},Same H H' → F H x → F H' x):tLst ta σ H KK :=
  h H _ fun xs H1 s1 hx hl=>⟨small100 (by omega),fun l hl2=>k l xs _ (s1.trans (same_new hl2 _)) (s1.free hl2) upd_same (fun x hm=>hF (same_new hl2 _) (hx x hm)) hl⟩
end
end
end W08
set_option Elab.async false
set_option linter.all false
set_option maxRecDepth 100000
namespace W08
open PySem L2
section
variable {P:Program} {w:World} {K:PySem.W.Frag} {mg:Str → Option Value} {base:Heap} {A:Adr}
theorem rest_no {r t:Int} (h:¬ (0 ≤ r ∧ r < t)):restB (some r) (some t) = false:=by
  unfold restB
  by_cases h0:0 ≤ r
  · have h1:¬ r < t:=fun z=>h ⟨h0,z⟩
    show (_ && (decide (0 ≤ r) && decide (r < t))) = false
    rw [decF h1,Bool.and_false,Bool.and_false]
  · show (_ && (decide (0 ≤ r) && decide (r < t))) = false
    rw [decF h0,Bool.false_and,Bool.and_false]
theorem rest_out {o p:Option Int} (h:inB p 1 1000000 = false):restB o p = false:=by unfold restB; rw [h]; rfl
theorem rest_none {p:Option Int}:restB none p = false:=by unfold restB; cases p <;> simp
theorem in_no {i lo hi:Int} (h:¬ (lo ≤ i ∧ i ≤ hi)):inB (some i) lo hi = false:=by
  rw [inB_some]
  by_cases h0:lo ≤ i
  · rw [decF (fun z=>h ⟨h0,z⟩),Bool.and_false]
  · rw [decF h0,Bool.false_and]
theorem hFR {H H':Hp} {x:V} (e:Same H H') (h:ListB K (PrOf K) H x false):ListB K (PrOf K) H' x false:=h.same prs_same e
theorem hFI {lo hi:Int} {H H':Hp} {x:V} (e:Same H H') (h:ListB K (InOf K lo hi) H x false):ListB K (InOf K lo hi) H' x false:=h.same InOf.same e
theorem ask_rests (T:Txt K mg A) {d:Int} {y:V} {H:Hp} (hd:d = 0 ∨ d = 1) (h:ListB K (PrOf K) H y false):AskOk P w K mg base A A.xbv (.int d) y H 0 :=
  ⟨T.xbN,_,_,_,xbU T,T.xa9,fun H' Q E s thr=>⟨d,y,rfl,.inl ⟨hd,h.same prs_same s⟩,thr⟩⟩
theorem ask_rounds (T:Txt K mg A) {y:V} {H:Hp} (h:ListB K (InOf K 1 1000000) H y false):AskOk P w K mg base A A.xbv (.int 2) y H 0 :=
  ⟨T.xbN,_,_,_,xbU T,T.xa9,fun H' Q E s thr=>⟨2,y,rfl,.inr ⟨rfl,h.same InOf.same s⟩,thr⟩⟩
theorem ask_numbers (T:Txt K mg A) {d:Int} {y:V} {H:Hp} (h:ListB K (InOf K (-1000000) 1000000) H y false):AskOk P w K mg base A A.xaF (.int d) y H 1 :=
  ⟨T.xaW,_,_,_,xa1 T,T.xan,fun H' Q E s thr=>⟨d,y,rfl,h.same InOf.same s,thr⟩⟩
theorem ask_turn (T:Txt K mg A) {d:Int} {y:V} {H:Hp} (h:NoIn K 1 1000000 H y):AskOk P w K mg base A A.xb7 (.int d) y H 2 :=
  let ⟨o,hw,hb⟩:=h
  ⟨T.xcg,_,_,_,xcm T,T.xbz,fun H' Q E s thr=>⟨d,y,o,rfl,hw.same s,hb,thr⟩⟩
theorem ask_rest (T:Txt K mg A) {d:Int} {y:V} {H:Hp} (hd:d = 1 ∨ d = 6) (h:NoRest K H y):AskOk P w K mg base A A.xb6 (.int d) y H 3 :=
  let ⟨o,hw,h1,h6⟩:=h
  ⟨T.xcf,_,_,_,xcl T,T.xby,fun H' Q E s thr=>⟨d,y,o,rfl,hw.same s,by rcases hd with rfl | rfl <;> rfl,by rcases hd with rfl | rfl <;> first | exact h1 | exact h6,thr⟩⟩
theorem ask_number0 (T:Txt K mg A) {y:V} {H:Hp} (h:NoIn K (-1000000) 1000000 H y):AskOk P w K mg base A A.xa7 (.int 0) y H 1 :=
  let ⟨o,hw,hb⟩:=h
  ⟨T.xbk,_,_,_,xbp T,T.xaH,fun H' Q E s thr=>⟨0,y,o,rfl,hw.same s,.inl ⟨rfl,hb,thr⟩⟩⟩
theorem ask_number1 (T:Txt K mg A) {y:V} {H:Hp} (h:NoWhl K H y):AskOk P w K mg base A A.xa7 (.int 1) y H 0 :=
  ⟨T.xbk,_,_,_,xbp T,T.xaH,fun H' Q E s thr=>⟨1,y,none,rfl,Whl.same s h,.inr ⟨rfl,rfl,thr⟩⟩⟩
theorem mix_bad {G:Hp → V → Bool → Prop} {H:Hp} {l:Addr} {xs ys:List V} {x:V} (h:H l = some (.lst (xs ++ [x] ++ ys))) (hl:(xs ++ [x] ++ ys).length ≤ 1000) (h1:∀ z ∈ xs,G H z true) (h2:G H x false) (h3:∀ z ∈ ys,G H z true):ListB K G H (.ref l) false:=by
  have good:∀ zs:List V,(∀ z ∈ zs,G H z true) → Paired (G H) zs (zs.map fun _=>true):=fun zs=>by
    induction zs with
    | nil=>exact fun _=>.nil
    | cons z zs ih=>exact fun hz=>.cons (hz z List.mem_cons_self) (ih fun y hy=>hz y (List.mem_cons_of_mem _ hy))
  have app:∀ {l₁:List V} {b₁:List Bool} {l₂:List V} {b₂:List Bool},Paired (G H) l₁ b₁ → Paired (G H) l₂ b₂ → Paired (G H) (l₁ ++ l₂) (b₁ ++ b₂):=fun {l₁ b₁ l₂ b₂} p q=>by
    induction p with
    | nil=>exact q
    | cons x _ ih=>exact .cons x ih
  refine .inr ⟨l,_,(xs.map fun _=>true) ++ [false] ++ (ys.map fun _=>true),rfl,h,hl,app (app (good xs h1) (.cons h2 .nil)) (good ys h3),?_⟩
  rw [List.all_append,List.all_append]
  show false = (_ && (false && true) && _)
  rw [Bool.false_and,Bool.and_false,Bool.false_and]
theorem cut_mem {xs:List V} {lo hi:Option Int} {x:V} (h:x ∈ cutV xs lo hi):x ∈ xs:=by
  unfold cutV at h
  exact List.mem_of_mem_drop (List.mem_of_mem_take h)
theorem cut_len {xs:List V} {lo hi:Option Int}:(cutV xs lo hi).length ≤ xs.length:=by
  unfold cutV
  rw [List.length_take,List.length_drop]
  omega
theorem prs_good {H:Hp} {as:List Addr} {rs:List (Int × Int)} (hP:Paired (fun b (p:Int × Int)=>H b = some (.tup [.int p.1,.int p.2])) as rs) (hO:RsOk rs) {x:V} (h:x ∈ as.map V.ref):PrOf K H x true:=by
  obtain ⟨i,hi⟩:=List.mem_iff_getElem?.mp h
  obtain ⟨b,r,rfl,_,hr',hq⟩:=prs_get hP hi
  have ho:=hO r (List.mem_of_getElem? hr')
  refine .inr ⟨b,_,rfl,hq,.inr ⟨_,_,some r.1,some r.2,rfl,whl_int,whl_int,?_⟩⟩
  unfold restB
  show true = (inB (some r.2) 1 1000000 && (decide (0 ≤ r.1) && decide (r.1 < r.2)))
  rw [inB_some,decT (show 1 ≤ r.2 by omega),decT ho.2.2,decT ho.1,decT ho.2.1]
  rfl
theorem nums_good {H:Hp} {rs:List (Int × Int)} (hO:RsOk rs) {x:V} (h:x ∈ (rs.map fun p=>p.1).map V.int):InOf K (-1000000) 1000000 H x true:=by
  obtain ⟨n,hn,rfl⟩:=List.mem_map.mp h
  obtain ⟨r,hr,rfl⟩:=List.mem_map.mp hn
  have ho:=hO r hr
  exact ⟨some r.1,whl_int,by rw [inB_some,decT (show -1000000 ≤ r.1 by omega),decT (show r.1 ≤ 1000000 by omega)]; rfl⟩
theorem asg_lst {k n:Nat} {ta:TA} {R:TS} {D:Ends} {σ:St} {H:Hp} {F:Hp → V → Prop} (hF:∀ {H H':Hp} {x:V},Same H H' → F H x → F H' x) (h:MksA σ F n ta) (hn:n ≤ 200)
    (hk:∀ l xs H',Same H H' → H l = none → H' l = some (.lst xs) → (∀ x ∈ xs,F H' x) → xs.length = n → R D (σ.set k (some (.ref l))) H'):tSeq (tAsg (tLst ta) (gName k)) R D σ H:=by
  show tLst ta σ H (fun x H1=>R D (σ.set k (some x)) H1)
  exact mks_lst h hn hk hF
theorem cat_lst {i k n:Nat} {ta:TA} {R:TS} {D:Ends} {σ:St} {H:Hp} {F:Hp → V → Prop} {l1:Addr} {xs1:List V} (hF:∀ {H H':Hp} {x:V},Same H H' → F H x → F H' x) (hi:σ[i]? = some (some (.ref l1))) (h1:H l1 = some (.lst xs1)) (hx1:∀ x ∈ xs1,F H x) (hl1:xs1.length ≤ 200)
    (h:MksA σ F n ta) (hn:n ≤ 200) (hk:∀ l xs2 H1,Same H H1 → H1 l = none → (∀ x ∈ xs1 ++ xs2,F H1 x) → xs2.length = n → R D (σ.set k (some (.ref l))) (upd H1 l (.lst (xs1 ++ xs2)))):tSeq (tAsg (tOp rCat (tVar i) (tLst ta)) (gName k)) R D σ H :=
  show ∃ v,σ[i]? = some (some v) ∧ tLst ta σ H (fun y H2=>rCat v y H2 fun x H1=>R D (σ.set k (some x)) H1) from
  ⟨_,hi,mks_lst h hn (fun l2 xs2 H1 s1 _ e2 hx2 hl2=>⟨l1,l2,xs1,xs2,rfl,rfl,s1 _ _ h1,e2,small100 (by omega),fun l hl=>hk l xs2 H1 s1 hl (fun x hx=>(List.mem_append.mp hx).elim (fun z=>hF s1 (hx1 x z)) (hx2 x)) hl2⟩) hF⟩
def rmv (H:Hp) (a:Addr):Hp:=fun b=>if b = a then none else H b
theorem rmv_of {H:Hp} {a b:Addr} {o:HO} (h:H b = some o) (n:b ≠ a):rmv H a b = some o:=by unfold rmv; rw [if_neg n]; exact h
theorem rmv_le {H:Hp} {a:Addr}:Same (rmv H a) H:=fun b o e=>by
  unfold rmv at e
  split at e
  · cases e
  · exact e
theorem rmv_up {H0 H:Hp} {a:Addr} (n:H0 a = none) (s:Same H0 H):Same H0 (rmv H a):=fun b o e=>rmv_of (s b o e) (ne_of_none e n)
theorem rmv_mono {H H':Hp} {a:Addr} (s:∀ b o,b ≠ a → H b = some o → H' b = some o):Same (rmv H a) (rmv H' a):=fun b o e=>by
  unfold rmv at e
  split at e
  · cases e
  · rename_i n
    exact rmv_of (s b o n e) n
theorem five_at {x0 x1 x2 x3 x4:V} {k:Int} (h0:0 ≤ k) (h1:k < 5):∃ x,atI [x0,x1,x2,x3,x4] k = some x ∧ (x = x0 ∨ x = x1 ∨ x = x2 ∨ x = x3 ∨ x = x4):=by
  have:k = 0 ∨ k = 1 ∨ k = 2 ∨ k = 3 ∨ k = 4:=by omega
  rcases this with rfl | rfl | rfl | rfl | rfl
  · exact ⟨x0,rfl,.inl rfl⟩
  · exact ⟨x1,rfl,.inr (.inl rfl)⟩
  · exact ⟨x2,rfl,.inr (.inr (.inl rfl))⟩
  · exact ⟨x3,rfl,.inr (.inr (.inr (.inl rfl)))⟩
  · exact ⟨x4,rfl,.inr (.inr (.inr (.inr rfl)))⟩
theorem asg_lst0 {k n:Nat} {ta:TA} {R:TS} {D:Ends} {σ:St} {H:Hp} {F:Hp → V → Prop} (h:MksA σ F n ta) (hn:n ≤ 200)
    (hk:∀ l xs H1,Same H H1 → H1 l = none → (∀ x ∈ xs,F H1 x) → xs.length = n → R D (σ.set k (some (.ref l))) (upd H1 l (.lst xs))):tSeq (tAsg (tLst ta) (gName k)) R D σ H:=by
  show tLst ta σ H (fun x H1=>R D (σ.set k (some x)) H1)
  exact h H _ fun xs H1 s1 hx hl=>⟨small100 (by omega),fun l hl2=>hk l xs H1 s1 hl2 hx hl⟩
end
end W08
set_option Elab.async false
set_option linter.all false
set_option maxRecDepth 100000
namespace W08
open PySem L2
section
variable {P:Program} {w:World} {K:PySem.W.Frag} {mg:Str → Option Value} {base:Heap} {A:Adr}
def xnl (K:PySem.W.Frag):Sp:=fun vs H Q _=>∃ (a:Addr) (ns:List Int),vs = [.ref a] ∧ SqX K H a (ns.map V.int) ∧ ns.length ≤ 63 ∧ ∀ H',Q (.bl true) H'
set_option maxHeartbeats 8000000 in
theorem xnd (T:Txt K mg A):FnOk P w K mg base CX0 10 A.a_law A.d_law ["_law_script"] (xnl K):=by
  have xcV:=xdl (P:=P) (w:=w) (base:=base) T
  have xeS:=xf3 (P:=P) (w:=w) (base:=base) T
  have xiF:=xjQ (P:=P) (w:=w) (base:=base) T
  have xmB:=xmg (P:=P) (w:=w) (base:=base) T
  refine T.F_law.ok xnj (fun vs H Q E h=>?_) (fun cdv Ar outer s H vs Q E hr h=>?_)
  · obtain ⟨a,ns,rfl,_⟩:=h
    rfl
  obtain ⟨a,ns,rfl,hS,hlen,q⟩:=h
  refine ⟨_,(@pss_cons _ _ _ _ _ (@ps_set _ _ (1) _ _ _ _ xnj.nd rfl (Or.inl rfl) (@pe_op _ _ _ _ _ _ _ _ op_mod (@pe_call _ _ _ _ _ _ _ _ _ _ _ _ _ _ _ _ xcV (hr.mono (by decide)) rfl T.xdg T.xdc T.xcv .nil pass0 (@pa_consN _ _ _ _ _ (@pv _ 0 _ _ (by rfl) (Or.inl rfl) (by decide) (by decide)) (@pa_consN _ _ _ _ _ (@pe_int _ _ _ _) (@pa_nil _) (by rfl)) (by rfl)) (by decide) (by rfl) (by rfl)) (@pe_op _ _ _ _ _ _ _ _ op_pow (@pe_int _ _ _ _) (@pe_int _ _ _ _))) (by rfl) (Or.inl rfl)) (@pss_cons _ _ _ _ _ (@ps_set _ _ (2) _ _ _ _ xnj.nd rfl (Or.inl rfl) (@pe_lst _ _ _ _ (@pa_nil _)) (by rfl) (Or.inl rfl)) (@pss_cons _ _ _ _ _ (@ps_for _ _ _ _ _ _ _ _ PassesOwn.never rfl (@pi_range1 _ _ _ _ _ _ rfl T.b_range (@pa_consN _ _ _ _ _ (@pe_int _ _ _ _) (@pa_nil _) (by rfl)) (by rfl)) (@pg_name _ _ (3) _ xnj.nd rfl (Or.inl rfl) (Or.inl rfl)) (@pss_one _ _ _ (@ps_expr _ _ _ _ (@pe_bm _ _ _ _ _ _ _ _ _ _ _ _ PySem.F.plainAttrs_list PySem.F.slot_list_append PySem.F.type_list_append mt_append (@pv _ 2 _ _ (by rfl) (Or.inl rfl) (by decide) (by decide)) (@pa_consN _ _ _ _ _ (@pe_lst _ _ _ _ (@pa_consN _ _ _ _ _ (@pe_cmpR _ _ _ _ _ _ _ _ op_eqI (@pv _ 3 _ _ (by rfl) (Or.inl rfl) (by decide) (by decide)) (@pe_int _ _ _ _) (nomark _)) (@pa_consN _ _ _ _ _ (@pe_cmpR _ _ _ _ _ _ _ _ op_eqI (@pv _ 3 _ _ (by rfl) (Or.inl rfl) (by decide) (by decide)) (@pe_int _ _ _ _) (nomark _)) (@pa_consN _ _ _ _ _ (@pe_cmpR _ _ _ _ _ _ _ _ op_eqI (@pv _ 3 _ _ (by rfl) (Or.inl rfl) (by decide) (by decide)) (@pe_int _ _ _ _) (nomark _)) (@pa_consN _ _ _ _ _ (@pe_cmpR _ _ _ _ _ _ _ _ op_eqI (@pv _ 3 _ _ (by rfl) (Or.inl rfl) (by decide) (by decide)) (@pe_int _ _ _ _) (nomark _)) (@pa_consN _ _ _ _ _ (@pe_bl _ _ _ _) (@pa_consN _ _ _ _ _ (@pe_bl _ _ _ _) (@pa_consN _ _ _ _ _ (@pe_bl _ _ _ _) (@pa_nil _) (by rfl)) (by rfl)) (by rfl)) (by rfl)) (by rfl)) (by rfl)) (by rfl))) (@pa_nil _) (by rfl)) (by rfl) (by rfl) (by rfl) (by rfl) (by rfl)) (by rfl))) (by intro _; rfl)) (@pss_cons _ _ _ _ _ (@ps_set _ _ (4) _ _ _ _ xnj.nd rfl (Or.inl rfl) (@pe_call _ _ _ _ _ _ _ _ _ _ _ _ _ _ _ _ xeS (hr.mono (by decide)) rfl T.xfP T.xfG T.xdC .nil pass0 (@pa_consN _ _ _ _ _ (@pv _ 0 _ _ (by rfl) (Or.inl rfl) (by decide) (by decide)) (@pa_nil _) (by rfl)) (by decide) (by rfl) (by rfl)) (by rfl) (Or.inl rfl)) (@pss_cons _ _ _ _ _ (@ps_par3 _ (5) (6) (7) _ _ _ _ _ _ _ _ _ _ _ _ _ _ _ rfl xnj.nd rfl rfl rfl (by decide) (by decide) (by decide) rfl rfl rfl (@pa_consN _ _ _ _ _ (@pe_comp0 _ _ (["_law_rest", "_law_turn"]) ([none,none]) _ _ _ _ _ _ _ _ xll rfl (@pi_list _ _ _ _ (@pv _ 4 _ _ (by rfl) (Or.inl rfl) (by decide) (by decide))) (fun z=>(@pg_tup _ _ _ _ _ (2) rfl (@pgs_cons _ _ _ _ _ (@pg_name _ _ (0) _ xll.nd rfl (Or.inl rfl) (by exact .inr rfl)) (@pgs_cons _ _ _ _ _ (@pg_name _ _ (1) _ xll.nd rfl (Or.inl rfl) (by exact .inr rfl)) (@pgs_nil _) (by rfl)) (by rfl)) (by rfl) (by rfl))) (sets_two _ _ 0 1) (by decide) (fun z=>(@pv _ 0 _ _ (by rfl) (by exact .inl rfl) (by decide) (by decide))) (by intro _; rfl)) (@pa_consN _ _ _ _ _ (@pe_callB _ _ _ _ _ _ _ _ _ call_len_seq rfl T.b_len B.len (@pa_consN _ _ _ _ _ (@pv _ 4 _ _ (by rfl) (Or.inl rfl) (by decide) (by decide)) (@pa_nil _) (by rfl)) (by decide) (by decide) (by rfl) (by rfl)) (@pa_consN _ _ _ _ _ (@pe_callTy _ _ _ _ _ _ _ _ _ call_list_of rfl T.b_list B.list (@pa_consN _ _ _ _ _ (@pv _ 4 _ _ (by rfl) (Or.inl rfl) (by decide) (by decide)) (@pa_nil _) (by rfl)) (by decide) (by decide) (by rfl) (by rfl)) (@pa_nil _) (by rfl)) (by rfl)) (by rfl)) rfl (by rfl)) (@pss_cons _ _ _ _ _ (@ps_set _ _ (8) _ _ _ _ xnj.nd rfl (Or.inl rfl) (@pe_lst _ _ _ _ (@pa_consN _ _ _ _ _ (@pe_non _ _ _) (@pa_consN _ _ _ _ _ (@pe_tup _ _ _ _ _ (@pa_nil _)) (@pa_consN _ _ _ _ _ (@pe_str _ _ _ _) (@pa_consN _ _ _ _ _ (@pe_dict0 _ _) (@pa_consN _ _ _ _ _ (@pe_int _ _ _ _) (@pa_consN _ _ _ _ _ (@pe_lst _ _ _ _ (@pa_consN _ _ _ _ _ (@pe_non _ _ _) (@pa_nil _) (by rfl))) (@pa_consN _ _ _ _ _ (@pe_lst _ _ _ _ (@pa_consN _ _ _ _ _ (@pe_int _ _ _ _) (@pa_nil _) (by rfl))) (@pa_consN _ _ _ _ _ (@pe_lst _ _ _ _ (@pa_consN _ _ _ _ _ (@pe_tup _ _ _ _ _ (@pa_consN _ _ _ _ _ (@pe_int _ _ _ _) (@pa_nil _) (by rfl))) (@pa_nil _) (by rfl))) (@pa_consN _ _ _ _ _ (@pe_lst _ _ _ _ (@pa_consN _ _ _ _ _ (@pe_tup _ _ _ _ _ (@pa_consN _ _ _ _ _ (@pe_int _ _ _ _) (@pa_consN _ _ _ _ _ (@pe_int _ _ _ _) (@pa_consN _ _ _ _ _ (@pe_int _ _ _ _) (@pa_nil _) (by rfl)) (by rfl)) (by rfl))) (@pa_nil _) (by rfl))) (@pa_consN _ _ _ _ _ (@pe_lst _ _ _ _ (@pa_consN _ _ _ _ _ (@pe_lst _ _ _ _ (@pa_consN _ _ _ _ _ (@pe_int _ _ _ _) (@pa_consN _ _ _ _ _ (@pe_int _ _ _ _) (@pa_nil _) (by rfl)) (by rfl))) (@pa_nil _) (by rfl))) (@pa_consN _ _ _ _ _ (@pe_lst _ _ _ _ (@pa_consN _ _ _ _ _ (@pe_tup _ _ _ _ _ (@pa_consN _ _ _ _ _ (@pe_int _ _ _ _) (@pa_consN _ _ _ _ _ (@pe_int _ _ _ _) (@pa_nil _) (by rfl)) (by rfl))) (@pa_nil _) (by rfl))) (@pa_consN _ _ _ _ _ (@pe_lst _ _ _ _ (@pa_consN _ _ _ _ _ (@pe_tup _ _ _ _ _ (@pa_consN _ _ _ _ _ (@pe_op _ _ _ _ _ _ _ _ op_add (@pe_int _ _ _ _) (@pv _ 1 _ _ (by rfl) (Or.inl rfl) (by decide) (by decide))) (@pa_consN _ _ _ _ _ (@pe_int _ _ _ _) (@pa_nil _) (by rfl)) (by rfl))) (@pa_nil _) (by rfl))) (@pa_consN _ _ _ _ _ (@pe_lst _ _ _ _ (@pa_consN _ _ _ _ _ (@pe_tup _ _ _ _ _ (@pa_consN _ _ _ _ _ (@pe_un _ _ _ _ _ _ un_neg (@pe_int _ _ _ _)) (@pa_consN _ _ _ _ _ (@pe_int _ _ _ _) (@pa_nil _) (by rfl)) (by rfl))) (@pa_nil _) (by rfl))) (@pa_nil _) (by rfl)) (by rfl)) (by rfl)) (by rfl)) (by rfl)) (by rfl)) (by rfl)) (by rfl)) (by rfl)) (by rfl)) (by rfl)) (by rfl)) (by rfl))) (by rfl) (Or.inl rfl)) (@pss_cons _ _ _ _ _ (@ps_set _ _ (8) _ _ _ _ xnj.nd rfl (Or.inl rfl) (@pe_op _ _ _ _ _ _ _ _ op_cat (@pv _ 8 _ _ (by rfl) (Or.inl rfl) (by decide) (by decide)) (@pe_lst _ _ _ _ (@pa_consN _ _ _ _ _ (@pe_lst _ _ _ _ (@pa_consN _ _ _ _ _ (@pe_tup _ _ _ _ _ (@pa_consN _ _ _ _ _ (@pe_int _ _ _ _) (@pa_consN _ _ _ _ _ (@pe_int _ _ _ _) (@pa_nil _) (by rfl)) (by rfl))) (@pa_nil _) (by rfl))) (@pa_consN _ _ _ _ _ (@pe_lst _ _ _ _ (@pa_consN _ _ _ _ _ (@pe_tup _ _ _ _ _ (@pa_consN _ _ _ _ _ (@pe_int _ _ _ _) (@pa_consN _ _ _ _ _ (@pe_un _ _ _ _ _ _ un_neg (@pe_int _ _ _ _)) (@pa_nil _) (by rfl)) (by rfl))) (@pa_nil _) (by rfl))) (@pa_consN _ _ _ _ _ (@pe_lst _ _ _ _ (@pa_consN _ _ _ _ _ (@pe_tup _ _ _ _ _ (@pa_consN _ _ _ _ _ (@pe_int _ _ _ _) (@pa_consN _ _ _ _ _ (@pe_int _ _ _ _) (@pa_nil _) (by rfl)) (by rfl))) (@pa_nil _) (by rfl))) (@pa_consN _ _ _ _ _ (@pe_lst _ _ _ _ (@pa_consN _ _ _ _ _ (@pe_tup _ _ _ _ _ (@pa_consN _ _ _ _ _ (@pe_int _ _ _ _) (@pa_consN _ _ _ _ _ (@pe_op _ _ _ _ _ _ _ _ op_add (@pe_int _ _ _ _) (@pv _ 1 _ _ (by rfl) (Or.inl rfl) (by decide) (by decide))) (@pa_nil _) (by rfl)) (by rfl))) (@pa_nil _) (by rfl))) (@pa_consN _ _ _ _ _ (@pe_lst _ _ _ _ (@pa_consN _ _ _ _ _ (@pe_tup _ _ _ _ _ (@pa_consN _ _ _ _ _ (@pe_bl _ _ _ _) (@pa_consN _ _ _ _ _ (@pe_int _ _ _ _) (@pa_nil _) (by rfl)) (by rfl))) (@pa_nil _) (by rfl))) (@pa_consN _ _ _ _ _ (@pe_lst _ _ _ _ (@pa_consN _ _ _ _ _ (@pe_tup _ _ _ _ _ (@pa_consN _ _ _ _ _ (@pe_int _ _ _ _) (@pa_consN _ _ _ _ _ (@pe_bl _ _ _ _) (@pa_nil _) (by rfl)) (by rfl))) (@pa_nil _) (by rfl))) (@pa_nil _) (by rfl)) (by rfl)) (by rfl)) (by rfl)) (by rfl)) (by rfl)))) (by rfl) (Or.inl rfl)) (@pss_cons _ _ _ _ _ (@ps_set _ _ (8) _ _ _ _ xnj.nd rfl (Or.inl rfl) (@pe_op _ _ _ _ _ _ _ _ op_cat (@pv _ 8 _ _ (by rfl) (Or.inl rfl) (by decide) (by decide)) (@pe_lst _ _ _ _ (@pa_consN _ _ _ _ _ (@pe_lst _ _ _ _ (@pa_consN _ _ _ _ _ (@pe_tup _ _ _ _ _ (@pa_consN _ _ _ _ _ (@pe_str _ _ _ _) (@pa_consN _ _ _ _ _ (@pe_int _ _ _ _) (@pa_nil _) (by rfl)) (by rfl))) (@pa_nil _) (by rfl))) (@pa_consN _ _ _ _ _ (@pe_lst _ _ _ _ (@pa_consN _ _ _ _ _ (@pe_tup _ _ _ _ _ (@pa_consN _ _ _ _ _ (@pe_int _ _ _ _) (@pa_consN _ _ _ _ _ (@pe_non _ _ _) (@pa_nil _) (by rfl)) (by rfl))) (@pa_nil _) (by rfl))) (@pa_nil _) (by rfl)) (by rfl)))) (by rfl) (Or.inl rfl)) (@pss_cons _ _ _ _ _ (@ps_for _ _ _ _ _ _ _ _ PassesOwn.never rfl (@pi_range3 _ _ _ _ _ _ _ _ rfl T.b_range (@pa_consN _ _ _ _ _ (@pe_int _ _ _ _) (@pa_consN _ _ _ _ _ (@pv _ 6 _ _ (by rfl) (Or.inl rfl) (by decide) (by decide)) (@pa_consN _ _ _ _ _ (@pe_op _ _ _ _ _ _ _ _ op_add (@pe_int _ _ _ _) (@pe_op _ _ _ _ _ _ _ _ op_fdiv (@pv _ 6 _ _ (by rfl) (Or.inl rfl) (by decide) (by decide)) (@pe_int _ _ _ _))) (@pa_nil _) (by rfl)) (by rfl)) (by rfl)) (by rfl) (by rfl)) (@pg_name _ _ (9) _ xnj.nd rfl (Or.inl rfl) (Or.inl rfl)) (@pss_one _ _ _ (@ps_expr _ _ _ _ (@pe_bm _ _ _ _ _ _ _ _ _ _ _ _ PySem.F.plainAttrs_list PySem.F.slot_list_append PySem.F.type_list_append mt_append (@pv _ 8 _ _ (by rfl) (Or.inl rfl) (by decide) (by decide)) (@pa_consN _ _ _ _ _ (@pe_op _ _ _ _ _ _ _ _ op_cat (@pe_op _ _ _ _ _ _ _ _ op_cat (@pe_slice _ _ _ _ _ _ _ _ _ _ sl_list (@pv _ 4 _ _ (by rfl) (Or.inl rfl) (by decide) (by decide)) (@po_none _) (@po_some _ _ _ (@pv _ 9 _ _ (by rfl) (Or.inl rfl) (by decide) (by decide)))) (@pe_lst _ _ _ _ (@pa_consN _ _ _ _ _ (@pe_ix _ _ _ _ _ _ _ ix_tup (@pe_tup _ _ _ _ _ (@pa_consN _ _ _ _ _ (@pe_non _ _ _) (@pa_consN _ _ _ _ _ (@pe_tup _ _ _ _ _ (@pa_consN _ _ _ _ _ (@pe_int _ _ _ _) (@pa_consN _ _ _ _ _ (@pe_int _ _ _ _) (@pa_nil _) (by rfl)) (by rfl))) (@pa_consN _ _ _ _ _ (@pe_tup _ _ _ _ _ (@pa_consN _ _ _ _ _ (@pe_int _ _ _ _) (@pa_consN _ _ _ _ _ (@pe_int _ _ _ _) (@pa_nil _) (by rfl)) (by rfl))) (@pa_consN _ _ _ _ _ (@pe_lst _ _ _ _ (@pa_consN _ _ _ _ _ (@pe_int _ _ _ _) (@pa_consN _ _ _ _ _ (@pe_int _ _ _ _) (@pa_nil _) (by rfl)) (by rfl))) (@pa_consN _ _ _ _ _ (@pe_tup _ _ _ _ _ (@pa_consN _ _ _ _ _ (@pe_op _ _ _ _ _ _ _ _ op_sub (@pe_un _ _ _ _ _ _ un_neg (@pe_int _ _ _ _)) (@pv _ 1 _ _ (by rfl) (Or.inl rfl) (by decide) (by decide))) (@pa_consN _ _ _ _ _ (@pe_int _ _ _ _) (@pa_nil _) (by rfl)) (by rfl))) (@pa_nil _) (by rfl)) (by rfl)) (by rfl)) (by rfl)) (by rfl))) (@pe_op _ _ _ _ _ _ _ _ op_mod (@pv _ 9 _ _ (by rfl) (Or.inl rfl) (by decide) (by decide)) (@pe_int _ _ _ _)) (fun _ _=>rfl)) (@pa_nil _) (by rfl)))) (@pe_slice _ _ _ _ _ _ _ _ _ _ sl_list (@pv _ 4 _ _ (by rfl) (Or.inl rfl) (by decide) (by decide)) (@po_some _ _ _ (@pe_op _ _ _ _ _ _ _ _ op_add (@pv _ 9 _ _ (by rfl) (Or.inl rfl) (by decide) (by decide)) (@pe_int _ _ _ _))) (@po_none _))) (@pa_nil _) (by rfl)) (by rfl) (by rfl) (by rfl) (by rfl) (by rfl)) (by rfl))) (by intro _; rfl)) (@pss_cons _ _ _ _ _ (@ps_if _ _ _ _ _ _ _ _ (@pt_not _ _ _ _ (@pt_val _ _ _ (@pe_call _ _ _ _ _ _ _ _ _ _ _ _ _ _ _ _ xiF (hr.mono (by decide)) rfl T.xjF T.xjw T.xgG .nil pass0 (@pa_consN _ _ _ _ _ (@pe_glob _ _ (.ref _) _ _ rfl T.xbP rfl (by decide)) (@pa_consN _ _ _ _ _ (@pe_lst _ _ _ _ (@pa_consN _ _ _ _ _ (@pe_int _ _ _ _) (@pa_consN _ _ _ _ _ (@pe_int _ _ _ _) (@pa_nil _) (by rfl)) (by rfl))) (@pa_consN _ _ _ _ _ (@pv _ 8 _ _ (by rfl) (Or.inl rfl) (by decide) (by decide)) (@pa_consN _ _ _ _ _ (@pe_ix _ _ _ _ _ _ _ ix_list (@pv _ 2 _ _ (by rfl) (Or.inl rfl) (by decide) (by decide)) (@pe_int _ _ _ _) (fun _ _=>rfl)) (@pa_nil _) (by rfl)) (by rfl)) (by rfl)) (by rfl)) (by decide) (by rfl) (by rfl)) (by intro _; rfl))) (@pss_one _ _ _ (@ps_ret _ _ _ _ (@pe_bl _ _ _ _))) (@pss_nil _)) (@pss_cons _ _ _ _ _ (@ps_set _ _ (8) _ _ _ _ xnj.nd rfl (Or.inl rfl) (@pe_lst _ _ _ _ (@pa_consN _ _ _ _ _ (@pe_non _ _ _) (@pa_consN _ _ _ _ _ (@pe_tup _ _ _ _ _ (@pa_nil _)) (@pa_consN _ _ _ _ _ (@pe_str _ _ _ _) (@pa_consN _ _ _ _ _ (@pe_dict0 _ _) (@pa_consN _ _ _ _ _ (@pe_int _ _ _ _) (@pa_consN _ _ _ _ _ (@pe_lst _ _ _ _ (@pa_consN _ _ _ _ _ (@pe_non _ _ _) (@pa_nil _) (by rfl))) (@pa_consN _ _ _ _ _ (@pe_lst _ _ _ _ (@pa_consN _ _ _ _ _ (@pe_int _ _ _ _) (@pa_nil _) (by rfl))) (@pa_consN _ _ _ _ _ (@pe_lst _ _ _ _ (@pa_consN _ _ _ _ _ (@pe_un _ _ _ _ _ _ un_neg (@pe_int _ _ _ _)) (@pa_nil _) (by rfl))) (@pa_consN _ _ _ _ _ (@pe_lst _ _ _ _ (@pa_consN _ _ _ _ _ (@pe_int _ _ _ _) (@pa_nil _) (by rfl))) (@pa_consN _ _ _ _ _ (@pe_lst _ _ _ _ (@pa_consN _ _ _ _ _ (@pe_op _ _ _ _ _ _ _ _ op_add (@pe_int _ _ _ _) (@pv _ 1 _ _ (by rfl) (Or.inl rfl) (by decide) (by decide))) (@pa_nil _) (by rfl))) (@pa_consN _ _ _ _ _ (@pe_lst _ _ _ _ (@pa_consN _ _ _ _ _ (@pe_bl _ _ _ _) (@pa_nil _) (by rfl))) (@pa_consN _ _ _ _ _ (@pe_lst _ _ _ _ (@pa_consN _ _ _ _ _ (@pe_str _ _ _ _) (@pa_nil _) (by rfl))) (@pa_consN _ _ _ _ _ (@pe_lst _ _ _ _ (@pa_consN _ _ _ _ _ (@pe_lst _ _ _ _ (@pa_consN _ _ _ _ _ (@pe_int _ _ _ _) (@pa_nil _) (by rfl))) (@pa_nil _) (by rfl))) (@pa_consN _ _ _ _ _ (@pe_lst _ _ _ _ (@pa_consN _ _ _ _ _ (@pe_int _ _ _ _) (@pa_consN _ _ _ _ _ (@pe_int _ _ _ _) (@pa_nil _) (by rfl)) (by rfl))) (@pa_nil _) (by rfl)) (by rfl)) (by rfl)) (by rfl)) (by rfl)) (by rfl)) (by rfl)) (by rfl)) (by rfl)) (by rfl)) (by rfl)) (by rfl)) (by rfl)) (by rfl))) (by rfl) (Or.inl rfl)) (@pss_cons _ _ _ _ _ (@ps_if _ _ _ _ _ _ _ _ (@pt_not _ _ _ _ (@pt_val _ _ _ (@pe_call _ _ _ _ _ _ _ _ _ _ _ _ _ _ _ _ xiF (hr.mono (by decide)) rfl T.xjF T.xjw T.xgG .nil pass0 (@pa_consN _ _ _ _ _ (@pe_glob _ _ (.ref _) _ _ rfl T.xbP rfl (by decide)) (@pa_consN _ _ _ _ _ (@pe_lst _ _ _ _ (@pa_consN _ _ _ _ _ (@pe_int _ _ _ _) (@pa_nil _) (by rfl))) (@pa_consN _ _ _ _ _ (@pv _ 8 _ _ (by rfl) (Or.inl rfl) (by decide) (by decide)) (@pa_consN _ _ _ _ _ (@pe_ix _ _ _ _ _ _ _ ix_list (@pv _ 2 _ _ (by rfl) (Or.inl rfl) (by decide) (by decide)) (@pe_int _ _ _ _) (fun _ _=>rfl)) (@pa_nil _) (by rfl)) (by rfl)) (by rfl)) (by rfl)) (by decide) (by rfl) (by rfl)) (by intro _; rfl))) (@pss_one _ _ _ (@ps_ret _ _ _ _ (@pe_bl _ _ _ _))) (@pss_nil _)) (@pss_cons _ _ _ _ _ (@ps_if _ _ _ _ _ _ _ _ (@pt_not _ _ _ _ (@pt_val _ _ _ (@pe_call _ _ _ _ _ _ _ _ _ _ _ _ _ _ _ _ xiF (hr.mono (by decide)) rfl T.xjF T.xjw T.xgG .nil pass0 (@pa_consN _ _ _ _ _ (@pe_glob _ _ (.ref _) _ _ rfl T.xbm rfl (by decide)) (@pa_consN _ _ _ _ _ (@pe_lst _ _ _ _ (@pa_consN _ _ _ _ _ (@pe_int _ _ _ _) (@pa_nil _) (by rfl))) (@pa_consN _ _ _ _ _ (@pe_lst _ _ _ _ (@pa_consN _ _ _ _ _ (@pe_non _ _ _) (@pa_consN _ _ _ _ _ (@pe_str _ _ _ _) (@pa_consN _ _ _ _ _ (@pe_bl _ _ _ _) (@pa_consN _ _ _ _ _ (@pe_lst _ _ _ _ (@pa_consN _ _ _ _ _ (@pe_int _ _ _ _) (@pa_nil _) (by rfl))) (@pa_nil _) (by rfl)) (by rfl)) (by rfl)) (by rfl))) (@pa_consN _ _ _ _ _ (@pe_ix _ _ _ _ _ _ _ ix_list (@pv _ 2 _ _ (by rfl) (Or.inl rfl) (by decide) (by decide)) (@pe_int _ _ _ _) (fun _ _=>rfl)) (@pa_nil _) (by rfl)) (by rfl)) (by rfl)) (by rfl)) (by decide) (by rfl) (by rfl)) (by intro _; rfl))) (@pss_one _ _ _ (@ps_ret _ _ _ _ (@pe_bl _ _ _ _))) (@pss_nil _)) (@pss_cons _ _ _ _ _ (@ps_set _ _ (8) _ _ _ _ xnj.nd rfl (Or.inl rfl) (@pe_lst _ _ _ _ (@pa_consN _ _ _ _ _ (@pe_non _ _ _) (@pa_consN _ _ _ _ _ (@pe_tup _ _ _ _ _ (@pa_nil _)) (@pa_consN _ _ _ _ _ (@pe_str _ _ _ _) (@pa_consN _ _ _ _ _ (@pe_dict0 _ _) (@pa_consN _ _ _ _ _ (@pe_int _ _ _ _) (@pa_consN _ _ _ _ _ (@pe_lst _ _ _ _ (@pa_consN _ _ _ _ _ (@pe_non _ _ _) (@pa_nil _) (by rfl))) (@pa_consN _ _ _ _ _ (@pe_lst _ _ _ _ (@pa_consN _ _ _ _ _ (@pe_str _ _ _ _) (@pa_nil _) (by rfl))) (@pa_consN _ _ _ _ _ (@pe_lst _ _ _ _ (@pa_consN _ _ _ _ _ (@pe_bl _ _ _ _) (@pa_nil _) (by rfl))) (@pa_consN _ _ _ _ _ (@pe_lst _ _ _ _ (@pa_consN _ _ _ _ _ (@pe_int _ _ _ _) (@pa_nil _) (by rfl))) (@pa_consN _ _ _ _ _ (@pe_lst _ _ _ _ (@pa_consN _ _ _ _ _ (@pe_un _ _ _ _ _ _ un_neg (@pe_int _ _ _ _)) (@pa_nil _) (by rfl))) (@pa_consN _ _ _ _ _ (@pe_lst _ _ _ _ (@pa_consN _ _ _ _ _ (@pe_op _ _ _ _ _ _ _ _ op_add (@pe_int _ _ _ _) (@pv _ 1 _ _ (by rfl) (Or.inl rfl) (by decide) (by decide))) (@pa_nil _) (by rfl))) (@pa_consN _ _ _ _ _ (@pe_lst _ _ _ _ (@pa_consN _ _ _ _ _ (@pe_op _ _ _ _ _ _ _ _ op_sub (@pe_un _ _ _ _ _ _ un_neg (@pe_int _ _ _ _)) (@pv _ 1 _ _ (by rfl) (Or.inl rfl) (by decide) (by decide))) (@pa_nil _) (by rfl))) (@pa_consN _ _ _ _ _ (@pe_lst _ _ _ _ (@pa_consN _ _ _ _ _ (@pe_lst _ _ _ _ (@pa_consN _ _ _ _ _ (@pe_int _ _ _ _) (@pa_nil _) (by rfl))) (@pa_nil _) (by rfl))) (@pa_nil _) (by rfl)) (by rfl)) (by rfl)) (by rfl)) (by rfl)) (by rfl)) (by rfl)) (by rfl)) (by rfl)) (by rfl)) (by rfl)) (by rfl)) (by rfl))) (by rfl) (Or.inl rfl)) (@pss_cons _ _ _ _ _ (@ps_for _ _ _ _ _ _ _ _ PassesOwn.never rfl (@pi_range3 _ _ _ _ _ _ _ _ rfl T.b_range (@pa_consN _ _ _ _ _ (@pe_int _ _ _ _) (@pa_consN _ _ _ _ _ (@pv _ 6 _ _ (by rfl) (Or.inl rfl) (by decide) (by decide)) (@pa_consN _ _ _ _ _ (@pe_op _ _ _ _ _ _ _ _ op_add (@pe_int _ _ _ _) (@pe_op _ _ _ _ _ _ _ _ op_fdiv (@pv _ 6 _ _ (by rfl) (Or.inl rfl) (by decide) (by decide)) (@pe_int _ _ _ _))) (@pa_nil _) (by rfl)) (by rfl)) (by rfl)) (by rfl) (by rfl)) (@pg_name _ _ (9) _ xnj.nd rfl (Or.inl rfl) (Or.inl rfl)) (@pss_one _ _ _ (@ps_expr _ _ _ _ (@pe_bm _ _ _ _ _ _ _ _ _ _ _ _ PySem.F.plainAttrs_list PySem.F.slot_list_append PySem.F.type_list_append mt_append (@pv _ 8 _ _ (by rfl) (Or.inl rfl) (by decide) (by decide)) (@pa_consN _ _ _ _ _ (@pe_op _ _ _ _ _ _ _ _ op_cat (@pe_op _ _ _ _ _ _ _ _ op_cat (@pe_slice _ _ _ _ _ _ _ _ _ _ sl_list (@pv _ 5 _ _ (by rfl) (Or.inl rfl) (by decide) (by decide)) (@po_none _) (@po_some _ _ _ (@pv _ 9 _ _ (by rfl) (Or.inl rfl) (by decide) (by decide)))) (@pe_lst _ _ _ _ (@pa_consN _ _ _ _ _ (@pe_ix _ _ _ _ _ _ _ ix_tup (@pe_tup _ _ _ _ _ (@pa_consN _ _ _ _ _ (@pe_non _ _ _) (@pa_consN _ _ _ _ _ (@pe_str _ _ _ _) (@pa_consN _ _ _ _ _ (@pe_bl _ _ _ _) (@pa_consN _ _ _ _ _ (@pe_op _ _ _ _ _ _ _ _ op_add (@pe_int _ _ _ _) (@pv _ 1 _ _ (by rfl) (Or.inl rfl) (by decide) (by decide))) (@pa_consN _ _ _ _ _ (@pe_un _ _ _ _ _ _ un_neg (@pe_int _ _ _ _)) (@pa_nil _) (by rfl)) (by rfl)) (by rfl)) (by rfl)) (by rfl))) (@pe_op _ _ _ _ _ _ _ _ op_mod (@pv _ 9 _ _ (by rfl) (Or.inl rfl) (by decide) (by decide)) (@pe_int _ _ _ _)) (fun _ _=>rfl)) (@pa_nil _) (by rfl)))) (@pe_slice _ _ _ _ _ _ _ _ _ _ sl_list (@pv _ 5 _ _ (by rfl) (Or.inl rfl) (by decide) (by decide)) (@po_some _ _ _ (@pe_op _ _ _ _ _ _ _ _ op_add (@pv _ 9 _ _ (by rfl) (Or.inl rfl) (by decide) (by decide)) (@pe_int _ _ _ _))) (@po_none _))) (@pa_nil _) (by rfl)) (by rfl) (by rfl) (by rfl) (by rfl) (by rfl)) (by rfl))) (by intro _; rfl)) (@pss_cons _ _ _ _ _ (@ps_if _ _ _ _ _ _ _ _ (@pt_not _ _ _ _ (@pt_val _ _ _ (@pe_call _ _ _ _ _ _ _ _ _ _ _ _ _ _ _ _ xiF (hr.mono (by decide)) rfl T.xjF T.xjw T.xgG .nil pass0 (@pa_consN _ _ _ _ _ (@pe_glob _ _ (.ref _) _ _ rfl T.xaY rfl (by decide)) (@pa_consN _ _ _ _ _ (@pe_listRng _ _ _ _ _ _ _ rfl rfl T.b_range rfl T.b_list B.list (@pa_consN _ _ _ _ _ (@pe_int _ _ _ _) (@pa_nil _) (by rfl)) (by rfl)) (@pa_consN _ _ _ _ _ (@pv _ 8 _ _ (by rfl) (Or.inl rfl) (by decide) (by decide)) (@pa_consN _ _ _ _ _ (@pe_ix _ _ _ _ _ _ _ ix_list (@pv _ 2 _ _ (by rfl) (Or.inl rfl) (by decide) (by decide)) (@pe_int _ _ _ _) (fun _ _=>rfl)) (@pa_nil _) (by rfl)) (by rfl)) (by rfl)) (by rfl)) (by decide) (by rfl) (by rfl)) (by intro _; rfl))) (@pss_one _ _ _ (@ps_ret _ _ _ _ (@pe_bl _ _ _ _))) (@pss_nil _)) (@pss_cons _ _ _ _ _ (@ps_if _ _ _ _ _ _ _ _ (@pt_not _ _ _ _ (@pt_val _ _ _ (@pe_call _ _ _ _ _ _ _ _ _ _ _ _ _ _ _ _ xiF (hr.mono (by decide)) rfl T.xjF T.xjw T.xgG .nil pass0 (@pa_consN _ _ _ _ _ (@pe_glob _ _ (.ref _) _ _ rfl T.xbm rfl (by decide)) (@pa_consN _ _ _ _ _ (@pe_lst _ _ _ _ (@pa_consN _ _ _ _ _ (@pe_int _ _ _ _) (@pa_nil _) (by rfl))) (@pa_consN _ _ _ _ _ (@pe_lst _ _ _ _ (@pa_consN _ _ _ _ _ (@pe_non _ _ _) (@pa_consN _ _ _ _ _ (@pe_str _ _ _ _) (@pa_consN _ _ _ _ _ (@pe_bl _ _ _ _) (@pa_consN _ _ _ _ _ (@pe_lst _ _ _ _ (@pa_consN _ _ _ _ _ (@pe_int _ _ _ _) (@pa_nil _) (by rfl))) (@pa_consN _ _ _ _ _ (@pe_int _ _ _ _) (@pa_consN _ _ _ _ _ (@pe_op _ _ _ _ _ _ _ _ op_sub (@pe_un _ _ _ _ _ _ un_neg (@pe_int _ _ _ _)) (@pv _ 1 _ _ (by rfl) (Or.inl rfl) (by decide) (by decide))) (@pa_nil _) (by rfl)) (by rfl)) (by rfl)) (by rfl)) (by rfl)) (by rfl))) (@pa_consN _ _ _ _ _ (@pe_ix _ _ _ _ _ _ _ ix_list (@pv _ 2 _ _ (by rfl) (Or.inl rfl) (by decide) (by decide)) (@pe_int _ _ _ _) (fun _ _=>rfl)) (@pa_nil _) (by rfl)) (by rfl)) (by rfl)) (by rfl)) (by decide) (by rfl) (by rfl)) (by intro _; rfl))) (@pss_one _ _ _ (@ps_ret _ _ _ _ (@pe_bl _ _ _ _))) (@pss_nil _)) (@pss_cons _ _ _ _ _ (@ps_if _ _ _ _ _ _ _ _ (@pt_not _ _ _ _ (@pt_val _ _ _ (@pe_call _ _ _ _ _ _ _ _ _ _ _ _ _ _ _ _ xiF (hr.mono (by decide)) rfl T.xjF T.xjw T.xgG .nil pass0 (@pa_consN _ _ _ _ _ (@pe_glob _ _ (.ref _) _ _ rfl T.xck rfl (by decide)) (@pa_consN _ _ _ _ _ (@pe_lst _ _ _ _ (@pa_consN _ _ _ _ _ (@pe_int _ _ _ _) (@pa_consN _ _ _ _ _ (@pe_int _ _ _ _) (@pa_nil _) (by rfl)) (by rfl))) (@pa_consN _ _ _ _ _ (@pe_lst _ _ _ _ (@pa_consN _ _ _ _ _ (@pe_non _ _ _) (@pa_consN _ _ _ _ _ (@pe_str _ _ _ _) (@pa_consN _ _ _ _ _ (@pe_int _ _ _ _) (@pa_consN _ _ _ _ _ (@pe_un _ _ _ _ _ _ un_neg (@pe_int _ _ _ _)) (@pa_consN _ _ _ _ _ (@pe_op _ _ _ _ _ _ _ _ op_sub (@pe_un _ _ _ _ _ _ un_neg (@pe_int _ _ _ _)) (@pv _ 1 _ _ (by rfl) (Or.inl rfl) (by decide) (by decide))) (@pa_consN _ _ _ _ _ (@pe_int _ _ _ _) (@pa_consN _ _ _ _ _ (@pe_op _ _ _ _ _ _ _ _ op_add (@pe_int _ _ _ _) (@pv _ 1 _ _ (by rfl) (Or.inl rfl) (by decide) (by decide))) (@pa_consN _ _ _ _ _ (@pe_bl _ _ _ _) (@pa_consN _ _ _ _ _ (@pe_lst _ _ _ _ (@pa_consN _ _ _ _ _ (@pe_int _ _ _ _) (@pa_nil _) (by rfl))) (@pa_nil _) (by rfl)) (by rfl)) (by rfl)) (by rfl)) (by rfl)) (by rfl)) (by rfl)) (by rfl)) (by rfl))) (@pa_consN _ _ _ _ _ (@pe_ix _ _ _ _ _ _ _ ix_list (@pv _ 2 _ _ (by rfl) (Or.inl rfl) (by decide) (by decide)) (@pe_int _ _ _ _) (fun _ _=>rfl)) (@pa_nil _) (by rfl)) (by rfl)) (by rfl)) (by rfl)) (by decide) (by rfl) (by rfl)) (by intro _; rfl))) (@pss_one _ _ _ (@ps_ret _ _ _ _ (@pe_bl _ _ _ _))) (@pss_nil _)) (@pss_cons _ _ _ _ _ (@ps_if _ _ _ _ _ _ _ _ (@pt_not _ _ _ _ (@pt_val _ _ _ (@pe_call _ _ _ _ _ _ _ _ _ _ _ _ _ _ _ _ xiF (hr.mono (by decide)) rfl T.xjF T.xjw T.xgG .nil pass0 (@pa_consN _ _ _ _ _ (@pe_glob _ _ (.ref _) _ _ rfl T.xcj rfl (by decide)) (@pa_consN _ _ _ _ _ (@pe_lst _ _ _ _ (@pa_consN _ _ _ _ _ (@pe_int _ _ _ _) (@pa_consN _ _ _ _ _ (@pe_int _ _ _ _) (@pa_nil _) (by rfl)) (by rfl))) (@pa_consN _ _ _ _ _ (@pe_lst _ _ _ _ (@pa_consN _ _ _ _ _ (@pe_non _ _ _) (@pa_consN _ _ _ _ _ (@pe_str _ _ _ _) (@pa_consN _ _ _ _ _ (@pe_un _ _ _ _ _ _ un_neg (@pe_int _ _ _ _)) (@pa_consN _ _ _ _ _ (@pe_op _ _ _ _ _ _ _ _ op_sub (@pe_un _ _ _ _ _ _ un_neg (@pe_int _ _ _ _)) (@pv _ 1 _ _ (by rfl) (Or.inl rfl) (by decide) (by decide))) (@pa_consN _ _ _ _ _ (@pe_int _ _ _ _) (@pa_consN _ _ _ _ _ (@pe_op _ _ _ _ _ _ _ _ op_add (@pe_int _ _ _ _) (@pv _ 1 _ _ (by rfl) (Or.inl rfl) (by decide) (by decide))) (@pa_consN _ _ _ _ _ (@pe_bl _ _ _ _) (@pa_consN _ _ _ _ _ (@pe_lst _ _ _ _ (@pa_consN _ _ _ _ _ (@pe_int _ _ _ _) (@pa_nil _) (by rfl))) (@pa_nil _) (by rfl)) (by rfl)) (by rfl)) (by rfl)) (by rfl)) (by rfl)) (by rfl)) (by rfl))) (@pa_consN _ _ _ _ _ (@pe_ix _ _ _ _ _ _ _ ix_list (@pv _ 2 _ _ (by rfl) (Or.inl rfl) (by decide) (by decide)) (@pe_int _ _ _ _) (fun _ _=>rfl)) (@pa_nil _) (by rfl)) (by rfl)) (by rfl)) (by rfl)) (by decide) (by rfl) (by rfl)) (by intro _; rfl))) (@pss_one _ _ _ (@ps_ret _ _ _ _ (@pe_bl _ _ _ _))) (@pss_nil _)) (@pss_one _ _ _ (@ps_ret _ _ _ _ (@pe_and _ _ _ _ _ _ _ (@pe_cmpR _ _ _ _ _ _ _ _ (op_eqL (eqty_pair (hu_of hr)) hr.units0) (@pv _ 4 _ _ (by rfl) (Or.inl rfl) (by decide) (by decide)) (@pv _ 7 _ _ (by rfl) (Or.inl rfl) (by decide) (by decide)) (nomark _)) (@pe_and _ _ _ _ _ _ _ (@pe_cmpR _ _ _ _ _ _ _ _ (op_eqL (eqty_pair (hu_of hr)) hr.units0) (@pe_call _ _ _ _ _ _ _ _ _ _ _ _ _ _ _ _ xmB (hr.mono (by decide)) rfl T.xm9 T.xm1 T.xlO .nil passNo (@pa_consN _ _ _ _ _ (@pe_un _ _ _ _ _ _ un_neg (@pe_int _ _ _ _)) (@pa_consN _ _ _ _ _ (@pe_lst _ _ _ _ (@pa_consN _ _ _ _ _ (@pe_int _ _ _ _) (@pa_consN _ _ _ _ _ (@pe_int _ _ _ _) (@pa_nil _) (by rfl)) (by rfl))) (@pa_nil _) (by rfl)) (by rfl)) (by decide) (by rfl) (by rfl)) (@pe_lst _ _ _ _ (@pa_consN _ _ _ _ _ (@pe_tup _ _ _ _ _ (@pa_consN _ _ _ _ _ (@pe_int _ _ _ _) (@pa_consN _ _ _ _ _ (@pe_int _ _ _ _) (@pa_nil _) (by rfl)) (by rfl))) (@pa_consN _ _ _ _ _ (@pe_tup _ _ _ _ _ (@pa_consN _ _ _ _ _ (@pe_int _ _ _ _) (@pa_consN _ _ _ _ _ (@pe_int _ _ _ _) (@pa_nil _) (by rfl)) (by rfl))) (@pa_nil _) (by rfl)) (by rfl))) (nomark _)) (@pe_one _ _ _ _ _ (@pe_cmpR _ _ _ _ _ _ _ _ (op_eqL (eqty_pair (hu_of hr)) hr.units0) (@pe_call _ _ _ _ _ _ _ _ _ _ _ _ _ _ _ _ xmB (hr.mono (by decide)) rfl T.xm9 T.xm1 T.xlO .nil passNo (@pa_consN _ _ _ _ _ (@pv _ 1 _ _ (by rfl) (Or.inl rfl) (by decide) (by decide)) (@pa_consN _ _ _ _ _ (@pe_lst _ _ _ _ (@pa_nil _)) (@pa_nil _) (by rfl)) (by rfl)) (by decide) (by rfl) (by rfl)) (@pe_lst _ _ _ _ (@pa_nil _)) (nomark _)))))))))))))))))))))))))),?_⟩
  refine ⟨_,rfl,a,ns,0,rfl,hS.sq,(by decide),fun c0=>⟨_,_,rfl,rfl,⟨by decide,by decide,by decide⟩,_,_,rfl,rfl,(by show (0:Int) < 10 ^ Int.toNat 6; decide),?_⟩⟩
  dsimp only [gName]
  have hf0:0 ≤ c0 % (10:Int) ^ (Int.toNat 6):=Int.emod_nonneg _ (by decide)
  have hf1:c0 % (10:Int) ^ (Int.toNat 6) < 1000000:=Int.emod_lt_of_pos _ (by decide)
  generalize c0 % (10:Int) ^ (Int.toNat 6) = far at *
  refine ⟨(by show 0 ≤ sizeLine; decide),fun ld hld=>?_⟩
  refine ⟨4,rfl,by decide,by decide,?_⟩
  refine for_range (lo:=0) (n:=4) (fun i σ H'=>∃ f3:Option V,σ = [some (.ref a),some (.int far),some (.ref ld),f3,none,none,none,none,none,none] ∧ Same H H' ∧ ∃ dl:List Addr,H' ld = some (.lst (dl.map V.ref)) ∧ dl.length = i ∧ ∀ (j:Nat) d,dl[j]? = some d → d ≠ ld ∧ LstB H' d (kinds j)) ⟨_,rfl,same_new hld _,[],upd_same,rfl,fun j d z=>nomatch z⟩ ?_ ?_
  · rintro i σ H1 hi ⟨f3,rfl,s1,dl,hl,hdl,hk⟩
    refine ⟨_,rfl,.inl ⟨rfl,_,SqL.of hl⟩,_,rfl,_,_,rfl,rfl,_,rfl,_,_,rfl,rfl,_,rfl,_,_,rfl,rfl,_,rfl,_,_,rfl,rfl,(by show 7 ≤ sizeLine; decide),fun d hd=>?_⟩
    have sd:=same_new hd (.lst ([decide (0 + (i:Int) = 0),decide (0 + (i:Int) = 1),decide (0 + (i:Int) = 2),decide (0 + (i:Int) = 3),false,false,true].map V.bl))
    have hdl':d ≠ ld:=(ne_of_none hl hd).symm
    refine ⟨ld,_,_,rfl,rfl,sd _ _ hl,(by rw [List.length_map]; exact small1000 (by omega)),some (.int (0 + (i:Int))),rfl,fun b o e=>?_,dl ++ [d],?_,by rw [List.length_append,hdl]; rfl,?_⟩
    · rw [upd_ne (ne_of_none e hld)]; exact sd _ _ (s1 _ _ e)
    · rw [upd_same,List.map_append]; rfl
    · intro j d' hj
      rw [List.getElem?_append] at hj
      by_cases hji:j < dl.length
      · rw [if_pos hji] at hj
        obtain ⟨h1,h2⟩:=hk j d' hj
        refine ⟨h1,?_⟩
        show upd _ ld _ d' = _
        rw [upd_ne h1]; exact sd _ _ h2
      · rw [if_neg hji] at hj
        have hj0:j = i:=by
          have:=(List.getElem?_eq_some_iff.mp hj).1
          simp at this
          omega
        subst hj0
        rw [hdl,Nat.sub_self] at hj
        cases hj
        refine ⟨hdl',?_⟩
        show upd _ ld _ d = _
        rw [upd_ne hdl']
        have:j = 0 ∨ j = 1 ∨ j = 2 ∨ j = 3:=by omega
        rcases this with rfl | rfl | rfl | rfl <;> exact upd_same
  rintro σ H2 ⟨f3,rfl,s2,dl,hl,hdl,hk⟩
  obtain ⟨d0,d1,d2,d3,rfl⟩:∃ d0 d1 d2 d3,dl = [d0,d1,d2,d3]:=by
    match dl,hdl with
    | [a,b,c,d],_=>exact ⟨a,b,c,d,rfl⟩
  have k0:=(hk 0 d0 rfl).2
  have k1:=(hk 1 d1 rfl).2
  have k2:=(hk 2 d2 rfl).2
  have k3:=(hk 3 d3 rfl).2
  clear hk hdl
  refine ⟨_,rfl,a,ns,rfl,hS.same s2,hlen,fun lr rs H3 hO hrl hR s3=>?_⟩
  obtain ⟨as,hL,hP⟩:=id hR
  have hal:=hP.length
  refine ⟨_,rfl,lr,rfl,⟨_,SqL.of hL⟩,comp_list (K:=K) (a:=lr) (xs:=as.map V.ref) (fun i ys H'=>H' = H3 ∧ ys = ((rs.take i).map fun p=>p.1).map V.int) ⟨rfl,rfl⟩ (by rw [List.length_map]; exact small100 (by omega)) ?_ ?_ ?_⟩
  · rintro i ys H' hi ⟨rfl,rfl⟩
    rw [List.length_map] at hi
    exact ⟨SqL.of hL,by rw [List.length_map,List.length_map,List.length_take]; omega⟩
  · rintro i v ys H' hx ⟨rfl,rfl⟩
    obtain ⟨b,r,rfl,hb,hr',hq⟩:=prs_get hP hx
    refine ⟨b,_,rfl,SqT.of hq,rfl,_,_,rfl,_,_,rfl,rfl,_,rfl,rfl,?_⟩
    rw [take_snoc hr',List.map_append,List.map_append]
    rfl
  rintro ys H' ⟨rfl,rfl⟩ ln hln
  rw [List.length_map,hal,List.take_length]
  have sn:=same_new hln (.lst ((rs.map fun p=>p.1).map V.int))
  refine ⟨_,rfl,lr,_,rfl,.inl (SqL.of (sn _ _ hL)),_,rfl,lr,_,rfl,.inl (SqL.of (sn _ _ hL)),fun lk hlk=>⟨_,_,_,rfl,?_⟩⟩
  have sk:=sn.trans (same_new hlk (.lst (as.map V.ref)))
  have hN:LstAt (upd (upd H' ln (.lst ((rs.map fun p=>p.1).map V.int))) lk (.lst (as.map V.ref))) ln (rs.map fun p=>p.1):=(same_new hlk _) _ _ upd_same
  have hKp:PrsAt (upd (upd H' ln (.lst ((rs.map fun p=>p.1).map V.int))) lk (.lst (as.map V.ref))) lk rs:=⟨as,upd_same,Paired.mapP hP fun b p z=>sk _ _ z⟩
  have s5:Same H2 (upd (upd H' ln (.lst ((rs.map fun p=>p.1).map V.int))) lk (.lst (as.map V.ref))):=s3.trans sk
  have hR5:=hR.same sk
  generalize upd (upd H' ln (.lst ((rs.map fun p=>p.1).map V.int))) lk (.lst (as.map V.ref)) = H5 at *
  rw [List.length_map,hal]
  have vf:∀ {f3 f4 f5 f6 f7 f8 f9:Option V},Val [some (.ref a),some (.int far),some (.ref ld),f3,f4,f5,f6,f7,f8,f9] (tVar 1) (.int far):=val_v rfl
  dsimp only
  refine asg_lst (k:=8) (n:=13) (F:=fun H x=>ListB K (PrOf K) H x false) hFR ?hm1 (by decide) ?hk1
  case hm1 =>
    exact mks_cons hFR nl_non (mks_cons hFR nl_tup (mks_cons hFR nl_str (mks_cons hFR nl_dict (mks_cons hFR nl_int
      (mks_cons hFR (rb_one (c:=.non) val_c (fun _=>.non) nofun) (mks_cons hFR (rb_one (c:=.int) val_c (fun _=>.int _) nofun) (mks_cons hFR (rb_tup1 val_c) (mks_cons hFR (rb_tup3 val_c val_c val_c) (mks_cons hFR (rb_lst val_c val_c)
      (mks_cons hFR (rb_pair val_c val_c (fun _=>whl_int) (fun _=>whl_int) rfl) (mks_cons hFR (rb_pair (val_add val_c vf) val_c (fun _=>whl_int) (fun _=>whl_int) (rest_no (by omega))) (mks_cons hFR (rb_pair (val_neg val_c) val_c (fun _=>whl_int) (fun _=>whl_int) (rest_no (by omega))) mks_nil))))))))))))
  intro l1 b1 H6 s6 hl1 hL1 hB1 hn1
  refine cat_lst (i:=8) (k:=8) (n:=6) (F:=fun H x=>ListB K (PrOf K) H x false) hFR rfl hL1 hB1 (by omega) ?hm2 (by decide) ?hk2
  case hm2 =>
    exact mks_cons hFR (rb_pair val_c val_c (fun _=>whl_int) (fun _=>whl_int) (rest_out rfl)) (mks_cons hFR (rb_pair val_c (val_neg val_c) (fun _=>whl_int) (fun _=>whl_int) (rest_out (in_no (by omega)))) (mks_cons hFR (rb_pair val_c val_c (fun _=>whl_int) (fun _=>whl_int) (rest_out rfl))
      (mks_cons hFR (rb_pair val_c (val_add val_c vf) (fun _=>whl_int) (fun _=>whl_int) (rest_out (in_no (by omega)))) (mks_cons hFR (rb_pair val_c val_c (fun _=>whl_bl) (fun _=>whl_int) rest_none) (mks_cons hFR (rb_pair val_c val_c (fun _=>whl_int) (fun _=>whl_bl) (rest_out rfl)) mks_nil)))))
  intro l2 b2 H7 s7 hl2 hB2 hn2
  have s8:=same_new hl2 (.lst (b1 ++ b2))
  have hL2:upd H7 l2 (.lst (b1 ++ b2)) l2 = some (.lst (b1 ++ b2)):=upd_same
  have hB3:∀ x ∈ b1 ++ b2,ListB K (PrOf K) (upd H7 l2 (.lst (b1 ++ b2))) x false:=fun x hx=>hFR s8 (hB2 x hx)
  have hn3:(b1 ++ b2).length = 19:=by rw [List.length_append]; omega
  have s58:=(s6.trans s7).trans s8
  generalize upd H7 l2 (.lst (b1 ++ b2)) = H8 at *
  generalize b1 ++ b2 = b3 at *
  refine cat_lst (i:=8) (k:=8) (n:=2) (F:=fun H x=>ListB K (PrOf K) H x false) hFR rfl hL2 hB3 (by omega) ?hm3 (by decide) ?hk3
  case hm3 =>
    exact mks_cons hFR (rb_pair val_c val_c (fun _=>whl_str) (fun _=>whl_int) rest_none) (mks_cons hFR (rb_pair val_c val_c (fun _=>whl_int) (fun _=>whl_non) (rest_out rfl)) mks_nil)
  intro lb b4 H9 s9 hlb hB4 hn4
  have s59:=s58.trans s9
  have hR9:PrsAt H9 lr rs:=hR5.same s59
  have hN9:LstAt H9 ln (rs.map fun p=>p.1):=s59 _ _ hN
  have hbl:(b3 ++ b4).length = 21:=by rw [List.length_append]; omega
  generalize b3 ++ b4 = bs0 at *
  have hs0:=same_new hlb (.lst bs0)
  have hH0:upd H9 lb (.lst bs0) lb = some (.lst bs0):=upd_same
  refine ⟨_,rfl,_,rfl,_,_,rfl,rfl,⟨by decide,by decide⟩,_,_,rfl,rfl,_,_,rfl,⟨by omega,by omega⟩,⟨by omega,by omega⟩,?_⟩
  have hcp:(0:Int) < 1 + (rs.length:Int) / 6:=by omega
  generalize hcs:1 + (rs.length:Int) / 6 = cs at *
  refine for_step (lo:=0) (c:=cs) (n:=stepN (rs.length:Int) cs) (fun i σ H'=>∃ f9:Option V,σ = [some (.ref a),some (.int far),some (.ref ld),f3,some (.ref lr),some (.ref ln),some (.int (rs.length:Int)),some (.ref lk),some (.ref lb),f9] ∧ Same H9 H' ∧ ∃ xs,H' lb = some (.lst xs) ∧ xs.length = 21 + i ∧ ∀ x ∈ xs,ListB K (PrOf K) (rmv H' lb) x false)
    ⟨_,rfl,hs0,bs0,hH0,by omega,fun x hx=>hFR (rmv_up hlb hs0) (hB4 x hx)⟩ ?_ ?_
  · rintro i σ H1 hi ⟨f9,rfl,e1,xs,hx,hxl,hxB⟩
    have hat:=stepN_lt hcp hi
    have hile:=stepN_le (m:=(rs.length:Int)) hcp (by omega)
    have hat':0 ≤ 0 + (i:Int) * cs ∧ 0 + (i:Int) * cs < rs.length:=by omega
    clear hat
    generalize 0 + (i:Int) * cs = at_ at *
    obtain ⟨as1,hLr,hP1⟩:=hR9.same e1
    have hal1:=hP1.length
    refine ⟨_,rfl,.inl ⟨rfl,_,SqL.of hx⟩,?_⟩
    refine ⟨_,rfl,_,rfl,_,rfl,lr,_,rfl,SqL.of hLr,fun u1 hu1=>?_⟩
    have t1:=same_new hu1 (.lst (cutV (as1.map V.ref) none (some at_)))
    have g1:upd H1 u1 (.lst (cutV (as1.map V.ref) none (some at_))) u1 = some (.lst (cutV (as1.map V.ref) none (some at_))):=upd_same
    generalize upd H1 u1 (.lst (cutV (as1.map V.ref) none (some at_))) = G1 at *
    refine ⟨(by show 2 ≤ sizeLine; decide),fun u2 hu2=>?_⟩
    have n2:u2 ≠ lb:=(ne_of_none (t1 _ _ hx) hu2).symm
    have t2:=t1.trans (same_new hu2 (.tup [.int 7,.int 7]))
    have r2:=same_new hu2 (.tup [.int 7,.int 7])
    have g2:upd G1 u2 (.tup [.int 7,.int 7]) u2 = some (.tup [.int 7,.int 7]):=upd_same
    generalize upd G1 u2 (.tup [.int 7,.int 7]) = G2 at *
    refine ⟨(by show 2 ≤ sizeLine; decide),fun u3 hu3=>?_⟩
    have n3:u3 ≠ lb:=(ne_of_none (t2 _ _ hx) hu3).symm
    have r3:=same_new hu3 (.tup [.int 0,.int 0])
    have g3:upd G2 u3 (.tup [.int 0,.int 0]) u3 = some (.tup [.int 0,.int 0]):=upd_same
    generalize upd G2 u3 (.tup [.int 0,.int 0]) = G3 at *
    refine ⟨(by show 2 ≤ sizeLine; decide),fun u4 hu4=>?_⟩
    have n4:u4 ≠ lb:=(ne_of_none ((t2.trans r3) _ _ hx) hu4).symm
    have r4:=same_new hu4 (.lst [.int 0,.int 1])
    have g4:upd G3 u4 (.lst [.int 0,.int 1]) u4 = some (.lst [.int 0,.int 1]):=upd_same
    generalize upd G3 u4 (.lst [.int 0,.int 1]) = G4 at *
    refine ⟨_,rfl,_,rfl,_,_,rfl,rfl,(by show 2 ≤ sizeLine; decide),fun u5 hu5=>?_⟩
    have t4:=(t2.trans r3).trans r4
    have n5:u5 ≠ lb:=(ne_of_none (t4 _ _ hx) hu5).symm
    have r5:=same_new hu5 (.tup [.int (-1 - far),.int 9])
    have g5:upd G4 u5 (.tup [.int (-1 - far),.int 9]) u5 = some (.tup [.int (-1 - far),.int 9]):=upd_same
    dsimp only
    generalize upd G4 u5 (.tup [.int (-1 - far),.int 9]) = G5 at *
    refine ⟨(by show 5 ≤ sizeLine; decide),fun u6 hu6=>?_⟩
    have r6:=same_new hu6 (.tup [.non,.ref u2,.ref u3,.ref u4,.ref u5])
    have g6:upd G5 u6 (.tup [.non,.ref u2,.ref u3,.ref u4,.ref u5]) u6 = some (.tup [.non,.ref u2,.ref u3,.ref u4,.ref u5]):=upd_same
    generalize upd G5 u6 (.tup [.non,.ref u2,.ref u3,.ref u4,.ref u5]) = G6 at *
    obtain ⟨x,hx5,hxx⟩:=five_at (x0:=V.non) (x1:=V.ref u2) (x2:=V.ref u3) (x3:=V.ref u4) (x4:=V.ref u5) (k:=at_ % 5) (Int.emod_nonneg _ (by decide)) (Int.emod_lt_of_pos _ (by decide))
    refine ⟨_,rfl,_,_,rfl,rfl,(by show (0:Int) < 5; decide),u6,_,_,_,rfl,rfl,SqT.of g6,hx5,(by show 1 ≤ sizeLine; decide),fun u7 hu7=>?_⟩
    have r7:=same_new hu7 (.lst [x])
    have g7:upd G6 u7 (.lst [x]) u7 = some (.lst [x]):=upd_same
    have t7:=((t4.trans r5).trans r6).trans r7
    have g1':=((((r2.trans r3).trans r4).trans ((r5.trans r6).trans r7))) _ _ g1
    generalize upd G6 u7 (.lst [x]) = G7 at *
    have hc1:(cutV (as1.map V.ref) none (some at_)).length ≤ 63:=Nat.le_trans cut_len (by rw [List.length_map]; omega)
    have hc2:(cutV (as1.map V.ref) (some (at_ + 1)) none).length ≤ 63:=Nat.le_trans cut_len (by rw [List.length_map]; omega)
    refine ⟨u1,u7,_,_,rfl,rfl,g1',g7,small100 (by show _ + 1 ≤ 1000; omega),fun u8 hu8=>?_⟩
    have r8:=same_new hu8 (.lst (cutV (as1.map V.ref) none (some at_) ++ [x]))
    have g8:upd G7 u8 (.lst (cutV (as1.map V.ref) none (some at_) ++ [x])) u8 = some (.lst (cutV (as1.map V.ref) none (some at_) ++ [x])):=upd_same
    have t8:=t7.trans r8
    generalize upd G7 u8 (.lst (cutV (as1.map V.ref) none (some at_) ++ [x])) = G8 at *
    refine ⟨_,rfl,_,rfl,_,_,rfl,rfl,_,rfl,lr,_,rfl,SqL.of (t8 _ _ hLr),fun u9 hu9=>?_⟩
    have r9:=same_new hu9 (.lst (cutV (as1.map V.ref) (some (at_ + 1)) none))
    have g9:upd G8 u9 (.lst (cutV (as1.map V.ref) (some (at_ + 1)) none)) u9 = some (.lst (cutV (as1.map V.ref) (some (at_ + 1)) none)):=upd_same
    generalize upd G8 u9 (.lst (cutV (as1.map V.ref) (some (at_ + 1)) none)) = G9 at *
    refine ⟨u8,u9,_,_,rfl,rfl,r9 _ _ g8,g9,small100 (by rw [List.length_append]; show _ + 1 + _ ≤ 1000; omega),fun u10 hu10=>?_⟩
    have n10:u10 ≠ lb:=(ne_of_none ((t8.trans r9) _ _ hx) hu10).symm
    have r10:=same_new hu10 (.lst (cutV (as1.map V.ref) none (some at_) ++ [x] ++ cutV (as1.map V.ref) (some (at_ + 1)) none))
    have g10:upd G9 u10 (.lst (cutV (as1.map V.ref) none (some at_) ++ [x] ++ cutV (as1.map V.ref) (some (at_ + 1)) none)) u10 = some (.lst (cutV (as1.map V.ref) none (some at_) ++ [x] ++ cutV (as1.map V.ref) (some (at_ + 1)) none)):=upd_same
    have t10:=(t8.trans r9).trans r10
    have r210:=(((((((r3.trans r4).trans r5).trans r6).trans r7).trans r8).trans r9).trans r10)
    have r310:=((((((r4.trans r5).trans r6).trans r7).trans r8).trans r9).trans r10)
    have r410:=(((((r5.trans r6).trans r7).trans r8).trans r9).trans r10)
    have r510:=((((r6.trans r7).trans r8).trans r9).trans r10)
    generalize upd G9 u10 (.lst (cutV (as1.map V.ref) none (some at_) ++ [x] ++ cutV (as1.map V.ref) (some (at_ + 1)) none)) = G10 at *
    have hPm:Paired (fun b (p:Int × Int)=>rmv G10 lb b = some (.tup [.int p.1,.int p.2])) as1 rs:=by
      obtain ⟨as2,hL2',hP2⟩:=hR9
      have e12:as1 = as2:=by
        have:=(e1 _ _ hL2').symm.trans hLr
        exact (List.map_inj_right (fun a b z=>V.ref.inj z)).mp (HO.lst.inj (Option.some.inj this)).symm
      subst e12
      exact Paired.mapP hP2 fun b p z=>rmv_up hlb (e1.trans t10) _ _ z
    have hPx:PrOf K (rmv G10 lb) x false:=by
      rcases hxx with rfl | rfl | rfl | rfl | rfl
      · exact .inl ⟨rfl,.non,.non,nofun⟩
      · exact .inr ⟨u2,_,rfl,rmv_of (r210 _ _ g2) n2,.inr ⟨_,_,some 7,some 7,rfl,whl_int,whl_int,(rest_no (by omega)).symm⟩⟩
      · exact .inr ⟨u3,_,rfl,rmv_of (r310 _ _ g3) n3,.inr ⟨_,_,some 0,some 0,rfl,whl_int,whl_int,(rest_out rfl).symm⟩⟩
      · exact .inl ⟨rfl,.lst,.lst (rmv_of (r410 _ _ g4) n4),nofun⟩
      · exact .inr ⟨u5,_,rfl,rmv_of (r510 _ _ g5) n5,.inr ⟨_,_,some (-1 - far),some 9,rfl,whl_int,whl_int,(rest_no (by omega)).symm⟩⟩
    refine ⟨lb,_,_,rfl,rfl,t10 _ _ hx,small1000 (by omega),some (.int at_),rfl,fun b o e=>?_,xs ++ [.ref u10],upd_same,by rw [List.length_append,hxl]; show 21 + i + 1 = 21 + (i + 1); omega,fun y hy=>?_⟩
    · rw [upd_ne (ne_of_none e hlb)]; exact t10 _ _ (e1 _ _ e)
    · have sm:Same (rmv G10 lb) (rmv (upd G10 lb (.lst (xs ++ [.ref u10]))) lb):=rmv_mono fun b o n e=>by rw [upd_ne n]; exact e
      rcases List.mem_append.mp hy with z | z
      · exact hFR ((rmv_mono fun b o n e=>t10 _ _ e).trans sm) (hxB y z)
      · rw [List.mem_singleton.mp z]
        exact hFR sm (mix_bad (rmv_of g10 n10) (by rw [List.length_append,List.length_append]; show _ + 1 + _ ≤ 1000; omega) (fun z hz=>prs_good hPm hO (cut_mem hz)) hPx fun z hz=>prs_good hPm hO (cut_mem hz))
  rintro σ H10 ⟨f9,rfl,e1,xs,hx,hxl,hxB⟩
  have hxn:xs.length ≤ 100:=by have:=stepN_le (m:=(rs.length:Int)) hcp (by omega); omega
  have hxB':∀ x ∈ xs,ListB K (PrOf K) H10 x false:=fun x hm=>hFR rmv_le (hxB x hm)
  have hl:=s5 _ _ hl
  have k0:LstB H5 d0 (kinds 0):=s5 _ _ k0
  have k1:LstB H5 d1 (kinds 1):=s5 _ _ k1
  have k2:LstB H5 d2 (kinds 2):=s5 _ _ k2
  have k3:LstB H5 d3 (kinds 3):=s5 _ _ k3
  have sA:=s59.trans e1
  refine ⟨(by show 2 ≤ sizeLine; decide),fun la hla=>⟨_,rfl,_,rfl,ld,_,_,_,rfl,rfl,SqL.of ((sA.trans (same_new hla _)) _ _ hl),rfl,A.xbv,la,lb,d0,[0,1],xs,0,rfl,upd_same,(same_new hla _) _ _ hx,(sA.trans (same_new hla _)) _ _ k0,by decide,by omega,fun d hd y hy=>ask_rests T (by simpa using hd) (hFR (same_new hla _) (hxB' y hy)),fun H11 s11=>⟨_,rfl,iteF ?_⟩⟩⟩
  have sB:=sA.trans ((same_new hla _).trans s11)
  dsimp only [tNext]
  refine asg_lst (k:=8) (n:=14) (F:=fun H x=>ListB K (InOf K 1 1000000) H x false) hFI ?hm4 (by decide) ?hk4
  case hm4 =>
    exact mks_cons hFI nl_non (mks_cons hFI nl_tup (mks_cons hFI nl_str (mks_cons hFI nl_dict (mks_cons hFI nl_int (mks_cons hFI (ib_one val_c (fun _=>whl_non) rfl) (mks_cons hFI (ib_one val_c (fun _=>whl_int) rfl) (mks_cons hFI (ib_one (val_neg val_c) (fun _=>whl_int) (in_no (by omega)))
      (mks_cons hFI (ib_one val_c (fun _=>whl_int) rfl) (mks_cons hFI (ib_one (val_add val_c vf) (fun _=>whl_int) (in_no (by omega))) (mks_cons hFI (ib_one val_c (fun _=>whl_bl) rfl) (mks_cons hFI (ib_one val_c (fun _=>whl_str) rfl) (mks_cons hFI (ib_lst val_c) (mks_cons hFI (ib_two val_c val_c (fun _=>whl_int) (fun _=>whl_int) rfl) mks_nil)))))))))))))
  intro lb2 x2 H12 s12 hlb2 hx2 hB12 hn12
  have sC:=sB.trans s12
  refine ⟨(by show 1 ≤ sizeLine; decide),fun la hla=>⟨_,rfl,_,rfl,ld,_,_,_,rfl,rfl,SqL.of ((sC.trans (same_new hla _)) _ _ hl),rfl,A.xbv,la,lb2,d0,[2],x2,0,rfl,upd_same,(same_new hla _) _ _ hx2,(sC.trans (same_new hla _)) _ _ k0,by decide,by omega,fun d hd y hy=>(by rw [List.mem_singleton.mp hd]; exact ask_rounds T (hFI (same_new hla _) (hB12 y hy))),fun H13 s13=>⟨_,rfl,iteF ?_⟩⟩⟩
  have sD:=sC.trans ((same_new hla _).trans s13)
  dsimp only [tNext]
  refine ⟨(by show 1 ≤ sizeLine; decide),fun la2 hla2=>?_⟩
  refine mks_lst (n:=4) (F:=NoWhl K) ?hm5 (by decide) ?hk5 NoWhl.same
  case hm5=>exact mks_cons NoWhl.same (nw_val val_c (fun _=>whl_non)) (mks_cons NoWhl.same (nw_val val_c (fun _=>whl_str)) (mks_cons NoWhl.same (nw_val val_c (fun _=>whl_bl)) (mks_cons NoWhl.same (nw_lst val_c) mks_nil)))
  intro lb3 x3 H14 s14 hlb3 hx3 hB14 hn14
  have sE:=sD.trans ((same_new hla2 _).trans s14)
  refine ⟨_,rfl,ld,_,_,_,rfl,rfl,SqL.of (sE _ _ hl),rfl,A.xa7,la2,lb3,d0,[1],x3,0,rfl,s14 _ _ upd_same,hx3,sE _ _ k0,by decide,by omega,fun d hd y hy=>(by rw [List.mem_singleton.mp hd]; exact ask_number1 T (hB14 y hy)),fun H15 s15=>⟨_,rfl,iteF ?_⟩⟩
  have sF:=sE.trans s15
  dsimp only [tNext]
  refine asg_lst0 (k:=8) (n:=13) (F:=fun H x=>ListB K (InOf K (-1000000) 1000000) H x false) ?hm6 (by decide) ?hk6
  case hm6 =>
    exact mks_cons hFI nl_non (mks_cons hFI nl_tup (mks_cons hFI nl_str (mks_cons hFI nl_dict (mks_cons hFI nl_int (mks_cons hFI (ib_one val_c (fun _=>whl_non) rfl) (mks_cons hFI (ib_one val_c (fun _=>whl_str) rfl) (mks_cons hFI (ib_one val_c (fun _=>whl_bl) rfl)
      (mks_cons hFI (ib_one val_c (fun _=>whl_int) rfl) (mks_cons hFI (ib_one (val_neg val_c) (fun _=>whl_int) (in_no (by omega))) (mks_cons hFI (ib_one (val_add val_c vf) (fun _=>whl_int) (in_no (by omega))) (mks_cons hFI (ib_one (val_sub (val_neg val_c) vf) (fun _=>whl_int) (in_no (by omega))) (mks_cons hFI (ib_lst val_c) mks_nil))))))))))))
  intro lc x4 H16 s16 hlc hB16 hn16
  have sG:=sF.trans s16
  have hN16:LstAt H16 ln (rs.map fun p=>p.1):=sG _ _ hN
  have hs1:=same_new hlc (.lst x4)
  have hH1:upd H16 lc (.lst x4) lc = some (.lst x4):=upd_same
  refine ⟨_,rfl,_,rfl,_,_,rfl,rfl,⟨by decide,by decide⟩,_,_,rfl,rfl,_,_,rfl,⟨by omega,by omega⟩,⟨by omega,by omega⟩,?_⟩
  rw [hcs]
  refine for_step (lo:=0) (c:=cs) (n:=stepN (rs.length:Int) cs) (fun i σ H'=>∃ f9:Option V,σ = [some (.ref a),some (.int far),some (.ref ld),f3,some (.ref lr),some (.ref ln),some (.int (rs.length:Int)),some (.ref lk),some (.ref lc),f9] ∧ Same H16 H' ∧ ∃ xs,H' lc = some (.lst xs) ∧ xs.length = 13 + i ∧ ∀ x ∈ xs,ListB K (InOf K (-1000000) 1000000) (rmv H' lc) x false)
    ⟨_,rfl,hs1,x4,hH1,by omega,fun x hx=>hFI (rmv_up hlc hs1) (hB16 x hx)⟩ ?_ ?_
  · rintro i σ H1 hi ⟨f9,rfl,e1,xs,hx,hxl,hxB⟩
    have hat:=stepN_lt hcp hi
    have hile:=stepN_le (m:=(rs.length:Int)) hcp (by omega)
    have hat':0 ≤ 0 + (i:Int) * cs ∧ 0 + (i:Int) * cs < rs.length:=by omega
    clear hat
    generalize 0 + (i:Int) * cs = at_ at *
    have hLn:LstAt H1 ln (rs.map fun p=>p.1):=e1 _ _ hN16
    refine ⟨_,rfl,.inl ⟨rfl,_,SqL.of hx⟩,?_⟩
    refine ⟨_,rfl,_,rfl,_,rfl,ln,_,rfl,SqL.of hLn,fun u1 hu1=>?_⟩
    have t1:=same_new hu1 (.lst (cutV ((rs.map fun p=>p.1).map V.int) none (some at_)))
    have g1:upd H1 u1 (.lst (cutV ((rs.map fun p=>p.1).map V.int) none (some at_))) u1 = some (.lst (cutV ((rs.map fun p=>p.1).map V.int) none (some at_))):=upd_same
    generalize upd H1 u1 (.lst (cutV ((rs.map fun p=>p.1).map V.int) none (some at_))) = G1 at *
    refine ⟨_,rfl,_,_,rfl,rfl,_,rfl,(by show 5 ≤ sizeLine; decide),fun u6 hu6=>?_⟩
    dsimp only
    have r6:=same_new hu6 (.tup [.non,.str (Str.ofString "1"),.bl true,.int (1000001 + far),.int (-1000001)])
    have g6:upd G1 u6 (.tup [.non,.str (Str.ofString "1"),.bl true,.int (1000001 + far),.int (-1000001)]) u6 = some (.tup [.non,.str (Str.ofString "1"),.bl true,.int (1000001 + far),.int (-1000001)]):=upd_same
    generalize upd G1 u6 (.tup [.non,.str (Str.ofString "1"),.bl true,.int (1000001 + far),.int (-1000001)]) = G6 at *
    obtain ⟨x,hx5,hxx⟩:=five_at (x0:=V.non) (x1:=V.str (Str.ofString "1")) (x2:=V.bl true) (x3:=V.int (1000001 + far)) (x4:=V.int (-1000001)) (k:=at_ % 5) (Int.emod_nonneg _ (by decide)) (Int.emod_lt_of_pos _ (by decide))
    refine ⟨_,rfl,_,_,rfl,rfl,(by show (0:Int) < 5; decide),u6,_,_,_,rfl,rfl,SqT.of g6,hx5,(by show 1 ≤ sizeLine; decide),fun u7 hu7=>?_⟩
    have r7:=same_new hu7 (.lst [x])
    have g7:upd G6 u7 (.lst [x]) u7 = some (.lst [x]):=upd_same
    have t7:=(t1.trans r6).trans r7
    have g1':=(r6.trans r7) _ _ g1
    generalize upd G6 u7 (.lst [x]) = G7 at *
    have hc1:(cutV ((rs.map fun p=>p.1).map V.int) none (some at_)).length ≤ 63:=Nat.le_trans cut_len (by rw [List.length_map,List.length_map]; omega)
    have hc2:(cutV ((rs.map fun p=>p.1).map V.int) (some (at_ + 1)) none).length ≤ 63:=Nat.le_trans cut_len (by rw [List.length_map,List.length_map]; omega)
    refine ⟨u1,u7,_,_,rfl,rfl,g1',g7,small100 (by show _ + 1 ≤ 1000; omega),fun u8 hu8=>?_⟩
    have r8:=same_new hu8 (.lst (cutV ((rs.map fun p=>p.1).map V.int) none (some at_) ++ [x]))
    have g8:upd G7 u8 (.lst (cutV ((rs.map fun p=>p.1).map V.int) none (some at_) ++ [x])) u8 = some (.lst (cutV ((rs.map fun p=>p.1).map V.int) none (some at_) ++ [x])):=upd_same
    have t8:=t7.trans r8
    generalize upd G7 u8 (.lst (cutV ((rs.map fun p=>p.1).map V.int) none (some at_) ++ [x])) = G8 at *
    refine ⟨_,rfl,_,rfl,_,_,rfl,rfl,_,rfl,ln,_,rfl,SqL.of (t8 _ _ hLn),fun u9 hu9=>?_⟩
    have r9:=same_new hu9 (.lst (cutV ((rs.map fun p=>p.1).map V.int) (some (at_ + 1)) none))
    have g9:upd G8 u9 (.lst (cutV ((rs.map fun p=>p.1).map V.int) (some (at_ + 1)) none)) u9 = some (.lst (cutV ((rs.map fun p=>p.1).map V.int) (some (at_ + 1)) none)):=upd_same
    generalize upd G8 u9 (.lst (cutV ((rs.map fun p=>p.1).map V.int) (some (at_ + 1)) none)) = G9 at *
    refine ⟨u8,u9,_,_,rfl,rfl,r9 _ _ g8,g9,small100 (by rw [List.length_append]; show _ + 1 + _ ≤ 1000; omega),fun u10 hu10=>?_⟩
    have n10:u10 ≠ lc:=(ne_of_none ((t8.trans r9) _ _ hx) hu10).symm
    have r10:=same_new hu10 (.lst (cutV ((rs.map fun p=>p.1).map V.int) none (some at_) ++ [x] ++ cutV ((rs.map fun p=>p.1).map V.int) (some (at_ + 1)) none))
    have g10:upd G9 u10 (.lst (cutV ((rs.map fun p=>p.1).map V.int) none (some at_) ++ [x] ++ cutV ((rs.map fun p=>p.1).map V.int) (some (at_ + 1)) none)) u10 = some (.lst (cutV ((rs.map fun p=>p.1).map V.int) none (some at_) ++ [x] ++ cutV ((rs.map fun p=>p.1).map V.int) (some (at_ + 1)) none)):=upd_same
    have t10:=(t8.trans r9).trans r10
    generalize upd G9 u10 (.lst (cutV ((rs.map fun p=>p.1).map V.int) none (some at_) ++ [x] ++ cutV ((rs.map fun p=>p.1).map V.int) (some (at_ + 1)) none)) = G10 at *
    have hPx:InOf K (-1000000) 1000000 (rmv G10 lc) x false:=by
      rcases hxx with rfl | rfl | rfl | rfl | rfl
      · exact ⟨none,whl_non,rfl⟩
      · exact ⟨none,whl_str,rfl⟩
      · exact ⟨none,whl_bl,rfl⟩
      · exact ⟨some (1000001 + far),whl_int,(in_no (by omega)).symm⟩
      · exact ⟨some (-1000001),whl_int,rfl⟩
    refine ⟨lc,_,_,rfl,rfl,t10 _ _ hx,small1000 (by omega),some (.int at_),rfl,fun b o e=>?_,xs ++ [.ref u10],upd_same,by rw [List.length_append,hxl]; show 13 + i + 1 = 13 + (i + 1); omega,fun y hy=>?_⟩
    · rw [upd_ne (ne_of_none e hlc)]; exact t10 _ _ (e1 _ _ e)
    · have sm:Same (rmv G10 lc) (rmv (upd G10 lc (.lst (xs ++ [.ref u10]))) lc):=rmv_mono fun b o n e=>by rw [upd_ne n]; exact e
      rcases List.mem_append.mp hy with z | z
      · exact hFI ((rmv_mono fun b o n e=>t10 _ _ e).trans sm) (hxB y z)
      · rw [List.mem_singleton.mp z]
        exact hFI sm (mix_bad (rmv_of g10 n10) (by rw [List.length_append,List.length_append]; show _ + 1 + _ ≤ 1000; omega) (fun z hz=>nums_good hO (cut_mem hz)) hPx fun z hz=>nums_good hO (cut_mem hz))
  rintro σ H17 ⟨f9,rfl,e2,xs',hx',hxl',hxB'⟩
  have hxn':xs'.length ≤ 100:=by have:=stepN_le (m:=(rs.length:Int)) hcp (by omega); omega
  have hxB2:∀ x ∈ xs',ListB K (InOf K (-1000000) 1000000) H17 x false:=fun x hm=>hFI rmv_le (hxB' x hm)
  have sH:=sG.trans e2
  dsimp only
  refine ⟨4,rfl,by decide,fun la hla=>⟨_,rfl,_,rfl,ld,_,_,_,rfl,rfl,SqL.of ((sH.trans (same_new hla _)) _ _ hl),rfl,A.xaF,la,lc,d1,[0,1,2,3],xs',1,rfl,upd_same,(same_new hla _) _ _ hx',(sH.trans (same_new hla _)) _ _ k1,by decide,by omega,fun d hd y hy=>ask_numbers T (hFI (same_new hla _) (hxB2 y hy)),fun H18 s18=>⟨_,rfl,iteF ?_⟩⟩⟩
  have sI:=sH.trans ((same_new hla _).trans s18)
  dsimp only [tNext]
  refine ⟨(by show 1 ≤ sizeLine; decide),fun la3 hla3=>?_⟩
  refine mks_lst (n:=6) (F:=NoIn K (-1000000) 1000000) ?hm7 (by decide) ?hk7 NoIn.same
  case hm7=>exact mks_cons NoIn.same (ni_val val_c (fun _=>whl_non) rfl) (mks_cons NoIn.same (ni_val val_c (fun _=>whl_str) rfl) (mks_cons NoIn.same (ni_val val_c (fun _=>whl_bl) rfl) (mks_cons NoIn.same (ni_lst val_c) (mks_cons NoIn.same (ni_val val_c (fun _=>whl_int) rfl) (mks_cons NoIn.same (ni_val (val_sub (val_neg val_c) vf) (fun _=>whl_int) (in_no (by omega))) mks_nil)))))
  intro lb5 x5 H19 s19 hlb5 hx5 hB19 hn19
  have sJ:=sI.trans ((same_new hla3 _).trans s19)
  refine ⟨_,rfl,ld,_,_,_,rfl,rfl,SqL.of (sJ _ _ hl),rfl,A.xa7,la3,lb5,d1,[0],x5,1,rfl,s19 _ _ upd_same,hx5,sJ _ _ k1,by decide,by omega,fun d hd y hy=>(by rw [List.mem_singleton.mp hd]; exact ask_number0 T (hB19 y hy)),fun H20 s20=>⟨_,rfl,iteF ?_⟩⟩
  have sK:=sJ.trans s20
  dsimp only [tNext]
  refine ⟨(by show 2 ≤ sizeLine; decide),fun la4 hla4=>?_⟩
  refine mks_lst (n:=9) (F:=NoIn K 1 1000000) ?hm8 (by decide) ?hk8 NoIn.same
  case hm8 =>
    exact mks_cons NoIn.same (ni_val val_c (fun _=>whl_non) rfl) (mks_cons NoIn.same (ni_val val_c (fun _=>whl_str) rfl) (mks_cons NoIn.same (ni_val val_c (fun _=>whl_int) rfl) (mks_cons NoIn.same (ni_val (val_neg val_c) (fun _=>whl_int) (in_no (by omega))) (mks_cons NoIn.same (ni_val (val_sub (val_neg val_c) vf) (fun _=>whl_int) (in_no (by omega)))
      (mks_cons NoIn.same (ni_val val_c (fun _=>whl_int) rfl) (mks_cons NoIn.same (ni_val (val_add val_c vf) (fun _=>whl_int) (in_no (by omega))) (mks_cons NoIn.same (ni_val val_c (fun _=>whl_bl) rfl) (mks_cons NoIn.same (ni_lst val_c) mks_nil))))))))
  intro lb6 x6 H21 s21 hlb6 hx6 hB21 hn21
  have sL:=sK.trans ((same_new hla4 _).trans s21)
  refine ⟨_,rfl,ld,_,_,_,rfl,rfl,SqL.of (sL _ _ hl),rfl,A.xb7,la4,lb6,d2,[0,1],x6,2,rfl,s21 _ _ upd_same,hx6,sL _ _ k2,by decide,by omega,fun d hd y hy=>ask_turn T (hB21 y hy),fun H22 s22=>⟨_,rfl,iteF ?_⟩⟩
  have sM:=sL.trans s22
  dsimp only [tNext]
  refine ⟨(by show 2 ≤ sizeLine; decide),fun la5 hla5=>?_⟩
  refine mks_lst (n:=8) (F:=NoRest K) ?hm9 (by decide) ?hk9 NoRest.same
  case hm9 =>
    exact mks_cons NoRest.same (nr_val val_c (fun _=>whl_non) rest_none rest_none) (mks_cons NoRest.same (nr_val val_c (fun _=>whl_str) rest_none rest_none) (mks_cons NoRest.same (nr_val (val_neg val_c) (fun _=>whl_int) (rest_no (by omega)) (rest_no (by omega))) (mks_cons NoRest.same (nr_val (val_sub (val_neg val_c) vf) (fun _=>whl_int) (rest_no (by omega)) (rest_no (by omega)))
      (mks_cons NoRest.same (nr_val val_c (fun _=>whl_int) (rest_no (by omega)) (rest_no (by omega))) (mks_cons NoRest.same (nr_val (val_add val_c vf) (fun _=>whl_int) (rest_no (by omega)) (rest_no (by omega))) (mks_cons NoRest.same (nr_val val_c (fun _=>whl_bl) rest_none rest_none) (mks_cons NoRest.same (nr_lst val_c) mks_nil)))))))
  intro lb7 x7 H23 s23 hlb7 hx7 hB23 hn23
  have sN:=sM.trans ((same_new hla5 _).trans s23)
  refine ⟨_,rfl,ld,_,_,_,rfl,rfl,SqL.of (sN _ _ hl),rfl,A.xb6,la5,lb7,d3,[1,6],x7,3,rfl,s23 _ _ upd_same,hx7,sN _ _ k3,by decide,by omega,fun d hd y hy=>ask_rest T (by simpa using hd) (hB23 y hy),fun H24 s24=>⟨_,rfl,iteF ?_⟩⟩
  have sO:=sN.trans s24
  dsimp only [tNext]
  refine ⟨_,rfl,_,rfl,lr,lk,rs,rs,rfl,rfl,(hR5.same sO).rep,(hKp.same sO).rep,_,rfl,?_⟩
  rw [decT rfl]
  refine iteT ?_
  refine ⟨_,rfl,(by show 2 ≤ sizeLine; decide),fun la6 hla6=>?_⟩
  refine ⟨.int (-1),.ref la6,some (-1),rfl,whl_int,.inr (.inr ⟨-1,la6,[1000000,1],rfl,rfl,upd_same,by decide,by decide,fun l H25 hP25 s25=>?_⟩)⟩
  refine ⟨(by show 2 ≤ sizeLine; decide),fun w1 hw1=>⟨(by show 2 ≤ sizeLine; decide),fun w2 hw2=>⟨(by show 2 ≤ sizeLine; decide),fun w3 hw3=>?_⟩⟩⟩
  refine ⟨l,w3,[(999999,1000000),(0,1)],[(999999,1000000),(0,1)],rfl,rfl,PrsAt.rep (hP25.same ((same_new hw1 _).trans ((same_new hw2 _).trans (same_new hw3 _)))),PrsAt.rep ⟨[w1,w2],upd_same,.cons ((same_new hw3 _) _ _ ((same_new hw2 _) _ _ upd_same)) (.cons ((same_new hw3 _) _ _ upd_same) .nil)⟩,_,rfl,?_⟩
  rw [decT rfl]
  refine iteT ?_
  refine ⟨_,rfl,(by show 0 ≤ sizeLine; decide),fun la7 hla7=>?_⟩
  refine ⟨.int far,.ref la7,some far,rfl,whl_int,.inr (.inr ⟨far,la7,[],rfl,rfl,upd_same,(fun _ z=>nomatch z),by decide,fun l8 H26 hP26 s26=>?_⟩)⟩
  refine ⟨(by show 0 ≤ sizeLine; decide),fun w4 hw4=>?_⟩
  refine ⟨l8,w4,[],[],rfl,rfl,PrsAt.rep (hP26.same (same_new hw4 _)),PrsAt.rep ⟨[],upd_same,.nil⟩,?_⟩
  rw [decT rfl]
  exact q _
end
end W08
set_option Elab.async false
set_option linter.all false
namespace H08
open PySem PySem.W PySem.Calls PyProof.Rows
noncomputable section
set_option maxRecDepth 100000
theorem laid:(PySem.Challenge.pw_wheelrow_k08_refused.main.body.isEmpty) = false:=by
  cases h:PySem.Challenge.pw_wheelrow_k08_refused.main.body.isEmpty with
  | false=>rfl
  | true =>
    have t:(!PySem.Challenge.pw_wheelrow_k08_refused.main.body.isEmpty) = true:=by k_qdec
    rw [h] at t
    cases t
abbrev p':Program:=PySem.W.Fast.tw575097952881069824
abbrev pq:Program:=PySem.Challenge.pw_wheelrow_k08_refused
theorem pq_eq:pq = p':=by
  have _:=laid
  exact PySem.W.Fast.te575097952881069824
abbrev S (s:String):Str:=Str.ofString s
def tpOf (p:Program) (i:Nat):Stmt:=p.main.body.getD i (.Pass ⟨0,0,0,0⟩)
abbrev tp (i:Nat):Stmt:=tpOf p' i
def ic (s:Stmt) (j:Nat):Stmt:=match s with
  | .ClassDef _ _ _ body _ _ _ _ _ _ _=>body.getD j (.Pass ⟨0,0,0,0⟩)
  | _=>.Pass ⟨0,0,0,0⟩
def fA (s:Stmt):Arguments:=match s with
  | .FunctionDef _ a _ _ _ _ _ _ _ _=>a
  | _=>{ posonlyargs:=[],args:=[],vararg:=none,kwonlyargs:=[],kw_defaults:=[],kwarg:=none,defaults:=[] }
def fB (s:Stmt):List Stmt:=match s with
  | .FunctionDef _ _ b _ _ _ _ _ _ _=>b
  | _=>[]
def fS (s:Stmt):Scope:=match s with
  | .FunctionDef _ _ _ _ _ _ sc _ _ _=>sc
  | _=>{ kind:=.function,names:=[],isGenerator:=false,isCoroutine:=false }
abbrev vi (n t:Nat):Value:=.int (.ofNat n) t
abbrev vs (s:Str) (t:Nat):Value:=.str s t
abbrev vr (n:Nat):Value:=.ref n
abbrev de (P:Params) (s:Str) (t:Nat) (v:Value):DictEntry:=⟨PyData.keyHash P s,.str s t,v⟩
abbrev c0:Str:=⟨⟨[95,95,110,97,109,101,95,95]⟩⟩
abbrev c1:Str:=⟨⟨[98,117,105,108,116,105,110,115]⟩⟩
abbrev c2:Str:=⟨⟨[95,95,100,111,99,95,95]⟩⟩
abbrev c3:Str:=⟨⟨[95,95,112,97,99,107,97,103,101,95,95]⟩⟩
abbrev c4:Str:=⟨⟨[95,95,108,111,97,100,101,114,95,95]⟩⟩
abbrev c5:Str:=⟨⟨[95,95,115,112,101,99,95,95]⟩⟩
abbrev c160:Str:=⟨⟨[95,95,109,97,105,110,95,95]⟩⟩
abbrev c161:Str:=⟨⟨[95,95,97,110,110,111,116,97,116,105,111,110,115,95,95]⟩⟩
abbrev c162:Str:=⟨⟨[95,95,98,117,105,108,116,105,110,115,95,95]⟩⟩
abbrev c163:Str:=⟨⟨[95,95,102,105,108,101,95,95]⟩⟩
abbrev c164:Str:=⟨⟨[47,99,108,97,105,109,47,99,117,116,46,112,121]⟩⟩
abbrev c165:Str:=⟨⟨[95,95,99,97,99,104,101,100,95,95]⟩⟩
abbrev c166:Str:=⟨⟨[60,109,111,100,117,108,101,62]⟩⟩
abbrev c167:Str:=⟨⟨[119,104,101,101,108,114,111,119,46,97,110,115,119,101,114,115]⟩⟩
abbrev c168:Str:=⟨⟨[95,119,97,108,108]⟩⟩
abbrev c169:Str:=⟨⟨[71,82,69,65,84,69,83,84,95,82,79,85,78,68]⟩⟩
abbrev c170:Str:=⟨⟨[71,82,69,65,84,69,83,84,95,78,85,77,66,69,82]⟩⟩
abbrev c171:Str:=⟨⟨[105,115,95,119,104,111,108,101]⟩⟩
abbrev c172:Str:=⟨⟨[105,115,95,110,117,109,98,101,114]⟩⟩
abbrev c173:Str:=⟨⟨[97,114,101,95,110,117,109,98,101,114,115]⟩⟩
abbrev c174:Str:=⟨⟨[105,115,95,114,111,117,110,100]⟩⟩
abbrev c175:Str:=⟨⟨[97,114,101,95,114,111,117,110,100,115]⟩⟩
abbrev c176:Str:=⟨⟨[105,115,95,114,101,115,116]⟩⟩
abbrev c177:Str:=⟨⟨[105,115,95,114,101,115,116,95,112,97,105,114]⟩⟩
abbrev c178:Str:=⟨⟨[97,114,101,95,114,101,115,116,115]⟩⟩
abbrev c179:Str:=⟨⟨[103,111,101,115,95,105,110,116,111]⟩⟩
abbrev c180:Str:=⟨⟨[108,101,97,118,101,115]⟩⟩
abbrev c181:Str:=⟨⟨[99,111,109,109,111,110,95,112,97,114,116,95,111,102,95,116,119,111]⟩⟩
abbrev c182:Str:=⟨⟨[112,97,114,116,95,119,105,116,104,95,116,105,109,101,115]⟩⟩
abbrev c183:Str:=⟨⟨[116,117,114,110,101,100,95,98,97,99,107]⟩⟩
abbrev c184:Str:=⟨⟨[99,111,109,109,111,110,95,112,97,114,116]⟩⟩
abbrev c185:Str:=⟨⟨[99,111,109,109,111,110,95,116,117,114,110]⟩⟩
abbrev c186:Str:=⟨⟨[97,108,108,95,116,111,103,101,116,104,101,114]⟩⟩
abbrev c187:Str:=⟨⟨[65,110,115,119,101,114]⟩⟩
abbrev c188:Str:=⟨⟨[78,117,109,98,101,114]⟩⟩
abbrev c189:Str:=⟨⟨[67,108,97,115,104]⟩⟩
abbrev c190:Str:=⟨⟨[67,111,109,109,111,110]⟩⟩
abbrev c191:Str:=⟨⟨[84,105,109,101,115]⟩⟩
abbrev c192:Str:=⟨⟨[66,97,114]⟩⟩
abbrev c193:Str:=⟨⟨[107]⟩⟩
abbrev c194:Str:=⟨⟨[118,97,108,117,101]⟩⟩
abbrev c195:Str:=⟨⟨[119,104,101,101,108,114,111,119,46,110,117,109,98,101,114,115]⟩⟩
abbrev c196:Str:=⟨⟨[116,117,114,110]⟩⟩
abbrev c197:Str:=⟨⟨[112,97,114,116]⟩⟩
abbrev c198:Str:=⟨⟨[110,117,109,98,101,114]⟩⟩
abbrev c199:Str:=⟨⟨[114,101,115,116]⟩⟩
abbrev c200:Str:=⟨⟨[111,110,101]⟩⟩
abbrev c201:Str:=⟨⟨[111,116,104,101,114]⟩⟩
abbrev c202:Str:=⟨⟨[108,101,102,116]⟩⟩
abbrev c203:Str:=⟨⟨[102,111,108,108,111,119,105,110,103]⟩⟩
abbrev c204:Str:=⟨⟨[111,102,116,101,110]⟩⟩
abbrev c205:Str:=⟨⟨[108,101,102,116,95,111,102,116,101,110]⟩⟩
abbrev c206:Str:=⟨⟨[119,104,111,108,101]⟩⟩
abbrev c207:Str:=⟨⟨[102,111,108,108,111,119,105,110,103,95,111,102,116,101,110]⟩⟩
abbrev c208:Str:=⟨⟨[111,116,104,101,114,95,111,102,116,101,110]⟩⟩
abbrev c209:Str:=⟨⟨[110,117,109,98,101,114,115]⟩⟩
abbrev c210:Str:=⟨⟨[116,117,114,110,115]⟩⟩
abbrev c211:Str:=⟨⟨[95,95,109,111,100,117,108,101,95,95]⟩⟩
abbrev c212:Str:=⟨⟨[95,95,113,117,97,108,110,97,109,101,95,95]⟩⟩
abbrev c213:Str:=⟨⟨[95,95,102,105,114,115,116,108,105,110,101,110,111,95,95]⟩⟩
abbrev c214:Str:=⟨⟨[95,95,115,116,97,116,105,99,95,97,116,116,114,105,98,117,116,101,115,95,95]⟩⟩
abbrev c215:Str:=⟨⟨[95,95,100,105,99,116,95,95]⟩⟩
abbrev c216:Str:=⟨⟨[95,95,119,101,97,107,114,101,102,95,95]⟩⟩
abbrev c217:Str:=⟨⟨[95,95,105,110,105,116,95,95]⟩⟩
abbrev c218:Str:=⟨⟨[115,104,111,119,115]⟩⟩
abbrev c219:Str:=⟨⟨[115,101,108,102]⟩⟩
abbrev c220:Str:=⟨⟨[78,117,109,98,101,114,46,95,95,105,110,105,116,95,95]⟩⟩
abbrev c221:Str:=⟨⟨[78,117,109,98,101,114,46,115,104,111,119,115]⟩⟩
abbrev c222:Str:=⟨⟨[67,108,97,115,104,46,95,95,105,110,105,116,95,95]⟩⟩
abbrev c223:Str:=⟨⟨[114,101,115,116,115]⟩⟩
abbrev c224:Str:=⟨⟨[102,105,114,115,116]⟩⟩
abbrev c225:Str:=⟨⟨[115,101,99,111,110,100]⟩⟩
abbrev c226:Str:=⟨⟨[67,108,97,115,104,46,115,104,111,119,115]⟩⟩
abbrev c227:Str:=⟨⟨[116,105,109,101,115]⟩⟩
abbrev c228:Str:=⟨⟨[67,111,109,109,111,110,46,95,95,105,110,105,116,95,95]⟩⟩
abbrev c229:Str:=⟨⟨[67,111,109,109,111,110,46,115,104,111,119,115]⟩⟩
abbrev c230:Str:=⟨⟨[84,105,109,101,115,46,95,95,105,110,105,116,95,95]⟩⟩
abbrev c231:Str:=⟨⟨[84,105,109,101,115,46,115,104,111,119,115]⟩⟩
abbrev c232:Str:=⟨⟨[98,97,114,115]⟩⟩
abbrev c233:Str:=⟨⟨[66,97,114,46,95,95,105,110,105,116,95,95]⟩⟩
abbrev c234:Str:=⟨⟨[66,97,114,46,115,104,111,119,115]⟩⟩
abbrev c235:Str:=⟨⟨[66,97,114,46,98,97,114,115]⟩⟩
abbrev c236:Str:=⟨⟨[108,97,119,95,119,104,101,101,108,114,111,119,95,107,48,56,95,114,101,102,117,115,101,100]⟩⟩
abbrev c237:Str:=⟨⟨[66,97,99,107]⟩⟩
abbrev c238:Str:=⟨⟨[82,101,115,116,69,114,114,111,114]⟩⟩
abbrev c239:Str:=⟨⟨[66,97,100,82,101,115,116,115]⟩⟩
abbrev c240:Str:=⟨⟨[66,97,100,78,117,109,98,101,114,115]⟩⟩
abbrev c241:Str:=⟨⟨[66,97,100,82,111,117,110,100]⟩⟩
abbrev c242:Str:=⟨⟨[66,97,100,82,101,115,116]⟩⟩
abbrev c243:Str:=⟨⟨[66,97,100,67,111,117,110,116]⟩⟩
abbrev c244:Str:=⟨⟨[66,97,100,84,101,120,116]⟩⟩
abbrev c245:Str:=⟨⟨[99,111,109,109,111,110]⟩⟩
abbrev c246:Str:=⟨⟨[99,111,109,109,111,110,95,111,102]⟩⟩
abbrev c247:Str:=⟨⟨[116,105,109,101,115,95,111,102]⟩⟩
abbrev c248:Str:=⟨⟨[99,111,109,101]⟩⟩
abbrev c249:Str:=⟨⟨[98,97,99,107]⟩⟩
abbrev c250:Str:=⟨⟨[116,111,108,100]⟩⟩
abbrev c251:Str:=⟨⟨[106,111,105,110,101,100]⟩⟩
abbrev c252:Str:=⟨⟨[99,108,97,115,104,95,119,105,116,104,95,101,97,114,108,105,101,114]⟩⟩
abbrev c253:Str:=⟨⟨[115,116,114,101,116,99,104]⟩⟩
abbrev c254:Str:=⟨⟨[99,104,111,115,101,110]⟩⟩
abbrev c255:Str:=⟨⟨[112,114,105,109,101,115,95,111,102]⟩⟩
abbrev c256:Str:=⟨⟨[103,114,111,117,112,101,100]⟩⟩
abbrev c257:Str:=⟨⟨[116,111,103,101,116,104,101,114]⟩⟩
abbrev c258:Str:=⟨⟨[112,105,99,107,101,100]⟩⟩
abbrev c259:Str:=⟨⟨[99,104,97,110,103,101,115]⟩⟩
abbrev c260:Str:=⟨⟨[114,101,97,99,104,101,100,95,115,117,109,115]⟩⟩
abbrev c261:Str:=⟨⟨[110,101,119,95,115,117,109]⟩⟩
abbrev c262:Str:=⟨⟨[78,79,95,82,69,83,84,83]⟩⟩
abbrev c263:Str:=⟨⟨[45]⟩⟩
abbrev c264:Str:=⟨⟨[119,114,105,116,116,101,110]⟩⟩
abbrev c265:Str:=⟨⟨[66,97,99,107,46,95,95,105,110,105,116,95,95]⟩⟩
abbrev c266:Str:=⟨⟨[66,97,99,107,46,115,104,111,119,115]⟩⟩
abbrev c267:Str:=⟨⟨[119,104,101,101,108,114,111,119,46,101,114,114,111,114,115]⟩⟩
abbrev c268:Str:=⟨⟨[119,104,101,101,108,114,111,119,46,112,97,114,116,115]⟩⟩
abbrev c269:Str:=⟨⟨[115,116,101,112,115]⟩⟩
abbrev c270:Str:=⟨⟨[115,116,101,112]⟩⟩
abbrev c271:Str:=⟨⟨[100,117,101]⟩⟩
abbrev c272:Str:=⟨⟨[115,111,95,102,97,114]⟩⟩
abbrev c273:Str:=⟨⟨[112,108,97,99,101]⟩⟩
abbrev c274:Str:=⟨⟨[112,97,105,114]⟩⟩
abbrev c275:Str:=⟨⟨[119,104,101,101,108,114,111,119,46,114,101,115,116,115]⟩⟩
abbrev c276:Str:=⟨⟨[109,97,100,101]⟩⟩
abbrev c277:Str:=⟨⟨[109,105,115,115,105,110,103]⟩⟩
abbrev c278:Str:=⟨⟨[102,114,101,115,104]⟩⟩
abbrev c279:Str:=⟨⟨[98,101,103,105,110,115]⟩⟩
abbrev c280:Str:=⟨⟨[108,97,115,116]⟩⟩
abbrev c281:Str:=⟨⟨[116,111,116,97,108]⟩⟩
abbrev c282:Str:=⟨⟨[119,104,101,101,108,114,111,119,46,115,117,109,115]⟩⟩
abbrev c283:Str:=⟨⟨[99,111,117,110,116]⟩⟩
abbrev c284:Str:=⟨⟨[112,114,105,109,101,115]⟩⟩
abbrev c285:Str:=⟨⟨[112,114,105,109,101]⟩⟩
abbrev c286:Str:=⟨⟨[103,114,111,117,112,115]⟩⟩
abbrev c287:Str:=⟨⟨[112,108,97,99,101,115]⟩⟩
abbrev c288:Str:=⟨⟨[103,114,111,117,112]⟩⟩
abbrev c289:Str:=⟨⟨[103,97,105,110,115]⟩⟩
abbrev c290:Str:=⟨⟨[119,97,110,116,101,100]⟩⟩
abbrev c291:Str:=⟨⟨[114,101,97,99,104,101,100]⟩⟩
abbrev c292:Str:=⟨⟨[99,104,97,110,103,101,100]⟩⟩
abbrev c293:Str:=⟨⟨[103,97,105,110]⟩⟩
abbrev c294:Str:=⟨⟨[105,110,115,105,100,101]⟩⟩
abbrev c295:Str:=⟨⟨[111,117,116,115,105,100,101]⟩⟩
abbrev c296:Str:=⟨⟨[109,105,100,100,108,101]⟩⟩
abbrev c297:Str:=⟨⟨[119,104,101,101,108,114,111,119,46,116,101,120,116,115]⟩⟩
abbrev c298:Str:=⟨⟨[95,108,97,119,95,99,101,108,108,95,97,116]⟩⟩
abbrev c299:Str:=⟨⟨[95,108,97,119,95,100,114,97,119]⟩⟩
abbrev c300:Str:=⟨⟨[95,108,97,119,95,116,117,114,110,115]⟩⟩
abbrev c301:Str:=⟨⟨[95,108,97,119,95,114,101,115,116,115]⟩⟩
abbrev c302:Str:=⟨⟨[95,108,97,119,95,112,97,114,116]⟩⟩
abbrev c303:Str:=⟨⟨[95,108,97,119,95,119,104,111,108,101]⟩⟩
abbrev c304:Str:=⟨⟨[95,108,97,119,95,110,117,109,98,101,114,115]⟩⟩
abbrev c305:Str:=⟨⟨[95,108,97,119,95,107,105,110,100,115]⟩⟩
abbrev c306:Str:=⟨⟨[95,108,97,119,95,119,105,116,104,95,114,101,115,116,115]⟩⟩
abbrev c307:Str:=⟨⟨[95,108,97,119,95,119,105,116,104,95,110,117,109,98,101,114,115]⟩⟩
abbrev c308:Str:=⟨⟨[95,108,97,119,95,119,105,116,104,95,116,117,114,110]⟩⟩
abbrev c309:Str:=⟨⟨[95,108,97,119,95,119,105,116,104,95,114,101,115,116]⟩⟩
abbrev c310:Str:=⟨⟨[95,108,97,119,95,119,105,116,104,95,110,117,109,98,101,114]⟩⟩
abbrev c311:Str:=⟨⟨[95,108,97,119,95,116,111,108,100]⟩⟩
abbrev c312:Str:=⟨⟨[95,108,97,119,95,97,108,108]⟩⟩
abbrev c313:Str:=⟨⟨[108,97,119]⟩⟩
abbrev c314:Str:=⟨⟨[95,108,97,119,95,115,99,114,105,112,116]⟩⟩
abbrev c315:Str:=⟨⟨[95,108,97,119,95,107]⟩⟩
abbrev c316:Str:=⟨⟨[95,108,97,119,95,99,101,108,108]⟩⟩
abbrev c317:Str:=⟨⟨[95,108,97,119,95,109,97,110,121]⟩⟩
abbrev c318:Str:=⟨⟨[95,108,97,119,95,112,114,105,109,101,115]⟩⟩
abbrev c319:Str:=⟨⟨[95,108,97,119,95,107,105,110,100]⟩⟩
abbrev c320:Str:=⟨⟨[95,108,97,119,95,102,111,117,110,100]⟩⟩
abbrev c321:Str:=⟨⟨[95,108,97,119,95,116,117,114,110]⟩⟩
abbrev c322:Str:=⟨⟨[95,108,97,119,95,111,110,101]⟩⟩
abbrev c323:Str:=⟨⟨[95,108,97,119,95,111,116,104,101,114]⟩⟩
abbrev c324:Str:=⟨⟨[95,108,97,119,95,110,117,109,98,101,114]⟩⟩
abbrev c325:Str:=⟨⟨[95,108,97,119,95,101,114,114,111,114]⟩⟩
abbrev c326:Str:=⟨⟨[95,108,97,119,95,100,111,111,114]⟩⟩
abbrev c327:Str:=⟨⟨[95,108,97,119,95,116,104,105,110,103]⟩⟩
abbrev c328:Str:=⟨⟨[95,108,97,119,95,97,115,107]⟩⟩
abbrev l0:String:=PySem.W.SL.s14018661285674007319x4
abbrev l1:String:=PySem.W.S.litE [PySem.W.S.mk8 98 rfl,PySem.W.S.mk8 117 rfl,PySem.W.S.mk8 105 rfl,PySem.W.S.mk8 108 rfl,PySem.W.S.mk8 116 rfl,PySem.W.S.mk8 105 rfl,PySem.W.S.mk8 110 rfl,PySem.W.S.mk8 115 rfl,PySem.W.S.mk8 46 rfl,PySem.W.S.mk8 95 rfl,PySem.W.S.mk8 95 rfl,PySem.W.S.mk8 100 rfl,PySem.W.S.mk8 111 rfl,PySem.W.S.mk8 99 rfl,PySem.W.S.mk8 95 rfl,PySem.W.S.mk8 95 rfl,PySem.W.S.mk8 58 rfl,PySem.W.S.mk8 115 rfl,PySem.W.S.mk8 116 rfl,PySem.W.S.mk8 114 rfl,PySem.W.S.mk8 35 rfl,PySem.W.S.mk8 111 rfl,PySem.W.S.mk8 112 rfl,PySem.W.S.mk8 97 rfl,PySem.W.S.mk8 113 rfl,PySem.W.S.mk8 117 rfl,PySem.W.S.mk8 101 rfl] [98,117,105,108,116,105,110,115,46,95,95,100,111,99,95,95,58,115,116,114,35,111,112,97,113,117,101] rfl rfl
abbrev l2:String:=PySem.W.S.litE [PySem.W.S.mk8 98 rfl,PySem.W.S.mk8 117 rfl,PySem.W.S.mk8 105 rfl,PySem.W.S.mk8 108 rfl,PySem.W.S.mk8 116 rfl,PySem.W.S.mk8 105 rfl,PySem.W.S.mk8 110 rfl,PySem.W.S.mk8 115 rfl,PySem.W.S.mk8 46 rfl,PySem.W.S.mk8 95 rfl,PySem.W.S.mk8 95 rfl,PySem.W.S.mk8 112 rfl,PySem.W.S.mk8 97 rfl,PySem.W.S.mk8 99 rfl,PySem.W.S.mk8 107 rfl,PySem.W.S.mk8 97 rfl,PySem.W.S.mk8 103 rfl,PySem.W.S.mk8 101 rfl,PySem.W.S.mk8 95 rfl,PySem.W.S.mk8 95 rfl,PySem.W.S.mk8 58 rfl,PySem.W.S.mk8 115 rfl,PySem.W.S.mk8 116 rfl,PySem.W.S.mk8 114 rfl,PySem.W.S.mk8 35 rfl,PySem.W.S.mk8 111 rfl,PySem.W.S.mk8 112 rfl,PySem.W.S.mk8 97 rfl,PySem.W.S.mk8 113 rfl,PySem.W.S.mk8 117 rfl,PySem.W.S.mk8 101 rfl] [98,117,105,108,116,105,110,115,46,95,95,112,97,99,107,97,103,101,95,95,58,115,116,114,35,111,112,97,113,117,101] rfl rfl
abbrev l3:String:=PySem.W.S.litE [PySem.W.S.mk8 98 rfl,PySem.W.S.mk8 117 rfl,PySem.W.S.mk8 105 rfl,PySem.W.S.mk8 108 rfl,PySem.W.S.mk8 116 rfl,PySem.W.S.mk8 105 rfl,PySem.W.S.mk8 110 rfl,PySem.W.S.mk8 115 rfl,PySem.W.S.mk8 46 rfl,PySem.W.S.mk8 95 rfl,PySem.W.S.mk8 95 rfl,PySem.W.S.mk8 108 rfl,PySem.W.S.mk8 111 rfl,PySem.W.S.mk8 97 rfl,PySem.W.S.mk8 100 rfl,PySem.W.S.mk8 101 rfl,PySem.W.S.mk8 114 rfl,PySem.W.S.mk8 95 rfl,PySem.W.S.mk8 95 rfl,PySem.W.S.mk8 58 rfl,PySem.W.S.mk8 115 rfl,PySem.W.S.mk8 104 rfl,PySem.W.S.mk8 97 rfl,PySem.W.S.mk8 114 rfl,PySem.W.S.mk8 101 rfl,PySem.W.S.mk8 100 rfl,PySem.W.S.mk8 35 rfl,PySem.W.S.mk8 111 rfl,PySem.W.S.mk8 112 rfl,PySem.W.S.mk8 97 rfl,PySem.W.S.mk8 113 rfl,PySem.W.S.mk8 117 rfl,PySem.W.S.mk8 101 rfl] [98,117,105,108,116,105,110,115,46,95,95,108,111,97,100,101,114,95,95,58,115,104,97,114,101,100,35,111,112,97,113,117,101] rfl rfl
abbrev l4:String:=PySem.W.SL.s11665532747177232413x24
abbrev l5:String:=PySem.W.SL.s15183661809925369436x15
abbrev l8:String:=PySem.W.SL.s10557405761357834076x3
abbrev l63:String:=PySem.W.SL.s2742458400755230247x6
abbrev l70:String:=PySem.W.SL.s4290257624100764138x5
abbrev l71:String:=PySem.W.SL.s2766695959194262286x5
abbrev l72:String:=PySem.W.SL.s17162191345867700912x4
abbrev l74:String:=PySem.W.SL.s4278001404047624695x13
abbrev l76:String:=PySem.W.SL.s5946037652744460706x9
abbrev l97:String:=PySem.W.SL.s6070975301684473832x10
abbrev l150:String:=PySem.W.SL.s7097527257260152453x26
abbrev l152:String:=PySem.W.SL.s5856160107412720595x4
abbrev l153:String:=PySem.W.SL.s658472552662922059x5
abbrev l154:String:=PySem.W.SL.s7174869446012820540x8
abbrev l155:String:=PySem.W.SL.s11030030927630378310x26
abbrev l156:String:=PySem.W.SL.s10062305145149207511x16
abbrev l157:String:=PySem.W.SL.s11443829558043349243x14
abbrev l158:String:=PySem.W.SL.s14755015743595814543x17
abbrev l159:String:=PySem.W.SL.s6511155373996960695x17
abbrev l160:String:=PySem.W.SL.s12411053484034534018x21
abbrev l161:String:=PySem.W.SL.s10220274742760427390x26
abbrev l162:String:=PySem.W.SL.s4860613602091757760x24
abbrev l163:String:=PySem.W.SL.s4209523147560561109x18
abbrev o0 (P:Params):Obj:=⟨(.type l71),none,(.seq ⟨[]⟩ 0),⟨[]⟩⟩
abbrev o1 (P:Params):Obj:=⟨.none,none,(.fields ⟨[]⟩),⟨[]⟩⟩
abbrev o2 (P:Params):Obj:=⟨(.type l152),none,(.fields ⟨[(vs c166 182),(vs c166 183),(vs c164 184),(vi 1 0),(vi 0 0),(vi 0 0),(vi 0 0),(vi 0 0),(vr 11),(.bool false),(vi 181 0),(vr 12),.none,.none,.none,.none,(vi 185 0),(vi 1 0),(vs c164 186)]⟩),⟨[]⟩⟩
abbrev o3 (P:Params):Obj:=⟨(.type l153),none,.plain,⟨[some (vr 13),some (vr 3),some (vr 3),none,some (vs c160 164),none,some (vr 0)]⟩⟩
abbrev o4 (P:Params):Obj:=⟨(.type l0),none,(.dict ⟨[de P c0 165 (vs c167 324),de P c2 166 .none,de P c3 167 .none,de P c4 168 (.builtin l150),de P c5 169 .none,de P c161 170 (vr 6),de P c162 171 (vr 4),de P c163 173 (vs c164 172),de P c165 174 .none,de P c168 193 (vr 21),de P c169 197 (vi 1000000 196),de P c170 199 (vi 1000000 198),de P c171 206 (vr 28),de P c172 213 (vr 35),de P c173 219 (vr 40),de P c174 226 (vr 47),de P c175 232 (vr 52),de P c176 240 (vr 59),de P c177 247 (vr 66),de P c178 253 (vr 71),de P c179 261 (vr 78),de P c180 270 (vr 85),de P c181 281 (vr 92),de P c182 297 (vr 99),de P c183 305 (vr 106),de P c184 314 (vr 113),de P c185 323 (vr 120),de P c186 331 (vr 125),de P c187 351 (vr 135),de P c188 384 (vr 161),de P c189 421 (vr 187),de P c190 456 (vr 213),de P c191 487 (vr 237),de P c192 527 (vr 268)]⟩ 34),⟨[]⟩⟩
abbrev o5 (P:Params):Obj:=⟨.none,none,(.fields ⟨(((vi 1 0)) :: ((vi 0 0)) :: ((vr 20)) :: ((vi 7 0)) :: ((vi 0 0)) :: ((vr 27)) :: ((vi 9 0)) :: ((vi 0 0)) :: ((vr 34)) :: ((vi 11 0)) :: ((vi 0 0)) :: ((vr 39)) :: ((vi 13 0)) :: ((vi 0 0)) :: ((vr 46)) :: ((vi 15 0)) :: ((vi 0 0)) :: ((vr 51)) :: ((vi 17 0)) :: ((vi 0 0)) :: ((vr 58)) :: ((vi 19 0)) :: ((vi 0 0)) :: ((vr 65)) :: ((vi 21 0)) :: ((vi 0 0)) :: ((vr 70)) :: ((vi 23 0)) :: ((vi 0 0)) :: ((vr 77)) :: ((vi 25 0)) :: ((vi 0 0)) :: ((vr 84)) :: ((vi 27 0)) :: ((vi 0 0)) :: ((vr 91)) :: ((vi 35 0)) :: ((vi 0 0)) :: ((vr 98)) :: ((vi 52 0)) :: ((vi 0 0)) :: ((vr 105)) :: ((vi 54 0)) :: ((vi 0 0)) :: ((vr 112)) :: ((vi 59 0)) :: ((vi 0 0)) :: ((vr 119)) :: ((vi 65 0)) :: ((vi 0 0)) :: ((vr 124)) :: ((vi 67 0)) :: ((vi 0 0)) :: ((vr 131)) :: ((vi 69 0)) :: ((vi 0 0)) :: ((vr 145)) :: ((vi 81 0)) :: ((vi 0 0)) :: ((vr 169)) :: ((vi 93 0)) :: ((vi 0 0)) :: ((vr 195)) :: ((vi 103 0)) :: ((vi 0 0)) :: ((vr 221)) :: ((vi 114 0)) :: ((vi 0 0)) :: ((vr 245)) :: [])⟩),⟨[]⟩⟩
abbrev o6 (P:Params):Obj:=⟨(.type l71),none,(.seq ⟨[(vs c193 190)]⟩ 0),⟨[]⟩⟩
abbrev o7 (P:Params):Obj:=⟨.none,none,(.func ⟨c168,c168,(fA (tp 0)),.stmts (fB (tp 0)),(fS (tp 0)),0,[],.none,.none,.none,.none,none,.none,.none,0⟩),⟨[]⟩⟩
abbrev o8 (P:Params):Obj:=⟨(.type l152),none,(.fields ⟨[(vs c168 187),(vs c168 188),(vs c164 189),(vi 1 0),(vi 1 0),(vi 0 0),(vi 0 0),(vi 3 0),(vr 15),(.bool true),(vi 181 0),(vr 16),.none,(vr 17),(vr 18),(vr 19),(vi 191 0),(vi 1 0),(vs c164 192)]⟩),⟨[]⟩⟩
abbrev o9 (P:Params):Obj:=⟨(.type l154),none,(.func ⟨c168,c168,(fA (tp 0)),.stmts (fB (tp 0)),(fS (tp 0)),3,[],.none,.none,.none,(vs c160 164),none,(vr 20),.none,0⟩),⟨[]⟩⟩
abbrev o10 (P:Params):Obj:=⟨(.type l71),none,(.seq ⟨[(vs c194 203)]⟩ 0),⟨[]⟩⟩
abbrev o11 (P:Params):Obj:=⟨.none,none,(.func ⟨c171,c171,(fA (tp 4)),.stmts (fB (tp 4)),(fS (tp 4)),0,[],.none,.none,.none,.none,none,.none,.none,0⟩),⟨[]⟩⟩
abbrev o12 (P:Params):Obj:=⟨(.type l152),none,(.fields ⟨[(vs c171 200),(vs c171 201),(vs c164 202),(vi 7 0),(vi 1 0),(vi 0 0),(vi 0 0),(vi 3 0),(vr 22),(.bool true),(vi 181 0),(vr 23),.none,(vr 24),(vr 25),(vr 26),(vi 204 0),(vi 7 0),(vs c164 205)]⟩),⟨[]⟩⟩
abbrev o13 (P:Params):Obj:=⟨(.type l154),none,(.func ⟨c171,c171,(fA (tp 4)),.stmts (fB (tp 4)),(fS (tp 4)),3,[],.none,.none,.none,(vs c195 194),none,(vr 27),.none,0⟩),⟨[]⟩⟩
abbrev o14 (P:Params):Obj:=⟨(.type l71),none,(.seq ⟨[(vs c194 210)]⟩ 0),⟨[]⟩⟩
abbrev o15 (P:Params):Obj:=⟨.none,none,(.func ⟨c172,c172,(fA (tp 5)),.stmts (fB (tp 5)),(fS (tp 5)),0,[],.none,.none,.none,.none,none,.none,.none,0⟩),⟨[]⟩⟩
abbrev o16 (P:Params):Obj:=⟨(.type l152),none,(.fields ⟨[(vs c172 207),(vs c172 208),(vs c164 209),(vi 9 0),(vi 1 0),(vi 0 0),(vi 0 0),(vi 3 0),(vr 29),(.bool true),(vi 181 0),(vr 30),.none,(vr 31),(vr 32),(vr 33),(vi 211 0),(vi 9 0),(vs c164 212)]⟩),⟨[]⟩⟩
abbrev o17 (P:Params):Obj:=⟨(.type l154),none,(.func ⟨c172,c172,(fA (tp 5)),.stmts (fB (tp 5)),(fS (tp 5)),3,[],.none,.none,.none,(vs c195 194),none,(vr 34),.none,0⟩),⟨[]⟩⟩
abbrev o18 (P:Params):Obj:=⟨.none,none,(.func ⟨c173,c173,(fA (tp 6)),.stmts (fB (tp 6)),(fS (tp 6)),0,[],.none,.none,.none,.none,none,.none,.none,0⟩),⟨[]⟩⟩
abbrev o19 (P:Params):Obj:=⟨(.type l152),none,(.fields ⟨[(vs c173 214),(vs c173 215),(vs c164 216),(vi 11 0),(vi 1 0),(vi 0 0),(vi 0 0),(vi 3 0),(vr 36),(.bool true),(vi 181 0),(vr 37),.none,.none,.none,(vr 38),(vi 217 0),(vi 11 0),(vs c164 218)]⟩),⟨[]⟩⟩
abbrev o20 (P:Params):Obj:=⟨(.type l154),none,(.func ⟨c173,c173,(fA (tp 6)),.stmts (fB (tp 6)),(fS (tp 6)),3,[],.none,.none,.none,(vs c195 194),none,(vr 39),.none,0⟩),⟨[]⟩⟩
abbrev o21 (P:Params):Obj:=⟨(.type l71),none,(.seq ⟨[(vs c194 223)]⟩ 0),⟨[]⟩⟩
abbrev o22 (P:Params):Obj:=⟨.none,none,(.func ⟨c174,c174,(fA (tp 7)),.stmts (fB (tp 7)),(fS (tp 7)),0,[],.none,.none,.none,.none,none,.none,.none,0⟩),⟨[]⟩⟩
abbrev o23 (P:Params):Obj:=⟨(.type l152),none,(.fields ⟨[(vs c174 220),(vs c174 221),(vs c164 222),(vi 13 0),(vi 1 0),(vi 0 0),(vi 0 0),(vi 3 0),(vr 41),(.bool true),(vi 181 0),(vr 42),.none,(vr 43),(vr 44),(vr 45),(vi 224 0),(vi 13 0),(vs c164 225)]⟩),⟨[]⟩⟩
abbrev o24 (P:Params):Obj:=⟨(.type l154),none,(.func ⟨c174,c174,(fA (tp 7)),.stmts (fB (tp 7)),(fS (tp 7)),3,[],.none,.none,.none,(vs c195 194),none,(vr 46),.none,0⟩),⟨[]⟩⟩
abbrev o25 (P:Params):Obj:=⟨.none,none,(.func ⟨c175,c175,(fA (tp 8)),.stmts (fB (tp 8)),(fS (tp 8)),0,[],.none,.none,.none,.none,none,.none,.none,0⟩),⟨[]⟩⟩
abbrev o26 (P:Params):Obj:=⟨(.type l152),none,(.fields ⟨[(vs c175 227),(vs c175 228),(vs c164 229),(vi 15 0),(vi 1 0),(vi 0 0),(vi 0 0),(vi 3 0),(vr 48),(.bool true),(vi 181 0),(vr 49),.none,.none,.none,(vr 50),(vi 230 0),(vi 15 0),(vs c164 231)]⟩),⟨[]⟩⟩
abbrev o27 (P:Params):Obj:=⟨(.type l154),none,(.func ⟨c175,c175,(fA (tp 8)),.stmts (fB (tp 8)),(fS (tp 8)),3,[],.none,.none,.none,(vs c195 194),none,(vr 51),.none,0⟩),⟨[]⟩⟩
abbrev o28 (P:Params):Obj:=⟨(.type l71),none,(.seq ⟨[(vs c194 236),(vs c196 237)]⟩ 0),⟨[]⟩⟩
abbrev o29 (P:Params):Obj:=⟨.none,none,(.func ⟨c176,c176,(fA (tp 9)),.stmts (fB (tp 9)),(fS (tp 9)),0,[],.none,.none,.none,.none,none,.none,.none,0⟩),⟨[]⟩⟩
abbrev o30 (P:Params):Obj:=⟨(.type l152),none,(.fields ⟨[(vs c176 233),(vs c176 234),(vs c164 235),(vi 17 0),(vi 2 0),(vi 0 0),(vi 0 0),(vi 3 0),(vr 53),(.bool true),(vi 181 0),(vr 54),.none,(vr 55),(vr 56),(vr 57),(vi 238 0),(vi 17 0),(vs c164 239)]⟩),⟨[]⟩⟩
abbrev o31 (P:Params):Obj:=⟨(.type l154),none,(.func ⟨c176,c176,(fA (tp 9)),.stmts (fB (tp 9)),(fS (tp 9)),3,[],.none,.none,.none,(vs c195 194),none,(vr 58),.none,0⟩),⟨[]⟩⟩
abbrev o32 (P:Params):Obj:=⟨(.type l71),none,(.seq ⟨[(vs c194 244)]⟩ 0),⟨[]⟩⟩
abbrev o33 (P:Params):Obj:=⟨.none,none,(.func ⟨c177,c177,(fA (tp 10)),.stmts (fB (tp 10)),(fS (tp 10)),0,[],.none,.none,.none,.none,none,.none,.none,0⟩),⟨[]⟩⟩
abbrev o34 (P:Params):Obj:=⟨(.type l152),none,(.fields ⟨[(vs c177 241),(vs c177 242),(vs c164 243),(vi 19 0),(vi 1 0),(vi 0 0),(vi 0 0),(vi 3 0),(vr 60),(.bool true),(vi 181 0),(vr 61),.none,(vr 62),(vr 63),(vr 64),(vi 245 0),(vi 19 0),(vs c164 246)]⟩),⟨[]⟩⟩
abbrev o35 (P:Params):Obj:=⟨(.type l154),none,(.func ⟨c177,c177,(fA (tp 10)),.stmts (fB (tp 10)),(fS (tp 10)),3,[],.none,.none,.none,(vs c195 194),none,(vr 65),.none,0⟩),⟨[]⟩⟩
abbrev o36 (P:Params):Obj:=⟨.none,none,(.func ⟨c178,c178,(fA (tp 11)),.stmts (fB (tp 11)),(fS (tp 11)),0,[],.none,.none,.none,.none,none,.none,.none,0⟩),⟨[]⟩⟩
abbrev o37 (P:Params):Obj:=⟨(.type l152),none,(.fields ⟨[(vs c178 248),(vs c178 249),(vs c164 250),(vi 21 0),(vi 1 0),(vi 0 0),(vi 0 0),(vi 3 0),(vr 67),(.bool true),(vi 181 0),(vr 68),.none,.none,.none,(vr 69),(vi 251 0),(vi 21 0),(vs c164 252)]⟩),⟨[]⟩⟩
abbrev o38 (P:Params):Obj:=⟨(.type l154),none,(.func ⟨c178,c178,(fA (tp 11)),.stmts (fB (tp 11)),(fS (tp 11)),3,[],.none,.none,.none,(vs c195 194),none,(vr 70),.none,0⟩),⟨[]⟩⟩
abbrev o39 (P:Params):Obj:=⟨(.type l71),none,(.seq ⟨[(vs c197 257),(vs c198 258)]⟩ 0),⟨[]⟩⟩
abbrev o40 (P:Params):Obj:=⟨.none,none,(.func ⟨c179,c179,(fA (tp 12)),.stmts (fB (tp 12)),(fS (tp 12)),0,[],.none,.none,.none,.none,none,.none,.none,0⟩),⟨[]⟩⟩
abbrev o41 (P:Params):Obj:=⟨(.type l152),none,(.fields ⟨[(vs c179 254),(vs c179 255),(vs c164 256),(vi 23 0),(vi 2 0),(vi 0 0),(vi 0 0),(vi 3 0),(vr 72),(.bool true),(vi 181 0),(vr 73),.none,(vr 74),(vr 75),(vr 76),(vi 259 0),(vi 23 0),(vs c164 260)]⟩),⟨[]⟩⟩
abbrev o42 (P:Params):Obj:=⟨(.type l154),none,(.func ⟨c179,c179,(fA (tp 12)),.stmts (fB (tp 12)),(fS (tp 12)),3,[],.none,.none,.none,(vs c195 194),none,(vr 77),.none,0⟩),⟨[]⟩⟩
abbrev o43 (P:Params):Obj:=⟨(.type l71),none,(.seq ⟨[(vs c198 265),(vs c199 266),(vs c196 267)]⟩ 0),⟨[]⟩⟩
abbrev o44 (P:Params):Obj:=⟨.none,none,(.func ⟨c180,c180,(fA (tp 13)),.stmts (fB (tp 13)),(fS (tp 13)),0,[],.none,.none,.none,.none,none,.none,.none,0⟩),⟨[]⟩⟩
abbrev o45 (P:Params):Obj:=⟨(.type l152),none,(.fields ⟨[(vs c180 262),(vs c180 263),(vs c164 264),(vi 25 0),(vi 3 0),(vi 0 0),(vi 0 0),(vi 3 0),(vr 79),(.bool true),(vi 181 0),(vr 80),.none,(vr 81),(vr 82),(vr 83),(vi 268 0),(vi 25 0),(vs c164 269)]⟩),⟨[]⟩⟩
abbrev o46 (P:Params):Obj:=⟨(.type l154),none,(.func ⟨c180,c180,(fA (tp 13)),.stmts (fB (tp 13)),(fS (tp 13)),3,[],.none,.none,.none,(vs c195 194),none,(vr 84),.none,0⟩),⟨[]⟩⟩
abbrev o47 (P:Params):Obj:=⟨(.type l71),none,(.seq ⟨[(vs c200 274),(vs c201 275),(vs c197 276),(vs c202 277),(vs c203 278)]⟩ 0),⟨[]⟩⟩
abbrev o48 (P:Params):Obj:=⟨.none,none,(.func ⟨c181,c181,(fA (tp 14)),.stmts (fB (tp 14)),(fS (tp 14)),0,[],.none,.none,.none,.none,none,.none,.none,0⟩),⟨[]⟩⟩
abbrev o49 (P:Params):Obj:=⟨(.type l152),none,(.fields ⟨[(vs c181 271),(vs c181 272),(vs c164 273),(vi 27 0),(vi 2 0),(vi 0 0),(vi 0 0),(vi 3 0),(vr 86),(.bool true),(vi 181 0),(vr 87),.none,(vr 88),(vr 89),(vr 90),(vi 279 0),(vi 27 0),(vs c164 280)]⟩),⟨[]⟩⟩
abbrev o50 (P:Params):Obj:=⟨(.type l154),none,(.func ⟨c181,c181,(fA (tp 14)),.stmts (fB (tp 14)),(fS (tp 14)),3,[],.none,.none,.none,(vs c195 194),none,(vr 91),.none,0⟩),⟨[]⟩⟩
abbrev o51 (P:Params):Obj:=⟨(.type l71),none,(.seq ⟨[(vs c200 285),(vs c201 286),(vs c197 287),(vs c204 288),(vs c202 289),(vs c205 290),(vs c206 291),(vs c203 292),(vs c207 293),(vs c208 294)]⟩ 0),⟨[]⟩⟩
abbrev o52 (P:Params):Obj:=⟨.none,none,(.func ⟨c182,c182,(fA (tp 15)),.stmts (fB (tp 15)),(fS (tp 15)),0,[],.none,.none,.none,.none,none,.none,.none,0⟩),⟨[]⟩⟩
abbrev o53 (P:Params):Obj:=⟨(.type l152),none,(.fields ⟨[(vs c182 282),(vs c182 283),(vs c164 284),(vi 35 0),(vi 2 0),(vi 0 0),(vi 0 0),(vi 3 0),(vr 93),(.bool true),(vi 181 0),(vr 94),.none,(vr 95),(vr 96),(vr 97),(vi 295 0),(vi 35 0),(vs c164 296)]⟩),⟨[]⟩⟩
abbrev o54 (P:Params):Obj:=⟨(.type l154),none,(.func ⟨c182,c182,(fA (tp 15)),.stmts (fB (tp 15)),(fS (tp 15)),3,[],.none,.none,.none,(vs c195 194),none,(vr 98),.none,0⟩),⟨[]⟩⟩
abbrev o55 (P:Params):Obj:=⟨(.type l71),none,(.seq ⟨[(vs c198 301),(vs c196 302)]⟩ 0),⟨[]⟩⟩
abbrev o56 (P:Params):Obj:=⟨.none,none,(.func ⟨c183,c183,(fA (tp 16)),.stmts (fB (tp 16)),(fS (tp 16)),0,[],.none,.none,.none,.none,none,.none,.none,0⟩),⟨[]⟩⟩
abbrev o57 (P:Params):Obj:=⟨(.type l152),none,(.fields ⟨[(vs c183 298),(vs c183 299),(vs c164 300),(vi 52 0),(vi 2 0),(vi 0 0),(vi 0 0),(vi 3 0),(vr 100),(.bool true),(vi 181 0),(vr 101),.none,(vr 102),(vr 103),(vr 104),(vi 303 0),(vi 52 0),(vs c164 304)]⟩),⟨[]⟩⟩
abbrev o58 (P:Params):Obj:=⟨(.type l154),none,(.func ⟨c183,c183,(fA (tp 16)),.stmts (fB (tp 16)),(fS (tp 16)),3,[],.none,.none,.none,(vs c195 194),none,(vr 105),.none,0⟩),⟨[]⟩⟩
abbrev o59 (P:Params):Obj:=⟨(.type l71),none,(.seq ⟨[(vs c209 309),(vs c197 310),(vs c198 311)]⟩ 0),⟨[]⟩⟩
abbrev o60 (P:Params):Obj:=⟨.none,none,(.func ⟨c184,c184,(fA (tp 17)),.stmts (fB (tp 17)),(fS (tp 17)),0,[],.none,.none,.none,.none,none,.none,.none,0⟩),⟨[]⟩⟩
abbrev o61 (P:Params):Obj:=⟨(.type l152),none,(.fields ⟨[(vs c184 306),(vs c184 307),(vs c164 308),(vi 54 0),(vi 1 0),(vi 0 0),(vi 0 0),(vi 3 0),(vr 107),(.bool true),(vi 181 0),(vr 108),.none,(vr 109),(vr 110),(vr 111),(vi 312 0),(vi 54 0),(vs c164 313)]⟩),⟨[]⟩⟩
abbrev o62 (P:Params):Obj:=⟨(.type l154),none,(.func ⟨c184,c184,(fA (tp 17)),.stmts (fB (tp 17)),(fS (tp 17)),3,[],.none,.none,.none,(vs c195 194),none,(vr 112),.none,0⟩),⟨[]⟩⟩
abbrev o63 (P:Params):Obj:=⟨(.type l71),none,(.seq ⟨[(vs c210 318),(vs c206 319),(vs c196 320)]⟩ 0),⟨[]⟩⟩
abbrev o64 (P:Params):Obj:=⟨.none,none,(.func ⟨c185,c185,(fA (tp 18)),.stmts (fB (tp 18)),(fS (tp 18)),0,[],.none,.none,.none,.none,none,.none,.none,0⟩),⟨[]⟩⟩
abbrev o65 (P:Params):Obj:=⟨(.type l152),none,(.fields ⟨[(vs c185 315),(vs c185 316),(vs c164 317),(vi 59 0),(vi 1 0),(vi 0 0),(vi 0 0),(vi 3 0),(vr 114),(.bool true),(vi 181 0),(vr 115),.none,(vr 116),(vr 117),(vr 118),(vi 321 0),(vi 59 0),(vs c164 322)]⟩),⟨[]⟩⟩
abbrev o66 (P:Params):Obj:=⟨(.type l154),none,(.func ⟨c185,c185,(fA (tp 18)),.stmts (fB (tp 18)),(fS (tp 18)),3,[],.none,.none,.none,(vs c195 194),none,(vr 119),.none,0⟩),⟨[]⟩⟩
abbrev o67 (P:Params):Obj:=⟨.none,none,(.func ⟨c186,c186,(fA (tp 20)),.stmts (fB (tp 20)),(fS (tp 20)),0,[],.none,.none,.none,.none,none,.none,.none,0⟩),⟨[]⟩⟩
abbrev o68 (P:Params):Obj:=⟨(.type l152),none,(.fields ⟨[(vs c186 326),(vs c186 327),(vs c164 328),(vi 65 0),(vi 2 0),(vi 0 0),(vi 0 0),(vi 3 0),(vr 121),(.bool true),(vi 181 0),(vr 122),.none,.none,.none,(vr 123),(vi 329 0),(vi 65 0),(vs c164 330)]⟩),⟨[]⟩⟩
abbrev o69 (P:Params):Obj:=⟨(.type l154),none,(.func ⟨c186,c186,(fA (tp 20)),.stmts (fB (tp 20)),(fS (tp 20)),3,[],.none,.none,.none,(vs c167 324),none,(vr 124),.none,0⟩),⟨[]⟩⟩
abbrev o70 (P:Params):Obj:=⟨(.type l155),none,(.fields ⟨[(.builtin l156),(.type l72)]⟩),⟨[]⟩⟩
abbrev o71 (P:Params):Obj:=⟨(.type l0),none,(.dict ⟨[de P c211 339 (vs c167 324),de P c212 341 (vs c187 340),de P c213 343 (vi 67 342),de P c214 344 (vr 133)]⟩ 4),⟨[]⟩⟩
abbrev o72 (P:Params):Obj:=⟨(.type l152),none,(.fields ⟨[(vs c187 334),(vs c187 335),(vs c164 336),(vi 67 0),(vi 0 0),(vi 0 0),(vi 0 0),(vi 0 0),(vr 129),(.bool false),(vi 181 0),(vr 130),.none,.none,.none,.none,(vi 337 0),(vi 67 0),(vs c164 338)]⟩),⟨[]⟩⟩
abbrev o73 (P:Params):Obj:=⟨(.type l153),none,.plain,⟨[some (vr 131),some (vr 3),some (vr 128),none,some (vs c167 324),none,some (vr 0)]⟩⟩
abbrev o74 (P:Params):Obj:=⟨(.type l0),none,(.dict ⟨[de P c211 339 (vs c167 324),de P c213 343 (vi 67 342),de P c214 344 (vr 133),de P c215 346 (vr 136),de P c216 348 (vr 137),de P c2 349 .none]⟩ 4),⟨[]⟩⟩
abbrev o75 (P:Params):Obj:=⟨(.type l72),none,(.cls ⟨c187,[(.type l63)],[(vr 135),(.type l63)],134,c187,true,[],[(vr 161),(vr 187),(vr 213),(vr 237),(vr 268)],false,none,false⟩),⟨[none,none,some (vs c187 332),some (vs c187 340),some (.builtin l157),some (.bool true)]⟩⟩
abbrev o76 (P:Params):Obj:=⟨(.type l158),none,(.fields ⟨[(vs c215 345),(vr 135),(.builtin l159),(.builtin l160)]⟩),⟨[]⟩⟩
abbrev o77 (P:Params):Obj:=⟨(.type l158),none,(.fields ⟨[(vs c216 347),(vr 135),(.builtin l161),.none]⟩),⟨[]⟩⟩
abbrev o78 (P:Params):Obj:=⟨(.type l70),none,(.fields ⟨[(vr 135),(vr 135),(vr 135)]⟩),⟨[]⟩⟩
abbrev o79 (P:Params):Obj:=⟨(.type l155),none,(.fields ⟨[(.builtin l162),(vr 135)]⟩),⟨[]⟩⟩
abbrev o80 (P:Params):Obj:=⟨(.type l71),none,(.seq ⟨[(vr 135)]⟩ 0),⟨[]⟩⟩
abbrev o81 (P:Params):Obj:=⟨(.type l0),none,(.dict ⟨[de P c211 359 (vs c167 324),de P c212 361 (vs c188 360),de P c213 363 (vi 69 362),de P c217 372 (vr 153),de P c218 378 (vr 158),de P c214 381 (vr 159)]⟩ 6),⟨[]⟩⟩
abbrev o82 (P:Params):Obj:=⟨.none,none,(.fields ⟨[(vi 71 0),(vi 4 0),(vr 152),(vi 75 0),(vi 4 0),(vr 157)]⟩),⟨[]⟩⟩
abbrev o83 (P:Params):Obj:=⟨(.type l152),none,(.fields ⟨[(vs c188 354),(vs c188 355),(vs c164 356),(vi 69 0),(vi 0 0),(vi 0 0),(vi 0 0),(vi 0 0),(vr 143),(.bool false),(vi 181 0),(vr 144),.none,.none,.none,.none,(vi 357 0),(vi 69 0),(vs c164 358)]⟩),⟨[]⟩⟩
abbrev o84 (P:Params):Obj:=⟨(.type l153),none,.plain,⟨[some (vr 145),some (vr 3),some (vr 142),none,some (vs c167 324),none,some (vr 0)]⟩⟩
abbrev o85 (P:Params):Obj:=⟨(.type l71),none,(.seq ⟨[(vs c219 367),(vs c198 368),(vs c196 369)]⟩ 0),⟨[]⟩⟩
abbrev o86 (P:Params):Obj:=⟨.none,none,(.func ⟨c217,c220,(fA (ic (tp 22) 0)),.stmts (fB (ic (tp 22) 0)),(fS (ic (tp 22) 0)),0,[],.none,.none,.none,.none,none,.none,.none,0⟩),⟨[]⟩⟩
abbrev o87 (P:Params):Obj:=⟨(.type l152),none,(.fields ⟨[(vs c217 364),(vs c220 365),(vs c164 366),(vi 71 0),(vi 3 0),(vi 0 0),(vi 0 0),(vi 3 0),(vr 147),(.bool true),(vi 181 0),(vr 148),.none,(vr 149),(vr 150),(vr 151),(vi 370 0),(vi 71 0),(vs c164 371)]⟩),⟨[]⟩⟩
abbrev o88 (P:Params):Obj:=⟨(.type l154),none,(.func ⟨c217,c220,(fA (ic (tp 22) 0)),.stmts (fB (ic (tp 22) 0)),(fS (ic (tp 22) 0)),3,[],.none,.none,.none,(vs c167 324),none,(vr 152),.none,0⟩),⟨[]⟩⟩
abbrev o89 (P:Params):Obj:=⟨.none,none,(.func ⟨c218,c221,(fA (ic (tp 22) 1)),.stmts (fB (ic (tp 22) 1)),(fS (ic (tp 22) 1)),0,[],.none,.none,.none,.none,none,.none,.none,0⟩),⟨[]⟩⟩
abbrev o90 (P:Params):Obj:=⟨(.type l152),none,(.fields ⟨[(vs c218 373),(vs c221 374),(vs c164 375),(vi 75 0),(vi 2 0),(vi 0 0),(vi 0 0),(vi 3 0),(vr 154),(.bool true),(vi 181 0),(vr 155),.none,.none,.none,(vr 156),(vi 376 0),(vi 75 0),(vs c164 377)]⟩),⟨[]⟩⟩
abbrev o91 (P:Params):Obj:=⟨(.type l154),none,(.func ⟨c218,c221,(fA (ic (tp 22) 1)),.stmts (fB (ic (tp 22) 1)),(fS (ic (tp 22) 1)),3,[],.none,.none,.none,(vs c167 324),none,(vr 157),.none,0⟩),⟨[]⟩⟩
abbrev o92 (P:Params):Obj:=⟨(.type l71),none,(.seq ⟨[(vs c198 379),(vs c196 380)]⟩ 0),⟨[]⟩⟩
abbrev o93 (P:Params):Obj:=⟨(.type l0),none,(.dict ⟨[de P c211 359 (vs c167 324),de P c213 363 (vi 69 362),de P c217 372 (vr 153),de P c218 378 (vr 158),de P c214 381 (vr 159),de P c2 382 .none]⟩ 2),⟨[]⟩⟩
abbrev o94 (P:Params):Obj:=⟨(.type l72),none,(.cls ⟨c188,[(vr 135)],[(vr 161),(vr 135),(.type l63)],160,c188,true,[],[],false,none,false⟩),⟨[some (vr 140),none,some (vs c188 352),some (vs c188 360),some (.builtin l157),some (.bool true)]⟩⟩
abbrev o95 (P:Params):Obj:=⟨(.type l70),none,(.fields ⟨[(vr 161),(vr 161),(vr 161)]⟩),⟨[]⟩⟩
abbrev o96 (P:Params):Obj:=⟨(.type l155),none,(.fields ⟨[(.builtin l162),(vr 161)]⟩),⟨[]⟩⟩
abbrev o97 (P:Params):Obj:=⟨(.type l0),none,(.dict ⟨[de P c211 392 (vs c167 324),de P c212 394 (vs c189 393),de P c213 396 (vi 81 395),de P c217 405 (vr 177),de P c218 415 (vr 184),de P c214 418 (vr 185)]⟩ 6),⟨[]⟩⟩
abbrev o98 (P:Params):Obj:=⟨.none,none,(.fields ⟨[(vi 83 0),(vi 4 0),(vr 176),(vi 87 0),(vi 4 0),(vr 183)]⟩),⟨[]⟩⟩
abbrev o99 (P:Params):Obj:=⟨(.type l152),none,(.fields ⟨[(vs c189 387),(vs c189 388),(vs c164 389),(vi 81 0),(vi 0 0),(vi 0 0),(vi 0 0),(vi 0 0),(vr 167),(.bool false),(vi 181 0),(vr 168),.none,.none,.none,.none,(vi 390 0),(vi 81 0),(vs c164 391)]⟩),⟨[]⟩⟩
abbrev o100 (P:Params):Obj:=⟨(.type l153),none,.plain,⟨[some (vr 169),some (vr 3),some (vr 166),none,some (vs c167 324),none,some (vr 0)]⟩⟩
abbrev o101 (P:Params):Obj:=⟨(.type l71),none,(.seq ⟨[(vs c219 400),(vs c200 401),(vs c201 402)]⟩ 0),⟨[]⟩⟩
abbrev o102 (P:Params):Obj:=⟨.none,none,(.func ⟨c217,c222,(fA (ic (tp 23) 0)),.stmts (fB (ic (tp 23) 0)),(fS (ic (tp 23) 0)),0,[],.none,.none,.none,.none,none,.none,.none,0⟩),⟨[]⟩⟩
abbrev o103 (P:Params):Obj:=⟨(.type l152),none,(.fields ⟨[(vs c217 397),(vs c222 398),(vs c164 399),(vi 83 0),(vi 3 0),(vi 0 0),(vi 0 0),(vi 3 0),(vr 171),(.bool true),(vi 181 0),(vr 172),.none,(vr 173),(vr 174),(vr 175),(vi 403 0),(vi 83 0),(vs c164 404)]⟩),⟨[]⟩⟩
abbrev o104 (P:Params):Obj:=⟨(.type l154),none,(.func ⟨c217,c222,(fA (ic (tp 23) 0)),.stmts (fB (ic (tp 23) 0)),(fS (ic (tp 23) 0)),3,[],.none,.none,.none,(vs c167 324),none,(vr 176),.none,0⟩),⟨[]⟩⟩
abbrev o105 (P:Params):Obj:=⟨(.type l71),none,(.seq ⟨[(vs c219 409),(vs c223 410),(vs c224 411),(vs c225 412)]⟩ 0),⟨[]⟩⟩
abbrev o106 (P:Params):Obj:=⟨.none,none,(.func ⟨c218,c226,(fA (ic (tp 23) 1)),.stmts (fB (ic (tp 23) 1)),(fS (ic (tp 23) 1)),0,[],.none,.none,.none,.none,none,.none,.none,0⟩),⟨[]⟩⟩
abbrev o107 (P:Params):Obj:=⟨(.type l152),none,(.fields ⟨[(vs c218 406),(vs c226 407),(vs c164 408),(vi 87 0),(vi 2 0),(vi 0 0),(vi 0 0),(vi 3 0),(vr 178),(.bool true),(vi 181 0),(vr 179),.none,(vr 180),(vr 181),(vr 182),(vi 413 0),(vi 87 0),(vs c164 414)]⟩),⟨[]⟩⟩
abbrev o108 (P:Params):Obj:=⟨(.type l154),none,(.func ⟨c218,c226,(fA (ic (tp 23) 1)),.stmts (fB (ic (tp 23) 1)),(fS (ic (tp 23) 1)),3,[],.none,.none,.none,(vs c167 324),none,(vr 183),.none,0⟩),⟨[]⟩⟩
abbrev o109 (P:Params):Obj:=⟨(.type l71),none,(.seq ⟨[(vs c200 416),(vs c201 417)]⟩ 0),⟨[]⟩⟩
abbrev o110 (P:Params):Obj:=⟨(.type l0),none,(.dict ⟨[de P c211 392 (vs c167 324),de P c213 396 (vi 81 395),de P c217 405 (vr 177),de P c218 415 (vr 184),de P c214 418 (vr 185),de P c2 419 .none]⟩ 2),⟨[]⟩⟩
abbrev o111 (P:Params):Obj:=⟨(.type l72),none,(.cls ⟨c189,[(vr 135)],[(vr 187),(vr 135),(.type l63)],186,c189,true,[],[],false,none,false⟩),⟨[some (vr 164),none,some (vs c189 385),some (vs c189 393),some (.builtin l157),some (.bool true)]⟩⟩
abbrev o112 (P:Params):Obj:=⟨(.type l70),none,(.fields ⟨[(vr 187),(vr 187),(vr 187)]⟩),⟨[]⟩⟩
abbrev o113 (P:Params):Obj:=⟨(.type l155),none,(.fields ⟨[(.builtin l162),(vr 187)]⟩),⟨[]⟩⟩
abbrev o114 (P:Params):Obj:=⟨(.type l0),none,(.dict ⟨[de P c211 429 (vs c167 324),de P c212 431 (vs c190 430),de P c213 433 (vi 93 432),de P c217 442 (vr 203),de P c218 450 (vr 210),de P c214 453 (vr 211)]⟩ 6),⟨[]⟩⟩
abbrev o115 (P:Params):Obj:=⟨.none,none,(.fields ⟨[(vi 95 0),(vi 4 0),(vr 202),(vi 99 0),(vi 4 0),(vr 209)]⟩),⟨[]⟩⟩
abbrev o116 (P:Params):Obj:=⟨(.type l152),none,(.fields ⟨[(vs c190 424),(vs c190 425),(vs c164 426),(vi 93 0),(vi 0 0),(vi 0 0),(vi 0 0),(vi 0 0),(vr 193),(.bool false),(vi 181 0),(vr 194),.none,.none,.none,.none,(vi 427 0),(vi 93 0),(vs c164 428)]⟩),⟨[]⟩⟩
abbrev o117 (P:Params):Obj:=⟨(.type l153),none,.plain,⟨[some (vr 195),some (vr 3),some (vr 192),none,some (vs c167 324),none,some (vr 0)]⟩⟩
abbrev o118 (P:Params):Obj:=⟨(.type l71),none,(.seq ⟨[(vs c219 437),(vs c197 438),(vs c227 439)]⟩ 0),⟨[]⟩⟩
abbrev o119 (P:Params):Obj:=⟨.none,none,(.func ⟨c217,c228,(fA (ic (tp 24) 0)),.stmts (fB (ic (tp 24) 0)),(fS (ic (tp 24) 0)),0,[],.none,.none,.none,.none,none,.none,.none,0⟩),⟨[]⟩⟩
abbrev o120 (P:Params):Obj:=⟨(.type l152),none,(.fields ⟨[(vs c217 434),(vs c228 435),(vs c164 436),(vi 95 0),(vi 3 0),(vi 0 0),(vi 0 0),(vi 3 0),(vr 197),(.bool true),(vi 181 0),(vr 198),.none,(vr 199),(vr 200),(vr 201),(vi 440 0),(vi 95 0),(vs c164 441)]⟩),⟨[]⟩⟩
abbrev o121 (P:Params):Obj:=⟨(.type l154),none,(.func ⟨c217,c228,(fA (ic (tp 24) 0)),.stmts (fB (ic (tp 24) 0)),(fS (ic (tp 24) 0)),3,[],.none,.none,.none,(vs c167 324),none,(vr 202),.none,0⟩),⟨[]⟩⟩
abbrev o122 (P:Params):Obj:=⟨(.type l71),none,(.seq ⟨[(vs c219 446),(vs c209 447)]⟩ 0),⟨[]⟩⟩
abbrev o123 (P:Params):Obj:=⟨.none,none,(.func ⟨c218,c229,(fA (ic (tp 24) 1)),.stmts (fB (ic (tp 24) 1)),(fS (ic (tp 24) 1)),0,[],.none,.none,.none,.none,none,.none,.none,0⟩),⟨[]⟩⟩
abbrev o124 (P:Params):Obj:=⟨(.type l152),none,(.fields ⟨[(vs c218 443),(vs c229 444),(vs c164 445),(vi 99 0),(vi 2 0),(vi 0 0),(vi 0 0),(vi 3 0),(vr 204),(.bool true),(vi 181 0),(vr 205),.none,(vr 206),(vr 207),(vr 208),(vi 448 0),(vi 99 0),(vs c164 449)]⟩),⟨[]⟩⟩
abbrev o125 (P:Params):Obj:=⟨(.type l154),none,(.func ⟨c218,c229,(fA (ic (tp 24) 1)),.stmts (fB (ic (tp 24) 1)),(fS (ic (tp 24) 1)),3,[],.none,.none,.none,(vs c167 324),none,(vr 209),.none,0⟩),⟨[]⟩⟩
abbrev o126 (P:Params):Obj:=⟨(.type l71),none,(.seq ⟨[(vs c197 451),(vs c227 452)]⟩ 0),⟨[]⟩⟩
abbrev o127 (P:Params):Obj:=⟨(.type l0),none,(.dict ⟨[de P c211 429 (vs c167 324),de P c213 433 (vi 93 432),de P c217 442 (vr 203),de P c218 450 (vr 210),de P c214 453 (vr 211),de P c2 454 .none]⟩ 2),⟨[]⟩⟩
abbrev o128 (P:Params):Obj:=⟨(.type l72),none,(.cls ⟨c190,[(vr 135)],[(vr 213),(vr 135),(.type l63)],212,c190,true,[],[],false,none,false⟩),⟨[some (vr 190),none,some (vs c190 422),some (vs c190 430),some (.builtin l157),some (.bool true)]⟩⟩
abbrev o129 (P:Params):Obj:=⟨(.type l70),none,(.fields ⟨[(vr 213),(vr 213),(vr 213)]⟩),⟨[]⟩⟩
abbrev o130 (P:Params):Obj:=⟨(.type l155),none,(.fields ⟨[(.builtin l162),(vr 213)]⟩),⟨[]⟩⟩
abbrev o131 (P:Params):Obj:=⟨(.type l0),none,(.dict ⟨[de P c211 464 (vs c167 324),de P c212 466 (vs c191 465),de P c213 468 (vi 103 467),de P c217 476 (vr 229),de P c218 482 (vr 234),de P c214 484 (vr 235)]⟩ 6),⟨[]⟩⟩
abbrev o132 (P:Params):Obj:=⟨.none,none,(.fields ⟨[(vi 105 0),(vi 4 0),(vr 228),(vi 108 0),(vi 4 0),(vr 233)]⟩),⟨[]⟩⟩
abbrev o133 (P:Params):Obj:=⟨(.type l152),none,(.fields ⟨[(vs c191 459),(vs c191 460),(vs c164 461),(vi 103 0),(vi 0 0),(vi 0 0),(vi 0 0),(vi 0 0),(vr 219),(.bool false),(vi 181 0),(vr 220),.none,.none,.none,.none,(vi 462 0),(vi 103 0),(vs c164 463)]⟩),⟨[]⟩⟩
abbrev o134 (P:Params):Obj:=⟨(.type l153),none,.plain,⟨[some (vr 221),some (vr 3),some (vr 218),none,some (vs c167 324),none,some (vr 0)]⟩⟩
abbrev o135 (P:Params):Obj:=⟨(.type l71),none,(.seq ⟨[(vs c219 472),(vs c227 473)]⟩ 0),⟨[]⟩⟩
abbrev o136 (P:Params):Obj:=⟨.none,none,(.func ⟨c217,c230,(fA (ic (tp 25) 0)),.stmts (fB (ic (tp 25) 0)),(fS (ic (tp 25) 0)),0,[],.none,.none,.none,.none,none,.none,.none,0⟩),⟨[]⟩⟩
abbrev o137 (P:Params):Obj:=⟨(.type l152),none,(.fields ⟨[(vs c217 469),(vs c230 470),(vs c164 471),(vi 105 0),(vi 2 0),(vi 0 0),(vi 0 0),(vi 3 0),(vr 223),(.bool true),(vi 181 0),(vr 224),.none,(vr 225),(vr 226),(vr 227),(vi 474 0),(vi 105 0),(vs c164 475)]⟩),⟨[]⟩⟩
abbrev o138 (P:Params):Obj:=⟨(.type l154),none,(.func ⟨c217,c230,(fA (ic (tp 25) 0)),.stmts (fB (ic (tp 25) 0)),(fS (ic (tp 25) 0)),3,[],.none,.none,.none,(vs c167 324),none,(vr 228),.none,0⟩),⟨[]⟩⟩
abbrev o139 (P:Params):Obj:=⟨.none,none,(.func ⟨c218,c231,(fA (ic (tp 25) 1)),.stmts (fB (ic (tp 25) 1)),(fS (ic (tp 25) 1)),0,[],.none,.none,.none,.none,none,.none,.none,0⟩),⟨[]⟩⟩
abbrev o140 (P:Params):Obj:=⟨(.type l152),none,(.fields ⟨[(vs c218 477),(vs c231 478),(vs c164 479),(vi 108 0),(vi 4 0),(vi 0 0),(vi 0 0),(vi 3 0),(vr 230),(.bool true),(vi 181 0),(vr 231),.none,.none,.none,(vr 232),(vi 480 0),(vi 108 0),(vs c164 481)]⟩),⟨[]⟩⟩
abbrev o141 (P:Params):Obj:=⟨(.type l154),none,(.func ⟨c218,c231,(fA (ic (tp 25) 1)),.stmts (fB (ic (tp 25) 1)),(fS (ic (tp 25) 1)),3,[],.none,.none,.none,(vs c167 324),none,(vr 233),.none,0⟩),⟨[]⟩⟩
abbrev o142 (P:Params):Obj:=⟨(.type l71),none,(.seq ⟨[(vs c227 483)]⟩ 0),⟨[]⟩⟩
abbrev o143 (P:Params):Obj:=⟨(.type l0),none,(.dict ⟨[de P c211 464 (vs c167 324),de P c213 468 (vi 103 467),de P c217 476 (vr 229),de P c218 482 (vr 234),de P c214 484 (vr 235),de P c2 485 .none]⟩ 2),⟨[]⟩⟩
abbrev o144 (P:Params):Obj:=⟨(.type l72),none,(.cls ⟨c191,[(vr 135)],[(vr 237),(vr 135),(.type l63)],236,c191,true,[],[],false,none,false⟩),⟨[some (vr 216),none,some (vs c191 457),some (vs c191 465),some (.builtin l157),some (.bool true)]⟩⟩
abbrev o145 (P:Params):Obj:=⟨(.type l70),none,(.fields ⟨[(vr 237),(vr 237),(vr 237)]⟩),⟨[]⟩⟩
abbrev o146 (P:Params):Obj:=⟨(.type l155),none,(.fields ⟨[(.builtin l162),(vr 237)]⟩),⟨[]⟩⟩
abbrev o147 (P:Params):Obj:=⟨(.type l0),none,(.dict ⟨[de P c211 495 (vs c167 324),de P c212 497 (vs c192 496),de P c213 499 (vi 114 498),de P c217 507 (vr 253),de P c218 513 (vr 258),de P c232 522 (vr 265),de P c214 524 (vr 266)]⟩ 7),⟨[]⟩⟩
abbrev o148 (P:Params):Obj:=⟨.none,none,(.fields ⟨[(vi 116 0),(vi 4 0),(vr 252),(vi 119 0),(vi 4 0),(vr 257),(vi 124 0),(vi 4 0),(vr 264)]⟩),⟨[]⟩⟩
abbrev o149 (P:Params):Obj:=⟨(.type l152),none,(.fields ⟨[(vs c192 490),(vs c192 491),(vs c164 492),(vi 114 0),(vi 0 0),(vi 0 0),(vi 0 0),(vi 0 0),(vr 243),(.bool false),(vi 181 0),(vr 244),.none,.none,.none,.none,(vi 493 0),(vi 114 0),(vs c164 494)]⟩),⟨[]⟩⟩
abbrev o150 (P:Params):Obj:=⟨(.type l153),none,.plain,⟨[some (vr 245),some (vr 3),some (vr 242),none,some (vs c167 324),none,some (vr 0)]⟩⟩
abbrev o151 (P:Params):Obj:=⟨(.type l71),none,(.seq ⟨[(vs c219 503),(vs c197 504)]⟩ 0),⟨[]⟩⟩
abbrev o152 (P:Params):Obj:=⟨.none,none,(.func ⟨c217,c233,(fA (ic (tp 26) 0)),.stmts (fB (ic (tp 26) 0)),(fS (ic (tp 26) 0)),0,[],.none,.none,.none,.none,none,.none,.none,0⟩),⟨[]⟩⟩
abbrev o153 (P:Params):Obj:=⟨(.type l152),none,(.fields ⟨[(vs c217 500),(vs c233 501),(vs c164 502),(vi 116 0),(vi 2 0),(vi 0 0),(vi 0 0),(vi 3 0),(vr 247),(.bool true),(vi 181 0),(vr 248),.none,(vr 249),(vr 250),(vr 251),(vi 505 0),(vi 116 0),(vs c164 506)]⟩),⟨[]⟩⟩
abbrev o154 (P:Params):Obj:=⟨(.type l154),none,(.func ⟨c217,c233,(fA (ic (tp 26) 0)),.stmts (fB (ic (tp 26) 0)),(fS (ic (tp 26) 0)),3,[],.none,.none,.none,(vs c167 324),none,(vr 252),.none,0⟩),⟨[]⟩⟩
abbrev o155 (P:Params):Obj:=⟨.none,none,(.func ⟨c218,c234,(fA (ic (tp 26) 1)),.stmts (fB (ic (tp 26) 1)),(fS (ic (tp 26) 1)),0,[],.none,.none,.none,.none,none,.none,.none,0⟩),⟨[]⟩⟩
abbrev o156 (P:Params):Obj:=⟨(.type l152),none,(.fields ⟨[(vs c218 508),(vs c234 509),(vs c164 510),(vi 119 0),(vi 4 0),(vi 0 0),(vi 0 0),(vi 3 0),(vr 254),(.bool true),(vi 181 0),(vr 255),.none,.none,.none,(vr 256),(vi 511 0),(vi 119 0),(vs c164 512)]⟩),⟨[]⟩⟩
abbrev o157 (P:Params):Obj:=⟨(.type l154),none,(.func ⟨c218,c234,(fA (ic (tp 26) 1)),.stmts (fB (ic (tp 26) 1)),(fS (ic (tp 26) 1)),3,[],.none,.none,.none,(vs c167 324),none,(vr 257),.none,0⟩),⟨[]⟩⟩
abbrev o158 (P:Params):Obj:=⟨(.type l71),none,(.seq ⟨[(vs c219 517),(vs c198 518),(vs c196 519)]⟩ 0),⟨[]⟩⟩
abbrev o159 (P:Params):Obj:=⟨.none,none,(.func ⟨c232,c235,(fA (ic (tp 26) 2)),.stmts (fB (ic (tp 26) 2)),(fS (ic (tp 26) 2)),0,[],.none,.none,.none,.none,none,.none,.none,0⟩),⟨[]⟩⟩
abbrev o160 (P:Params):Obj:=⟨(.type l152),none,(.fields ⟨[(vs c232 514),(vs c235 515),(vs c164 516),(vi 124 0),(vi 3 0),(vi 0 0),(vi 0 0),(vi 3 0),(vr 259),(.bool true),(vi 181 0),(vr 260),.none,(vr 261),(vr 262),(vr 263),(vi 520 0),(vi 124 0),(vs c164 521)]⟩),⟨[]⟩⟩
abbrev o161 (P:Params):Obj:=⟨(.type l154),none,(.func ⟨c232,c235,(fA (ic (tp 26) 2)),.stmts (fB (ic (tp 26) 2)),(fS (ic (tp 26) 2)),3,[],.none,.none,.none,(vs c167 324),none,(vr 264),.none,0⟩),⟨[]⟩⟩
abbrev o162 (P:Params):Obj:=⟨(.type l71),none,(.seq ⟨[(vs c197 523)]⟩ 0),⟨[]⟩⟩
abbrev o163 (P:Params):Obj:=⟨(.type l0),none,(.dict ⟨[de P c211 495 (vs c167 324),de P c213 499 (vi 114 498),de P c217 507 (vr 253),de P c218 513 (vr 258),de P c232 522 (vr 265),de P c214 524 (vr 266),de P c2 525 .none]⟩ 2),⟨[]⟩⟩
abbrev o164 (P:Params):Obj:=⟨(.type l72),none,(.cls ⟨c192,[(vr 135)],[(vr 268),(vr 135),(.type l63)],267,c192,true,[],[],false,none,false⟩),⟨[some (vr 240),none,some (vs c192 488),some (vs c192 496),some (.builtin l157),some (.bool true)]⟩⟩
abbrev o165 (P:Params):Obj:=⟨(.type l70),none,(.fields ⟨[(vr 268),(vr 268),(vr 268)]⟩),⟨[]⟩⟩
abbrev o166 (P:Params):Obj:=⟨(.type l155),none,(.fields ⟨[(.builtin l162),(vr 268)]⟩),⟨[]⟩⟩
abbrev o167 (P:Params):Obj:=⟨(.type l0),none,(.dict ⟨((de P c0 165 (vs c236 860)) :: (de P c2 166 .none) :: (de P c3 167 .none) :: (de P c4 168 (.builtin l150)) :: (de P c5 169 .none) :: (de P c161 170 (vr 6)) :: (de P c162 171 (vr 4)) :: (de P c163 173 (vs c164 172)) :: (de P c165 174 .none) :: (de P c168 193 (vr 21)) :: (de P c169 197 (vi 1000000 196)) :: (de P c170 199 (vi 1000000 198)) :: (de P c171 206 (vr 28)) :: (de P c172 213 (vr 35)) :: (de P c173 219 (vr 40)) :: (de P c174 226 (vr 47)) :: (de P c175 232 (vr 52)) :: (de P c176 240 (vr 59)) :: (de P c177 247 (vr 66)) :: (de P c178 253 (vr 71)) :: (de P c179 261 (vr 78)) :: (de P c180 270 (vr 85)) :: (de P c181 281 (vr 92)) :: (de P c182 297 (vr 99)) :: (de P c183 305 (vr 106)) :: (de P c184 314 (vr 113)) :: (de P c185 323 (vr 120)) :: (de P c186 331 (vr 125)) :: (de P c187 351 (vr 135)) :: (de P c188 384 (vr 161)) :: (de P c189 421 (vr 187)) :: (de P c190 456 (vr 213)) :: (de P c191 487 (vr 237)) :: (de P c192 527 (vr 268)) :: (de P c237 561 (vr 294)) :: (de P c238 581 (vr 306)) :: (de P c239 597 (vr 319)) :: (de P c240 613 (vr 331)) :: (de P c241 629 (vr 343)) :: (de P c242 645 (vr 355)) :: (de P c243 661 (vr 367)) :: (de P c244 677 (vr 379)) :: (de P c245 686 (vr 388)) :: (de P c246 697 (vr 395)) :: (de P c247 707 (vr 402)) :: (de P c248 713 (vr 407)) :: (de P c249 722 (vr 414)) :: (de P c250 735 (vr 421)) :: (de P c251 749 (vr 428)) :: (de P c252 755 (vr 433)) :: (de P c202 761 (vr 438)) :: (de P c253 773 (vr 445)) :: (de P c254 779 (vr 450)) :: (de P c255 789 (vr 457)) :: (de P c256 795 (vr 462)) :: (de P c257 806 (vr 469)) :: (de P c258 812 (vr 474)) :: (de P c259 825 (vr 481)) :: (de P c260 836 (vr 488)) :: (de P c261 849 (vr 495)) :: (de P c262 853 (vs c263 852)) :: (de P c264 859 (vr 500)) :: [])⟩ 62),⟨[]⟩⟩
abbrev o168 (P:Params):Obj:=⟨.none,none,(.fields ⟨(((vi 1 0)) :: ((vi 0 0)) :: ((vr 20)) :: ((vi 7 0)) :: ((vi 0 0)) :: ((vr 27)) :: ((vi 9 0)) :: ((vi 0 0)) :: ((vr 34)) :: ((vi 11 0)) :: ((vi 0 0)) :: ((vr 39)) :: ((vi 13 0)) :: ((vi 0 0)) :: ((vr 46)) :: ((vi 15 0)) :: ((vi 0 0)) :: ((vr 51)) :: ((vi 17 0)) :: ((vi 0 0)) :: ((vr 58)) :: ((vi 19 0)) :: ((vi 0 0)) :: ((vr 65)) :: ((vi 21 0)) :: ((vi 0 0)) :: ((vr 70)) :: ((vi 23 0)) :: ((vi 0 0)) :: ((vr 77)) :: ((vi 25 0)) :: ((vi 0 0)) :: ((vr 84)) :: ((vi 27 0)) :: ((vi 0 0)) :: ((vr 91)) :: ((vi 35 0)) :: ((vi 0 0)) :: ((vr 98)) :: ((vi 52 0)) :: ((vi 0 0)) :: ((vr 105)) :: ((vi 54 0)) :: ((vi 0 0)) :: ((vr 112)) :: ((vi 59 0)) :: ((vi 0 0)) :: ((vr 119)) :: ((vi 65 0)) :: ((vi 0 0)) :: ((vr 124)) :: ((vi 67 0)) :: ((vi 0 0)) :: ((vr 131)) :: ((vi 69 0)) :: ((vi 0 0)) :: ((vr 145)) :: ((vi 81 0)) :: ((vi 0 0)) :: ((vr 169)) :: ((vi 93 0)) :: ((vi 0 0)) :: ((vr 195)) :: ((vi 103 0)) :: ((vi 0 0)) :: ((vr 221)) :: ((vi 114 0)) :: ((vi 0 0)) :: ((vr 245)) :: ((vi 126 0)) :: ((vi 0 0)) :: ((vr 276)) :: ((vi 134 0)) :: ((vi 0 0)) :: ((vr 302)) :: ((vi 136 0)) :: ((vi 0 0)) :: ((vr 315)) :: ((vi 138 0)) :: ((vi 0 0)) :: ((vr 327)) :: ((vi 140 0)) :: ((vi 0 0)) :: ((vr 339)) :: ((vi 142 0)) :: ((vi 0 0)) :: ((vr 351)) :: ((vi 144 0)) :: ((vi 0 0)) :: ((vr 363)) :: ((vi 146 0)) :: ((vi 0 0)) :: ((vr 375)) :: ((vi 149 0)) :: ((vi 0 0)) :: ((vr 387)) :: ((vi 153 0)) :: ((vi 0 0)) :: ((vr 394)) :: ((vi 161 0)) :: ((vi 0 0)) :: ((vr 401)) :: ((vi 168 0)) :: ((vi 0 0)) :: ((vr 406)) :: ((vi 180 0)) :: ((vi 0 0)) :: ((vr 413)) :: ((vi 190 0)) :: ((vi 0 0)) :: ((vr 420)) :: ((vi 200 0)) :: ((vi 0 0)) :: ((vr 427)) :: ((vi 209 0)) :: ((vi 0 0)) :: ((vr 432)) :: ((vi 212 0)) :: ((vi 0 0)) :: ((vr 437)) :: ((vi 219 0)) :: ((vi 0 0)) :: ((vr 444)) :: ((vi 232 0)) :: ((vi 0 0)) :: ((vr 449)) :: ((vi 241 0)) :: ((vi 0 0)) :: ((vr 456)) :: ((vi 254 0)) :: ((vi 0 0)) :: ((vr 461)) :: ((vi 265 0)) :: ((vi 0 0)) :: ((vr 468)) :: ((vi 272 0)) :: ((vi 0 0)) :: ((vr 473)) :: ((vi 282 0)) :: ((vi 0 0)) :: ((vr 480)) :: ((vi 291 0)) :: ((vi 0 0)) :: ((vr 487)) :: ((vi 298 0)) :: ((vi 0 0)) :: ((vr 494)) :: ((vi 310 0)) :: ((vi 0 0)) :: ((vr 499)) :: [])⟩),⟨[]⟩⟩
abbrev o169 (P:Params):Obj:=⟨(.type l72),none,(.cls ⟨c187,[(.type l63)],[(vr 135),(.type l63)],134,c187,true,[],[(vr 161),(vr 187),(vr 213),(vr 237),(vr 268),(vr 294)],false,none,false⟩),⟨[none,none,some (vs c187 332),some (vs c187 340),some (.builtin l157),some (.bool true)]⟩⟩
abbrev o170 (P:Params):Obj:=⟨(.type l0),none,(.dict ⟨[de P c211 535 (vs c167 324),de P c212 537 (vs c237 536),de P c213 539 (vi 126 538),de P c217 547 (vr 284),de P c218 556 (vr 291),de P c214 558 (vr 292)]⟩ 6),⟨[]⟩⟩
abbrev o171 (P:Params):Obj:=⟨.none,none,(.fields ⟨[(vi 128 0),(vi 4 0),(vr 283),(vi 131 0),(vi 4 0),(vr 290)]⟩),⟨[]⟩⟩
abbrev o172 (P:Params):Obj:=⟨(.type l152),none,(.fields ⟨[(vs c237 530),(vs c237 531),(vs c164 532),(vi 126 0),(vi 0 0),(vi 0 0),(vi 0 0),(vi 0 0),(vr 274),(.bool false),(vi 181 0),(vr 275),.none,.none,.none,.none,(vi 533 0),(vi 126 0),(vs c164 534)]⟩),⟨[]⟩⟩
abbrev o173 (P:Params):Obj:=⟨(.type l153),none,.plain,⟨[some (vr 276),some (vr 3),some (vr 273),none,some (vs c167 324),none,some (vr 0)]⟩⟩
abbrev o174 (P:Params):Obj:=⟨(.type l71),none,(.seq ⟨[(vs c219 543),(vs c199 544)]⟩ 0),⟨[]⟩⟩
abbrev o175 (P:Params):Obj:=⟨.none,none,(.func ⟨c217,c265,(fA (ic (tp 27) 0)),.stmts (fB (ic (tp 27) 0)),(fS (ic (tp 27) 0)),0,[],.none,.none,.none,.none,none,.none,.none,0⟩),⟨[]⟩⟩
abbrev o176 (P:Params):Obj:=⟨(.type l152),none,(.fields ⟨[(vs c217 540),(vs c265 541),(vs c164 542),(vi 128 0),(vi 2 0),(vi 0 0),(vi 0 0),(vi 3 0),(vr 278),(.bool true),(vi 181 0),(vr 279),.none,(vr 280),(vr 281),(vr 282),(vi 545 0),(vi 128 0),(vs c164 546)]⟩),⟨[]⟩⟩
abbrev o177 (P:Params):Obj:=⟨(.type l154),none,(.func ⟨c217,c265,(fA (ic (tp 27) 0)),.stmts (fB (ic (tp 27) 0)),(fS (ic (tp 27) 0)),3,[],.none,.none,.none,(vs c167 324),none,(vr 283),.none,0⟩),⟨[]⟩⟩
abbrev o178 (P:Params):Obj:=⟨(.type l71),none,(.seq ⟨[(vs c219 551),(vs c198 552),(vs c196 553)]⟩ 0),⟨[]⟩⟩
abbrev o179 (P:Params):Obj:=⟨.none,none,(.func ⟨c218,c266,(fA (ic (tp 27) 1)),.stmts (fB (ic (tp 27) 1)),(fS (ic (tp 27) 1)),0,[],.none,.none,.none,.none,none,.none,.none,0⟩),⟨[]⟩⟩
abbrev o180 (P:Params):Obj:=⟨(.type l152),none,(.fields ⟨[(vs c218 548),(vs c266 549),(vs c164 550),(vi 131 0),(vi 3 0),(vi 0 0),(vi 0 0),(vi 3 0),(vr 285),(.bool true),(vi 181 0),(vr 286),.none,(vr 287),(vr 288),(vr 289),(vi 554 0),(vi 131 0),(vs c164 555)]⟩),⟨[]⟩⟩
abbrev o181 (P:Params):Obj:=⟨(.type l154),none,(.func ⟨c218,c266,(fA (ic (tp 27) 1)),.stmts (fB (ic (tp 27) 1)),(fS (ic (tp 27) 1)),3,[],.none,.none,.none,(vs c167 324),none,(vr 290),.none,0⟩),⟨[]⟩⟩
abbrev o182 (P:Params):Obj:=⟨(.type l71),none,(.seq ⟨[(vs c199 557)]⟩ 0),⟨[]⟩⟩
abbrev o183 (P:Params):Obj:=⟨(.type l0),none,(.dict ⟨[de P c211 535 (vs c167 324),de P c213 539 (vi 126 538),de P c217 547 (vr 284),de P c218 556 (vr 291),de P c214 558 (vr 292),de P c2 559 .none]⟩ 2),⟨[]⟩⟩
abbrev o184 (P:Params):Obj:=⟨(.type l72),none,(.cls ⟨c237,[(vr 135)],[(vr 294),(vr 135),(.type l63)],293,c237,true,[],[],false,none,false⟩),⟨[some (vr 271),none,some (vs c237 528),some (vs c237 536),some (.builtin l157),some (.bool true)]⟩⟩
abbrev o185 (P:Params):Obj:=⟨(.type l70),none,(.fields ⟨[(vr 294),(vr 294),(vr 294)]⟩),⟨[]⟩⟩
abbrev o186 (P:Params):Obj:=⟨(.type l155),none,(.fields ⟨[(.builtin l162),(vr 294)]⟩),⟨[]⟩⟩
abbrev o187 (P:Params):Obj:=⟨(.type l71),none,(.seq ⟨[(.type l97)]⟩ 0),⟨[]⟩⟩
abbrev o188 (P:Params):Obj:=⟨(.type l0),none,(.dict ⟨[de P c211 571 (vs c267 562),de P c212 573 (vs c238 572),de P c213 575 (vi 134 574),de P c214 576 (vr 304)]⟩ 4),⟨[]⟩⟩
abbrev o189 (P:Params):Obj:=⟨(.type l152),none,(.fields ⟨[(vs c238 566),(vs c238 567),(vs c164 568),(vi 134 0),(vi 0 0),(vi 0 0),(vi 0 0),(vi 0 0),(vr 300),(.bool false),(vi 181 0),(vr 301),.none,.none,.none,.none,(vi 569 0),(vi 134 0),(vs c164 570)]⟩),⟨[]⟩⟩
abbrev o190 (P:Params):Obj:=⟨(.type l153),none,.plain,⟨[some (vr 302),some (vr 3),some (vr 299),none,some (vs c267 562),none,some (vr 0)]⟩⟩
abbrev o191 (P:Params):Obj:=⟨(.type l0),none,(.dict ⟨[de P c211 571 (vs c267 562),de P c213 575 (vi 134 574),de P c214 576 (vr 304),de P c216 578 (vr 307),de P c2 579 .none]⟩ 3),⟨[]⟩⟩
abbrev o192 (P:Params):Obj:=⟨(.type l72),none,(.cls ⟨c238,[(.type l97)],[(vr 306),(.type l97),(.type l76),(.type l74),(.type l63)],305,c238,true,[],[(vr 319),(vr 331),(vr 343),(vr 355),(vr 367),(vr 379)],false,none,false⟩),⟨[some (vr 297),none,some (vs c238 564),some (vs c238 572),some (.builtin l163),some (.bool true)]⟩⟩
abbrev o193 (P:Params):Obj:=⟨(.type l158),none,(.fields ⟨[(vs c216 577),(vr 306),(.builtin l161),.none]⟩),⟨[]⟩⟩
abbrev o194 (P:Params):Obj:=⟨(.type l70),none,(.fields ⟨[(vr 306),(vr 306),(vr 306)]⟩),⟨[]⟩⟩
abbrev o195 (P:Params):Obj:=⟨(.type l155),none,(.fields ⟨[(.builtin l162),(vr 306)]⟩),⟨[]⟩⟩
abbrev o196 (P:Params):Obj:=⟨(.type l71),none,(.seq ⟨[(vr 306)]⟩ 0),⟨[]⟩⟩
abbrev o197 (P:Params):Obj:=⟨(.type l0),none,(.dict ⟨[de P c211 589 (vs c267 562),de P c212 591 (vs c239 590),de P c213 593 (vi 136 592),de P c214 594 (vr 317)]⟩ 4),⟨[]⟩⟩
abbrev o198 (P:Params):Obj:=⟨(.type l152),none,(.fields ⟨[(vs c239 584),(vs c239 585),(vs c164 586),(vi 136 0),(vi 0 0),(vi 0 0),(vi 0 0),(vi 0 0),(vr 313),(.bool false),(vi 181 0),(vr 314),.none,.none,.none,.none,(vi 587 0),(vi 136 0),(vs c164 588)]⟩),⟨[]⟩⟩
abbrev o199 (P:Params):Obj:=⟨(.type l153),none,.plain,⟨[some (vr 315),some (vr 3),some (vr 312),none,some (vs c267 562),none,some (vr 0)]⟩⟩
abbrev o200 (P:Params):Obj:=⟨(.type l0),none,(.dict ⟨[de P c211 589 (vs c267 562),de P c213 593 (vi 136 592),de P c214 594 (vr 317),de P c2 595 .none]⟩ 2),⟨[]⟩⟩
abbrev o201 (P:Params):Obj:=⟨(.type l72),none,(.cls ⟨c239,[(vr 306)],[(vr 319),(vr 306),(.type l97),(.type l76),(.type l74),(.type l63)],318,c239,true,[],[],false,none,false⟩),⟨[some (vr 310),none,some (vs c239 582),some (vs c239 590),some (.builtin l163),some (.bool true)]⟩⟩
abbrev o202 (P:Params):Obj:=⟨(.type l70),none,(.fields ⟨[(vr 319),(vr 319),(vr 319)]⟩),⟨[]⟩⟩
abbrev o203 (P:Params):Obj:=⟨(.type l155),none,(.fields ⟨[(.builtin l162),(vr 319)]⟩),⟨[]⟩⟩
abbrev o204 (P:Params):Obj:=⟨(.type l0),none,(.dict ⟨[de P c211 605 (vs c267 562),de P c212 607 (vs c240 606),de P c213 609 (vi 138 608),de P c214 610 (vr 329)]⟩ 4),⟨[]⟩⟩
abbrev o205 (P:Params):Obj:=⟨(.type l152),none,(.fields ⟨[(vs c240 600),(vs c240 601),(vs c164 602),(vi 138 0),(vi 0 0),(vi 0 0),(vi 0 0),(vi 0 0),(vr 325),(.bool false),(vi 181 0),(vr 326),.none,.none,.none,.none,(vi 603 0),(vi 138 0),(vs c164 604)]⟩),⟨[]⟩⟩
abbrev o206 (P:Params):Obj:=⟨(.type l153),none,.plain,⟨[some (vr 327),some (vr 3),some (vr 324),none,some (vs c267 562),none,some (vr 0)]⟩⟩
abbrev o207 (P:Params):Obj:=⟨(.type l0),none,(.dict ⟨[de P c211 605 (vs c267 562),de P c213 609 (vi 138 608),de P c214 610 (vr 329),de P c2 611 .none]⟩ 2),⟨[]⟩⟩
abbrev o208 (P:Params):Obj:=⟨(.type l72),none,(.cls ⟨c240,[(vr 306)],[(vr 331),(vr 306),(.type l97),(.type l76),(.type l74),(.type l63)],330,c240,true,[],[],false,none,false⟩),⟨[some (vr 322),none,some (vs c240 598),some (vs c240 606),some (.builtin l163),some (.bool true)]⟩⟩
abbrev o209 (P:Params):Obj:=⟨(.type l70),none,(.fields ⟨[(vr 331),(vr 331),(vr 331)]⟩),⟨[]⟩⟩
abbrev o210 (P:Params):Obj:=⟨(.type l155),none,(.fields ⟨[(.builtin l162),(vr 331)]⟩),⟨[]⟩⟩
abbrev o211 (P:Params):Obj:=⟨(.type l0),none,(.dict ⟨[de P c211 621 (vs c267 562),de P c212 623 (vs c241 622),de P c213 625 (vi 140 624),de P c214 626 (vr 341)]⟩ 4),⟨[]⟩⟩
abbrev o212 (P:Params):Obj:=⟨(.type l152),none,(.fields ⟨[(vs c241 616),(vs c241 617),(vs c164 618),(vi 140 0),(vi 0 0),(vi 0 0),(vi 0 0),(vi 0 0),(vr 337),(.bool false),(vi 181 0),(vr 338),.none,.none,.none,.none,(vi 619 0),(vi 140 0),(vs c164 620)]⟩),⟨[]⟩⟩
abbrev o213 (P:Params):Obj:=⟨(.type l153),none,.plain,⟨[some (vr 339),some (vr 3),some (vr 336),none,some (vs c267 562),none,some (vr 0)]⟩⟩
abbrev o214 (P:Params):Obj:=⟨(.type l0),none,(.dict ⟨[de P c211 621 (vs c267 562),de P c213 625 (vi 140 624),de P c214 626 (vr 341),de P c2 627 .none]⟩ 2),⟨[]⟩⟩
abbrev o215 (P:Params):Obj:=⟨(.type l72),none,(.cls ⟨c241,[(vr 306)],[(vr 343),(vr 306),(.type l97),(.type l76),(.type l74),(.type l63)],342,c241,true,[],[],false,none,false⟩),⟨[some (vr 334),none,some (vs c241 614),some (vs c241 622),some (.builtin l163),some (.bool true)]⟩⟩
abbrev o216 (P:Params):Obj:=⟨(.type l70),none,(.fields ⟨[(vr 343),(vr 343),(vr 343)]⟩),⟨[]⟩⟩
abbrev o217 (P:Params):Obj:=⟨(.type l155),none,(.fields ⟨[(.builtin l162),(vr 343)]⟩),⟨[]⟩⟩
abbrev o218 (P:Params):Obj:=⟨(.type l0),none,(.dict ⟨[de P c211 637 (vs c267 562),de P c212 639 (vs c242 638),de P c213 641 (vi 142 640),de P c214 642 (vr 353)]⟩ 4),⟨[]⟩⟩
abbrev o219 (P:Params):Obj:=⟨(.type l152),none,(.fields ⟨[(vs c242 632),(vs c242 633),(vs c164 634),(vi 142 0),(vi 0 0),(vi 0 0),(vi 0 0),(vi 0 0),(vr 349),(.bool false),(vi 181 0),(vr 350),.none,.none,.none,.none,(vi 635 0),(vi 142 0),(vs c164 636)]⟩),⟨[]⟩⟩
abbrev o220 (P:Params):Obj:=⟨(.type l153),none,.plain,⟨[some (vr 351),some (vr 3),some (vr 348),none,some (vs c267 562),none,some (vr 0)]⟩⟩
abbrev o221 (P:Params):Obj:=⟨(.type l0),none,(.dict ⟨[de P c211 637 (vs c267 562),de P c213 641 (vi 142 640),de P c214 642 (vr 353),de P c2 643 .none]⟩ 2),⟨[]⟩⟩
abbrev o222 (P:Params):Obj:=⟨(.type l72),none,(.cls ⟨c242,[(vr 306)],[(vr 355),(vr 306),(.type l97),(.type l76),(.type l74),(.type l63)],354,c242,true,[],[],false,none,false⟩),⟨[some (vr 346),none,some (vs c242 630),some (vs c242 638),some (.builtin l163),some (.bool true)]⟩⟩
abbrev o223 (P:Params):Obj:=⟨(.type l70),none,(.fields ⟨[(vr 355),(vr 355),(vr 355)]⟩),⟨[]⟩⟩
abbrev o224 (P:Params):Obj:=⟨(.type l155),none,(.fields ⟨[(.builtin l162),(vr 355)]⟩),⟨[]⟩⟩
abbrev o225 (P:Params):Obj:=⟨(.type l0),none,(.dict ⟨[de P c211 653 (vs c267 562),de P c212 655 (vs c243 654),de P c213 657 (vi 144 656),de P c214 658 (vr 365)]⟩ 4),⟨[]⟩⟩
abbrev o226 (P:Params):Obj:=⟨(.type l152),none,(.fields ⟨[(vs c243 648),(vs c243 649),(vs c164 650),(vi 144 0),(vi 0 0),(vi 0 0),(vi 0 0),(vi 0 0),(vr 361),(.bool false),(vi 181 0),(vr 362),.none,.none,.none,.none,(vi 651 0),(vi 144 0),(vs c164 652)]⟩),⟨[]⟩⟩
abbrev o227 (P:Params):Obj:=⟨(.type l153),none,.plain,⟨[some (vr 363),some (vr 3),some (vr 360),none,some (vs c267 562),none,some (vr 0)]⟩⟩
abbrev o228 (P:Params):Obj:=⟨(.type l0),none,(.dict ⟨[de P c211 653 (vs c267 562),de P c213 657 (vi 144 656),de P c214 658 (vr 365),de P c2 659 .none]⟩ 2),⟨[]⟩⟩
abbrev o229 (P:Params):Obj:=⟨(.type l72),none,(.cls ⟨c243,[(vr 306)],[(vr 367),(vr 306),(.type l97),(.type l76),(.type l74),(.type l63)],366,c243,true,[],[],false,none,false⟩),⟨[some (vr 358),none,some (vs c243 646),some (vs c243 654),some (.builtin l163),some (.bool true)]⟩⟩
abbrev o230 (P:Params):Obj:=⟨(.type l70),none,(.fields ⟨[(vr 367),(vr 367),(vr 367)]⟩),⟨[]⟩⟩
abbrev o231 (P:Params):Obj:=⟨(.type l155),none,(.fields ⟨[(.builtin l162),(vr 367)]⟩),⟨[]⟩⟩
abbrev o232 (P:Params):Obj:=⟨(.type l0),none,(.dict ⟨[de P c211 669 (vs c267 562),de P c212 671 (vs c244 670),de P c213 673 (vi 146 672),de P c214 674 (vr 377)]⟩ 4),⟨[]⟩⟩
abbrev o233 (P:Params):Obj:=⟨(.type l152),none,(.fields ⟨[(vs c244 664),(vs c244 665),(vs c164 666),(vi 146 0),(vi 0 0),(vi 0 0),(vi 0 0),(vi 0 0),(vr 373),(.bool false),(vi 181 0),(vr 374),.none,.none,.none,.none,(vi 667 0),(vi 146 0),(vs c164 668)]⟩),⟨[]⟩⟩
abbrev o234 (P:Params):Obj:=⟨(.type l153),none,.plain,⟨[some (vr 375),some (vr 3),some (vr 372),none,some (vs c267 562),none,some (vr 0)]⟩⟩
abbrev o235 (P:Params):Obj:=⟨(.type l0),none,(.dict ⟨[de P c211 669 (vs c267 562),de P c213 673 (vi 146 672),de P c214 674 (vr 377),de P c2 675 .none]⟩ 2),⟨[]⟩⟩
abbrev o236 (P:Params):Obj:=⟨(.type l72),none,(.cls ⟨c244,[(vr 306)],[(vr 379),(vr 306),(.type l97),(.type l76),(.type l74),(.type l63)],378,c244,true,[],[],false,none,false⟩),⟨[some (vr 370),none,some (vs c244 662),some (vs c244 670),some (.builtin l163),some (.bool true)]⟩⟩
abbrev o237 (P:Params):Obj:=⟨(.type l70),none,(.fields ⟨[(vr 379),(vr 379),(vr 379)]⟩),⟨[]⟩⟩
abbrev o238 (P:Params):Obj:=⟨(.type l155),none,(.fields ⟨[(.builtin l162),(vr 379)]⟩),⟨[]⟩⟩
abbrev o239 (P:Params):Obj:=⟨(.type l71),none,(.seq ⟨[(vs c209 683)]⟩ 0),⟨[]⟩⟩
abbrev o240 (P:Params):Obj:=⟨.none,none,(.func ⟨c245,c245,(fA (tp 37)),.stmts (fB (tp 37)),(fS (tp 37)),0,[],.none,.none,.none,.none,none,.none,.none,0⟩),⟨[]⟩⟩
abbrev o241 (P:Params):Obj:=⟨(.type l152),none,(.fields ⟨[(vs c245 680),(vs c245 681),(vs c164 682),(vi 149 0),(vi 1 0),(vi 0 0),(vi 0 0),(vi 3 0),(vr 382),(.bool true),(vi 181 0),(vr 383),.none,(vr 384),(vr 385),(vr 386),(vi 684 0),(vi 149 0),(vs c164 685)]⟩),⟨[]⟩⟩
abbrev o242 (P:Params):Obj:=⟨(.type l154),none,(.func ⟨c245,c245,(fA (tp 37)),.stmts (fB (tp 37)),(fS (tp 37)),3,[],.none,.none,.none,(vs c268 678),none,(vr 387),.none,0⟩),⟨[]⟩⟩
abbrev o243 (P:Params):Obj:=⟨(.type l71),none,(.seq ⟨[(vs c209 690),(vs c269 691),(vs c197 692),(vs c198 693),(vs c270 694)]⟩ 0),⟨[]⟩⟩
abbrev o244 (P:Params):Obj:=⟨.none,none,(.func ⟨c246,c246,(fA (tp 38)),.stmts (fB (tp 38)),(fS (tp 38)),0,[],.none,.none,.none,.none,none,.none,.none,0⟩),⟨[]⟩⟩
abbrev o245 (P:Params):Obj:=⟨(.type l152),none,(.fields ⟨[(vs c246 687),(vs c246 688),(vs c164 689),(vi 153 0),(vi 1 0),(vi 0 0),(vi 0 0),(vi 3 0),(vr 389),(.bool true),(vi 181 0),(vr 390),.none,(vr 391),(vr 392),(vr 393),(vi 695 0),(vi 153 0),(vs c164 696)]⟩),⟨[]⟩⟩
abbrev o246 (P:Params):Obj:=⟨(.type l154),none,(.func ⟨c246,c246,(fA (tp 38)),.stmts (fB (tp 38)),(fS (tp 38)),3,[],.none,.none,.none,(vs c268 678),none,(vr 394),.none,0⟩),⟨[]⟩⟩
abbrev o247 (P:Params):Obj:=⟨(.type l71),none,(.seq ⟨[(vs c269 701),(vs c227 702),(vs c271 703),(vs c270 704)]⟩ 0),⟨[]⟩⟩
abbrev o248 (P:Params):Obj:=⟨.none,none,(.func ⟨c247,c247,(fA (tp 39)),.stmts (fB (tp 39)),(fS (tp 39)),0,[],.none,.none,.none,.none,none,.none,.none,0⟩),⟨[]⟩⟩
abbrev o249 (P:Params):Obj:=⟨(.type l152),none,(.fields ⟨[(vs c247 698),(vs c247 699),(vs c164 700),(vi 161 0),(vi 1 0),(vi 0 0),(vi 0 0),(vi 3 0),(vr 396),(.bool true),(vi 181 0),(vr 397),.none,(vr 398),(vr 399),(vr 400),(vi 705 0),(vi 161 0),(vs c164 706)]⟩),⟨[]⟩⟩
abbrev o250 (P:Params):Obj:=⟨(.type l154),none,(.func ⟨c247,c247,(fA (tp 39)),.stmts (fB (tp 39)),(fS (tp 39)),3,[],.none,.none,.none,(vs c268 678),none,(vr 401),.none,0⟩),⟨[]⟩⟩
abbrev o251 (P:Params):Obj:=⟨.none,none,(.func ⟨c248,c248,(fA (tp 40)),.stmts (fB (tp 40)),(fS (tp 40)),0,[],.none,.none,.none,.none,none,.none,.none,0⟩),⟨[]⟩⟩
abbrev o252 (P:Params):Obj:=⟨(.type l152),none,(.fields ⟨[(vs c248 708),(vs c248 709),(vs c164 710),(vi 168 0),(vi 3 0),(vi 0 0),(vi 0 0),(vi 3 0),(vr 403),(.bool true),(vi 181 0),(vr 404),.none,.none,.none,(vr 405),(vi 711 0),(vi 168 0),(vs c164 712)]⟩),⟨[]⟩⟩
abbrev o253 (P:Params):Obj:=⟨(.type l154),none,(.func ⟨c248,c248,(fA (tp 40)),.stmts (fB (tp 40)),(fS (tp 40)),3,[],.none,.none,.none,(vs c268 678),none,(vr 406),.none,0⟩),⟨[]⟩⟩
abbrev o254 (P:Params):Obj:=⟨(.type l71),none,(.seq ⟨[(vs c198 717),(vs c196 718),(vs c197 719)]⟩ 0),⟨[]⟩⟩
abbrev o255 (P:Params):Obj:=⟨.none,none,(.func ⟨c249,c249,(fA (tp 41)),.stmts (fB (tp 41)),(fS (tp 41)),0,[],.none,.none,.none,.none,none,.none,.none,0⟩),⟨[]⟩⟩
abbrev o256 (P:Params):Obj:=⟨(.type l152),none,(.fields ⟨[(vs c249 714),(vs c249 715),(vs c164 716),(vi 180 0),(vi 2 0),(vi 0 0),(vi 0 0),(vi 3 0),(vr 408),(.bool true),(vi 181 0),(vr 409),.none,(vr 410),(vr 411),(vr 412),(vi 720 0),(vi 180 0),(vs c164 721)]⟩),⟨[]⟩⟩
abbrev o257 (P:Params):Obj:=⟨(.type l154),none,(.func ⟨c249,c249,(fA (tp 41)),.stmts (fB (tp 41)),(fS (tp 41)),3,[],.none,.none,.none,(vs c268 678),none,(vr 413),.none,0⟩),⟨[]⟩⟩
abbrev o258 (P:Params):Obj:=⟨(.type l71),none,(.seq ⟨[(vs c223 728),(vs c272 729),(vs c273 730),(vs c274 731),(vs c203 732)]⟩ 0),⟨[]⟩⟩
abbrev o259 (P:Params):Obj:=⟨.none,none,(.func ⟨c250,c250,(fA (tp 43)),.stmts (fB (tp 43)),(fS (tp 43)),0,[],.none,.none,.none,.none,none,.none,.none,0⟩),⟨[]⟩⟩
abbrev o260 (P:Params):Obj:=⟨(.type l152),none,(.fields ⟨[(vs c250 725),(vs c250 726),(vs c164 727),(vi 190 0),(vi 1 0),(vi 0 0),(vi 0 0),(vi 3 0),(vr 415),(.bool true),(vi 181 0),(vr 416),.none,(vr 417),(vr 418),(vr 419),(vi 733 0),(vi 190 0),(vs c164 734)]⟩),⟨[]⟩⟩
abbrev o261 (P:Params):Obj:=⟨(.type l154),none,(.func ⟨c250,c250,(fA (tp 43)),.stmts (fB (tp 43)),(fS (tp 43)),3,[],.none,.none,.none,(vs c275 723),none,(vr 420),.none,0⟩),⟨[]⟩⟩
abbrev o262 (P:Params):Obj:=⟨(.type l71),none,(.seq ⟨[(vs c272 739),(vs c199 740),(vs c196 741),(vs c276 742),(vs c197 743),(vs c277 744),(vs c278 745),(vs c269 746)]⟩ 0),⟨[]⟩⟩
abbrev o263 (P:Params):Obj:=⟨.none,none,(.func ⟨c251,c251,(fA (tp 44)),.stmts (fB (tp 44)),(fS (tp 44)),0,[],.none,.none,.none,.none,none,.none,.none,0⟩),⟨[]⟩⟩
abbrev o264 (P:Params):Obj:=⟨(.type l152),none,(.fields ⟨[(vs c251 736),(vs c251 737),(vs c164 738),(vi 200 0),(vi 3 0),(vi 0 0),(vi 0 0),(vi 3 0),(vr 422),(.bool true),(vi 181 0),(vr 423),.none,(vr 424),(vr 425),(vr 426),(vi 747 0),(vi 200 0),(vs c164 748)]⟩),⟨[]⟩⟩
abbrev o265 (P:Params):Obj:=⟨(.type l154),none,(.func ⟨c251,c251,(fA (tp 44)),.stmts (fB (tp 44)),(fS (tp 44)),3,[],.none,.none,.none,(vs c275 723),none,(vr 427),.none,0⟩),⟨[]⟩⟩
abbrev o266 (P:Params):Obj:=⟨.none,none,(.func ⟨c252,c252,(fA (tp 45)),.stmts (fB (tp 45)),(fS (tp 45)),0,[],.none,.none,.none,.none,none,.none,.none,0⟩),⟨[]⟩⟩
abbrev o267 (P:Params):Obj:=⟨(.type l152),none,(.fields ⟨[(vs c252 750),(vs c252 751),(vs c164 752),(vi 209 0),(vi 2 0),(vi 0 0),(vi 0 0),(vi 3 0),(vr 429),(.bool true),(vi 181 0),(vr 430),.none,.none,.none,(vr 431),(vi 753 0),(vi 209 0),(vs c164 754)]⟩),⟨[]⟩⟩
abbrev o268 (P:Params):Obj:=⟨(.type l154),none,(.func ⟨c252,c252,(fA (tp 45)),.stmts (fB (tp 45)),(fS (tp 45)),3,[],.none,.none,.none,(vs c275 723),none,(vr 432),.none,0⟩),⟨[]⟩⟩
abbrev o269 (P:Params):Obj:=⟨.none,none,(.func ⟨c202,c202,(fA (tp 46)),.stmts (fB (tp 46)),(fS (tp 46)),0,[],.none,.none,.none,.none,none,.none,.none,0⟩),⟨[]⟩⟩
abbrev o270 (P:Params):Obj:=⟨(.type l152),none,(.fields ⟨[(vs c202 756),(vs c202 757),(vs c164 758),(vi 212 0),(vi 2 0),(vi 0 0),(vi 0 0),(vi 3 0),(vr 434),(.bool true),(vi 181 0),(vr 435),.none,.none,.none,(vr 436),(vi 759 0),(vi 212 0),(vs c164 760)]⟩),⟨[]⟩⟩
abbrev o271 (P:Params):Obj:=⟨(.type l154),none,(.func ⟨c202,c202,(fA (tp 46)),.stmts (fB (tp 46)),(fS (tp 46)),3,[],.none,.none,.none,(vs c275 723),none,(vr 437),.none,0⟩),⟨[]⟩⟩
abbrev o272 (P:Params):Obj:=⟨(.type l71),none,(.seq ⟨[(vs c209 767),(vs c279 768),(vs c280 769),(vs c281 770)]⟩ 0),⟨[]⟩⟩
abbrev o273 (P:Params):Obj:=⟨.none,none,(.func ⟨c253,c253,(fA (tp 48)),.stmts (fB (tp 48)),(fS (tp 48)),0,[],.none,.none,.none,.none,none,.none,.none,0⟩),⟨[]⟩⟩
abbrev o274 (P:Params):Obj:=⟨(.type l152),none,(.fields ⟨[(vs c253 764),(vs c253 765),(vs c164 766),(vi 219 0),(vi 1 0),(vi 0 0),(vi 0 0),(vi 3 0),(vr 439),(.bool true),(vi 181 0),(vr 440),.none,(vr 441),(vr 442),(vr 443),(vi 771 0),(vi 219 0),(vs c164 772)]⟩),⟨[]⟩⟩
abbrev o275 (P:Params):Obj:=⟨(.type l154),none,(.func ⟨c253,c253,(fA (tp 48)),.stmts (fB (tp 48)),(fS (tp 48)),3,[],.none,.none,.none,(vs c282 762),none,(vr 444),.none,0⟩),⟨[]⟩⟩
abbrev o276 (P:Params):Obj:=⟨.none,none,(.func ⟨c254,c254,(fA (tp 49)),.stmts (fB (tp 49)),(fS (tp 49)),0,[],.none,.none,.none,.none,none,.none,.none,0⟩),⟨[]⟩⟩
abbrev o277 (P:Params):Obj:=⟨(.type l152),none,(.fields ⟨[(vs c254 774),(vs c254 775),(vs c164 776),(vi 232 0),(vi 1 0),(vi 0 0),(vi 0 0),(vi 3 0),(vr 446),(.bool true),(vi 181 0),(vr 447),.none,.none,.none,(vr 448),(vi 777 0),(vi 232 0),(vs c164 778)]⟩),⟨[]⟩⟩
abbrev o278 (P:Params):Obj:=⟨(.type l154),none,(.func ⟨c254,c254,(fA (tp 49)),.stmts (fB (tp 49)),(fS (tp 49)),3,[],.none,.none,.none,(vs c282 762),none,(vr 449),.none,0⟩),⟨[]⟩⟩
abbrev o279 (P:Params):Obj:=⟨(.type l71),none,(.seq ⟨[(vs c283 783),(vs c284 784),(vs c202 785),(vs c285 786)]⟩ 0),⟨[]⟩⟩
abbrev o280 (P:Params):Obj:=⟨.none,none,(.func ⟨c255,c255,(fA (tp 50)),.stmts (fB (tp 50)),(fS (tp 50)),0,[],.none,.none,.none,.none,none,.none,.none,0⟩),⟨[]⟩⟩
abbrev o281 (P:Params):Obj:=⟨(.type l152),none,(.fields ⟨[(vs c255 780),(vs c255 781),(vs c164 782),(vi 241 0),(vi 1 0),(vi 0 0),(vi 0 0),(vi 3 0),(vr 451),(.bool true),(vi 181 0),(vr 452),.none,(vr 453),(vr 454),(vr 455),(vi 787 0),(vi 241 0),(vs c164 788)]⟩),⟨[]⟩⟩
abbrev o282 (P:Params):Obj:=⟨(.type l154),none,(.func ⟨c255,c255,(fA (tp 50)),.stmts (fB (tp 50)),(fS (tp 50)),3,[],.none,.none,.none,(vs c282 762),none,(vr 456),.none,0⟩),⟨[]⟩⟩
abbrev o283 (P:Params):Obj:=⟨.none,none,(.func ⟨c256,c256,(fA (tp 51)),.stmts (fB (tp 51)),(fS (tp 51)),0,[],.none,.none,.none,.none,none,.none,.none,0⟩),⟨[]⟩⟩
abbrev o284 (P:Params):Obj:=⟨(.type l152),none,(.fields ⟨[(vs c256 790),(vs c256 791),(vs c164 792),(vi 254 0),(vi 2 0),(vi 0 0),(vi 0 0),(vi 3 0),(vr 458),(.bool true),(vi 181 0),(vr 459),.none,.none,.none,(vr 460),(vi 793 0),(vi 254 0),(vs c164 794)]⟩),⟨[]⟩⟩
abbrev o285 (P:Params):Obj:=⟨(.type l154),none,(.func ⟨c256,c256,(fA (tp 51)),.stmts (fB (tp 51)),(fS (tp 51)),3,[],.none,.none,.none,(vs c282 762),none,(vr 461),.none,0⟩),⟨[]⟩⟩
abbrev o286 (P:Params):Obj:=⟨(.type l71),none,(.seq ⟨[(vs c286 799),(vs c285 800),(vs c281 801),(vs c287 802),(vs c288 803)]⟩ 0),⟨[]⟩⟩
abbrev o287 (P:Params):Obj:=⟨.none,none,(.func ⟨c257,c257,(fA (tp 52)),.stmts (fB (tp 52)),(fS (tp 52)),0,[],.none,.none,.none,.none,none,.none,.none,0⟩),⟨[]⟩⟩
abbrev o288 (P:Params):Obj:=⟨(.type l152),none,(.fields ⟨[(vs c257 796),(vs c257 797),(vs c164 798),(vi 265 0),(vi 2 0),(vi 0 0),(vi 0 0),(vi 3 0),(vr 463),(.bool true),(vi 181 0),(vr 464),.none,(vr 465),(vr 466),(vr 467),(vi 804 0),(vi 265 0),(vs c164 805)]⟩),⟨[]⟩⟩
abbrev o289 (P:Params):Obj:=⟨(.type l154),none,(.func ⟨c257,c257,(fA (tp 52)),.stmts (fB (tp 52)),(fS (tp 52)),3,[],.none,.none,.none,(vs c282 762),none,(vr 468),.none,0⟩),⟨[]⟩⟩
abbrev o290 (P:Params):Obj:=⟨.none,none,(.func ⟨c258,c258,(fA (tp 53)),.stmts (fB (tp 53)),(fS (tp 53)),0,[],.none,.none,.none,.none,none,.none,.none,0⟩),⟨[]⟩⟩
abbrev o291 (P:Params):Obj:=⟨(.type l152),none,(.fields ⟨[(vs c258 807),(vs c258 808),(vs c164 809),(vi 272 0),(vi 2 0),(vi 0 0),(vi 0 0),(vi 3 0),(vr 470),(.bool true),(vi 181 0),(vr 471),.none,.none,.none,(vr 472),(vi 810 0),(vi 272 0),(vs c164 811)]⟩),⟨[]⟩⟩
abbrev o292 (P:Params):Obj:=⟨(.type l154),none,(.func ⟨c258,c258,(fA (tp 53)),.stmts (fB (tp 53)),(fS (tp 53)),3,[],.none,.none,.none,(vs c282 762),none,(vr 473),.none,0⟩),⟨[]⟩⟩
abbrev o293 (P:Params):Obj:=⟨(.type l71),none,(.seq ⟨[(vs c289 816),(vs c290 817),(vs c285 818),(vs c291 819),(vs c292 820),(vs c281 821),(vs c273 822)]⟩ 0),⟨[]⟩⟩
abbrev o294 (P:Params):Obj:=⟨.none,none,(.func ⟨c259,c259,(fA (tp 54)),.stmts (fB (tp 54)),(fS (tp 54)),0,[],.none,.none,.none,.none,none,.none,.none,0⟩),⟨[]⟩⟩
abbrev o295 (P:Params):Obj:=⟨(.type l152),none,(.fields ⟨[(vs c259 813),(vs c259 814),(vs c164 815),(vi 282 0),(vi 3 0),(vi 0 0),(vi 0 0),(vi 3 0),(vr 475),(.bool true),(vi 181 0),(vr 476),.none,(vr 477),(vr 478),(vr 479),(vi 823 0),(vi 282 0),(vs c164 824)]⟩),⟨[]⟩⟩
abbrev o296 (P:Params):Obj:=⟨(.type l154),none,(.func ⟨c259,c259,(fA (tp 54)),.stmts (fB (tp 54)),(fS (tp 54)),3,[],.none,.none,.none,(vs c282 762),none,(vr 480),.none,0⟩),⟨[]⟩⟩
abbrev o297 (P:Params):Obj:=⟨(.type l71),none,(.seq ⟨[(vs c289 829),(vs c290 830),(vs c285 831),(vs c291 832),(vs c273 833)]⟩ 0),⟨[]⟩⟩
abbrev o298 (P:Params):Obj:=⟨.none,none,(.func ⟨c260,c260,(fA (tp 55)),.stmts (fB (tp 55)),(fS (tp 55)),0,[],.none,.none,.none,.none,none,.none,.none,0⟩),⟨[]⟩⟩
abbrev o299 (P:Params):Obj:=⟨(.type l152),none,(.fields ⟨[(vs c260 826),(vs c260 827),(vs c164 828),(vi 291 0),(vi 3 0),(vi 0 0),(vi 0 0),(vi 3 0),(vr 482),(.bool true),(vi 181 0),(vr 483),.none,(vr 484),(vr 485),(vr 486),(vi 834 0),(vi 291 0),(vs c164 835)]⟩),⟨[]⟩⟩
abbrev o300 (P:Params):Obj:=⟨(.type l154),none,(.func ⟨c260,c260,(fA (tp 55)),.stmts (fB (tp 55)),(fS (tp 55)),3,[],.none,.none,.none,(vs c282 762),none,(vr 487),.none,0⟩),⟨[]⟩⟩
abbrev o301 (P:Params):Obj:=⟨(.type l71),none,(.seq ⟨[(vs c291 840),(vs c293 841),(vs c290 842),(vs c285 843),(vs c294 844),(vs c295 845),(vs c296 846)]⟩ 0),⟨[]⟩⟩
abbrev o302 (P:Params):Obj:=⟨.none,none,(.func ⟨c261,c261,(fA (tp 56)),.stmts (fB (tp 56)),(fS (tp 56)),0,[],.none,.none,.none,.none,none,.none,.none,0⟩),⟨[]⟩⟩
abbrev o303 (P:Params):Obj:=⟨(.type l152),none,(.fields ⟨[(vs c261 837),(vs c261 838),(vs c164 839),(vi 298 0),(vi 4 0),(vi 0 0),(vi 0 0),(vi 3 0),(vr 489),(.bool true),(vi 181 0),(vr 490),.none,(vr 491),(vr 492),(vr 493),(vi 847 0),(vi 298 0),(vs c164 848)]⟩),⟨[]⟩⟩
abbrev o304 (P:Params):Obj:=⟨(.type l154),none,(.func ⟨c261,c261,(fA (tp 56)),.stmts (fB (tp 56)),(fS (tp 56)),3,[],.none,.none,.none,(vs c282 762),none,(vr 494),.none,0⟩),⟨[]⟩⟩
abbrev o305 (P:Params):Obj:=⟨.none,none,(.func ⟨c264,c264,(fA (tp 59)),.stmts (fB (tp 59)),(fS (tp 59)),0,[],.none,.none,.none,.none,none,.none,.none,0⟩),⟨[]⟩⟩
abbrev o306 (P:Params):Obj:=⟨(.type l152),none,(.fields ⟨[(vs c264 854),(vs c264 855),(vs c164 856),(vi 310 0),(vi 1 0),(vi 0 0),(vi 0 0),(vi 3 0),(vr 496),(.bool true),(vi 181 0),(vr 497),.none,.none,.none,(vr 498),(vi 857 0),(vi 310 0),(vs c164 858)]⟩),⟨[]⟩⟩
abbrev o307 (P:Params):Obj:=⟨(.type l154),none,(.func ⟨c264,c264,(fA (tp 59)),.stmts (fB (tp 59)),(fS (tp 59)),3,[],.none,.none,.none,(vs c297 850),none,(vr 499),.none,0⟩),⟨[]⟩⟩
abbrev o308 (P:Params):Obj:=⟨(.type l0),none,(.dict ⟨((de P c0 165 (vs c236 860)) :: (de P c2 166 .none) :: (de P c3 167 .none) :: (de P c4 168 (.builtin l150)) :: (de P c5 169 .none) :: (de P c161 170 (vr 6)) :: (de P c162 171 (vr 4)) :: (de P c163 173 (vs c164 172)) :: (de P c165 174 .none) :: (de P c168 193 (vr 21)) :: (de P c169 197 (vi 1000000 196)) :: (de P c170 199 (vi 1000000 198)) :: (de P c171 206 (vr 28)) :: (de P c172 213 (vr 35)) :: (de P c173 219 (vr 40)) :: (de P c174 226 (vr 47)) :: (de P c175 232 (vr 52)) :: (de P c176 240 (vr 59)) :: (de P c177 247 (vr 66)) :: (de P c178 253 (vr 71)) :: (de P c179 261 (vr 78)) :: (de P c180 270 (vr 85)) :: (de P c181 281 (vr 92)) :: (de P c182 297 (vr 99)) :: (de P c183 305 (vr 106)) :: (de P c184 314 (vr 113)) :: (de P c185 323 (vr 120)) :: (de P c186 331 (vr 125)) :: (de P c187 351 (vr 135)) :: (de P c188 384 (vr 161)) :: (de P c189 421 (vr 187)) :: (de P c190 456 (vr 213)) :: (de P c191 487 (vr 237)) :: (de P c192 527 (vr 268)) :: (de P c237 561 (vr 294)) :: (de P c238 581 (vr 306)) :: (de P c239 597 (vr 319)) :: (de P c240 613 (vr 331)) :: (de P c241 629 (vr 343)) :: (de P c242 645 (vr 355)) :: (de P c243 661 (vr 367)) :: (de P c244 677 (vr 379)) :: (de P c245 686 (vr 388)) :: (de P c246 697 (vr 395)) :: (de P c247 707 (vr 402)) :: (de P c248 713 (vr 407)) :: (de P c249 722 (vr 414)) :: (de P c250 735 (vr 421)) :: (de P c251 749 (vr 428)) :: (de P c252 755 (vr 433)) :: (de P c202 761 (vr 438)) :: (de P c253 773 (vr 445)) :: (de P c254 779 (vr 450)) :: (de P c255 789 (vr 457)) :: (de P c256 795 (vr 462)) :: (de P c257 806 (vr 469)) :: (de P c258 812 (vr 474)) :: (de P c259 825 (vr 481)) :: (de P c260 836 (vr 488)) :: (de P c261 849 (vr 495)) :: (de P c262 853 (vs c263 852)) :: (de P c264 859 (vr 500)) :: (de P c298 869 (vr 507)) :: (de P c299 879 (vr 514)) :: (de P c300 890 (vr 521)) :: (de P c301 896 (vr 526)) :: (de P c302 904 (vr 533)) :: (de P c303 911 (vr 540)) :: (de P c304 917 (vr 545)) :: (de P c305 925 (vr 552)) :: (de P c306 933 (vr 559)) :: (de P c307 941 (vr 566)) :: (de P c308 949 (vr 573)) :: (de P c309 957 (vr 580)) :: (de P c310 965 (vr 587)) :: (de P c311 975 (vr 594)) :: (de P c312 981 (vr 599)) :: (de P c313 987 (vr 604)) :: [])⟩ 78),⟨[]⟩⟩
abbrev o309 (P:Params):Obj:=⟨.none,none,(.fields ⟨(((vi 1 0)) :: ((vi 0 0)) :: ((vr 20)) :: ((vi 7 0)) :: ((vi 0 0)) :: ((vr 27)) :: ((vi 9 0)) :: ((vi 0 0)) :: ((vr 34)) :: ((vi 11 0)) :: ((vi 0 0)) :: ((vr 39)) :: ((vi 13 0)) :: ((vi 0 0)) :: ((vr 46)) :: ((vi 15 0)) :: ((vi 0 0)) :: ((vr 51)) :: ((vi 17 0)) :: ((vi 0 0)) :: ((vr 58)) :: ((vi 19 0)) :: ((vi 0 0)) :: ((vr 65)) :: ((vi 21 0)) :: ((vi 0 0)) :: ((vr 70)) :: ((vi 23 0)) :: ((vi 0 0)) :: ((vr 77)) :: ((vi 25 0)) :: ((vi 0 0)) :: ((vr 84)) :: ((vi 27 0)) :: ((vi 0 0)) :: ((vr 91)) :: ((vi 35 0)) :: ((vi 0 0)) :: ((vr 98)) :: ((vi 52 0)) :: ((vi 0 0)) :: ((vr 105)) :: ((vi 54 0)) :: ((vi 0 0)) :: ((vr 112)) :: ((vi 59 0)) :: ((vi 0 0)) :: ((vr 119)) :: ((vi 65 0)) :: ((vi 0 0)) :: ((vr 124)) :: ((vi 67 0)) :: ((vi 0 0)) :: ((vr 131)) :: ((vi 69 0)) :: ((vi 0 0)) :: ((vr 145)) :: ((vi 81 0)) :: ((vi 0 0)) :: ((vr 169)) :: ((vi 93 0)) :: ((vi 0 0)) :: ((vr 195)) :: ((vi 103 0)) :: ((vi 0 0)) :: ((vr 221)) :: ((vi 114 0)) :: ((vi 0 0)) :: ((vr 245)) :: ((vi 126 0)) :: ((vi 0 0)) :: ((vr 276)) :: ((vi 134 0)) :: ((vi 0 0)) :: ((vr 302)) :: ((vi 136 0)) :: ((vi 0 0)) :: ((vr 315)) :: ((vi 138 0)) :: ((vi 0 0)) :: ((vr 327)) :: ((vi 140 0)) :: ((vi 0 0)) :: ((vr 339)) :: ((vi 142 0)) :: ((vi 0 0)) :: ((vr 351)) :: ((vi 144 0)) :: ((vi 0 0)) :: ((vr 363)) :: ((vi 146 0)) :: ((vi 0 0)) :: ((vr 375)) :: ((vi 149 0)) :: ((vi 0 0)) :: ((vr 387)) :: ((vi 153 0)) :: ((vi 0 0)) :: ((vr 394)) :: ((vi 161 0)) :: ((vi 0 0)) :: ((vr 401)) :: ((vi 168 0)) :: ((vi 0 0)) :: ((vr 406)) :: ((vi 180 0)) :: ((vi 0 0)) :: ((vr 413)) :: ((vi 190 0)) :: ((vi 0 0)) :: ((vr 420)) :: ((vi 200 0)) :: ((vi 0 0)) :: ((vr 427)) :: ((vi 209 0)) :: ((vi 0 0)) :: ((vr 432)) :: ((vi 212 0)) :: ((vi 0 0)) :: ((vr 437)) :: ((vi 219 0)) :: ((vi 0 0)) :: ((vr 444)) :: ((vi 232 0)) :: ((vi 0 0)) :: ((vr 449)) :: ((vi 241 0)) :: ((vi 0 0)) :: ((vr 456)) :: ((vi 254 0)) :: ((vi 0 0)) :: ((vr 461)) :: ((vi 265 0)) :: ((vi 0 0)) :: ((vr 468)) :: ((vi 272 0)) :: ((vi 0 0)) :: ((vr 473)) :: ((vi 282 0)) :: ((vi 0 0)) :: ((vr 480)) :: ((vi 291 0)) :: ((vi 0 0)) :: ((vr 487)) :: ((vi 298 0)) :: ((vi 0 0)) :: ((vr 494)) :: ((vi 310 0)) :: ((vi 0 0)) :: ((vr 499)) :: ((vi 317 0)) :: ((vi 0 0)) :: ((vr 506)) :: ((vi 321 0)) :: ((vi 0 0)) :: ((vr 513)) :: ((vi 324 0)) :: ((vi 0 0)) :: ((vr 520)) :: ((vi 333 0)) :: ((vi 0 0)) :: ((vr 525)) :: ((vi 340 0)) :: ((vi 0 0)) :: ((vr 532)) :: ((vi 345 0)) :: ((vi 0 0)) :: ((vr 539)) :: ((vi 347 0)) :: ((vi 0 0)) :: ((vr 544)) :: ((vi 349 0)) :: ((vi 0 0)) :: ((vr 551)) :: ((vi 353 0)) :: ((vi 0 0)) :: ((vr 558)) :: ((vi 355 0)) :: ((vi 0 0)) :: ((vr 565)) :: ((vi 359 0)) :: ((vi 0 0)) :: ((vr 572)) :: ((vi 361 0)) :: ((vi 0 0)) :: ((vr 579)) :: ((vi 363 0)) :: ((vi 0 0)) :: ((vr 586)) :: ((vi 365 0)) :: ((vi 0 0)) :: ((vr 593)) :: ((vi 371 0)) :: ((vi 0 0)) :: ((vr 598)) :: ((vi 376 0)) :: ((vi 0 0)) :: ((vr 603)) :: [])⟩),⟨[]⟩⟩
abbrev o310 (P:Params):Obj:=⟨(.type l71),none,(.seq ⟨[(vs c314 865),(vs c315 866)]⟩ 0),⟨[]⟩⟩
abbrev o311 (P:Params):Obj:=⟨.none,none,(.func ⟨c298,c298,(fA (tp 61)),.stmts (fB (tp 61)),(fS (tp 61)),0,[],.none,.none,.none,.none,none,.none,.none,0⟩),⟨[]⟩⟩
abbrev o312 (P:Params):Obj:=⟨(.type l152),none,(.fields ⟨[(vs c298 862),(vs c298 863),(vs c164 864),(vi 317 0),(vi 2 0),(vi 0 0),(vi 0 0),(vi 3 0),(vr 501),(.bool true),(vi 181 0),(vr 502),.none,(vr 503),(vr 504),(vr 505),(vi 867 0),(vi 317 0),(vs c164 868)]⟩),⟨[]⟩⟩
abbrev o313 (P:Params):Obj:=⟨(.type l154),none,(.func ⟨c298,c298,(fA (tp 61)),.stmts (fB (tp 61)),(fS (tp 61)),3,[],.none,.none,.none,(vs c236 860),none,(vr 506),.none,0⟩),⟨[]⟩⟩
abbrev o314 (P:Params):Obj:=⟨(.type l71),none,(.seq ⟨[(vs c316 873),(vs c315 874),(vs c317 875),(vs c318 876)]⟩ 0),⟨[]⟩⟩
abbrev o315 (P:Params):Obj:=⟨.none,none,(.func ⟨c299,c299,(fA (tp 62)),.stmts (fB (tp 62)),(fS (tp 62)),0,[],.none,.none,.none,.none,none,.none,.none,0⟩),⟨[]⟩⟩
abbrev o316 (P:Params):Obj:=⟨(.type l152),none,(.fields ⟨[(vs c299 870),(vs c299 871),(vs c164 872),(vi 321 0),(vi 3 0),(vi 0 0),(vi 0 0),(vi 3 0),(vr 508),(.bool true),(vi 181 0),(vr 509),.none,(vr 510),(vr 511),(vr 512),(vi 877 0),(vi 321 0),(vs c164 878)]⟩),⟨[]⟩⟩
abbrev o317 (P:Params):Obj:=⟨(.type l154),none,(.func ⟨c299,c299,(fA (tp 62)),.stmts (fB (tp 62)),(fS (tp 62)),3,[],.none,.none,.none,(vs c236 860),none,(vr 513),.none,0⟩),⟨[]⟩⟩
abbrev o318 (P:Params):Obj:=⟨(.type l71),none,(.seq ⟨[(vs c314 883),(vs c319 884),(vs c320 885),(vs c315 886),(vs c321 887)]⟩ 0),⟨[]⟩⟩
abbrev o319 (P:Params):Obj:=⟨.none,none,(.func ⟨c300,c300,(fA (tp 63)),.stmts (fB (tp 63)),(fS (tp 63)),0,[],.none,.none,.none,.none,none,.none,.none,0⟩),⟨[]⟩⟩
abbrev o320 (P:Params):Obj:=⟨(.type l152),none,(.fields ⟨[(vs c300 880),(vs c300 881),(vs c164 882),(vi 324 0),(vi 1 0),(vi 0 0),(vi 0 0),(vi 3 0),(vr 515),(.bool true),(vi 181 0),(vr 516),.none,(vr 517),(vr 518),(vr 519),(vi 888 0),(vi 324 0),(vs c164 889)]⟩),⟨[]⟩⟩
abbrev o321 (P:Params):Obj:=⟨(.type l154),none,(.func ⟨c300,c300,(fA (tp 63)),.stmts (fB (tp 63)),(fS (tp 63)),3,[],.none,.none,.none,(vs c236 860),none,(vr 520),.none,0⟩),⟨[]⟩⟩
abbrev o322 (P:Params):Obj:=⟨.none,none,(.func ⟨c301,c301,(fA (tp 64)),.stmts (fB (tp 64)),(fS (tp 64)),0,[],.none,.none,.none,.none,none,.none,.none,0⟩),⟨[]⟩⟩
abbrev o323 (P:Params):Obj:=⟨(.type l152),none,(.fields ⟨[(vs c301 891),(vs c301 892),(vs c164 893),(vi 333 0),(vi 1 0),(vi 0 0),(vi 0 0),(vi 3 0),(vr 522),(.bool true),(vi 181 0),(vr 523),.none,.none,.none,(vr 524),(vi 894 0),(vi 333 0),(vs c164 895)]⟩),⟨[]⟩⟩
abbrev o324 (P:Params):Obj:=⟨(.type l154),none,(.func ⟨c301,c301,(fA (tp 64)),.stmts (fB (tp 64)),(fS (tp 64)),3,[],.none,.none,.none,(vs c236 860),none,(vr 525),.none,0⟩),⟨[]⟩⟩
abbrev o325 (P:Params):Obj:=⟨(.type l71),none,(.seq ⟨[(vs c322 900),(vs c323 901)]⟩ 0),⟨[]⟩⟩
abbrev o326 (P:Params):Obj:=⟨.none,none,(.func ⟨c302,c302,(fA (tp 65)),.stmts (fB (tp 65)),(fS (tp 65)),0,[],.none,.none,.none,.none,none,.none,.none,0⟩),⟨[]⟩⟩
abbrev o327 (P:Params):Obj:=⟨(.type l152),none,(.fields ⟨[(vs c302 897),(vs c302 898),(vs c164 899),(vi 340 0),(vi 2 0),(vi 0 0),(vi 0 0),(vi 3 0),(vr 527),(.bool true),(vi 181 0),(vr 528),.none,(vr 529),(vr 530),(vr 531),(vi 902 0),(vi 340 0),(vs c164 903)]⟩),⟨[]⟩⟩
abbrev o328 (P:Params):Obj:=⟨(.type l154),none,(.func ⟨c302,c302,(fA (tp 65)),.stmts (fB (tp 65)),(fS (tp 65)),3,[],.none,.none,.none,(vs c236 860),none,(vr 532),.none,0⟩),⟨[]⟩⟩
abbrev o329 (P:Params):Obj:=⟨(.type l71),none,(.seq ⟨[(vs c324 908)]⟩ 0),⟨[]⟩⟩
abbrev o330 (P:Params):Obj:=⟨.none,none,(.func ⟨c303,c303,(fA (tp 66)),.stmts (fB (tp 66)),(fS (tp 66)),0,[],.none,.none,.none,.none,none,.none,.none,0⟩),⟨[]⟩⟩
abbrev o331 (P:Params):Obj:=⟨(.type l152),none,(.fields ⟨[(vs c303 905),(vs c303 906),(vs c164 907),(vi 345 0),(vi 1 0),(vi 0 0),(vi 0 0),(vi 3 0),(vr 534),(.bool true),(vi 181 0),(vr 535),.none,(vr 536),(vr 537),(vr 538),(vi 909 0),(vi 345 0),(vs c164 910)]⟩),⟨[]⟩⟩
abbrev o332 (P:Params):Obj:=⟨(.type l154),none,(.func ⟨c303,c303,(fA (tp 66)),.stmts (fB (tp 66)),(fS (tp 66)),3,[],.none,.none,.none,(vs c236 860),none,(vr 539),.none,0⟩),⟨[]⟩⟩
abbrev o333 (P:Params):Obj:=⟨.none,none,(.func ⟨c304,c304,(fA (tp 67)),.stmts (fB (tp 67)),(fS (tp 67)),0,[],.none,.none,.none,.none,none,.none,.none,0⟩),⟨[]⟩⟩
abbrev o334 (P:Params):Obj:=⟨(.type l152),none,(.fields ⟨[(vs c304 912),(vs c304 913),(vs c164 914),(vi 347 0),(vi 1 0),(vi 0 0),(vi 0 0),(vi 3 0),(vr 541),(.bool true),(vi 181 0),(vr 542),.none,.none,.none,(vr 543),(vi 915 0),(vi 347 0),(vs c164 916)]⟩),⟨[]⟩⟩
abbrev o335 (P:Params):Obj:=⟨(.type l154),none,(.func ⟨c304,c304,(fA (tp 67)),.stmts (fB (tp 67)),(fS (tp 67)),3,[],.none,.none,.none,(vs c236 860),none,(vr 544),.none,0⟩),⟨[]⟩⟩
abbrev o336 (P:Params):Obj:=⟨(.type l71),none,(.seq ⟨[(vs c325 921),(vs c320 922)]⟩ 0),⟨[]⟩⟩
abbrev o337 (P:Params):Obj:=⟨.none,none,(.func ⟨c305,c305,(fA (tp 68)),.stmts (fB (tp 68)),(fS (tp 68)),0,[],.none,.none,.none,.none,none,.none,.none,0⟩),⟨[]⟩⟩
abbrev o338 (P:Params):Obj:=⟨(.type l152),none,(.fields ⟨[(vs c305 918),(vs c305 919),(vs c164 920),(vi 349 0),(vi 1 0),(vi 0 0),(vi 0 0),(vi 3 0),(vr 546),(.bool true),(vi 181 0),(vr 547),.none,(vr 548),(vr 549),(vr 550),(vi 923 0),(vi 349 0),(vs c164 924)]⟩),⟨[]⟩⟩
abbrev o339 (P:Params):Obj:=⟨(.type l154),none,(.func ⟨c305,c305,(fA (tp 68)),.stmts (fB (tp 68)),(fS (tp 68)),3,[],.none,.none,.none,(vs c236 860),none,(vr 551),.none,0⟩),⟨[]⟩⟩
abbrev o340 (P:Params):Obj:=⟨(.type l71),none,(.seq ⟨[(vs c326 929),(vs c327 930)]⟩ 0),⟨[]⟩⟩
abbrev o341 (P:Params):Obj:=⟨.none,none,(.func ⟨c306,c306,(fA (tp 69)),.stmts (fB (tp 69)),(fS (tp 69)),0,[],.none,.none,.none,.none,none,.none,.none,0⟩),⟨[]⟩⟩
abbrev o342 (P:Params):Obj:=⟨(.type l152),none,(.fields ⟨[(vs c306 926),(vs c306 927),(vs c164 928),(vi 353 0),(vi 2 0),(vi 0 0),(vi 0 0),(vi 3 0),(vr 553),(.bool true),(vi 181 0),(vr 554),.none,(vr 555),(vr 556),(vr 557),(vi 931 0),(vi 353 0),(vs c164 932)]⟩),⟨[]⟩⟩
abbrev o343 (P:Params):Obj:=⟨(.type l154),none,(.func ⟨c306,c306,(fA (tp 69)),.stmts (fB (tp 69)),(fS (tp 69)),3,[],.none,.none,.none,(vs c236 860),none,(vr 558),.none,0⟩),⟨[]⟩⟩
abbrev o344 (P:Params):Obj:=⟨(.type l71),none,(.seq ⟨[(vs c326 937),(vs c327 938)]⟩ 0),⟨[]⟩⟩
abbrev o345 (P:Params):Obj:=⟨.none,none,(.func ⟨c307,c307,(fA (tp 70)),.stmts (fB (tp 70)),(fS (tp 70)),0,[],.none,.none,.none,.none,none,.none,.none,0⟩),⟨[]⟩⟩
abbrev o346 (P:Params):Obj:=⟨(.type l152),none,(.fields ⟨[(vs c307 934),(vs c307 935),(vs c164 936),(vi 355 0),(vi 2 0),(vi 0 0),(vi 0 0),(vi 3 0),(vr 560),(.bool true),(vi 181 0),(vr 561),.none,(vr 562),(vr 563),(vr 564),(vi 939 0),(vi 355 0),(vs c164 940)]⟩),⟨[]⟩⟩
abbrev o347 (P:Params):Obj:=⟨(.type l154),none,(.func ⟨c307,c307,(fA (tp 70)),.stmts (fB (tp 70)),(fS (tp 70)),3,[],.none,.none,.none,(vs c236 860),none,(vr 565),.none,0⟩),⟨[]⟩⟩
abbrev o348 (P:Params):Obj:=⟨(.type l71),none,(.seq ⟨[(vs c326 945),(vs c327 946)]⟩ 0),⟨[]⟩⟩
abbrev o349 (P:Params):Obj:=⟨.none,none,(.func ⟨c308,c308,(fA (tp 71)),.stmts (fB (tp 71)),(fS (tp 71)),0,[],.none,.none,.none,.none,none,.none,.none,0⟩),⟨[]⟩⟩
abbrev o350 (P:Params):Obj:=⟨(.type l152),none,(.fields ⟨[(vs c308 942),(vs c308 943),(vs c164 944),(vi 359 0),(vi 2 0),(vi 0 0),(vi 0 0),(vi 3 0),(vr 567),(.bool true),(vi 181 0),(vr 568),.none,(vr 569),(vr 570),(vr 571),(vi 947 0),(vi 359 0),(vs c164 948)]⟩),⟨[]⟩⟩
abbrev o351 (P:Params):Obj:=⟨(.type l154),none,(.func ⟨c308,c308,(fA (tp 71)),.stmts (fB (tp 71)),(fS (tp 71)),3,[],.none,.none,.none,(vs c236 860),none,(vr 572),.none,0⟩),⟨[]⟩⟩
abbrev o352 (P:Params):Obj:=⟨(.type l71),none,(.seq ⟨[(vs c321 953),(vs c327 954)]⟩ 0),⟨[]⟩⟩
abbrev o353 (P:Params):Obj:=⟨.none,none,(.func ⟨c309,c309,(fA (tp 72)),.stmts (fB (tp 72)),(fS (tp 72)),0,[],.none,.none,.none,.none,none,.none,.none,0⟩),⟨[]⟩⟩
abbrev o354 (P:Params):Obj:=⟨(.type l152),none,(.fields ⟨[(vs c309 950),(vs c309 951),(vs c164 952),(vi 361 0),(vi 2 0),(vi 0 0),(vi 0 0),(vi 3 0),(vr 574),(.bool true),(vi 181 0),(vr 575),.none,(vr 576),(vr 577),(vr 578),(vi 955 0),(vi 361 0),(vs c164 956)]⟩),⟨[]⟩⟩
abbrev o355 (P:Params):Obj:=⟨(.type l154),none,(.func ⟨c309,c309,(fA (tp 72)),.stmts (fB (tp 72)),(fS (tp 72)),3,[],.none,.none,.none,(vs c236 860),none,(vr 579),.none,0⟩),⟨[]⟩⟩
abbrev o356 (P:Params):Obj:=⟨(.type l71),none,(.seq ⟨[(vs c326 961),(vs c327 962)]⟩ 0),⟨[]⟩⟩
abbrev o357 (P:Params):Obj:=⟨.none,none,(.func ⟨c310,c310,(fA (tp 73)),.stmts (fB (tp 73)),(fS (tp 73)),0,[],.none,.none,.none,.none,none,.none,.none,0⟩),⟨[]⟩⟩
abbrev o358 (P:Params):Obj:=⟨(.type l152),none,(.fields ⟨[(vs c310 958),(vs c310 959),(vs c164 960),(vi 363 0),(vi 2 0),(vi 0 0),(vi 0 0),(vi 3 0),(vr 581),(.bool true),(vi 181 0),(vr 582),.none,(vr 583),(vr 584),(vr 585),(vi 963 0),(vi 363 0),(vs c164 964)]⟩),⟨[]⟩⟩
abbrev o359 (P:Params):Obj:=⟨(.type l154),none,(.func ⟨c310,c310,(fA (tp 73)),.stmts (fB (tp 73)),(fS (tp 73)),3,[],.none,.none,.none,(vs c236 860),none,(vr 586),.none,0⟩),⟨[]⟩⟩
abbrev o360 (P:Params):Obj:=⟨(.type l71),none,(.seq ⟨[(vs c328 969),(vs c322 970),(vs c323 971),(vs c325 972)]⟩ 0),⟨[]⟩⟩
abbrev o361 (P:Params):Obj:=⟨.none,none,(.func ⟨c311,c311,(fA (tp 74)),.stmts (fB (tp 74)),(fS (tp 74)),0,[],.none,.none,.none,.none,none,.none,.none,0⟩),⟨[]⟩⟩
abbrev o362 (P:Params):Obj:=⟨(.type l152),none,(.fields ⟨[(vs c311 966),(vs c311 967),(vs c164 968),(vi 365 0),(vi 3 0),(vi 0 0),(vi 0 0),(vi 3 0),(vr 588),(.bool true),(vi 181 0),(vr 589),.none,(vr 590),(vr 591),(vr 592),(vi 973 0),(vi 365 0),(vs c164 974)]⟩),⟨[]⟩⟩
abbrev o363 (P:Params):Obj:=⟨(.type l154),none,(.func ⟨c311,c311,(fA (tp 74)),.stmts (fB (tp 74)),(fS (tp 74)),3,[],.none,.none,.none,(vs c236 860),none,(vr 593),.none,0⟩),⟨[]⟩⟩
abbrev o364 (P:Params):Obj:=⟨.none,none,(.func ⟨c312,c312,(fA (tp 75)),.stmts (fB (tp 75)),(fS (tp 75)),0,[],.none,.none,.none,.none,none,.none,.none,0⟩),⟨[]⟩⟩
abbrev o365 (P:Params):Obj:=⟨(.type l152),none,(.fields ⟨[(vs c312 976),(vs c312 977),(vs c164 978),(vi 371 0),(vi 4 0),(vi 0 0),(vi 0 0),(vi 3 0),(vr 595),(.bool true),(vi 181 0),(vr 596),.none,.none,.none,(vr 597),(vi 979 0),(vi 371 0),(vs c164 980)]⟩),⟨[]⟩⟩
abbrev o366 (P:Params):Obj:=⟨(.type l154),none,(.func ⟨c312,c312,(fA (tp 75)),.stmts (fB (tp 75)),(fS (tp 75)),3,[],.none,.none,.none,(vs c236 860),none,(vr 598),.none,0⟩),⟨[]⟩⟩
abbrev o367 (P:Params):Obj:=⟨.none,none,(.func ⟨c313,c313,(fA (tp 76)),.stmts (fB (tp 76)),(fS (tp 76)),0,[],.none,.none,.none,.none,none,.none,.none,0⟩),⟨[]⟩⟩
abbrev o368 (P:Params):Obj:=⟨(.type l152),none,(.fields ⟨[(vs c313 982),(vs c313 983),(vs c164 984),(vi 376 0),(vi 1 0),(vi 0 0),(vi 0 0),(vi 3 0),(vr 600),(.bool true),(vi 181 0),(vr 601),.none,.none,.none,(vr 602),(vi 985 0),(vi 376 0),(vs c164 986)]⟩),⟨[]⟩⟩
abbrev o369 (P:Params):Obj:=⟨(.type l154),none,(.func ⟨c313,c313,(fA (tp 76)),.stmts (fB (tp 76)),(fS (tp 76)),3,[],.none,.none,.none,(vs c236 860),none,(vr 603),.none,0⟩),⟨[]⟩⟩
abbrev ha (P:Params):Heap:=⟨⟨[boot_o_0 P,boot_o_1 P,boot_o_2 P,boot_o_3 P,boot_o_4 P,boot_o_5 P,boot_o_6 P,boot_o_7 P,boot_o_8 P,boot_o_9 P,boot_o_10 P,o0 P,o1 P,o2 P,o3 P]⟩,{}⟩
abbrev t0 (P:Params):BT:=(.node (boot_o_0 P) (.node (boot_o_1 P) (.node (boot_o_3 P) (.node (boot_o_7 P) .nil .nil) (.node (o0 P) .nil .nil)) (.node (boot_o_5 P) (.node (boot_o_9 P) .nil .nil) (.node (o2 P) .nil .nil))) (.node (boot_o_2 P) (.node (boot_o_4 P) (.node (boot_o_8 P) .nil .nil) (.node (o1 P) .nil .nil)) (.node (boot_o_6 P) (.node (boot_o_10 P) .nil .nil) (.node (o3 P) .nil .nil))))
abbrev t1 (P:Params):BT:=(.node (boot_o_0 P) (.node (boot_o_1 P) (.node (o4 P) (.node (boot_o_7 P) (.node (o0 P) (.node (o14 P) (.node (o0 P) (.node (o70 P) (.node (o1 P) .nil .nil) .nil) (.node (o70 P) .nil .nil)) (.node (o51 P) (.node (o92 P) .nil .nil) (.node (o0 P) .nil .nil))) (.node (o24 P) (.node (o0 P) (.node (o0 P) .nil .nil) (.node (o0 P) .nil .nil)) (.node (o60 P) (.node (o102 P) .nil .nil) (.node (o146 P) .nil .nil)))) (.node (o1 P) (.node (o19 P) (.node (o38 P) (.node (o75 P) (.node (o159 P) .nil .nil) .nil) (.node (o118 P) .nil .nil)) (.node (o0 P) (.node (o0 P) .nil .nil) (.node (o1 P) .nil .nil))) (.node (o28 P) (.node (o1 P) (.node (o86 P) .nil .nil) (.node (o130 P) .nil .nil)) (.node (o65 P) (.node (o107 P) .nil .nil) (.node (o0 P) .nil .nil))))) (.node (o0 P) (.node (o7 P) (.node (o17 P) (.node (o0 P) (.node (o72 P) (.node (o0 P) .nil .nil) .nil) (.node (o116 P) .nil .nil)) (.node (o54 P) (.node (o96 P) .nil .nil) (.node (o136 P) .nil .nil))) (.node (o26 P) (.node (o44 P) (.node (o0 P) .nil .nil) (.node (o126 P) .nil .nil)) (.node (o1 P) (.node (o1 P) .nil .nil) (.node (o0 P) .nil .nil)))) (.node (o12 P) (.node (o21 P) (.node (o0 P) (.node (o79 P) (.node (o163 P) .nil .nil) .nil) (.node (o121 P) .nil .nil)) (.node (o0 P) (.node (o0 P) .nil .nil) (.node (o142 P) .nil .nil))) (.node (o31 P) (.node (o49 P) (.node (o1 P) .nil .nil) (.node (o0 P) .nil .nil)) (.node (o67 P) (.node (o111 P) .nil .nil) (.node (o152 P) .nil .nil)))))) (.node (boot_o_5 P) (.node (boot_o_9 P) (.node (o6 P) (.node (o15 P) (.node (o34 P) (.node (o0 P) (.node (o156 P) .nil .nil) .nil) (.node (o0 P) .nil .nil)) (.node (o52 P) (.node (o94 P) .nil .nil) (.node (o135 P) .nil .nil))) (.node (o1 P) (.node (o43 P) (.node (o83 P) .nil .nil) (.node (o124 P) .nil .nil)) (.node (o62 P) (.node (o104 P) .nil .nil) (.node (o70 P) .nil .nil)))) (.node (o0 P) (.node (o0 P) (.node (o1 P) (.node (o77 P) (.node (o161 P) .nil .nil) .nil) (.node (o119 P) .nil .nil)) (.node (o57 P) (.node (o99 P) .nil .nil) (.node (o140 P) .nil .nil))) (.node (o29 P) (.node (o0 P) (.node (o88 P) .nil .nil) (.node (o70 P) .nil .nil)) (.node (o0 P) (.node (o109 P) .nil .nil) (.node (o151 P) .nil .nil))))) (.node (o2 P) (.node (o9 P) (.node (o1 P) (.node (o36 P) (.node (o0 P) (.node (o158 P) .nil .nil) .nil) (.node (o0 P) .nil .nil)) (.node (o1 P) (.node (o70 P) .nil .nil) (.node (o138 P) .nil .nil))) (.node (o0 P) (.node (o46 P) (.node (o85 P) .nil .nil) (.node (o128 P) .nil .nil)) (.node (o0 P) (.node (o0 P) .nil .nil) (.node (o149 P) .nil .nil)))) (.node (o0 P) (.node (o22 P) (.node (o41 P) (.node (o70 P) (.node (o165 P) .nil .nil) .nil) (.node (o1 P) .nil .nil)) (.node (o59 P) (.node (o101 P) .nil .nil) (.node (o144 P) .nil .nil))) (.node (o1 P) (.node (o0 P) (.node (o90 P) .nil .nil) (.node (o133 P) .nil .nil)) (.node (o69 P) (.node (o113 P) .nil .nil) (.node (o154 P) .nil .nil))))))) (.node (boot_o_2 P) (.node (boot_o_4 P) (.node (boot_o_8 P) (.node (o1 P) (.node (o0 P) (.node (o33 P) (.node (o71 P) (.node (o155 P) .nil .nil) .nil) (.node (o114 P) .nil .nil)) (.node (o0 P) (.node (o93 P) .nil .nil) (.node (o1 P) .nil .nil))) (.node (o0 P) (.node (o1 P) (.node (o82 P) .nil .nil) (.node (o123 P) .nil .nil)) (.node (o61 P) (.node (o103 P) .nil .nil) (.node (o80 P) .nil .nil)))) (.node (o10 P) (.node (o20 P) (.node (o0 P) (.node (o76 P) (.node (o160 P) .nil .nil) .nil) (.node (o0 P) .nil .nil)) (.node (o56 P) (.node (o98 P) .nil .nil) (.node (o139 P) .nil .nil))) (.node (o0 P) (.node (o47 P) (.node (o87 P) .nil .nil) (.node (o80 P) .nil .nil)) (.node (o66 P) (.node (o108 P) .nil .nil) (.node (o1 P) .nil .nil))))) (.node (o5 P) (.node (o8 P) (.node (o0 P) (.node (o1 P) (.node (o73 P) (.node (o1 P) .nil .nil) .nil) (.node (o117 P) .nil .nil)) (.node (o0 P) (.node (o80 P) .nil .nil) (.node (o137 P) .nil .nil))) (.node (o27 P) (.node (o45 P) (.node (o1 P) .nil .nil) (.node (o127 P) .nil .nil)) (.node (o63 P) (.node (o105 P) .nil .nil) (.node (o148 P) .nil .nil)))) (.node (o13 P) (.node (o0 P) (.node (o40 P) (.node (o80 P) (.node (o164 P) .nil .nil) .nil) (.node (o0 P) .nil .nil)) (.node (o1 P) (.node (o1 P) .nil .nil) (.node (o143 P) .nil .nil))) (.node (o0 P) (.node (o50 P) (.node (o89 P) .nil .nil) (.node (o132 P) .nil .nil)) (.node (o68 P) (.node (o112 P) .nil .nil) (.node (o153 P) .nil .nil)))))) (.node (boot_o_6 P) (.node (boot_o_10 P) (.node (o0 P) (.node (o16 P) (.node (o35 P) (.node (o1 P) (.node (o157 P) .nil .nil) .nil) (.node (o115 P) .nil .nil)) (.node (o53 P) (.node (o95 P) .nil .nil) (.node (o0 P) .nil .nil))) (.node (o25 P) (.node (o0 P) (.node (o84 P) .nil .nil) (.node (o125 P) .nil .nil)) (.node (o0 P) (.node (o0 P) .nil .nil) (.node (o147 P) .nil .nil)))) (.node (o11 P) (.node (o1 P) (.node (o39 P) (.node (o78 P) (.node (o162 P) .nil .nil) .nil) (.node (o120 P) .nil .nil)) (.node (o58 P) (.node (o100 P) .nil .nil) (.node (o141 P) .nil .nil))) (.node (o30 P) (.node (o48 P) (.node (o0 P) .nil .nil) (.node (o131 P) .nil .nil)) (.node (o1 P) (.node (o110 P) .nil .nil) (.node (o0 P) .nil .nil))))) (.node (o3 P) (.node (o0 P) (.node (o18 P) (.node (o37 P) (.node (o74 P) (.node (o0 P) .nil .nil) .nil) (.node (o1 P) .nil .nil)) (.node (o55 P) (.node (o97 P) .nil .nil) (.node (o0 P) .nil .nil))) (.node (o1 P) (.node (o0 P) (.node (o0 P) .nil .nil) (.node (o129 P) .nil .nil)) (.node (o64 P) (.node (o106 P) .nil .nil) (.node (o150 P) .nil .nil)))) (.node (o1 P) (.node (o23 P) (.node (o42 P) (.node (o81 P) (.node (o166 P) .nil .nil) .nil) (.node (o122 P) .nil .nil)) (.node (o0 P) (.node (o0 P) .nil .nil) (.node (o145 P) .nil .nil))) (.node (o32 P) (.node (o1 P) (.node (o91 P) .nil .nil) (.node (o134 P) .nil .nil)) (.node (o0 P) (.node (o80 P) .nil .nil) (.node (o0 P) .nil .nil))))))))
abbrev t2 (P:Params):BT:=(.node (boot_o_0 P) (.node (boot_o_1 P) (.node (o167 P) (.node (boot_o_7 P) (.node (o0 P) (.node (o14 P) (.node (o0 P) (.node (o70 P) (.node (o1 P) .nil .nil) (.node (o1 P) .nil .nil)) (.node (o70 P) (.node (o201 P) .nil .nil) (.node (o1 P) .nil .nil))) (.node (o51 P) (.node (o92 P) (.node (o178 P) .nil .nil) (.node (o0 P) .nil .nil)) (.node (o0 P) (.node (o219 P) .nil .nil) (.node (o294 P) .nil .nil)))) (.node (o24 P) (.node (o0 P) (.node (o0 P) (.node (o80 P) .nil .nil) (.node (o0 P) .nil .nil)) (.node (o0 P) (.node (o70 P) .nil .nil) (.node (o0 P) .nil .nil))) (.node (o60 P) (.node (o102 P) (.node (o190 P) .nil .nil) (.node (o266 P) .nil .nil)) (.node (o146 P) (.node (o229 P) .nil .nil) (.node (o304 P) .nil .nil))))) (.node (o1 P) (.node (o19 P) (.node (o38 P) (.node (o169 P) (.node (o159 P) .nil .nil) (.node (o243 P) .nil .nil)) (.node (o118 P) (.node (o205 P) .nil .nil) (.node (o280 P) .nil .nil))) (.node (o0 P) (.node (o0 P) (.node (o185 P) .nil .nil) (.node (o1 P) .nil .nil)) (.node (o1 P) (.node (o70 P) .nil .nil) (.node (o299 P) .nil .nil)))) (.node (o28 P) (.node (o1 P) (.node (o86 P) (.node (o1 P) .nil .nil) (.node (o253 P) .nil .nil)) (.node (o130 P) (.node (o215 P) .nil .nil) (.node (o1 P) .nil .nil))) (.node (o65 P) (.node (o107 P) (.node (o70 P) .nil .nil) (.node (o0 P) .nil .nil)) (.node (o0 P) (.node (o233 P) .nil .nil) .nil))))) (.node (o0 P) (.node (o7 P) (.node (o17 P) (.node (o0 P) (.node (o72 P) (.node (o0 P) .nil .nil) (.node (o241 P) .nil .nil)) (.node (o116 P) (.node (o70 P) .nil .nil) (.node (o0 P) .nil .nil))) (.node (o54 P) (.node (o96 P) (.node (o181 P) .nil .nil) (.node (o259 P) .nil .nil)) (.node (o136 P) (.node (o222 P) .nil .nil) (.node (o1 P) .nil .nil)))) (.node (o26 P) (.node (o44 P) (.node (o0 P) (.node (o171 P) .nil .nil) (.node (o0 P) .nil .nil)) (.node (o126 P) (.node (o212 P) .nil .nil) (.node (o287 P) .nil .nil))) (.node (o1 P) (.node (o1 P) (.node (o193 P) .nil .nil) (.node (o1 P) .nil .nil)) (.node (o0 P) (.node (o70 P) .nil .nil) (.node (o306 P) .nil .nil))))) (.node (o12 P) (.node (o21 P) (.node (o0 P) (.node (o79 P) (.node (o163 P) .nil .nil) (.node (o246 P) .nil .nil)) (.node (o121 P) (.node (o208 P) .nil .nil) (.node (o1 P) .nil .nil))) (.node (o0 P) (.node (o0 P) (.node (o188 P) .nil .nil) (.node (o264 P) .nil .nil)) (.node (o142 P) (.node (o226 P) .nil .nil) (.node (o301 P) .nil .nil)))) (.node (o31 P) (.node (o49 P) (.node (o1 P) (.node (o176 P) .nil .nil) (.node (o0 P) .nil .nil)) (.node (o0 P) (.node (o70 P) .nil .nil) (.node (o0 P) .nil .nil))) (.node (o67 P) (.node (o111 P) (.node (o198 P) .nil .nil) (.node (o273 P) .nil .nil)) (.node (o152 P) (.node (o236 P) .nil .nil) .nil)))))) (.node (boot_o_5 P) (.node (boot_o_9 P) (.node (o6 P) (.node (o15 P) (.node (o34 P) (.node (o0 P) (.node (o156 P) .nil .nil) (.node (o0 P) .nil .nil)) (.node (o0 P) (.node (o203 P) .nil .nil) (.node (o277 P) .nil .nil))) (.node (o52 P) (.node (o94 P) (.node (o179 P) .nil .nil) (.node (o258 P) .nil .nil)) (.node (o135 P) (.node (o0 P) .nil .nil) (.node (o296 P) .nil .nil)))) (.node (o1 P) (.node (o43 P) (.node (o83 P) (.node (o170 P) .nil .nil) (.node (o249 P) .nil .nil)) (.node (o124 P) (.node (o0 P) .nil .nil) (.node (o286 P) .nil .nil))) (.node (o62 P) (.node (o104 P) (.node (o191 P) .nil .nil) (.node (o268 P) .nil .nil)) (.node (o70 P) (.node (o231 P) .nil .nil) (.node (o1 P) .nil .nil))))) (.node (o0 P) (.node (o0 P) (.node (o1 P) (.node (o77 P) (.node (o161 P) .nil .nil) (.node (o244 P) .nil .nil)) (.node (o119 P) (.node (o0 P) .nil .nil) (.node (o282 P) .nil .nil))) (.node (o57 P) (.node (o99 P) (.node (o187 P) .nil .nil) (.node (o0 P) .nil .nil)) (.node (o140 P) (.node (o0 P) .nil .nil) (.node (o0 P) .nil .nil)))) (.node (o29 P) (.node (o0 P) (.node (o88 P) (.node (o0 P) .nil .nil) (.node (o1 P) .nil .nil)) (.node (o70 P) (.node (o217 P) .nil .nil) (.node (o291 P) .nil .nil))) (.node (o0 P) (.node (o109 P) (.node (o0 P) .nil .nil) (.node (o272 P) .nil .nil)) (.node (o151 P) (.node (o0 P) .nil .nil) .nil))))) (.node (o2 P) (.node (o9 P) (.node (o1 P) (.node (o36 P) (.node (o0 P) (.node (o158 P) .nil .nil) (.node (o0 P) .nil .nil)) (.node (o0 P) (.node (o0 P) .nil .nil) (.node (o279 P) .nil .nil))) (.node (o1 P) (.node (o70 P) (.node (o183 P) .nil .nil) (.node (o261 P) .nil .nil)) (.node (o138 P) (.node (o224 P) .nil .nil) (.node (o0 P) .nil .nil)))) (.node (o0 P) (.node (o46 P) (.node (o85 P) (.node (o173 P) .nil .nil) (.node (o251 P) .nil .nil)) (.node (o128 P) (.node (o0 P) .nil .nil) (.node (o289 P) .nil .nil))) (.node (o0 P) (.node (o0 P) (.node (o195 P) .nil .nil) (.node (o270 P) .nil .nil)) (.node (o149 P) (.node (o0 P) .nil .nil) .nil)))) (.node (o0 P) (.node (o22 P) (.node (o41 P) (.node (o70 P) (.node (o165 P) .nil .nil) (.node (o1 P) .nil .nil)) (.node (o1 P) (.node (o210 P) .nil .nil) (.node (o284 P) .nil .nil))) (.node (o59 P) (.node (o101 P) (.node (o1 P) .nil .nil) (.node (o0 P) .nil .nil)) (.node (o144 P) (.node (o0 P) .nil .nil) (.node (o302 P) .nil .nil)))) (.node (o1 P) (.node (o0 P) (.node (o90 P) (.node (o0 P) .nil .nil) (.node (o256 P) .nil .nil)) (.node (o133 P) (.node (o0 P) .nil .nil) (.node (o293 P) .nil .nil))) (.node (o69 P) (.node (o113 P) (.node (o0 P) .nil .nil) (.node (o275 P) .nil .nil)) (.node (o154 P) (.node (o238 P) .nil .nil) .nil))))))) (.node (boot_o_2 P) (.node (boot_o_4 P) (.node (boot_o_8 P) (.node (o1 P) (.node (o0 P) (.node (o33 P) (.node (o71 P) (.node (o155 P) .nil .nil) (.node (o239 P) .nil .nil)) (.node (o114 P) (.node (o202 P) .nil .nil) (.node (o276 P) .nil .nil))) (.node (o0 P) (.node (o93 P) (.node (o0 P) .nil .nil) (.node (o1 P) .nil .nil)) (.node (o1 P) (.node (o220 P) .nil .nil) (.node (o295 P) .nil .nil)))) (.node (o0 P) (.node (o1 P) (.node (o82 P) (.node (o70 P) .nil .nil) (.node (o248 P) .nil .nil)) (.node (o123 P) (.node (o211 P) .nil .nil) (.node (o1 P) .nil .nil))) (.node (o61 P) (.node (o103 P) (.node (o0 P) .nil .nil) (.node (o267 P) .nil .nil)) (.node (o80 P) (.node (o230 P) .nil .nil) (.node (o0 P) .nil .nil))))) (.node (o10 P) (.node (o20 P) (.node (o0 P) (.node (o76 P) (.node (o160 P) .nil .nil) (.node (o0 P) .nil .nil)) (.node (o0 P) (.node (o206 P) .nil .nil) (.node (o281 P) .nil .nil))) (.node (o56 P) (.node (o98 P) (.node (o186 P) .nil .nil) (.node (o262 P) .nil .nil)) (.node (o139 P) (.node (o225 P) .nil .nil) (.node (o300 P) .nil .nil)))) (.node (o0 P) (.node (o47 P) (.node (o87 P) (.node (o174 P) .nil .nil) (.node (o0 P) .nil .nil)) (.node (o80 P) (.node (o216 P) .nil .nil) (.node (o290 P) .nil .nil))) (.node (o66 P) (.node (o108 P) (.node (o197 P) .nil .nil) (.node (o1 P) .nil .nil)) (.node (o1 P) (.node (o234 P) .nil .nil) .nil))))) (.node (o168 P) (.node (o8 P) (.node (o0 P) (.node (o1 P) (.node (o73 P) (.node (o1 P) .nil .nil) (.node (o242 P) .nil .nil)) (.node (o117 P) (.node (o204 P) .nil .nil) (.node (o1 P) .nil .nil))) (.node (o0 P) (.node (o80 P) (.node (o182 P) .nil .nil) (.node (o260 P) .nil .nil)) (.node (o137 P) (.node (o223 P) .nil .nil) (.node (o297 P) .nil .nil)))) (.node (o27 P) (.node (o45 P) (.node (o1 P) (.node (o172 P) .nil .nil) (.node (o1 P) .nil .nil)) (.node (o127 P) (.node (o213 P) .nil .nil) (.node (o288 P) .nil .nil))) (.node (o63 P) (.node (o105 P) (.node (o194 P) .nil .nil) (.node (o269 P) .nil .nil)) (.node (o148 P) (.node (o232 P) .nil .nil) (.node (o307 P) .nil .nil))))) (.node (o13 P) (.node (o0 P) (.node (o40 P) (.node (o80 P) (.node (o164 P) .nil .nil) (.node (o0 P) .nil .nil)) (.node (o0 P) (.node (o209 P) .nil .nil) (.node (o283 P) .nil .nil))) (.node (o1 P) (.node (o1 P) (.node (o0 P) .nil .nil) (.node (o265 P) .nil .nil)) (.node (o143 P) (.node (o227 P) .nil .nil) (.node (o0 P) .nil .nil)))) (.node (o0 P) (.node (o50 P) (.node (o89 P) (.node (o177 P) .nil .nil) (.node (o255 P) .nil .nil)) (.node (o132 P) (.node (o218 P) .nil .nil) (.node (o1 P) .nil .nil))) (.node (o68 P) (.node (o112 P) (.node (o199 P) .nil .nil) (.node (o274 P) .nil .nil)) (.node (o153 P) (.node (o237 P) .nil .nil) .nil)))))) (.node (boot_o_6 P) (.node (boot_o_10 P) (.node (o0 P) (.node (o16 P) (.node (o35 P) (.node (o1 P) (.node (o157 P) .nil .nil) (.node (o240 P) .nil .nil)) (.node (o115 P) (.node (o196 P) .nil .nil) (.node (o278 P) .nil .nil))) (.node (o53 P) (.node (o95 P) (.node (o180 P) .nil .nil) (.node (o0 P) .nil .nil)) (.node (o0 P) (.node (o221 P) .nil .nil) (.node (o0 P) .nil .nil)))) (.node (o25 P) (.node (o0 P) (.node (o84 P) (.node (o0 P) .nil .nil) (.node (o250 P) .nil .nil)) (.node (o125 P) (.node (o1 P) .nil .nil) (.node (o0 P) .nil .nil))) (.node (o0 P) (.node (o0 P) (.node (o192 P) .nil .nil) (.node (o0 P) .nil .nil)) (.node (o147 P) (.node (o196 P) .nil .nil) (.node (o305 P) .nil .nil))))) (.node (o11 P) (.node (o1 P) (.node (o39 P) (.node (o78 P) (.node (o162 P) .nil .nil) (.node (o245 P) .nil .nil)) (.node (o120 P) (.node (o207 P) .nil .nil) (.node (o0 P) .nil .nil))) (.node (o58 P) (.node (o100 P) (.node (o70 P) .nil .nil) (.node (o263 P) .nil .nil)) (.node (o141 P) (.node (o1 P) .nil .nil) (.node (o1 P) .nil .nil)))) (.node (o30 P) (.node (o48 P) (.node (o0 P) (.node (o175 P) .nil .nil) (.node (o254 P) .nil .nil)) (.node (o131 P) (.node (o196 P) .nil .nil) (.node (o292 P) .nil .nil))) (.node (o1 P) (.node (o110 P) (.node (o1 P) .nil .nil) (.node (o0 P) .nil .nil)) (.node (o0 P) (.node (o235 P) .nil .nil) .nil))))) (.node (o3 P) (.node (o0 P) (.node (o18 P) (.node (o37 P) (.node (o74 P) (.node (o0 P) .nil .nil) (.node (o1 P) .nil .nil)) (.node (o1 P) (.node (o1 P) .nil .nil) (.node (o0 P) .nil .nil))) (.node (o55 P) (.node (o97 P) (.node (o184 P) .nil .nil) (.node (o0 P) .nil .nil)) (.node (o0 P) (.node (o196 P) .nil .nil) (.node (o298 P) .nil .nil)))) (.node (o1 P) (.node (o0 P) (.node (o0 P) (.node (o0 P) .nil .nil) (.node (o252 P) .nil .nil)) (.node (o129 P) (.node (o214 P) .nil .nil) (.node (o0 P) .nil .nil))) (.node (o64 P) (.node (o106 P) (.node (o196 P) .nil .nil) (.node (o271 P) .nil .nil)) (.node (o150 P) (.node (o1 P) .nil .nil) .nil)))) (.node (o1 P) (.node (o23 P) (.node (o42 P) (.node (o81 P) (.node (o166 P) .nil .nil) (.node (o247 P) .nil .nil)) (.node (o122 P) (.node (o196 P) .nil .nil) (.node (o285 P) .nil .nil))) (.node (o0 P) (.node (o0 P) (.node (o189 P) .nil .nil) (.node (o1 P) .nil .nil)) (.node (o145 P) (.node (o228 P) .nil .nil) (.node (o303 P) .nil .nil)))) (.node (o32 P) (.node (o1 P) (.node (o91 P) (.node (o1 P) .nil .nil) (.node (o257 P) .nil .nil)) (.node (o134 P) (.node (o1 P) .nil .nil) (.node (o0 P) .nil .nil))) (.node (o0 P) (.node (o80 P) (.node (o200 P) .nil .nil) (.node (o0 P) .nil .nil)) (.node (o0 P) (.node (o0 P) .nil .nil) .nil))))))))
abbrev t3 (P:Params):BT:=(.node (boot_o_0 P) (.node (boot_o_1 P) (.node (o308 P) (.node (boot_o_7 P) (.node (o0 P) (.node (o14 P) (.node (o0 P) (.node (o70 P) (.node (o1 P) (.node (o0 P) .nil .nil) .nil) (.node (o1 P) .nil .nil)) (.node (o70 P) (.node (o201 P) (.node (o1 P) .nil .nil) .nil) (.node (o1 P) .nil .nil))) (.node (o51 P) (.node (o92 P) (.node (o178 P) (.node (o333 P) .nil .nil) .nil) (.node (o0 P) .nil .nil)) (.node (o0 P) (.node (o219 P) .nil .nil) (.node (o294 P) .nil .nil)))) (.node (o24 P) (.node (o0 P) (.node (o0 P) (.node (o80 P) (.node (o0 P) .nil .nil) .nil) (.node (o0 P) .nil .nil)) (.node (o0 P) (.node (o70 P) (.node (o0 P) .nil .nil) .nil) (.node (o0 P) .nil .nil))) (.node (o60 P) (.node (o102 P) (.node (o190 P) (.node (o343 P) .nil .nil) .nil) (.node (o266 P) .nil .nil)) (.node (o146 P) (.node (o229 P) .nil .nil) (.node (o304 P) .nil .nil))))) (.node (o1 P) (.node (o19 P) (.node (o38 P) (.node (o169 P) (.node (o159 P) (.node (o319 P) .nil .nil) .nil) (.node (o243 P) .nil .nil)) (.node (o118 P) (.node (o205 P) (.node (o356 P) .nil .nil) .nil) (.node (o280 P) .nil .nil))) (.node (o0 P) (.node (o0 P) (.node (o185 P) (.node (o338 P) .nil .nil) .nil) (.node (o1 P) .nil .nil)) (.node (o1 P) (.node (o70 P) .nil .nil) (.node (o299 P) .nil .nil)))) (.node (o28 P) (.node (o1 P) (.node (o86 P) (.node (o1 P) (.node (o1 P) .nil .nil) .nil) (.node (o253 P) .nil .nil)) (.node (o130 P) (.node (o215 P) (.node (o366 P) .nil .nil) .nil) (.node (o1 P) .nil .nil))) (.node (o65 P) (.node (o107 P) (.node (o70 P) (.node (o0 P) .nil .nil) .nil) (.node (o0 P) .nil .nil)) (.node (o0 P) (.node (o233 P) .nil .nil) (.node (o310 P) .nil .nil)))))) (.node (o0 P) (.node (o7 P) (.node (o17 P) (.node (o0 P) (.node (o72 P) (.node (o0 P) (.node (o0 P) .nil .nil) .nil) (.node (o241 P) .nil .nil)) (.node (o116 P) (.node (o70 P) (.node (o354 P) .nil .nil) .nil) (.node (o0 P) .nil .nil))) (.node (o54 P) (.node (o96 P) (.node (o181 P) (.node (o1 P) .nil .nil) .nil) (.node (o259 P) .nil .nil)) (.node (o136 P) (.node (o222 P) .nil .nil) (.node (o1 P) .nil .nil)))) (.node (o26 P) (.node (o44 P) (.node (o0 P) (.node (o171 P) (.node (o326 P) .nil .nil) .nil) (.node (o0 P) .nil .nil)) (.node (o126 P) (.node (o212 P) (.node (o0 P) .nil .nil) .nil) (.node (o287 P) .nil .nil))) (.node (o1 P) (.node (o1 P) (.node (o193 P) (.node (o0 P) .nil .nil) .nil) (.node (o1 P) .nil .nil)) (.node (o0 P) (.node (o70 P) .nil .nil) (.node (o306 P) .nil .nil))))) (.node (o12 P) (.node (o21 P) (.node (o0 P) (.node (o79 P) (.node (o163 P) (.node (o1 P) .nil .nil) .nil) (.node (o246 P) .nil .nil)) (.node (o121 P) (.node (o208 P) (.node (o359 P) .nil .nil) .nil) (.node (o1 P) .nil .nil))) (.node (o0 P) (.node (o0 P) (.node (o188 P) (.node (o340 P) .nil .nil) .nil) (.node (o264 P) .nil .nil)) (.node (o142 P) (.node (o226 P) .nil .nil) (.node (o301 P) .nil .nil)))) (.node (o31 P) (.node (o49 P) (.node (o1 P) (.node (o176 P) (.node (o331 P) .nil .nil) .nil) (.node (o0 P) .nil .nil)) (.node (o0 P) (.node (o70 P) (.node (o368 P) .nil .nil) .nil) (.node (o0 P) .nil .nil))) (.node (o67 P) (.node (o111 P) (.node (o198 P) (.node (o349 P) .nil .nil) .nil) (.node (o273 P) .nil .nil)) (.node (o152 P) (.node (o236 P) .nil .nil) (.node (o313 P) .nil .nil))))))) (.node (boot_o_5 P) (.node (boot_o_9 P) (.node (o6 P) (.node (o15 P) (.node (o34 P) (.node (o0 P) (.node (o156 P) (.node (o316 P) .nil .nil) .nil) (.node (o0 P) .nil .nil)) (.node (o0 P) (.node (o203 P) (.node (o0 P) .nil .nil) .nil) (.node (o277 P) .nil .nil))) (.node (o52 P) (.node (o94 P) (.node (o179 P) (.node (o335 P) .nil .nil) .nil) (.node (o258 P) .nil .nil)) (.node (o135 P) (.node (o0 P) .nil .nil) (.node (o296 P) .nil .nil)))) (.node (o1 P) (.node (o43 P) (.node (o83 P) (.node (o170 P) (.node (o325 P) .nil .nil) .nil) (.node (o249 P) .nil .nil)) (.node (o124 P) (.node (o0 P) (.node (o362 P) .nil .nil) .nil) (.node (o286 P) .nil .nil))) (.node (o62 P) (.node (o104 P) (.node (o191 P) (.node (o1 P) .nil .nil) .nil) (.node (o268 P) .nil .nil)) (.node (o70 P) (.node (o231 P) .nil .nil) (.node (o1 P) .nil .nil))))) (.node (o0 P) (.node (o0 P) (.node (o1 P) (.node (o77 P) (.node (o161 P) (.node (o321 P) .nil .nil) .nil) (.node (o244 P) .nil .nil)) (.node (o119 P) (.node (o0 P) (.node (o357 P) .nil .nil) .nil) (.node (o282 P) .nil .nil))) (.node (o57 P) (.node (o99 P) (.node (o187 P) (.node (o0 P) .nil .nil) .nil) (.node (o0 P) .nil .nil)) (.node (o140 P) (.node (o0 P) .nil .nil) (.node (o0 P) .nil .nil)))) (.node (o29 P) (.node (o0 P) (.node (o88 P) (.node (o0 P) (.node (o0 P) .nil .nil) .nil) (.node (o1 P) .nil .nil)) (.node (o70 P) (.node (o217 P) (.node (o1 P) .nil .nil) .nil) (.node (o291 P) .nil .nil))) (.node (o0 P) (.node (o109 P) (.node (o0 P) (.node (o348 P) .nil .nil) .nil) (.node (o272 P) .nil .nil)) (.node (o151 P) (.node (o0 P) .nil .nil) (.node (o311 P) .nil .nil)))))) (.node (o2 P) (.node (o9 P) (.node (o1 P) (.node (o36 P) (.node (o0 P) (.node (o158 P) (.node (o318 P) .nil .nil) .nil) (.node (o0 P) .nil .nil)) (.node (o0 P) (.node (o0 P) (.node (o0 P) .nil .nil) .nil) (.node (o279 P) .nil .nil))) (.node (o1 P) (.node (o70 P) (.node (o183 P) (.node (o0 P) .nil .nil) .nil) (.node (o261 P) .nil .nil)) (.node (o138 P) (.node (o224 P) .nil .nil) (.node (o0 P) .nil .nil)))) (.node (o0 P) (.node (o46 P) (.node (o85 P) (.node (o173 P) (.node (o328 P) .nil .nil) .nil) (.node (o251 P) .nil .nil)) (.node (o128 P) (.node (o0 P) (.node (o364 P) .nil .nil) .nil) (.node (o289 P) .nil .nil))) (.node (o0 P) (.node (o0 P) (.node (o195 P) (.node (o346 P) .nil .nil) .nil) (.node (o270 P) .nil .nil)) (.node (o149 P) (.node (o0 P) .nil .nil) (.node (o0 P) .nil .nil))))) (.node (o0 P) (.node (o22 P) (.node (o41 P) (.node (o70 P) (.node (o165 P) (.node (o323 P) .nil .nil) .nil) (.node (o1 P) .nil .nil)) (.node (o1 P) (.node (o210 P) (.node (o1 P) .nil .nil) .nil) (.node (o284 P) .nil .nil))) (.node (o59 P) (.node (o101 P) (.node (o1 P) (.node (o341 P) .nil .nil) .nil) (.node (o0 P) .nil .nil)) (.node (o144 P) (.node (o0 P) .nil .nil) (.node (o302 P) .nil .nil)))) (.node (o1 P) (.node (o0 P) (.node (o90 P) (.node (o0 P) (.node (o0 P) .nil .nil) .nil) (.node (o256 P) .nil .nil)) (.node (o133 P) (.node (o0 P) .nil .nil) (.node (o293 P) .nil .nil))) (.node (o69 P) (.node (o113 P) (.node (o0 P) (.node (o351 P) .nil .nil) .nil) (.node (o275 P) .nil .nil)) (.node (o154 P) (.node (o238 P) .nil .nil) (.node (o1 P) .nil .nil)))))))) (.node (boot_o_2 P) (.node (boot_o_4 P) (.node (boot_o_8 P) (.node (o1 P) (.node (o0 P) (.node (o33 P) (.node (o71 P) (.node (o155 P) (.node (o315 P) .nil .nil) .nil) (.node (o239 P) .nil .nil)) (.node (o114 P) (.node (o202 P) (.node (o352 P) .nil .nil) .nil) (.node (o276 P) .nil .nil))) (.node (o0 P) (.node (o93 P) (.node (o0 P) (.node (o334 P) .nil .nil) .nil) (.node (o1 P) .nil .nil)) (.node (o1 P) (.node (o220 P) .nil .nil) (.node (o295 P) .nil .nil)))) (.node (o0 P) (.node (o1 P) (.node (o82 P) (.node (o70 P) (.node (o1 P) .nil .nil) .nil) (.node (o248 P) .nil .nil)) (.node (o123 P) (.node (o211 P) (.node (o361 P) .nil .nil) .nil) (.node (o1 P) .nil .nil))) (.node (o61 P) (.node (o103 P) (.node (o0 P) (.node (o0 P) .nil .nil) .nil) (.node (o267 P) .nil .nil)) (.node (o80 P) (.node (o230 P) .nil .nil) (.node (o0 P) .nil .nil))))) (.node (o10 P) (.node (o20 P) (.node (o0 P) (.node (o76 P) (.node (o160 P) (.node (o320 P) .nil .nil) .nil) (.node (o0 P) .nil .nil)) (.node (o0 P) (.node (o206 P) (.node (o0 P) .nil .nil) .nil) (.node (o281 P) .nil .nil))) (.node (o56 P) (.node (o98 P) (.node (o186 P) (.node (o339 P) .nil .nil) .nil) (.node (o262 P) .nil .nil)) (.node (o139 P) (.node (o225 P) .nil .nil) (.node (o300 P) .nil .nil)))) (.node (o0 P) (.node (o47 P) (.node (o87 P) (.node (o174 P) (.node (o329 P) .nil .nil) .nil) (.node (o0 P) .nil .nil)) (.node (o80 P) (.node (o216 P) (.node (o0 P) .nil .nil) .nil) (.node (o290 P) .nil .nil))) (.node (o66 P) (.node (o108 P) (.node (o197 P) (.node (o1 P) .nil .nil) .nil) (.node (o1 P) .nil .nil)) (.node (o1 P) (.node (o234 P) .nil .nil) (.node (o0 P) .nil .nil)))))) (.node (o309 P) (.node (o8 P) (.node (o0 P) (.node (o1 P) (.node (o73 P) (.node (o1 P) (.node (o1 P) .nil .nil) .nil) (.node (o242 P) .nil .nil)) (.node (o117 P) (.node (o204 P) (.node (o355 P) .nil .nil) .nil) (.node (o1 P) .nil .nil))) (.node (o0 P) (.node (o80 P) (.node (o182 P) (.node (o336 P) .nil .nil) .nil) (.node (o260 P) .nil .nil)) (.node (o137 P) (.node (o223 P) .nil .nil) (.node (o297 P) .nil .nil)))) (.node (o27 P) (.node (o45 P) (.node (o1 P) (.node (o172 P) (.node (o327 P) .nil .nil) .nil) (.node (o1 P) .nil .nil)) (.node (o127 P) (.node (o213 P) (.node (o1 P) .nil .nil) .nil) (.node (o288 P) .nil .nil))) (.node (o63 P) (.node (o105 P) (.node (o194 P) (.node (o345 P) .nil .nil) .nil) (.node (o269 P) .nil .nil)) (.node (o148 P) (.node (o232 P) .nil .nil) (.node (o307 P) .nil .nil))))) (.node (o13 P) (.node (o0 P) (.node (o40 P) (.node (o80 P) (.node (o164 P) (.node (o322 P) .nil .nil) .nil) (.node (o0 P) .nil .nil)) (.node (o0 P) (.node (o209 P) (.node (o0 P) .nil .nil) .nil) (.node (o283 P) .nil .nil))) (.node (o1 P) (.node (o1 P) (.node (o0 P) (.node (o0 P) .nil .nil) .nil) (.node (o265 P) .nil .nil)) (.node (o143 P) (.node (o227 P) .nil .nil) (.node (o0 P) .nil .nil)))) (.node (o0 P) (.node (o50 P) (.node (o89 P) (.node (o177 P) (.node (o332 P) .nil .nil) .nil) (.node (o255 P) .nil .nil)) (.node (o132 P) (.node (o218 P) (.node (o369 P) .nil .nil) .nil) (.node (o1 P) .nil .nil))) (.node (o68 P) (.node (o112 P) (.node (o199 P) (.node (o350 P) .nil .nil) .nil) (.node (o274 P) .nil .nil)) (.node (o153 P) (.node (o237 P) .nil .nil) (.node (o0 P) .nil .nil))))))) (.node (boot_o_6 P) (.node (boot_o_10 P) (.node (o0 P) (.node (o16 P) (.node (o35 P) (.node (o1 P) (.node (o157 P) (.node (o317 P) .nil .nil) .nil) (.node (o240 P) .nil .nil)) (.node (o115 P) (.node (o196 P) (.node (o353 P) .nil .nil) .nil) (.node (o278 P) .nil .nil))) (.node (o53 P) (.node (o95 P) (.node (o180 P) (.node (o0 P) .nil .nil) .nil) (.node (o0 P) .nil .nil)) (.node (o0 P) (.node (o221 P) .nil .nil) (.node (o0 P) .nil .nil)))) (.node (o25 P) (.node (o0 P) (.node (o84 P) (.node (o0 P) (.node (o0 P) .nil .nil) .nil) (.node (o250 P) .nil .nil)) (.node (o125 P) (.node (o1 P) (.node (o363 P) .nil .nil) .nil) (.node (o0 P) .nil .nil))) (.node (o0 P) (.node (o0 P) (.node (o192 P) (.node (o344 P) .nil .nil) .nil) (.node (o0 P) .nil .nil)) (.node (o147 P) (.node (o196 P) .nil .nil) (.node (o305 P) .nil .nil))))) (.node (o11 P) (.node (o1 P) (.node (o39 P) (.node (o78 P) (.node (o162 P) (.node (o0 P) .nil .nil) .nil) (.node (o245 P) .nil .nil)) (.node (o120 P) (.node (o207 P) (.node (o358 P) .nil .nil) .nil) (.node (o0 P) .nil .nil))) (.node (o58 P) (.node (o100 P) (.node (o70 P) (.node (o1 P) .nil .nil) .nil) (.node (o263 P) .nil .nil)) (.node (o141 P) (.node (o1 P) .nil .nil) (.node (o1 P) .nil .nil)))) (.node (o30 P) (.node (o48 P) (.node (o0 P) (.node (o175 P) (.node (o330 P) .nil .nil) .nil) (.node (o254 P) .nil .nil)) (.node (o131 P) (.node (o196 P) (.node (o367 P) .nil .nil) .nil) (.node (o292 P) .nil .nil))) (.node (o1 P) (.node (o110 P) (.node (o1 P) (.node (o0 P) .nil .nil) .nil) (.node (o0 P) .nil .nil)) (.node (o0 P) (.node (o235 P) .nil .nil) (.node (o312 P) .nil .nil)))))) (.node (o3 P) (.node (o0 P) (.node (o18 P) (.node (o37 P) (.node (o74 P) (.node (o0 P) (.node (o0 P) .nil .nil) .nil) (.node (o1 P) .nil .nil)) (.node (o1 P) (.node (o1 P) (.node (o1 P) .nil .nil) .nil) (.node (o0 P) .nil .nil))) (.node (o55 P) (.node (o97 P) (.node (o184 P) (.node (o337 P) .nil .nil) .nil) (.node (o0 P) .nil .nil)) (.node (o0 P) (.node (o196 P) .nil .nil) (.node (o298 P) .nil .nil)))) (.node (o1 P) (.node (o0 P) (.node (o0 P) (.node (o0 P) (.node (o0 P) .nil .nil) .nil) (.node (o252 P) .nil .nil)) (.node (o129 P) (.node (o214 P) (.node (o365 P) .nil .nil) .nil) (.node (o0 P) .nil .nil))) (.node (o64 P) (.node (o106 P) (.node (o196 P) (.node (o347 P) .nil .nil) .nil) (.node (o271 P) .nil .nil)) (.node (o150 P) (.node (o1 P) .nil .nil) (.node (o1 P) .nil .nil))))) (.node (o1 P) (.node (o23 P) (.node (o42 P) (.node (o81 P) (.node (o166 P) (.node (o324 P) .nil .nil) .nil) (.node (o247 P) .nil .nil)) (.node (o122 P) (.node (o196 P) (.node (o360 P) .nil .nil) .nil) (.node (o285 P) .nil .nil))) (.node (o0 P) (.node (o0 P) (.node (o189 P) (.node (o342 P) .nil .nil) .nil) (.node (o1 P) .nil .nil)) (.node (o145 P) (.node (o228 P) .nil .nil) (.node (o303 P) .nil .nil)))) (.node (o32 P) (.node (o1 P) (.node (o91 P) (.node (o1 P) (.node (o1 P) .nil .nil) .nil) (.node (o257 P) .nil .nil)) (.node (o134 P) (.node (o1 P) .nil .nil) (.node (o0 P) .nil .nil))) (.node (o0 P) (.node (o80 P) (.node (o200 P) (.node (o0 P) .nil .nil) .nil) (.node (o0 P) .nil .nil)) (.node (o0 P) (.node (o0 P) .nil .nil) (.node (o314 P) .nil .nil)))))))))
abbrev hf (P:Params):Heap:=⟨⟨((boot_o_0 P) :: (boot_o_1 P) :: (boot_o_2 P) :: (o308 P) :: (boot_o_4 P) :: (boot_o_5 P) :: (boot_o_6 P) :: (boot_o_7 P) :: (boot_o_8 P) :: (boot_o_9 P) :: (boot_o_10 P) :: (o0 P) :: (o309 P) :: (o2 P) :: (o3 P) :: (o0 P) :: (o1 P) :: (o6 P) :: (o0 P) :: (o7 P) :: (o8 P) :: (o9 P) :: (o0 P) :: (o1 P) :: (o10 P) :: (o0 P) :: (o11 P) :: (o12 P) :: (o13 P) :: (o0 P) :: (o1 P) :: (o14 P) :: (o0 P) :: (o15 P) :: (o16 P) :: (o17 P) :: (o0 P) :: (o1 P) :: (o18 P) :: (o19 P) :: (o20 P) :: (o0 P) :: (o1 P) :: (o21 P) :: (o0 P) :: (o22 P) :: (o23 P) :: (o24 P) :: (o0 P) :: (o1 P) :: (o25 P) :: (o26 P) :: (o27 P) :: (o0 P) :: (o1 P) :: (o28 P) :: (o0 P) :: (o29 P) :: (o30 P) :: (o31 P) :: (o0 P) :: (o1 P) :: (o32 P) :: (o0 P) :: (o33 P) :: (o34 P) :: (o35 P) :: (o0 P) :: (o1 P) :: (o36 P) :: (o37 P) :: (o38 P) :: (o0 P) :: (o1 P) :: (o39 P) :: (o0 P) :: (o40 P) :: (o41 P) :: (o42 P) :: (o0 P) :: (o1 P) :: (o43 P) :: (o0 P) :: (o44 P) :: (o45 P) :: (o46 P) :: (o0 P) :: (o1 P) :: (o47 P) :: (o0 P) :: (o48 P) :: (o49 P) :: (o50 P) :: (o0 P) :: (o1 P) :: (o51 P) :: (o0 P) :: (o52 P) :: (o53 P) :: (o54 P) :: (o0 P) :: (o1 P) :: (o55 P) :: (o0 P) :: (o56 P) :: (o57 P) :: (o58 P) :: (o0 P) :: (o1 P) :: (o59 P) :: (o0 P) :: (o60 P) :: (o61 P) :: (o62 P) :: (o0 P) :: (o1 P) :: (o63 P) :: (o0 P) :: (o64 P) :: (o65 P) :: (o66 P) :: (o0 P) :: (o1 P) :: (o67 P) :: (o68 P) :: (o69 P) :: (o0 P) :: (o70 P) :: (o71 P) :: (o0 P) :: (o1 P) :: (o72 P) :: (o73 P) :: (o0 P) :: (o74 P) :: (o169 P) :: (o76 P) :: (o77 P) :: (o78 P) :: (o79 P) :: (o80 P) :: (o70 P) :: (o81 P) :: (o0 P) :: (o82 P) :: (o83 P) :: (o84 P) :: (o0 P) :: (o1 P) :: (o85 P) :: (o0 P) :: (o86 P) :: (o87 P) :: (o88 P) :: (o0 P) :: (o1 P) :: (o89 P) :: (o90 P) :: (o91 P) :: (o92 P) :: (o93 P) :: (o94 P) :: (o95 P) :: (o96 P) :: (o80 P) :: (o70 P) :: (o97 P) :: (o0 P) :: (o98 P) :: (o99 P) :: (o100 P) :: (o0 P) :: (o1 P) :: (o101 P) :: (o0 P) :: (o102 P) :: (o103 P) :: (o104 P) :: (o0 P) :: (o1 P) :: (o105 P) :: (o0 P) :: (o106 P) :: (o107 P) :: (o108 P) :: (o109 P) :: (o110 P) :: (o111 P) :: (o112 P) :: (o113 P) :: (o80 P) :: (o70 P) :: (o114 P) :: (o0 P) :: (o115 P) :: (o116 P) :: (o117 P) :: (o0 P) :: (o1 P) :: (o118 P) :: (o0 P) :: (o119 P) :: (o120 P) :: (o121 P) :: (o0 P) :: (o1 P) :: (o122 P) :: (o0 P) :: (o123 P) :: (o124 P) :: (o125 P) :: (o126 P) :: (o127 P) :: (o128 P) :: (o129 P) :: (o130 P) :: (o80 P) :: (o70 P) :: (o131 P) :: (o0 P) :: (o132 P) :: (o133 P) :: (o134 P) :: (o0 P) :: (o1 P) :: (o135 P) :: (o0 P) :: (o136 P) :: (o137 P) :: (o138 P) :: (o0 P) :: (o1 P) :: (o139 P) :: (o140 P) :: (o141 P) :: (o142 P) :: (o143 P) :: (o144 P) :: (o145 P) :: (o146 P) :: (o80 P) :: (o70 P) :: (o147 P) :: (o0 P) :: (o148 P) :: (o149 P) :: (o150 P) :: (o0 P) :: (o1 P) :: (o151 P) :: (o0 P) :: (o152 P) :: (o153 P) :: (o154 P) :: (o0 P) :: (o1 P) :: (o155 P) :: (o156 P) :: (o157 P) :: (o0 P) :: (o1 P) :: (o158 P) :: (o0 P) :: (o159 P) :: (o160 P) :: (o161 P) :: (o162 P) :: (o163 P) :: (o164 P) :: (o165 P) :: (o166 P) :: (o80 P) :: (o70 P) :: (o170 P) :: (o0 P) :: (o171 P) :: (o172 P) :: (o173 P) :: (o0 P) :: (o1 P) :: (o174 P) :: (o0 P) :: (o175 P) :: (o176 P) :: (o177 P) :: (o0 P) :: (o1 P) :: (o178 P) :: (o0 P) :: (o179 P) :: (o180 P) :: (o181 P) :: (o182 P) :: (o183 P) :: (o184 P) :: (o185 P) :: (o186 P) :: (o187 P) :: (o70 P) :: (o188 P) :: (o0 P) :: (o1 P) :: (o189 P) :: (o190 P) :: (o0 P) :: (o191 P) :: (o192 P) :: (o193 P) :: (o194 P) :: (o195 P) :: (o196 P) :: (o70 P) :: (o197 P) :: (o0 P) :: (o1 P) :: (o198 P) :: (o199 P) :: (o0 P) :: (o200 P) :: (o201 P) :: (o202 P) :: (o203 P) :: (o196 P) :: (o70 P) :: (o204 P) :: (o0 P) :: (o1 P) :: (o205 P) :: (o206 P) :: (o0 P) :: (o207 P) :: (o208 P) :: (o209 P) :: (o210 P) :: (o196 P) :: (o70 P) :: (o211 P) :: (o0 P) :: (o1 P) :: (o212 P) :: (o213 P) :: (o0 P) :: (o214 P) :: (o215 P) :: (o216 P) :: (o217 P) :: (o196 P) :: (o70 P) :: (o218 P) :: (o0 P) :: (o1 P) :: (o219 P) :: (o220 P) :: (o0 P) :: (o221 P) :: (o222 P) :: (o223 P) :: (o224 P) :: (o196 P) :: (o70 P) :: (o225 P) :: (o0 P) :: (o1 P) :: (o226 P) :: (o227 P) :: (o0 P) :: (o228 P) :: (o229 P) :: (o230 P) :: (o231 P) :: (o196 P) :: (o70 P) :: (o232 P) :: (o0 P) :: (o1 P) :: (o233 P) :: (o234 P) :: (o0 P) :: (o235 P) :: (o236 P) :: (o237 P) :: (o238 P) :: (o0 P) :: (o1 P) :: (o239 P) :: (o0 P) :: (o240 P) :: (o241 P) :: (o242 P) :: (o0 P) :: (o1 P) :: (o243 P) :: (o0 P) :: (o244 P) :: (o245 P) :: (o246 P) :: (o0 P) :: (o1 P) :: (o247 P) :: (o0 P) :: (o248 P) :: (o249 P) :: (o250 P) :: (o0 P) :: (o1 P) :: (o251 P) :: (o252 P) :: (o253 P) :: (o0 P) :: (o1 P) :: (o254 P) :: (o0 P) :: (o255 P) :: (o256 P) :: (o257 P) :: (o0 P) :: (o1 P) :: (o258 P) :: (o0 P) :: (o259 P) :: (o260 P) :: (o261 P) :: (o0 P) :: (o1 P) :: (o262 P) :: (o0 P) :: (o263 P) :: (o264 P) :: (o265 P) :: (o0 P) :: (o1 P) :: (o266 P) :: (o267 P) :: (o268 P) :: (o0 P) :: (o1 P) :: (o269 P) :: (o270 P) :: (o271 P) :: (o0 P) :: (o1 P) :: (o272 P) :: (o0 P) :: (o273 P) :: (o274 P) :: (o275 P) :: (o0 P) :: (o1 P) :: (o276 P) :: (o277 P) :: (o278 P) :: (o0 P) :: (o1 P) :: (o279 P) :: (o0 P) :: (o280 P) :: (o281 P) :: (o282 P) :: (o0 P) :: (o1 P) :: (o283 P) :: (o284 P) :: (o285 P) :: (o0 P) :: (o1 P) :: (o286 P) :: (o0 P) :: (o287 P) :: (o288 P) :: (o289 P) :: (o0 P) :: (o1 P) :: (o290 P) :: (o291 P) :: (o292 P) :: (o0 P) :: (o1 P) :: (o293 P) :: (o0 P) :: (o294 P) :: (o295 P) :: (o296 P) :: (o0 P) :: (o1 P) :: (o297 P) :: (o0 P) :: (o298 P) :: (o299 P) :: (o300 P) :: (o0 P) :: (o1 P) :: (o301 P) :: (o0 P) :: (o302 P) :: (o303 P) :: (o304 P) :: (o0 P) :: (o1 P) :: (o305 P) :: (o306 P) :: (o307 P) :: (o0 P) :: (o1 P) :: (o310 P) :: (o0 P) :: (o311 P) :: (o312 P) :: (o313 P) :: (o0 P) :: (o1 P) :: (o314 P) :: (o0 P) :: (o315 P) :: (o316 P) :: (o317 P) :: (o0 P) :: (o1 P) :: (o318 P) :: (o0 P) :: (o319 P) :: (o320 P) :: (o321 P) :: (o0 P) :: (o1 P) :: (o322 P) :: (o323 P) :: (o324 P) :: (o0 P) :: (o1 P) :: (o325 P) :: (o0 P) :: (o326 P) :: (o327 P) :: (o328 P) :: (o0 P) :: (o1 P) :: (o329 P) :: (o0 P) :: (o330 P) :: (o331 P) :: (o332 P) :: (o0 P) :: (o1 P) :: (o333 P) :: (o334 P) :: (o335 P) :: (o0 P) :: (o1 P) :: (o336 P) :: (o0 P) :: (o337 P) :: (o338 P) :: (o339 P) :: (o0 P) :: (o1 P) :: (o340 P) :: (o0 P) :: (o341 P) :: (o342 P) :: (o343 P) :: (o0 P) :: (o1 P) :: (o344 P) :: (o0 P) :: (o345 P) :: (o346 P) :: (o347 P) :: (o0 P) :: (o1 P) :: (o348 P) :: (o0 P) :: (o349 P) :: (o350 P) :: (o351 P) :: (o0 P) :: (o1 P) :: (o352 P) :: (o0 P) :: (o353 P) :: (o354 P) :: (o355 P) :: (o0 P) :: (o1 P) :: (o356 P) :: (o0 P) :: (o357 P) :: (o358 P) :: (o359 P) :: (o0 P) :: (o1 P) :: (o360 P) :: (o0 P) :: (o361 P) :: (o362 P) :: (o363 P) :: (o0 P) :: (o1 P) :: (o364 P) :: (o365 P) :: (o366 P) :: (o0 P) :: (o1 P) :: (o367 P) :: (o368 P) :: (o369 P) :: [])⟩,{}⟩
abbrev b':List Stmt:=behindTheImports p'
abbrev env':Env:={ scope:=p'.main.scope,locals:=mainNs,globals:=mainNs,cells:=[],code:=(vr 13),frame:=some 14 }
abbrev cE:Code:=.body b' env'
abbrev qp:Pos:=⟨0,0,0,0⟩
abbrev B:List Frame:=[topFrame qp]
abbrev ann:Option Value:=(some (.ref 6))
abbrev s0:List Stmt:=(b'.drop 0).take 27
abbrev s1:List Stmt:=(b'.drop 27).take 34
abbrev s2:List Stmt:=(b'.drop 61).take 16
set_option maxRecDepth 100000 in
theorem pre0 (w:World):(fun os=>PySem.W.Fast.tw15667345088766844465 PySem.W.Fast.tw14364793385576792824 p' w 11 ann 12 (⟨boot_heap w.params,⟨[]⟩,boot_drawn,boot_toks,os⟩:Shared) (topStub p')) = fun os=>some ((⟨ha w.params,⟨[]⟩,{},187,os⟩:Shared),(⟨PySem.W.Fast.tw11892475500146522536 PySem.W.Fast.tw14364793385576792824 cE,cE,⟨0,0,0,0⟩,B⟩:Thread)):=by kernel_rfl
set_option maxRecDepth 100000 in
theorem blk0 (w:World):(fun os=>PySem.W.Fast.tw14374325043358763698 PySem.W.Fast.tw14364793385576792824 p' w 11 ann (nat_lit 1) 1 (⟨ha w.params,⟨[]⟩,{},187,os⟩:Shared) (blockOf b' env' cE ⟨0,0,0,0⟩ B)) = fun os=>some (Flow.next,SharedT.abs ⟨t0 w.params,15,{},⟨[]⟩,{},187,os⟩,cE,⟨0,0,0,0⟩):=by kernel_rfl
set_option maxRecDepth 100000 in
theorem q0 (w:World):(fun os=>PySem.W.Fast.tw10110043849684766642 PySem.W.Fast.tw14364793385576792824 p' w 11 ann (nat_lit 1) 2144 ⟨t0 w.params,15,{},⟨[]⟩,{},187,os⟩ (piecesOf s0 env' cE ⟨0,0,0,0⟩ B)) = fun os=>some (Flow.next,⟨t1 w.params,271,{},⟨[]⟩,{},528,os⟩,cE,⟨114,0,125,16⟩):=by kernel_rfl
set_option maxRecDepth 100000 in
theorem q1 (w:World):(fun os=>PySem.W.Fast.tw10110043849684766642 PySem.W.Fast.tw14364793385576792824 p' w 11 ann (nat_lit 1) 2382 ⟨t1 w.params,271,{},⟨[]⟩,{},528,os⟩ (piecesOf s1 env' cE ⟨114,0,125,16⟩ B)) = fun os=>some (Flow.next,⟨t2 w.params,501,{},⟨[]⟩,{},862,os⟩,cE,⟨316,0,316,8⟩):=by kernel_rfl
set_option maxRecDepth 100000 in
theorem q2 (w:World):(fun os=>PySem.W.Fast.tw10110043849684766642 PySem.W.Fast.tw14364793385576792824 p' w 11 ann (nat_lit 1) 471 ⟨t2 w.params,501,{},⟨[]⟩,{},862,os⟩ (piecesOf s2 env' cE ⟨316,0,316,8⟩ B)) = fun os=>some (Flow.next,⟨t3 w.params,605,{},⟨[]⟩,{},988,os⟩,cE,⟨376,0,406,128⟩):=by kernel_rfl
set_option maxRecDepth 100000 in
theorem fin0 (w:World):(fun os=>PySem.W.Fast.tw14082659384304107361 PySem.W.Fast.tw14364793385576792824 p' w 11 ann 2 (SharedT.abs ⟨t3 w.params,605,{},⟨[]⟩,{},988,os⟩) ⟨doneF Flow.next,cE,⟨376,0,406,128⟩,B⟩) = fun os=>some (⟨hf w.params,⟨[]⟩,{},988,os⟩:Shared):=by kernel_rfl
set_option maxRecDepth 100000 in
theorem bsplit:b' = s0 ++ (s1 ++ (s2 ++ ([]))):=by kernel_rfl
theorem fin1 (w:World) (os:OsState):topRun treeTable p' w 11 ann 2 (SharedT.abs ⟨t3 w.params,605,{},⟨[]⟩,{},988,os⟩) (restOf [] env' cE ⟨376,0,406,128⟩ B) = some (⟨hf w.params,⟨[]⟩,{},988,os⟩:Shared):=by
  have h:=congrFun (fin0 w) os
  rw [← PySem.W.Fast.te14082659384304107361,← PySem.W.Fast.te14364793385576792824] at h
  exact h
theorem u2 (w:World) (os:OsState):topRun treeTable p' w 11 ann (471 + 2) (SharedT.abs ⟨t2 w.params,501,{},⟨[]⟩,{},862,os⟩) (restOf (s2 ++ ([])) env' cE ⟨316,0,316,8⟩ B) = some (⟨hf w.params,⟨[]⟩,{},988,os⟩:Shared):=by
  have h:=congrFun (q2 w) os
  rw [← PySem.W.Fast.te10110043849684766642,← PySem.W.Fast.te14364793385576792824] at h
  exact piece_app (segRun_of h) (fin1 w os)
theorem u1 (w:World) (os:OsState):topRun treeTable p' w 11 ann (2382 + (471 + 2)) (SharedT.abs ⟨t1 w.params,271,{},⟨[]⟩,{},528,os⟩) (restOf (s1 ++ (s2 ++ ([]))) env' cE ⟨114,0,125,16⟩ B) = some (⟨hf w.params,⟨[]⟩,{},988,os⟩:Shared):=by
  have h:=congrFun (q1 w) os
  rw [← PySem.W.Fast.te10110043849684766642,← PySem.W.Fast.te14364793385576792824] at h
  exact piece_app (segRun_of h) (u2 w os)
theorem u0 (w:World) (os:OsState):topRun treeTable p' w 11 ann (2144 + (2382 + (471 + 2))) (SharedT.abs ⟨t0 w.params,15,{},⟨[]⟩,{},187,os⟩) (restOf (s0 ++ (s1 ++ (s2 ++ ([])))) env' cE ⟨0,0,0,0⟩ B) = some (⟨hf w.params,⟨[]⟩,{},988,os⟩:Shared):=by
  have h:=congrFun (q0 w) os
  rw [← PySem.W.Fast.te10110043849684766642,← PySem.W.Fast.te14364793385576792824] at h
  exact piece_app (segRun_of h) (u1 w os)
theorem ub (w:World) (os:OsState):topRun treeTable p' w 11 ann (1 + (2144 + (2382 + (471 + 2)))) (⟨ha w.params,⟨[]⟩,{},187,os⟩:Shared) ⟨denote treeTable (.body b' env'),cE,⟨0,0,0,0⟩,B⟩ = some (⟨hf w.params,⟨[]⟩,{},988,os⟩:Shared):=by
  have h:=congrFun (blk0 w) os
  rw [← PySem.W.Fast.te14374325043358763698,← PySem.W.Fast.te14364793385576792824] at h
  have e:restOf b' env' cE ⟨0,0,0,0⟩ B = restOf (s0 ++ (s1 ++ (s2 ++ ([])))) env' cE ⟨0,0,0,0⟩ B:=congrArg (fun l=>restOf l env' cE ⟨0,0,0,0⟩ B) bsplit
  have k:=u0 w os
  rw [← e] at k
  exact piece_block h k
theorem run (w:World) (os:OsState):topRun treeTable p' w 11 ann (12 + (1 + (2144 + (2382 + (471 + 2))))) (⟨boot_heap w.params,⟨[]⟩,boot_drawn,boot_toks,os⟩:Shared) (topStub p') = some (⟨hf w.params,⟨[]⟩,{},988,os⟩:Shared):=by
  have h:=congrFun (pre0 w) os
  rw [← PySem.W.Fast.te15667345088766844465,← PySem.W.Fast.te11892475500146522536,← PySem.W.Fast.te14364793385576792824] at h
  exact go_top h (ub w os)
def viewOf (p:Program):Program:={ p with main:={ p.main with body:=[tpOf p 0,tpOf p 2,tpOf p 3,tpOf p 4,tpOf p 5,tpOf p 6,tpOf p 7,tpOf p 8,tpOf p 9,tpOf p 10,tpOf p 11,tpOf p 12,tpOf p 13,tpOf p 14,tpOf p 15,tpOf p 16,tpOf p 17,tpOf p 18,tpOf p 20,tpOf p 21,tpOf p 22,tpOf p 23,tpOf p 24,tpOf p 25,tpOf p 26,tpOf p 27,tpOf p 29,tpOf p 30,tpOf p 31,tpOf p 32,tpOf p 33,tpOf p 34,tpOf p 35,tpOf p 37,tpOf p 38,tpOf p 39,tpOf p 40,tpOf p 41,tpOf p 43,tpOf p 44,tpOf p 45,tpOf p 46,tpOf p 48,tpOf p 49,tpOf p 50,tpOf p 51,tpOf p 52,tpOf p 53,tpOf p 54,tpOf p 55,tpOf p 56,tpOf p 58,tpOf p 59,tpOf p 61,tpOf p 62,tpOf p 63,tpOf p 64,tpOf p 65,tpOf p 66,tpOf p 67,tpOf p 68,tpOf p 69,tpOf p 70,tpOf p 71,tpOf p 72,tpOf p 73,tpOf p 74,tpOf p 75,tpOf p 76] } }
abbrev K (P:Params):Frag:=(nat_lit 2,⟨.none,none,(.dict #[] 0),#[]⟩)
  :: (nat_lit 3,⟨(.type "dict"),none,(.dict (List.toArray ((⟨PyData.keyHash P (S "__name__"),(.str (S "__name__") 165),(.str (S "law_wheelrow_k08_refused") 860)⟩) :: (⟨PyData.keyHash P (S "__doc__"),(.str (S "__doc__") 166),.none⟩) :: (⟨PyData.keyHash P (S "__package__"),(.str (S "__package__") 167),.none⟩) :: (⟨PyData.keyHash P (S "__loader__"),(.str (S "__loader__") 168),(.builtin "__main__.__loader__#opaque")⟩) :: (⟨PyData.keyHash P (S "__spec__"),(.str (S "__spec__") 169),.none⟩) :: (⟨PyData.keyHash P (S "__annotations__"),(.str (S "__annotations__") 170),(.ref 6)⟩) :: (⟨PyData.keyHash P (S "__builtins__"),(.str (S "__builtins__") 171),(.ref 4)⟩) :: (⟨PyData.keyHash P (S "__file__"),(.str (S "__file__") 173),(.str (S "/claim/cut.py") 172)⟩) :: (⟨PyData.keyHash P (S "__cached__"),(.str (S "__cached__") 174),.none⟩) :: (⟨PyData.keyHash P (S "_wall"),(.str (S "_wall") 193),(.ref 21)⟩) :: (⟨PyData.keyHash P (S "GREATEST_ROUND"),(.str (S "GREATEST_ROUND") 197),(.int 1000000 196)⟩) :: (⟨PyData.keyHash P (S "GREATEST_NUMBER"),(.str (S "GREATEST_NUMBER") 199),(.int 1000000 198)⟩) :: (⟨PyData.keyHash P (S "is_whole"),(.str (S "is_whole") 206),(.ref 28)⟩) :: (⟨PyData.keyHash P (S "is_number"),(.str (S "is_number") 213),(.ref 35)⟩) :: (⟨PyData.keyHash P (S "are_numbers"),(.str (S "are_numbers") 219),(.ref 40)⟩) :: (⟨PyData.keyHash P (S "is_round"),(.str (S "is_round") 226),(.ref 47)⟩) :: (⟨PyData.keyHash P (S "are_rounds"),(.str (S "are_rounds") 232),(.ref 52)⟩) :: (⟨PyData.keyHash P (S "is_rest"),(.str (S "is_rest") 240),(.ref 59)⟩) :: (⟨PyData.keyHash P (S "is_rest_pair"),(.str (S "is_rest_pair") 247),(.ref 66)⟩) :: (⟨PyData.keyHash P (S "are_rests"),(.str (S "are_rests") 253),(.ref 71)⟩) :: (⟨PyData.keyHash P (S "goes_into"),(.str (S "goes_into") 261),(.ref 78)⟩) :: (⟨PyData.keyHash P (S "leaves"),(.str (S "leaves") 270),(.ref 85)⟩) :: (⟨PyData.keyHash P (S "common_part_of_two"),(.str (S "common_part_of_two") 281),(.ref 92)⟩) :: (⟨PyData.keyHash P (S "part_with_times"),(.str (S "part_with_times") 297),(.ref 99)⟩) :: (⟨PyData.keyHash P (S "turned_back"),(.str (S "turned_back") 305),(.ref 106)⟩) :: (⟨PyData.keyHash P (S "common_part"),(.str (S "common_part") 314),(.ref 113)⟩) :: (⟨PyData.keyHash P (S "common_turn"),(.str (S "common_turn") 323),(.ref 120)⟩) :: (⟨PyData.keyHash P (S "all_together"),(.str (S "all_together") 331),(.ref 125)⟩) :: (⟨PyData.keyHash P (S "Answer"),(.str (S "Answer") 351),(.ref 135)⟩) :: (⟨PyData.keyHash P (S "Number"),(.str (S "Number") 384),(.ref 161)⟩) :: (⟨PyData.keyHash P (S "Clash"),(.str (S "Clash") 421),(.ref 187)⟩) :: (⟨PyData.keyHash P (S "Common"),(.str (S "Common") 456),(.ref 213)⟩) :: (⟨PyData.keyHash P (S "Times"),(.str (S "Times") 487),(.ref 237)⟩) :: (⟨PyData.keyHash P (S "Bar"),(.str (S "Bar") 527),(.ref 268)⟩) :: (⟨PyData.keyHash P (S "Back"),(.str (S "Back") 561),(.ref 294)⟩) :: (⟨PyData.keyHash P (S "RestError"),(.str (S "RestError") 581),(.ref 306)⟩) :: (⟨PyData.keyHash P (S "BadRests"),(.str (S "BadRests") 597),(.ref 319)⟩) :: (⟨PyData.keyHash P (S "BadNumbers"),(.str (S "BadNumbers") 613),(.ref 331)⟩) :: (⟨PyData.keyHash P (S "BadRound"),(.str (S "BadRound") 629),(.ref 343)⟩) :: (⟨PyData.keyHash P (S "BadRest"),(.str (S "BadRest") 645),(.ref 355)⟩) :: (⟨PyData.keyHash P (S "BadCount"),(.str (S "BadCount") 661),(.ref 367)⟩) :: (⟨PyData.keyHash P (S "BadText"),(.str (S "BadText") 677),(.ref 379)⟩) :: (⟨PyData.keyHash P (S "common"),(.str (S "common") 686),(.ref 388)⟩) :: (⟨PyData.keyHash P (S "common_of"),(.str (S "common_of") 697),(.ref 395)⟩) :: (⟨PyData.keyHash P (S "times_of"),(.str (S "times_of") 707),(.ref 402)⟩) :: (⟨PyData.keyHash P (S "come"),(.str (S "come") 713),(.ref 407)⟩) :: (⟨PyData.keyHash P (S "back"),(.str (S "back") 722),(.ref 414)⟩) :: (⟨PyData.keyHash P (S "told"),(.str (S "told") 735),(.ref 421)⟩) :: (⟨PyData.keyHash P (S "joined"),(.str (S "joined") 749),(.ref 428)⟩) :: (⟨PyData.keyHash P (S "clash_with_earlier"),(.str (S "clash_with_earlier") 755),(.ref 433)⟩) :: (⟨PyData.keyHash P (S "left"),(.str (S "left") 761),(.ref 438)⟩) :: (⟨PyData.keyHash P (S "stretch"),(.str (S "stretch") 773),(.ref 445)⟩) :: (⟨PyData.keyHash P (S "chosen"),(.str (S "chosen") 779),(.ref 450)⟩) :: (⟨PyData.keyHash P (S "primes_of"),(.str (S "primes_of") 789),(.ref 457)⟩) :: (⟨PyData.keyHash P (S "grouped"),(.str (S "grouped") 795),(.ref 462)⟩) :: (⟨PyData.keyHash P (S "together"),(.str (S "together") 806),(.ref 469)⟩) :: (⟨PyData.keyHash P (S "picked"),(.str (S "picked") 812),(.ref 474)⟩) :: (⟨PyData.keyHash P (S "changes"),(.str (S "changes") 825),(.ref 481)⟩) :: (⟨PyData.keyHash P (S "reached_sums"),(.str (S "reached_sums") 836),(.ref 488)⟩) :: (⟨PyData.keyHash P (S "new_sum"),(.str (S "new_sum") 849),(.ref 495)⟩) :: (⟨PyData.keyHash P (S "NO_RESTS"),(.str (S "NO_RESTS") 853),(.str (S "-") 852)⟩) :: (⟨PyData.keyHash P (S "written"),(.str (S "written") 859),(.ref 500)⟩) :: (⟨PyData.keyHash P (S "_law_cell_at"),(.str (S "_law_cell_at") 869),(.ref 507)⟩) :: (⟨PyData.keyHash P (S "_law_draw"),(.str (S "_law_draw") 879),(.ref 514)⟩) :: (⟨PyData.keyHash P (S "_law_turns"),(.str (S "_law_turns") 890),(.ref 521)⟩) :: (⟨PyData.keyHash P (S "_law_rests"),(.str (S "_law_rests") 896),(.ref 526)⟩) :: (⟨PyData.keyHash P (S "_law_part"),(.str (S "_law_part") 904),(.ref 533)⟩) :: (⟨PyData.keyHash P (S "_law_whole"),(.str (S "_law_whole") 911),(.ref 540)⟩) :: (⟨PyData.keyHash P (S "_law_numbers"),(.str (S "_law_numbers") 917),(.ref 545)⟩) :: (⟨PyData.keyHash P (S "_law_kinds"),(.str (S "_law_kinds") 925),(.ref 552)⟩) :: (⟨PyData.keyHash P (S "_law_with_rests"),(.str (S "_law_with_rests") 933),(.ref 559)⟩) :: (⟨PyData.keyHash P (S "_law_with_numbers"),(.str (S "_law_with_numbers") 941),(.ref 566)⟩) :: (⟨PyData.keyHash P (S "_law_with_turn"),(.str (S "_law_with_turn") 949),(.ref 573)⟩) :: (⟨PyData.keyHash P (S "_law_with_rest"),(.str (S "_law_with_rest") 957),(.ref 580)⟩) :: (⟨PyData.keyHash P (S "_law_with_number"),(.str (S "_law_with_number") 965),(.ref 587)⟩) :: (⟨PyData.keyHash P (S "_law_told"),(.str (S "_law_told") 975),(.ref 594)⟩) :: (⟨PyData.keyHash P (S "_law_all"),(.str (S "_law_all") 981),(.ref 599)⟩) :: (⟨PyData.keyHash P (S "law"),(.str (S "law") 987),(.ref 604)⟩) :: [])) 78),#[]⟩)
  :: (nat_lit 15,⟨(.type "tuple"),none,(.seq #[] 0),#[]⟩)
  :: (nat_lit 17,⟨(.type "tuple"),none,(.seq #[(.str (S "k") 190)] 0),#[]⟩)
  :: (nat_lit 18,⟨(.type "tuple"),none,(.seq #[] 0),#[]⟩)
  :: (nat_lit 20,⟨(.type "code"),none,(.fields #[(.str (S "_wall") 187),(.str (S "_wall") 188),(.str (S "/claim/cut.py") 189),(.int 1 0),(.int 1 0),(.int 0 0),(.int 0 0),(.int 3 0),(.ref 15),(.bool true),(.int 181 0),(.ref 16),.none,(.ref 17),(.ref 18),(.ref 19),(.int 191 0),(.int 1 0),(.str (S "/claim/cut.py") 192)]),#[]⟩)
  :: (nat_lit 21,⟨(.type "function"),none,(.func ⟨(S "_wall"),(S "_wall"),(L2.defArgs (W08.top 0)),.stmts (L2.defBody (W08.top 0)),(L2.defScope (W08.top 0)),3,[],.none,.none,.none,(.str (S "__main__") 164),none,(.ref 20),.none,0⟩),#[]⟩)
  :: (nat_lit 22,⟨(.type "tuple"),none,(.seq #[] 0),#[]⟩)
  :: (nat_lit 24,⟨(.type "tuple"),none,(.seq #[(.str (S "value") 203)] 0),#[]⟩)
  :: (nat_lit 25,⟨(.type "tuple"),none,(.seq #[] 0),#[]⟩)
  :: (nat_lit 27,⟨(.type "code"),none,(.fields #[(.str (S "is_whole") 200),(.str (S "is_whole") 201),(.str (S "/claim/cut.py") 202),(.int 7 0),(.int 1 0),(.int 0 0),(.int 0 0),(.int 3 0),(.ref 22),(.bool true),(.int 181 0),(.ref 23),.none,(.ref 24),(.ref 25),(.ref 26),(.int 204 0),(.int 7 0),(.str (S "/claim/cut.py") 205)]),#[]⟩)
  :: (nat_lit 28,⟨(.type "function"),none,(.func ⟨(S "is_whole"),(S "is_whole"),(L2.defArgs (W08.top 4)),.stmts (L2.defBody (W08.top 4)),(L2.defScope (W08.top 4)),3,[],.none,.none,.none,(.str (S "wheelrow.numbers") 194),none,(.ref 27),.none,0⟩),#[]⟩)
  :: (nat_lit 29,⟨(.type "tuple"),none,(.seq #[] 0),#[]⟩)
  :: (nat_lit 31,⟨(.type "tuple"),none,(.seq #[(.str (S "value") 210)] 0),#[]⟩)
  :: (nat_lit 32,⟨(.type "tuple"),none,(.seq #[] 0),#[]⟩)
  :: (nat_lit 34,⟨(.type "code"),none,(.fields #[(.str (S "is_number") 207),(.str (S "is_number") 208),(.str (S "/claim/cut.py") 209),(.int 9 0),(.int 1 0),(.int 0 0),(.int 0 0),(.int 3 0),(.ref 29),(.bool true),(.int 181 0),(.ref 30),.none,(.ref 31),(.ref 32),(.ref 33),(.int 211 0),(.int 9 0),(.str (S "/claim/cut.py") 212)]),#[]⟩)
  :: (nat_lit 35,⟨(.type "function"),none,(.func ⟨(S "is_number"),(S "is_number"),(L2.defArgs (W08.top 5)),.stmts (L2.defBody (W08.top 5)),(L2.defScope (W08.top 5)),3,[],.none,.none,.none,(.str (S "wheelrow.numbers") 194),none,(.ref 34),.none,0⟩),#[]⟩)
  :: (nat_lit 36,⟨(.type "tuple"),none,(.seq #[] 0),#[]⟩)
  :: (nat_lit 39,⟨(.type "code"),none,(.fields #[(.str (S "are_numbers") 214),(.str (S "are_numbers") 215),(.str (S "/claim/cut.py") 216),(.int 11 0),(.int 1 0),(.int 0 0),(.int 0 0),(.int 3 0),(.ref 36),(.bool true),(.int 181 0),(.ref 37),.none,.none,.none,(.ref 38),(.int 217 0),(.int 11 0),(.str (S "/claim/cut.py") 218)]),#[]⟩)
  :: (nat_lit 40,⟨(.type "function"),none,(.func ⟨(S "are_numbers"),(S "are_numbers"),(L2.defArgs (W08.top 6)),.stmts (L2.defBody (W08.top 6)),(L2.defScope (W08.top 6)),3,[],.none,.none,.none,(.str (S "wheelrow.numbers") 194),none,(.ref 39),.none,0⟩),#[]⟩)
  :: (nat_lit 41,⟨(.type "tuple"),none,(.seq #[] 0),#[]⟩)
  :: (nat_lit 43,⟨(.type "tuple"),none,(.seq #[(.str (S "value") 223)] 0),#[]⟩)
  :: (nat_lit 44,⟨(.type "tuple"),none,(.seq #[] 0),#[]⟩)
  :: (nat_lit 46,⟨(.type "code"),none,(.fields #[(.str (S "is_round") 220),(.str (S "is_round") 221),(.str (S "/claim/cut.py") 222),(.int 13 0),(.int 1 0),(.int 0 0),(.int 0 0),(.int 3 0),(.ref 41),(.bool true),(.int 181 0),(.ref 42),.none,(.ref 43),(.ref 44),(.ref 45),(.int 224 0),(.int 13 0),(.str (S "/claim/cut.py") 225)]),#[]⟩)
  :: (nat_lit 47,⟨(.type "function"),none,(.func ⟨(S "is_round"),(S "is_round"),(L2.defArgs (W08.top 7)),.stmts (L2.defBody (W08.top 7)),(L2.defScope (W08.top 7)),3,[],.none,.none,.none,(.str (S "wheelrow.numbers") 194),none,(.ref 46),.none,0⟩),#[]⟩)
  :: (nat_lit 48,⟨(.type "tuple"),none,(.seq #[] 0),#[]⟩)
  :: (nat_lit 51,⟨(.type "code"),none,(.fields #[(.str (S "are_rounds") 227),(.str (S "are_rounds") 228),(.str (S "/claim/cut.py") 229),(.int 15 0),(.int 1 0),(.int 0 0),(.int 0 0),(.int 3 0),(.ref 48),(.bool true),(.int 181 0),(.ref 49),.none,.none,.none,(.ref 50),(.int 230 0),(.int 15 0),(.str (S "/claim/cut.py") 231)]),#[]⟩)
  :: (nat_lit 52,⟨(.type "function"),none,(.func ⟨(S "are_rounds"),(S "are_rounds"),(L2.defArgs (W08.top 8)),.stmts (L2.defBody (W08.top 8)),(L2.defScope (W08.top 8)),3,[],.none,.none,.none,(.str (S "wheelrow.numbers") 194),none,(.ref 51),.none,0⟩),#[]⟩)
  :: (nat_lit 53,⟨(.type "tuple"),none,(.seq #[] 0),#[]⟩)
  :: (nat_lit 55,⟨(.type "tuple"),none,(.seq #[(.str (S "value") 236),(.str (S "turn") 237)] 0),#[]⟩)
  :: (nat_lit 56,⟨(.type "tuple"),none,(.seq #[] 0),#[]⟩)
  :: (nat_lit 58,⟨(.type "code"),none,(.fields #[(.str (S "is_rest") 233),(.str (S "is_rest") 234),(.str (S "/claim/cut.py") 235),(.int 17 0),(.int 2 0),(.int 0 0),(.int 0 0),(.int 3 0),(.ref 53),(.bool true),(.int 181 0),(.ref 54),.none,(.ref 55),(.ref 56),(.ref 57),(.int 238 0),(.int 17 0),(.str (S "/claim/cut.py") 239)]),#[]⟩)
  :: (nat_lit 59,⟨(.type "function"),none,(.func ⟨(S "is_rest"),(S "is_rest"),(L2.defArgs (W08.top 9)),.stmts (L2.defBody (W08.top 9)),(L2.defScope (W08.top 9)),3,[],.none,.none,.none,(.str (S "wheelrow.numbers") 194),none,(.ref 58),.none,0⟩),#[]⟩)
  :: (nat_lit 60,⟨(.type "tuple"),none,(.seq #[] 0),#[]⟩)
  :: (nat_lit 62,⟨(.type "tuple"),none,(.seq #[(.str (S "value") 244)] 0),#[]⟩)
  :: (nat_lit 63,⟨(.type "tuple"),none,(.seq #[] 0),#[]⟩)
  :: (nat_lit 65,⟨(.type "code"),none,(.fields #[(.str (S "is_rest_pair") 241),(.str (S "is_rest_pair") 242),(.str (S "/claim/cut.py") 243),(.int 19 0),(.int 1 0),(.int 0 0),(.int 0 0),(.int 3 0),(.ref 60),(.bool true),(.int 181 0),(.ref 61),.none,(.ref 62),(.ref 63),(.ref 64),(.int 245 0),(.int 19 0),(.str (S "/claim/cut.py") 246)]),#[]⟩)
  :: (nat_lit 66,⟨(.type "function"),none,(.func ⟨(S "is_rest_pair"),(S "is_rest_pair"),(L2.defArgs (W08.top 10)),.stmts (L2.defBody (W08.top 10)),(L2.defScope (W08.top 10)),3,[],.none,.none,.none,(.str (S "wheelrow.numbers") 194),none,(.ref 65),.none,0⟩),#[]⟩)
  :: (nat_lit 67,⟨(.type "tuple"),none,(.seq #[] 0),#[]⟩)
  :: (nat_lit 70,⟨(.type "code"),none,(.fields #[(.str (S "are_rests") 248),(.str (S "are_rests") 249),(.str (S "/claim/cut.py") 250),(.int 21 0),(.int 1 0),(.int 0 0),(.int 0 0),(.int 3 0),(.ref 67),(.bool true),(.int 181 0),(.ref 68),.none,.none,.none,(.ref 69),(.int 251 0),(.int 21 0),(.str (S "/claim/cut.py") 252)]),#[]⟩)
  :: (nat_lit 71,⟨(.type "function"),none,(.func ⟨(S "are_rests"),(S "are_rests"),(L2.defArgs (W08.top 11)),.stmts (L2.defBody (W08.top 11)),(L2.defScope (W08.top 11)),3,[],.none,.none,.none,(.str (S "wheelrow.numbers") 194),none,(.ref 70),.none,0⟩),#[]⟩)
  :: (nat_lit 72,⟨(.type "tuple"),none,(.seq #[] 0),#[]⟩)
  :: (nat_lit 74,⟨(.type "tuple"),none,(.seq #[(.str (S "part") 257),(.str (S "number") 258)] 0),#[]⟩)
  :: (nat_lit 75,⟨(.type "tuple"),none,(.seq #[] 0),#[]⟩)
  :: (nat_lit 77,⟨(.type "code"),none,(.fields #[(.str (S "goes_into") 254),(.str (S "goes_into") 255),(.str (S "/claim/cut.py") 256),(.int 23 0),(.int 2 0),(.int 0 0),(.int 0 0),(.int 3 0),(.ref 72),(.bool true),(.int 181 0),(.ref 73),.none,(.ref 74),(.ref 75),(.ref 76),(.int 259 0),(.int 23 0),(.str (S "/claim/cut.py") 260)]),#[]⟩)
  :: (nat_lit 78,⟨(.type "function"),none,(.func ⟨(S "goes_into"),(S "goes_into"),(L2.defArgs (W08.top 12)),.stmts (L2.defBody (W08.top 12)),(L2.defScope (W08.top 12)),3,[],.none,.none,.none,(.str (S "wheelrow.numbers") 194),none,(.ref 77),.none,0⟩),#[]⟩)
  :: (nat_lit 79,⟨(.type "tuple"),none,(.seq #[] 0),#[]⟩)
  :: (nat_lit 81,⟨(.type "tuple"),none,(.seq #[(.str (S "number") 265),(.str (S "rest") 266),(.str (S "turn") 267)] 0),#[]⟩)
  :: (nat_lit 82,⟨(.type "tuple"),none,(.seq #[] 0),#[]⟩)
  :: (nat_lit 84,⟨(.type "code"),none,(.fields #[(.str (S "leaves") 262),(.str (S "leaves") 263),(.str (S "/claim/cut.py") 264),(.int 25 0),(.int 3 0),(.int 0 0),(.int 0 0),(.int 3 0),(.ref 79),(.bool true),(.int 181 0),(.ref 80),.none,(.ref 81),(.ref 82),(.ref 83),(.int 268 0),(.int 25 0),(.str (S "/claim/cut.py") 269)]),#[]⟩)
  :: (nat_lit 85,⟨(.type "function"),none,(.func ⟨(S "leaves"),(S "leaves"),(L2.defArgs (W08.top 13)),.stmts (L2.defBody (W08.top 13)),(L2.defScope (W08.top 13)),3,[],.none,.none,.none,(.str (S "wheelrow.numbers") 194),none,(.ref 84),.none,0⟩),#[]⟩)
  :: (nat_lit 86,⟨(.type "tuple"),none,(.seq #[] 0),#[]⟩)
  :: (nat_lit 88,⟨(.type "tuple"),none,(.seq #[(.str (S "one") 274),(.str (S "other") 275),(.str (S "part") 276),(.str (S "left") 277),(.str (S "following") 278)] 0),#[]⟩)
  :: (nat_lit 89,⟨(.type "tuple"),none,(.seq #[] 0),#[]⟩)
  :: (nat_lit 91,⟨(.type "code"),none,(.fields #[(.str (S "common_part_of_two") 271),(.str (S "common_part_of_two") 272),(.str (S "/claim/cut.py") 273),(.int 27 0),(.int 2 0),(.int 0 0),(.int 0 0),(.int 3 0),(.ref 86),(.bool true),(.int 181 0),(.ref 87),.none,(.ref 88),(.ref 89),(.ref 90),(.int 279 0),(.int 27 0),(.str (S "/claim/cut.py") 280)]),#[]⟩)
  :: (nat_lit 92,⟨(.type "function"),none,(.func ⟨(S "common_part_of_two"),(S "common_part_of_two"),(L2.defArgs (W08.top 14)),.stmts (L2.defBody (W08.top 14)),(L2.defScope (W08.top 14)),3,[],.none,.none,.none,(.str (S "wheelrow.numbers") 194),none,(.ref 91),.none,0⟩),#[]⟩)
  :: (nat_lit 93,⟨(.type "tuple"),none,(.seq #[] 0),#[]⟩)
  :: (nat_lit 95,⟨(.type "tuple"),none,(.seq #[(.str (S "one") 285),(.str (S "other") 286),(.str (S "part") 287),(.str (S "often") 288),(.str (S "left") 289),(.str (S "left_often") 290),(.str (S "whole") 291),(.str (S "following") 292),(.str (S "following_often") 293),(.str (S "other_often") 294)] 0),#[]⟩)
  :: (nat_lit 96,⟨(.type "tuple"),none,(.seq #[] 0),#[]⟩)
  :: (nat_lit 98,⟨(.type "code"),none,(.fields #[(.str (S "part_with_times") 282),(.str (S "part_with_times") 283),(.str (S "/claim/cut.py") 284),(.int 35 0),(.int 2 0),(.int 0 0),(.int 0 0),(.int 3 0),(.ref 93),(.bool true),(.int 181 0),(.ref 94),.none,(.ref 95),(.ref 96),(.ref 97),(.int 295 0),(.int 35 0),(.str (S "/claim/cut.py") 296)]),#[]⟩)
  :: (nat_lit 99,⟨(.type "function"),none,(.func ⟨(S "part_with_times"),(S "part_with_times"),(L2.defArgs (W08.top 15)),.stmts (L2.defBody (W08.top 15)),(L2.defScope (W08.top 15)),3,[],.none,.none,.none,(.str (S "wheelrow.numbers") 194),none,(.ref 98),.none,0⟩),#[]⟩)
  :: (nat_lit 100,⟨(.type "tuple"),none,(.seq #[] 0),#[]⟩)
  :: (nat_lit 102,⟨(.type "tuple"),none,(.seq #[(.str (S "number") 301),(.str (S "turn") 302)] 0),#[]⟩)
  :: (nat_lit 103,⟨(.type "tuple"),none,(.seq #[] 0),#[]⟩)
  :: (nat_lit 105,⟨(.type "code"),none,(.fields #[(.str (S "turned_back") 298),(.str (S "turned_back") 299),(.str (S "/claim/cut.py") 300),(.int 52 0),(.int 2 0),(.int 0 0),(.int 0 0),(.int 3 0),(.ref 100),(.bool true),(.int 181 0),(.ref 101),.none,(.ref 102),(.ref 103),(.ref 104),(.int 303 0),(.int 52 0),(.str (S "/claim/cut.py") 304)]),#[]⟩)
  :: (nat_lit 106,⟨(.type "function"),none,(.func ⟨(S "turned_back"),(S "turned_back"),(L2.defArgs (W08.top 16)),.stmts (L2.defBody (W08.top 16)),(L2.defScope (W08.top 16)),3,[],.none,.none,.none,(.str (S "wheelrow.numbers") 194),none,(.ref 105),.none,0⟩),#[]⟩)
  :: (nat_lit 107,⟨(.type "tuple"),none,(.seq #[] 0),#[]⟩)
  :: (nat_lit 109,⟨(.type "tuple"),none,(.seq #[(.str (S "numbers") 309),(.str (S "part") 310),(.str (S "number") 311)] 0),#[]⟩)
  :: (nat_lit 110,⟨(.type "tuple"),none,(.seq #[] 0),#[]⟩)
  :: (nat_lit 112,⟨(.type "code"),none,(.fields #[(.str (S "common_part") 306),(.str (S "common_part") 307),(.str (S "/claim/cut.py") 308),(.int 54 0),(.int 1 0),(.int 0 0),(.int 0 0),(.int 3 0),(.ref 107),(.bool true),(.int 181 0),(.ref 108),.none,(.ref 109),(.ref 110),(.ref 111),(.int 312 0),(.int 54 0),(.str (S "/claim/cut.py") 313)]),#[]⟩)
  :: (nat_lit 113,⟨(.type "function"),none,(.func ⟨(S "common_part"),(S "common_part"),(L2.defArgs (W08.top 17)),.stmts (L2.defBody (W08.top 17)),(L2.defScope (W08.top 17)),3,[],.none,.none,.none,(.str (S "wheelrow.numbers") 194),none,(.ref 112),.none,0⟩),#[]⟩)
  :: (nat_lit 114,⟨(.type "tuple"),none,(.seq #[] 0),#[]⟩)
  :: (nat_lit 116,⟨(.type "tuple"),none,(.seq #[(.str (S "turns") 318),(.str (S "whole") 319),(.str (S "turn") 320)] 0),#[]⟩)
  :: (nat_lit 117,⟨(.type "tuple"),none,(.seq #[] 0),#[]⟩)
  :: (nat_lit 119,⟨(.type "code"),none,(.fields #[(.str (S "common_turn") 315),(.str (S "common_turn") 316),(.str (S "/claim/cut.py") 317),(.int 59 0),(.int 1 0),(.int 0 0),(.int 0 0),(.int 3 0),(.ref 114),(.bool true),(.int 181 0),(.ref 115),.none,(.ref 116),(.ref 117),(.ref 118),(.int 321 0),(.int 59 0),(.str (S "/claim/cut.py") 322)]),#[]⟩)
  :: (nat_lit 120,⟨(.type "function"),none,(.func ⟨(S "common_turn"),(S "common_turn"),(L2.defArgs (W08.top 18)),.stmts (L2.defBody (W08.top 18)),(L2.defScope (W08.top 18)),3,[],.none,.none,.none,(.str (S "wheelrow.numbers") 194),none,(.ref 119),.none,0⟩),#[]⟩)
  :: (nat_lit 121,⟨(.type "tuple"),none,(.seq #[] 0),#[]⟩)
  :: (nat_lit 124,⟨(.type "code"),none,(.fields #[(.str (S "all_together") 326),(.str (S "all_together") 327),(.str (S "/claim/cut.py") 328),(.int 65 0),(.int 2 0),(.int 0 0),(.int 0 0),(.int 3 0),(.ref 121),(.bool true),(.int 181 0),(.ref 122),.none,.none,.none,(.ref 123),(.int 329 0),(.int 65 0),(.str (S "/claim/cut.py") 330)]),#[]⟩)
  :: (nat_lit 125,⟨(.type "function"),none,(.func ⟨(S "all_together"),(S "all_together"),(L2.defArgs (W08.top 20)),.stmts (L2.defBody (W08.top 20)),(L2.defScope (W08.top 20)),3,[],.none,.none,.none,(.str (S "wheelrow.answers") 324),none,(.ref 124),.none,0⟩),#[]⟩)
  :: (nat_lit 133,⟨(.type "tuple"),none,(.seq #[] 0),#[]⟩)
  :: (nat_lit 134,⟨(.type "dict"),none,(.dict #[⟨PyData.keyHash P (S "__module__"),(.str (S "__module__") 339),(.str (S "wheelrow.answers") 324)⟩,⟨PyData.keyHash P (S "__firstlineno__"),(.str (S "__firstlineno__") 343),(.int 67 342)⟩,⟨PyData.keyHash P (S "__static_attributes__"),(.str (S "__static_attributes__") 344),(.ref 133)⟩,⟨PyData.keyHash P (S "__dict__"),(.str (S "__dict__") 346),(.ref 136)⟩,⟨PyData.keyHash P (S "__weakref__"),(.str (S "__weakref__") 348),(.ref 137)⟩,⟨PyData.keyHash P (S "__doc__"),(.str (S "__doc__") 349),.none⟩] 4),#[]⟩)
  :: (nat_lit 135,⟨(.type "type"),none,(.cls ⟨(S "Answer"),[(.type "object")],[(.ref 135),(.type "object")],134,(S "Answer"),true,[],[(.ref 161),(.ref 187),(.ref 213),(.ref 237),(.ref 268),(.ref 294)],false,none,false⟩),#[none,none,some (.str (S "Answer") 332),some (.str (S "Answer") 340),some (.builtin "object.__new__"),some (.bool true)]⟩)
  :: (nat_lit 136,⟨(.type "getset_descriptor"),none,(.fields #[(.str (S "__dict__") 345),(.ref 135),(.builtin "function.__dict__"),(.builtin "function.__dict__#set")]),#[]⟩)
  :: (nat_lit 137,⟨(.type "getset_descriptor"),none,(.fields #[(.str (S "__weakref__") 347),(.ref 135),(.builtin "ExceptionGroup.__weakref__"),.none]),#[]⟩)
  :: (nat_lit 140,⟨(.type "tuple"),none,(.seq #[(.ref 135)] 0),#[]⟩)
  :: (nat_lit 147,⟨(.type "tuple"),none,(.seq #[] 0),#[]⟩)
  :: (nat_lit 149,⟨(.type "tuple"),none,(.seq #[(.str (S "self") 367),(.str (S "number") 368),(.str (S "turn") 369)] 0),#[]⟩)
  :: (nat_lit 150,⟨(.type "tuple"),none,(.seq #[] 0),#[]⟩)
  :: (nat_lit 152,⟨(.type "code"),none,(.fields #[(.str (S "__init__") 364),(.str (S "Number.__init__") 365),(.str (S "/claim/cut.py") 366),(.int 71 0),(.int 3 0),(.int 0 0),(.int 0 0),(.int 3 0),(.ref 147),(.bool true),(.int 181 0),(.ref 148),.none,(.ref 149),(.ref 150),(.ref 151),(.int 370 0),(.int 71 0),(.str (S "/claim/cut.py") 371)]),#[]⟩)
  :: (nat_lit 153,⟨(.type "function"),none,(.func ⟨(S "__init__"),(S "Number.__init__"),(L2.defArgs (L2.inClass (W08.top 22) 0)),.stmts (L2.defBody (L2.inClass (W08.top 22) 0)),(L2.defScope (L2.inClass (W08.top 22) 0)),3,[],.none,.none,.none,(.str (S "wheelrow.answers") 324),none,(.ref 152),.none,0⟩),#[]⟩)
  :: (nat_lit 154,⟨(.type "tuple"),none,(.seq #[] 0),#[]⟩)
  :: (nat_lit 157,⟨(.type "code"),none,(.fields #[(.str (S "shows") 373),(.str (S "Number.shows") 374),(.str (S "/claim/cut.py") 375),(.int 75 0),(.int 2 0),(.int 0 0),(.int 0 0),(.int 3 0),(.ref 154),(.bool true),(.int 181 0),(.ref 155),.none,.none,.none,(.ref 156),(.int 376 0),(.int 75 0),(.str (S "/claim/cut.py") 377)]),#[]⟩)
  :: (nat_lit 158,⟨(.type "function"),none,(.func ⟨(S "shows"),(S "Number.shows"),(L2.defArgs (L2.inClass (W08.top 22) 1)),.stmts (L2.defBody (L2.inClass (W08.top 22) 1)),(L2.defScope (L2.inClass (W08.top 22) 1)),3,[],.none,.none,.none,(.str (S "wheelrow.answers") 324),none,(.ref 157),.none,0⟩),#[]⟩)
  :: (nat_lit 159,⟨(.type "tuple"),none,(.seq #[(.str (S "number") 379),(.str (S "turn") 380)] 0),#[]⟩)
  :: (nat_lit 160,⟨(.type "dict"),none,(.dict #[⟨PyData.keyHash P (S "__module__"),(.str (S "__module__") 359),(.str (S "wheelrow.answers") 324)⟩,⟨PyData.keyHash P (S "__firstlineno__"),(.str (S "__firstlineno__") 363),(.int 69 362)⟩,⟨PyData.keyHash P (S "__init__"),(.str (S "__init__") 372),(.ref 153)⟩,⟨PyData.keyHash P (S "shows"),(.str (S "shows") 378),(.ref 158)⟩,⟨PyData.keyHash P (S "__static_attributes__"),(.str (S "__static_attributes__") 381),(.ref 159)⟩,⟨PyData.keyHash P (S "__doc__"),(.str (S "__doc__") 382),.none⟩] 2),#[]⟩)
  :: (nat_lit 161,⟨(.type "type"),none,(.cls ⟨(S "Number"),[(.ref 135)],[(.ref 161),(.ref 135),(.type "object")],160,(S "Number"),true,[],[],false,none,false⟩),#[some (.ref 140),none,some (.str (S "Number") 352),some (.str (S "Number") 360),some (.builtin "object.__new__"),some (.bool true)]⟩)
  :: (nat_lit 164,⟨(.type "tuple"),none,(.seq #[(.ref 135)] 0),#[]⟩)
  :: (nat_lit 171,⟨(.type "tuple"),none,(.seq #[] 0),#[]⟩)
  :: (nat_lit 173,⟨(.type "tuple"),none,(.seq #[(.str (S "self") 400),(.str (S "one") 401),(.str (S "other") 402)] 0),#[]⟩)
  :: (nat_lit 174,⟨(.type "tuple"),none,(.seq #[] 0),#[]⟩)
  :: (nat_lit 176,⟨(.type "code"),none,(.fields #[(.str (S "__init__") 397),(.str (S "Clash.__init__") 398),(.str (S "/claim/cut.py") 399),(.int 83 0),(.int 3 0),(.int 0 0),(.int 0 0),(.int 3 0),(.ref 171),(.bool true),(.int 181 0),(.ref 172),.none,(.ref 173),(.ref 174),(.ref 175),(.int 403 0),(.int 83 0),(.str (S "/claim/cut.py") 404)]),#[]⟩)
  :: (nat_lit 177,⟨(.type "function"),none,(.func ⟨(S "__init__"),(S "Clash.__init__"),(L2.defArgs (L2.inClass (W08.top 23) 0)),.stmts (L2.defBody (L2.inClass (W08.top 23) 0)),(L2.defScope (L2.inClass (W08.top 23) 0)),3,[],.none,.none,.none,(.str (S "wheelrow.answers") 324),none,(.ref 176),.none,0⟩),#[]⟩)
  :: (nat_lit 178,⟨(.type "tuple"),none,(.seq #[] 0),#[]⟩)
  :: (nat_lit 180,⟨(.type "tuple"),none,(.seq #[(.str (S "self") 409),(.str (S "rests") 410),(.str (S "first") 411),(.str (S "second") 412)] 0),#[]⟩)
  :: (nat_lit 181,⟨(.type "tuple"),none,(.seq #[] 0),#[]⟩)
  :: (nat_lit 183,⟨(.type "code"),none,(.fields #[(.str (S "shows") 406),(.str (S "Clash.shows") 407),(.str (S "/claim/cut.py") 408),(.int 87 0),(.int 2 0),(.int 0 0),(.int 0 0),(.int 3 0),(.ref 178),(.bool true),(.int 181 0),(.ref 179),.none,(.ref 180),(.ref 181),(.ref 182),(.int 413 0),(.int 87 0),(.str (S "/claim/cut.py") 414)]),#[]⟩)
  :: (nat_lit 184,⟨(.type "function"),none,(.func ⟨(S "shows"),(S "Clash.shows"),(L2.defArgs (L2.inClass (W08.top 23) 1)),.stmts (L2.defBody (L2.inClass (W08.top 23) 1)),(L2.defScope (L2.inClass (W08.top 23) 1)),3,[],.none,.none,.none,(.str (S "wheelrow.answers") 324),none,(.ref 183),.none,0⟩),#[]⟩)
  :: (nat_lit 185,⟨(.type "tuple"),none,(.seq #[(.str (S "one") 416),(.str (S "other") 417)] 0),#[]⟩)
  :: (nat_lit 186,⟨(.type "dict"),none,(.dict #[⟨PyData.keyHash P (S "__module__"),(.str (S "__module__") 392),(.str (S "wheelrow.answers") 324)⟩,⟨PyData.keyHash P (S "__firstlineno__"),(.str (S "__firstlineno__") 396),(.int 81 395)⟩,⟨PyData.keyHash P (S "__init__"),(.str (S "__init__") 405),(.ref 177)⟩,⟨PyData.keyHash P (S "shows"),(.str (S "shows") 415),(.ref 184)⟩,⟨PyData.keyHash P (S "__static_attributes__"),(.str (S "__static_attributes__") 418),(.ref 185)⟩,⟨PyData.keyHash P (S "__doc__"),(.str (S "__doc__") 419),.none⟩] 2),#[]⟩)
  :: (nat_lit 187,⟨(.type "type"),none,(.cls ⟨(S "Clash"),[(.ref 135)],[(.ref 187),(.ref 135),(.type "object")],186,(S "Clash"),true,[],[],false,none,false⟩),#[some (.ref 164),none,some (.str (S "Clash") 385),some (.str (S "Clash") 393),some (.builtin "object.__new__"),some (.bool true)]⟩)
  :: (nat_lit 190,⟨(.type "tuple"),none,(.seq #[(.ref 135)] 0),#[]⟩)
  :: (nat_lit 197,⟨(.type "tuple"),none,(.seq #[] 0),#[]⟩)
  :: (nat_lit 199,⟨(.type "tuple"),none,(.seq #[(.str (S "self") 437),(.str (S "part") 438),(.str (S "times") 439)] 0),#[]⟩)
  :: (nat_lit 200,⟨(.type "tuple"),none,(.seq #[] 0),#[]⟩)
  :: (nat_lit 202,⟨(.type "code"),none,(.fields #[(.str (S "__init__") 434),(.str (S "Common.__init__") 435),(.str (S "/claim/cut.py") 436),(.int 95 0),(.int 3 0),(.int 0 0),(.int 0 0),(.int 3 0),(.ref 197),(.bool true),(.int 181 0),(.ref 198),.none,(.ref 199),(.ref 200),(.ref 201),(.int 440 0),(.int 95 0),(.str (S "/claim/cut.py") 441)]),#[]⟩)
  :: (nat_lit 203,⟨(.type "function"),none,(.func ⟨(S "__init__"),(S "Common.__init__"),(L2.defArgs (L2.inClass (W08.top 24) 0)),.stmts (L2.defBody (L2.inClass (W08.top 24) 0)),(L2.defScope (L2.inClass (W08.top 24) 0)),3,[],.none,.none,.none,(.str (S "wheelrow.answers") 324),none,(.ref 202),.none,0⟩),#[]⟩)
  :: (nat_lit 204,⟨(.type "tuple"),none,(.seq #[] 0),#[]⟩)
  :: (nat_lit 206,⟨(.type "tuple"),none,(.seq #[(.str (S "self") 446),(.str (S "numbers") 447)] 0),#[]⟩)
  :: (nat_lit 207,⟨(.type "tuple"),none,(.seq #[] 0),#[]⟩)
  :: (nat_lit 209,⟨(.type "code"),none,(.fields #[(.str (S "shows") 443),(.str (S "Common.shows") 444),(.str (S "/claim/cut.py") 445),(.int 99 0),(.int 2 0),(.int 0 0),(.int 0 0),(.int 3 0),(.ref 204),(.bool true),(.int 181 0),(.ref 205),.none,(.ref 206),(.ref 207),(.ref 208),(.int 448 0),(.int 99 0),(.str (S "/claim/cut.py") 449)]),#[]⟩)
  :: (nat_lit 210,⟨(.type "function"),none,(.func ⟨(S "shows"),(S "Common.shows"),(L2.defArgs (L2.inClass (W08.top 24) 1)),.stmts (L2.defBody (L2.inClass (W08.top 24) 1)),(L2.defScope (L2.inClass (W08.top 24) 1)),3,[],.none,.none,.none,(.str (S "wheelrow.answers") 324),none,(.ref 209),.none,0⟩),#[]⟩)
  :: (nat_lit 211,⟨(.type "tuple"),none,(.seq #[(.str (S "part") 451),(.str (S "times") 452)] 0),#[]⟩)
  :: (nat_lit 212,⟨(.type "dict"),none,(.dict #[⟨PyData.keyHash P (S "__module__"),(.str (S "__module__") 429),(.str (S "wheelrow.answers") 324)⟩,⟨PyData.keyHash P (S "__firstlineno__"),(.str (S "__firstlineno__") 433),(.int 93 432)⟩,⟨PyData.keyHash P (S "__init__"),(.str (S "__init__") 442),(.ref 203)⟩,⟨PyData.keyHash P (S "shows"),(.str (S "shows") 450),(.ref 210)⟩,⟨PyData.keyHash P (S "__static_attributes__"),(.str (S "__static_attributes__") 453),(.ref 211)⟩,⟨PyData.keyHash P (S "__doc__"),(.str (S "__doc__") 454),.none⟩] 2),#[]⟩)
  :: (nat_lit 213,⟨(.type "type"),none,(.cls ⟨(S "Common"),[(.ref 135)],[(.ref 213),(.ref 135),(.type "object")],212,(S "Common"),true,[],[],false,none,false⟩),#[some (.ref 190),none,some (.str (S "Common") 422),some (.str (S "Common") 430),some (.builtin "object.__new__"),some (.bool true)]⟩)
  :: (nat_lit 216,⟨(.type "tuple"),none,(.seq #[(.ref 135)] 0),#[]⟩)
  :: (nat_lit 223,⟨(.type "tuple"),none,(.seq #[] 0),#[]⟩)
  :: (nat_lit 225,⟨(.type "tuple"),none,(.seq #[(.str (S "self") 472),(.str (S "times") 473)] 0),#[]⟩)
  :: (nat_lit 226,⟨(.type "tuple"),none,(.seq #[] 0),#[]⟩)
  :: (nat_lit 228,⟨(.type "code"),none,(.fields #[(.str (S "__init__") 469),(.str (S "Times.__init__") 470),(.str (S "/claim/cut.py") 471),(.int 105 0),(.int 2 0),(.int 0 0),(.int 0 0),(.int 3 0),(.ref 223),(.bool true),(.int 181 0),(.ref 224),.none,(.ref 225),(.ref 226),(.ref 227),(.int 474 0),(.int 105 0),(.str (S "/claim/cut.py") 475)]),#[]⟩)
  :: (nat_lit 229,⟨(.type "function"),none,(.func ⟨(S "__init__"),(S "Times.__init__"),(L2.defArgs (L2.inClass (W08.top 25) 0)),.stmts (L2.defBody (L2.inClass (W08.top 25) 0)),(L2.defScope (L2.inClass (W08.top 25) 0)),3,[],.none,.none,.none,(.str (S "wheelrow.answers") 324),none,(.ref 228),.none,0⟩),#[]⟩)
  :: (nat_lit 230,⟨(.type "tuple"),none,(.seq #[] 0),#[]⟩)
  :: (nat_lit 233,⟨(.type "code"),none,(.fields #[(.str (S "shows") 477),(.str (S "Times.shows") 478),(.str (S "/claim/cut.py") 479),(.int 108 0),(.int 4 0),(.int 0 0),(.int 0 0),(.int 3 0),(.ref 230),(.bool true),(.int 181 0),(.ref 231),.none,.none,.none,(.ref 232),(.int 480 0),(.int 108 0),(.str (S "/claim/cut.py") 481)]),#[]⟩)
  :: (nat_lit 234,⟨(.type "function"),none,(.func ⟨(S "shows"),(S "Times.shows"),(L2.defArgs (L2.inClass (W08.top 25) 1)),.stmts (L2.defBody (L2.inClass (W08.top 25) 1)),(L2.defScope (L2.inClass (W08.top 25) 1)),3,[],.none,.none,.none,(.str (S "wheelrow.answers") 324),none,(.ref 233),.none,0⟩),#[]⟩)
  :: (nat_lit 235,⟨(.type "tuple"),none,(.seq #[(.str (S "times") 483)] 0),#[]⟩)
  :: (nat_lit 236,⟨(.type "dict"),none,(.dict #[⟨PyData.keyHash P (S "__module__"),(.str (S "__module__") 464),(.str (S "wheelrow.answers") 324)⟩,⟨PyData.keyHash P (S "__firstlineno__"),(.str (S "__firstlineno__") 468),(.int 103 467)⟩,⟨PyData.keyHash P (S "__init__"),(.str (S "__init__") 476),(.ref 229)⟩,⟨PyData.keyHash P (S "shows"),(.str (S "shows") 482),(.ref 234)⟩,⟨PyData.keyHash P (S "__static_attributes__"),(.str (S "__static_attributes__") 484),(.ref 235)⟩,⟨PyData.keyHash P (S "__doc__"),(.str (S "__doc__") 485),.none⟩] 2),#[]⟩)
  :: (nat_lit 237,⟨(.type "type"),none,(.cls ⟨(S "Times"),[(.ref 135)],[(.ref 237),(.ref 135),(.type "object")],236,(S "Times"),true,[],[],false,none,false⟩),#[some (.ref 216),none,some (.str (S "Times") 457),some (.str (S "Times") 465),some (.builtin "object.__new__"),some (.bool true)]⟩)
  :: (nat_lit 240,⟨(.type "tuple"),none,(.seq #[(.ref 135)] 0),#[]⟩)
  :: (nat_lit 247,⟨(.type "tuple"),none,(.seq #[] 0),#[]⟩)
  :: (nat_lit 249,⟨(.type "tuple"),none,(.seq #[(.str (S "self") 503),(.str (S "part") 504)] 0),#[]⟩)
  :: (nat_lit 250,⟨(.type "tuple"),none,(.seq #[] 0),#[]⟩)
  :: (nat_lit 252,⟨(.type "code"),none,(.fields #[(.str (S "__init__") 500),(.str (S "Bar.__init__") 501),(.str (S "/claim/cut.py") 502),(.int 116 0),(.int 2 0),(.int 0 0),(.int 0 0),(.int 3 0),(.ref 247),(.bool true),(.int 181 0),(.ref 248),.none,(.ref 249),(.ref 250),(.ref 251),(.int 505 0),(.int 116 0),(.str (S "/claim/cut.py") 506)]),#[]⟩)
  :: (nat_lit 253,⟨(.type "function"),none,(.func ⟨(S "__init__"),(S "Bar.__init__"),(L2.defArgs (L2.inClass (W08.top 26) 0)),.stmts (L2.defBody (L2.inClass (W08.top 26) 0)),(L2.defScope (L2.inClass (W08.top 26) 0)),3,[],.none,.none,.none,(.str (S "wheelrow.answers") 324),none,(.ref 252),.none,0⟩),#[]⟩)
  :: (nat_lit 254,⟨(.type "tuple"),none,(.seq #[] 0),#[]⟩)
  :: (nat_lit 257,⟨(.type "code"),none,(.fields #[(.str (S "shows") 508),(.str (S "Bar.shows") 509),(.str (S "/claim/cut.py") 510),(.int 119 0),(.int 4 0),(.int 0 0),(.int 0 0),(.int 3 0),(.ref 254),(.bool true),(.int 181 0),(.ref 255),.none,.none,.none,(.ref 256),(.int 511 0),(.int 119 0),(.str (S "/claim/cut.py") 512)]),#[]⟩)
  :: (nat_lit 258,⟨(.type "function"),none,(.func ⟨(S "shows"),(S "Bar.shows"),(L2.defArgs (L2.inClass (W08.top 26) 1)),.stmts (L2.defBody (L2.inClass (W08.top 26) 1)),(L2.defScope (L2.inClass (W08.top 26) 1)),3,[],.none,.none,.none,(.str (S "wheelrow.answers") 324),none,(.ref 257),.none,0⟩),#[]⟩)
  :: (nat_lit 259,⟨(.type "tuple"),none,(.seq #[] 0),#[]⟩)
  :: (nat_lit 261,⟨(.type "tuple"),none,(.seq #[(.str (S "self") 517),(.str (S "number") 518),(.str (S "turn") 519)] 0),#[]⟩)
  :: (nat_lit 262,⟨(.type "tuple"),none,(.seq #[] 0),#[]⟩)
  :: (nat_lit 264,⟨(.type "code"),none,(.fields #[(.str (S "bars") 514),(.str (S "Bar.bars") 515),(.str (S "/claim/cut.py") 516),(.int 124 0),(.int 3 0),(.int 0 0),(.int 0 0),(.int 3 0),(.ref 259),(.bool true),(.int 181 0),(.ref 260),.none,(.ref 261),(.ref 262),(.ref 263),(.int 520 0),(.int 124 0),(.str (S "/claim/cut.py") 521)]),#[]⟩)
  :: (nat_lit 265,⟨(.type "function"),none,(.func ⟨(S "bars"),(S "Bar.bars"),(L2.defArgs (L2.inClass (W08.top 26) 2)),.stmts (L2.defBody (L2.inClass (W08.top 26) 2)),(L2.defScope (L2.inClass (W08.top 26) 2)),3,[],.none,.none,.none,(.str (S "wheelrow.answers") 324),none,(.ref 264),.none,0⟩),#[]⟩)
  :: (nat_lit 266,⟨(.type "tuple"),none,(.seq #[(.str (S "part") 523)] 0),#[]⟩)
  :: (nat_lit 267,⟨(.type "dict"),none,(.dict #[⟨PyData.keyHash P (S "__module__"),(.str (S "__module__") 495),(.str (S "wheelrow.answers") 324)⟩,⟨PyData.keyHash P (S "__firstlineno__"),(.str (S "__firstlineno__") 499),(.int 114 498)⟩,⟨PyData.keyHash P (S "__init__"),(.str (S "__init__") 507),(.ref 253)⟩,⟨PyData.keyHash P (S "shows"),(.str (S "shows") 513),(.ref 258)⟩,⟨PyData.keyHash P (S "bars"),(.str (S "bars") 522),(.ref 265)⟩,⟨PyData.keyHash P (S "__static_attributes__"),(.str (S "__static_attributes__") 524),(.ref 266)⟩,⟨PyData.keyHash P (S "__doc__"),(.str (S "__doc__") 525),.none⟩] 2),#[]⟩)
  :: (nat_lit 268,⟨(.type "type"),none,(.cls ⟨(S "Bar"),[(.ref 135)],[(.ref 268),(.ref 135),(.type "object")],267,(S "Bar"),true,[],[],false,none,false⟩),#[some (.ref 240),none,some (.str (S "Bar") 488),some (.str (S "Bar") 496),some (.builtin "object.__new__"),some (.bool true)]⟩)
  :: (nat_lit 271,⟨(.type "tuple"),none,(.seq #[(.ref 135)] 0),#[]⟩)
  :: (nat_lit 278,⟨(.type "tuple"),none,(.seq #[] 0),#[]⟩)
  :: (nat_lit 280,⟨(.type "tuple"),none,(.seq #[(.str (S "self") 543),(.str (S "rest") 544)] 0),#[]⟩)
  :: (nat_lit 281,⟨(.type "tuple"),none,(.seq #[] 0),#[]⟩)
  :: (nat_lit 283,⟨(.type "code"),none,(.fields #[(.str (S "__init__") 540),(.str (S "Back.__init__") 541),(.str (S "/claim/cut.py") 542),(.int 128 0),(.int 2 0),(.int 0 0),(.int 0 0),(.int 3 0),(.ref 278),(.bool true),(.int 181 0),(.ref 279),.none,(.ref 280),(.ref 281),(.ref 282),(.int 545 0),(.int 128 0),(.str (S "/claim/cut.py") 546)]),#[]⟩)
  :: (nat_lit 284,⟨(.type "function"),none,(.func ⟨(S "__init__"),(S "Back.__init__"),(L2.defArgs (L2.inClass (W08.top 27) 0)),.stmts (L2.defBody (L2.inClass (W08.top 27) 0)),(L2.defScope (L2.inClass (W08.top 27) 0)),3,[],.none,.none,.none,(.str (S "wheelrow.answers") 324),none,(.ref 283),.none,0⟩),#[]⟩)
  :: (nat_lit 285,⟨(.type "tuple"),none,(.seq #[] 0),#[]⟩)
  :: (nat_lit 287,⟨(.type "tuple"),none,(.seq #[(.str (S "self") 551),(.str (S "number") 552),(.str (S "turn") 553)] 0),#[]⟩)
  :: (nat_lit 288,⟨(.type "tuple"),none,(.seq #[] 0),#[]⟩)
  :: (nat_lit 290,⟨(.type "code"),none,(.fields #[(.str (S "shows") 548),(.str (S "Back.shows") 549),(.str (S "/claim/cut.py") 550),(.int 131 0),(.int 3 0),(.int 0 0),(.int 0 0),(.int 3 0),(.ref 285),(.bool true),(.int 181 0),(.ref 286),.none,(.ref 287),(.ref 288),(.ref 289),(.int 554 0),(.int 131 0),(.str (S "/claim/cut.py") 555)]),#[]⟩)
  :: (nat_lit 291,⟨(.type "function"),none,(.func ⟨(S "shows"),(S "Back.shows"),(L2.defArgs (L2.inClass (W08.top 27) 1)),.stmts (L2.defBody (L2.inClass (W08.top 27) 1)),(L2.defScope (L2.inClass (W08.top 27) 1)),3,[],.none,.none,.none,(.str (S "wheelrow.answers") 324),none,(.ref 290),.none,0⟩),#[]⟩)
  :: (nat_lit 292,⟨(.type "tuple"),none,(.seq #[(.str (S "rest") 557)] 0),#[]⟩)
  :: (nat_lit 293,⟨(.type "dict"),none,(.dict #[⟨PyData.keyHash P (S "__module__"),(.str (S "__module__") 535),(.str (S "wheelrow.answers") 324)⟩,⟨PyData.keyHash P (S "__firstlineno__"),(.str (S "__firstlineno__") 539),(.int 126 538)⟩,⟨PyData.keyHash P (S "__init__"),(.str (S "__init__") 547),(.ref 284)⟩,⟨PyData.keyHash P (S "shows"),(.str (S "shows") 556),(.ref 291)⟩,⟨PyData.keyHash P (S "__static_attributes__"),(.str (S "__static_attributes__") 558),(.ref 292)⟩,⟨PyData.keyHash P (S "__doc__"),(.str (S "__doc__") 559),.none⟩] 2),#[]⟩)
  :: (nat_lit 294,⟨(.type "type"),none,(.cls ⟨(S "Back"),[(.ref 135)],[(.ref 294),(.ref 135),(.type "object")],293,(S "Back"),true,[],[],false,none,false⟩),#[some (.ref 271),none,some (.str (S "Back") 528),some (.str (S "Back") 536),some (.builtin "object.__new__"),some (.bool true)]⟩)
  :: (nat_lit 297,⟨(.type "tuple"),none,(.seq #[(.type "ValueError")] 0),#[]⟩)
  :: (nat_lit 304,⟨(.type "tuple"),none,(.seq #[] 0),#[]⟩)
  :: (nat_lit 305,⟨(.type "dict"),none,(.dict #[⟨PyData.keyHash P (S "__module__"),(.str (S "__module__") 571),(.str (S "wheelrow.errors") 562)⟩,⟨PyData.keyHash P (S "__firstlineno__"),(.str (S "__firstlineno__") 575),(.int 134 574)⟩,⟨PyData.keyHash P (S "__static_attributes__"),(.str (S "__static_attributes__") 576),(.ref 304)⟩,⟨PyData.keyHash P (S "__weakref__"),(.str (S "__weakref__") 578),(.ref 307)⟩,⟨PyData.keyHash P (S "__doc__"),(.str (S "__doc__") 579),.none⟩] 3),#[]⟩)
  :: (nat_lit 306,⟨(.type "type"),none,(.cls ⟨(S "RestError"),[(.type "ValueError")],[(.ref 306),(.type "ValueError"),(.type "Exception"),(.type "BaseException"),(.type "object")],305,(S "RestError"),true,[],[(.ref 319),(.ref 331),(.ref 343),(.ref 355),(.ref 367),(.ref 379)],false,none,false⟩),#[some (.ref 297),none,some (.str (S "RestError") 564),some (.str (S "RestError") 572),some (.builtin "ValueError.__new__"),some (.bool true)]⟩)
  :: (nat_lit 307,⟨(.type "getset_descriptor"),none,(.fields #[(.str (S "__weakref__") 577),(.ref 306),(.builtin "ExceptionGroup.__weakref__"),.none]),#[]⟩)
  :: (nat_lit 310,⟨(.type "tuple"),none,(.seq #[(.ref 306)] 0),#[]⟩)
  :: (nat_lit 317,⟨(.type "tuple"),none,(.seq #[] 0),#[]⟩)
  :: (nat_lit 318,⟨(.type "dict"),none,(.dict #[⟨PyData.keyHash P (S "__module__"),(.str (S "__module__") 589),(.str (S "wheelrow.errors") 562)⟩,⟨PyData.keyHash P (S "__firstlineno__"),(.str (S "__firstlineno__") 593),(.int 136 592)⟩,⟨PyData.keyHash P (S "__static_attributes__"),(.str (S "__static_attributes__") 594),(.ref 317)⟩,⟨PyData.keyHash P (S "__doc__"),(.str (S "__doc__") 595),.none⟩] 2),#[]⟩)
  :: (nat_lit 319,⟨(.type "type"),none,(.cls ⟨(S "BadRests"),[(.ref 306)],[(.ref 319),(.ref 306),(.type "ValueError"),(.type "Exception"),(.type "BaseException"),(.type "object")],318,(S "BadRests"),true,[],[],false,none,false⟩),#[some (.ref 310),none,some (.str (S "BadRests") 582),some (.str (S "BadRests") 590),some (.builtin "ValueError.__new__"),some (.bool true)]⟩)
  :: (nat_lit 322,⟨(.type "tuple"),none,(.seq #[(.ref 306)] 0),#[]⟩)
  :: (nat_lit 329,⟨(.type "tuple"),none,(.seq #[] 0),#[]⟩)
  :: (nat_lit 330,⟨(.type "dict"),none,(.dict #[⟨PyData.keyHash P (S "__module__"),(.str (S "__module__") 605),(.str (S "wheelrow.errors") 562)⟩,⟨PyData.keyHash P (S "__firstlineno__"),(.str (S "__firstlineno__") 609),(.int 138 608)⟩,⟨PyData.keyHash P (S "__static_attributes__"),(.str (S "__static_attributes__") 610),(.ref 329)⟩,⟨PyData.keyHash P (S "__doc__"),(.str (S "__doc__") 611),.none⟩] 2),#[]⟩)
  :: (nat_lit 331,⟨(.type "type"),none,(.cls ⟨(S "BadNumbers"),[(.ref 306)],[(.ref 331),(.ref 306),(.type "ValueError"),(.type "Exception"),(.type "BaseException"),(.type "object")],330,(S "BadNumbers"),true,[],[],false,none,false⟩),#[some (.ref 322),none,some (.str (S "BadNumbers") 598),some (.str (S "BadNumbers") 606),some (.builtin "ValueError.__new__"),some (.bool true)]⟩)
  :: (nat_lit 334,⟨(.type "tuple"),none,(.seq #[(.ref 306)] 0),#[]⟩)
  :: (nat_lit 341,⟨(.type "tuple"),none,(.seq #[] 0),#[]⟩)
  :: (nat_lit 342,⟨(.type "dict"),none,(.dict #[⟨PyData.keyHash P (S "__module__"),(.str (S "__module__") 621),(.str (S "wheelrow.errors") 562)⟩,⟨PyData.keyHash P (S "__firstlineno__"),(.str (S "__firstlineno__") 625),(.int 140 624)⟩,⟨PyData.keyHash P (S "__static_attributes__"),(.str (S "__static_attributes__") 626),(.ref 341)⟩,⟨PyData.keyHash P (S "__doc__"),(.str (S "__doc__") 627),.none⟩] 2),#[]⟩)
  :: (nat_lit 343,⟨(.type "type"),none,(.cls ⟨(S "BadRound"),[(.ref 306)],[(.ref 343),(.ref 306),(.type "ValueError"),(.type "Exception"),(.type "BaseException"),(.type "object")],342,(S "BadRound"),true,[],[],false,none,false⟩),#[some (.ref 334),none,some (.str (S "BadRound") 614),some (.str (S "BadRound") 622),some (.builtin "ValueError.__new__"),some (.bool true)]⟩)
  :: (nat_lit 346,⟨(.type "tuple"),none,(.seq #[(.ref 306)] 0),#[]⟩)
  :: (nat_lit 353,⟨(.type "tuple"),none,(.seq #[] 0),#[]⟩)
  :: (nat_lit 354,⟨(.type "dict"),none,(.dict #[⟨PyData.keyHash P (S "__module__"),(.str (S "__module__") 637),(.str (S "wheelrow.errors") 562)⟩,⟨PyData.keyHash P (S "__firstlineno__"),(.str (S "__firstlineno__") 641),(.int 142 640)⟩,⟨PyData.keyHash P (S "__static_attributes__"),(.str (S "__static_attributes__") 642),(.ref 353)⟩,⟨PyData.keyHash P (S "__doc__"),(.str (S "__doc__") 643),.none⟩] 2),#[]⟩)
  :: (nat_lit 355,⟨(.type "type"),none,(.cls ⟨(S "BadRest"),[(.ref 306)],[(.ref 355),(.ref 306),(.type "ValueError"),(.type "Exception"),(.type "BaseException"),(.type "object")],354,(S "BadRest"),true,[],[],false,none,false⟩),#[some (.ref 346),none,some (.str (S "BadRest") 630),some (.str (S "BadRest") 638),some (.builtin "ValueError.__new__"),some (.bool true)]⟩)
  :: (nat_lit 358,⟨(.type "tuple"),none,(.seq #[(.ref 306)] 0),#[]⟩)
  :: (nat_lit 365,⟨(.type "tuple"),none,(.seq #[] 0),#[]⟩)
  :: (nat_lit 366,⟨(.type "dict"),none,(.dict #[⟨PyData.keyHash P (S "__module__"),(.str (S "__module__") 653),(.str (S "wheelrow.errors") 562)⟩,⟨PyData.keyHash P (S "__firstlineno__"),(.str (S "__firstlineno__") 657),(.int 144 656)⟩,⟨PyData.keyHash P (S "__static_attributes__"),(.str (S "__static_attributes__") 658),(.ref 365)⟩,⟨PyData.keyHash P (S "__doc__"),(.str (S "__doc__") 659),.none⟩] 2),#[]⟩)
  :: (nat_lit 367,⟨(.type "type"),none,(.cls ⟨(S "BadCount"),[(.ref 306)],[(.ref 367),(.ref 306),(.type "ValueError"),(.type "Exception"),(.type "BaseException"),(.type "object")],366,(S "BadCount"),true,[],[],false,none,false⟩),#[some (.ref 358),none,some (.str (S "BadCount") 646),some (.str (S "BadCount") 654),some (.builtin "ValueError.__new__"),some (.bool true)]⟩)
  :: (nat_lit 370,⟨(.type "tuple"),none,(.seq #[(.ref 306)] 0),#[]⟩)
  :: (nat_lit 377,⟨(.type "tuple"),none,(.seq #[] 0),#[]⟩)
  :: (nat_lit 378,⟨(.type "dict"),none,(.dict #[⟨PyData.keyHash P (S "__module__"),(.str (S "__module__") 669),(.str (S "wheelrow.errors") 562)⟩,⟨PyData.keyHash P (S "__firstlineno__"),(.str (S "__firstlineno__") 673),(.int 146 672)⟩,⟨PyData.keyHash P (S "__static_attributes__"),(.str (S "__static_attributes__") 674),(.ref 377)⟩,⟨PyData.keyHash P (S "__doc__"),(.str (S "__doc__") 675),.none⟩] 2),#[]⟩)
  :: (nat_lit 379,⟨(.type "type"),none,(.cls ⟨(S "BadText"),[(.ref 306)],[(.ref 379),(.ref 306),(.type "ValueError"),(.type "Exception"),(.type "BaseException"),(.type "object")],378,(S "BadText"),true,[],[],false,none,false⟩),#[some (.ref 370),none,some (.str (S "BadText") 662),some (.str (S "BadText") 670),some (.builtin "ValueError.__new__"),some (.bool true)]⟩)
  :: (nat_lit 382,⟨(.type "tuple"),none,(.seq #[] 0),#[]⟩)
  :: (nat_lit 384,⟨(.type "tuple"),none,(.seq #[(.str (S "numbers") 683)] 0),#[]⟩)
  :: (nat_lit 385,⟨(.type "tuple"),none,(.seq #[] 0),#[]⟩)
  :: (nat_lit 387,⟨(.type "code"),none,(.fields #[(.str (S "common") 680),(.str (S "common") 681),(.str (S "/claim/cut.py") 682),(.int 149 0),(.int 1 0),(.int 0 0),(.int 0 0),(.int 3 0),(.ref 382),(.bool true),(.int 181 0),(.ref 383),.none,(.ref 384),(.ref 385),(.ref 386),(.int 684 0),(.int 149 0),(.str (S "/claim/cut.py") 685)]),#[]⟩)
  :: (nat_lit 388,⟨(.type "function"),none,(.func ⟨(S "common"),(S "common"),(L2.defArgs (W08.top 37)),.stmts (L2.defBody (W08.top 37)),(L2.defScope (W08.top 37)),3,[],.none,.none,.none,(.str (S "wheelrow.parts") 678),none,(.ref 387),.none,0⟩),#[]⟩)
  :: (nat_lit 389,⟨(.type "tuple"),none,(.seq #[] 0),#[]⟩)
  :: (nat_lit 391,⟨(.type "tuple"),none,(.seq #[(.str (S "numbers") 690),(.str (S "steps") 691),(.str (S "part") 692),(.str (S "number") 693),(.str (S "step") 694)] 0),#[]⟩)
  :: (nat_lit 392,⟨(.type "tuple"),none,(.seq #[] 0),#[]⟩)
  :: (nat_lit 394,⟨(.type "code"),none,(.fields #[(.str (S "common_of") 687),(.str (S "common_of") 688),(.str (S "/claim/cut.py") 689),(.int 153 0),(.int 1 0),(.int 0 0),(.int 0 0),(.int 3 0),(.ref 389),(.bool true),(.int 181 0),(.ref 390),.none,(.ref 391),(.ref 392),(.ref 393),(.int 695 0),(.int 153 0),(.str (S "/claim/cut.py") 696)]),#[]⟩)
  :: (nat_lit 395,⟨(.type "function"),none,(.func ⟨(S "common_of"),(S "common_of"),(L2.defArgs (W08.top 38)),.stmts (L2.defBody (W08.top 38)),(L2.defScope (W08.top 38)),3,[],.none,.none,.none,(.str (S "wheelrow.parts") 678),none,(.ref 394),.none,0⟩),#[]⟩)
  :: (nat_lit 396,⟨(.type "tuple"),none,(.seq #[] 0),#[]⟩)
  :: (nat_lit 398,⟨(.type "tuple"),none,(.seq #[(.str (S "steps") 701),(.str (S "times") 702),(.str (S "due") 703),(.str (S "step") 704)] 0),#[]⟩)
  :: (nat_lit 399,⟨(.type "tuple"),none,(.seq #[] 0),#[]⟩)
  :: (nat_lit 401,⟨(.type "code"),none,(.fields #[(.str (S "times_of") 698),(.str (S "times_of") 699),(.str (S "/claim/cut.py") 700),(.int 161 0),(.int 1 0),(.int 0 0),(.int 0 0),(.int 3 0),(.ref 396),(.bool true),(.int 181 0),(.ref 397),.none,(.ref 398),(.ref 399),(.ref 400),(.int 705 0),(.int 161 0),(.str (S "/claim/cut.py") 706)]),#[]⟩)
  :: (nat_lit 402,⟨(.type "function"),none,(.func ⟨(S "times_of"),(S "times_of"),(L2.defArgs (W08.top 39)),.stmts (L2.defBody (W08.top 39)),(L2.defScope (W08.top 39)),3,[],.none,.none,.none,(.str (S "wheelrow.parts") 678),none,(.ref 401),.none,0⟩),#[]⟩)
  :: (nat_lit 403,⟨(.type "tuple"),none,(.seq #[] 0),#[]⟩)
  :: (nat_lit 406,⟨(.type "code"),none,(.fields #[(.str (S "come") 708),(.str (S "come") 709),(.str (S "/claim/cut.py") 710),(.int 168 0),(.int 3 0),(.int 0 0),(.int 0 0),(.int 3 0),(.ref 403),(.bool true),(.int 181 0),(.ref 404),.none,.none,.none,(.ref 405),(.int 711 0),(.int 168 0),(.str (S "/claim/cut.py") 712)]),#[]⟩)
  :: (nat_lit 407,⟨(.type "function"),none,(.func ⟨(S "come"),(S "come"),(L2.defArgs (W08.top 40)),.stmts (L2.defBody (W08.top 40)),(L2.defScope (W08.top 40)),3,[],.none,.none,.none,(.str (S "wheelrow.parts") 678),none,(.ref 406),.none,0⟩),#[]⟩)
  :: (nat_lit 408,⟨(.type "tuple"),none,(.seq #[] 0),#[]⟩)
  :: (nat_lit 410,⟨(.type "tuple"),none,(.seq #[(.str (S "number") 717),(.str (S "turn") 718),(.str (S "part") 719)] 0),#[]⟩)
  :: (nat_lit 411,⟨(.type "tuple"),none,(.seq #[] 0),#[]⟩)
  :: (nat_lit 413,⟨(.type "code"),none,(.fields #[(.str (S "back") 714),(.str (S "back") 715),(.str (S "/claim/cut.py") 716),(.int 180 0),(.int 2 0),(.int 0 0),(.int 0 0),(.int 3 0),(.ref 408),(.bool true),(.int 181 0),(.ref 409),.none,(.ref 410),(.ref 411),(.ref 412),(.int 720 0),(.int 180 0),(.str (S "/claim/cut.py") 721)]),#[]⟩)
  :: (nat_lit 414,⟨(.type "function"),none,(.func ⟨(S "back"),(S "back"),(L2.defArgs (W08.top 41)),.stmts (L2.defBody (W08.top 41)),(L2.defScope (W08.top 41)),3,[],.none,.none,.none,(.str (S "wheelrow.parts") 678),none,(.ref 413),.none,0⟩),#[]⟩)
  :: (nat_lit 415,⟨(.type "tuple"),none,(.seq #[] 0),#[]⟩)
  :: (nat_lit 417,⟨(.type "tuple"),none,(.seq #[(.str (S "rests") 728),(.str (S "so_far") 729),(.str (S "place") 730),(.str (S "pair") 731),(.str (S "following") 732)] 0),#[]⟩)
  :: (nat_lit 418,⟨(.type "tuple"),none,(.seq #[] 0),#[]⟩)
  :: (nat_lit 420,⟨(.type "code"),none,(.fields #[(.str (S "told") 725),(.str (S "told") 726),(.str (S "/claim/cut.py") 727),(.int 190 0),(.int 1 0),(.int 0 0),(.int 0 0),(.int 3 0),(.ref 415),(.bool true),(.int 181 0),(.ref 416),.none,(.ref 417),(.ref 418),(.ref 419),(.int 733 0),(.int 190 0),(.str (S "/claim/cut.py") 734)]),#[]⟩)
  :: (nat_lit 421,⟨(.type "function"),none,(.func ⟨(S "told"),(S "told"),(L2.defArgs (W08.top 43)),.stmts (L2.defBody (W08.top 43)),(L2.defScope (W08.top 43)),3,[],.none,.none,.none,(.str (S "wheelrow.rests") 723),none,(.ref 420),.none,0⟩),#[]⟩)
  :: (nat_lit 422,⟨(.type "tuple"),none,(.seq #[] 0),#[]⟩)
  :: (nat_lit 424,⟨(.type "tuple"),none,(.seq #[(.str (S "so_far") 739),(.str (S "rest") 740),(.str (S "turn") 741),(.str (S "made") 742),(.str (S "part") 743),(.str (S "missing") 744),(.str (S "fresh") 745),(.str (S "steps") 746)] 0),#[]⟩)
  :: (nat_lit 425,⟨(.type "tuple"),none,(.seq #[] 0),#[]⟩)
  :: (nat_lit 427,⟨(.type "code"),none,(.fields #[(.str (S "joined") 736),(.str (S "joined") 737),(.str (S "/claim/cut.py") 738),(.int 200 0),(.int 3 0),(.int 0 0),(.int 0 0),(.int 3 0),(.ref 422),(.bool true),(.int 181 0),(.ref 423),.none,(.ref 424),(.ref 425),(.ref 426),(.int 747 0),(.int 200 0),(.str (S "/claim/cut.py") 748)]),#[]⟩)
  :: (nat_lit 428,⟨(.type "function"),none,(.func ⟨(S "joined"),(S "joined"),(L2.defArgs (W08.top 44)),.stmts (L2.defBody (W08.top 44)),(L2.defScope (W08.top 44)),3,[],.none,.none,.none,(.str (S "wheelrow.rests") 723),none,(.ref 427),.none,0⟩),#[]⟩)
  :: (nat_lit 429,⟨(.type "tuple"),none,(.seq #[] 0),#[]⟩)
  :: (nat_lit 432,⟨(.type "code"),none,(.fields #[(.str (S "clash_with_earlier") 750),(.str (S "clash_with_earlier") 751),(.str (S "/claim/cut.py") 752),(.int 209 0),(.int 2 0),(.int 0 0),(.int 0 0),(.int 3 0),(.ref 429),(.bool true),(.int 181 0),(.ref 430),.none,.none,.none,(.ref 431),(.int 753 0),(.int 209 0),(.str (S "/claim/cut.py") 754)]),#[]⟩)
  :: (nat_lit 433,⟨(.type "function"),none,(.func ⟨(S "clash_with_earlier"),(S "clash_with_earlier"),(L2.defArgs (W08.top 45)),.stmts (L2.defBody (W08.top 45)),(L2.defScope (W08.top 45)),3,[],.none,.none,.none,(.str (S "wheelrow.rests") 723),none,(.ref 432),.none,0⟩),#[]⟩)
  :: (nat_lit 434,⟨(.type "tuple"),none,(.seq #[] 0),#[]⟩)
  :: (nat_lit 437,⟨(.type "code"),none,(.fields #[(.str (S "left") 756),(.str (S "left") 757),(.str (S "/claim/cut.py") 758),(.int 212 0),(.int 2 0),(.int 0 0),(.int 0 0),(.int 3 0),(.ref 434),(.bool true),(.int 181 0),(.ref 435),.none,.none,.none,(.ref 436),(.int 759 0),(.int 212 0),(.str (S "/claim/cut.py") 760)]),#[]⟩)
  :: (nat_lit 438,⟨(.type "function"),none,(.func ⟨(S "left"),(S "left"),(L2.defArgs (W08.top 46)),.stmts (L2.defBody (W08.top 46)),(L2.defScope (W08.top 46)),3,[],.none,.none,.none,(.str (S "wheelrow.rests") 723),none,(.ref 437),.none,0⟩),#[]⟩)
  :: (nat_lit 439,⟨(.type "tuple"),none,(.seq #[] 0),#[]⟩)
  :: (nat_lit 441,⟨(.type "tuple"),none,(.seq #[(.str (S "numbers") 767),(.str (S "begins") 768),(.str (S "last") 769),(.str (S "total") 770)] 0),#[]⟩)
  :: (nat_lit 442,⟨(.type "tuple"),none,(.seq #[] 0),#[]⟩)
  :: (nat_lit 444,⟨(.type "code"),none,(.fields #[(.str (S "stretch") 764),(.str (S "stretch") 765),(.str (S "/claim/cut.py") 766),(.int 219 0),(.int 1 0),(.int 0 0),(.int 0 0),(.int 3 0),(.ref 439),(.bool true),(.int 181 0),(.ref 440),.none,(.ref 441),(.ref 442),(.ref 443),(.int 771 0),(.int 219 0),(.str (S "/claim/cut.py") 772)]),#[]⟩)
  :: (nat_lit 445,⟨(.type "function"),none,(.func ⟨(S "stretch"),(S "stretch"),(L2.defArgs (W08.top 48)),.stmts (L2.defBody (W08.top 48)),(L2.defScope (W08.top 48)),3,[],.none,.none,.none,(.str (S "wheelrow.sums") 762),none,(.ref 444),.none,0⟩),#[]⟩)
  :: (nat_lit 446,⟨(.type "tuple"),none,(.seq #[] 0),#[]⟩)
  :: (nat_lit 449,⟨(.type "code"),none,(.fields #[(.str (S "chosen") 774),(.str (S "chosen") 775),(.str (S "/claim/cut.py") 776),(.int 232 0),(.int 1 0),(.int 0 0),(.int 0 0),(.int 3 0),(.ref 446),(.bool true),(.int 181 0),(.ref 447),.none,.none,.none,(.ref 448),(.int 777 0),(.int 232 0),(.str (S "/claim/cut.py") 778)]),#[]⟩)
  :: (nat_lit 450,⟨(.type "function"),none,(.func ⟨(S "chosen"),(S "chosen"),(L2.defArgs (W08.top 49)),.stmts (L2.defBody (W08.top 49)),(L2.defScope (W08.top 49)),3,[],.none,.none,.none,(.str (S "wheelrow.sums") 762),none,(.ref 449),.none,0⟩),#[]⟩)
  :: (nat_lit 451,⟨(.type "tuple"),none,(.seq #[] 0),#[]⟩)
  :: (nat_lit 453,⟨(.type "tuple"),none,(.seq #[(.str (S "count") 783),(.str (S "primes") 784),(.str (S "left") 785),(.str (S "prime") 786)] 0),#[]⟩)
  :: (nat_lit 454,⟨(.type "tuple"),none,(.seq #[] 0),#[]⟩)
  :: (nat_lit 456,⟨(.type "code"),none,(.fields #[(.str (S "primes_of") 780),(.str (S "primes_of") 781),(.str (S "/claim/cut.py") 782),(.int 241 0),(.int 1 0),(.int 0 0),(.int 0 0),(.int 3 0),(.ref 451),(.bool true),(.int 181 0),(.ref 452),.none,(.ref 453),(.ref 454),(.ref 455),(.int 787 0),(.int 241 0),(.str (S "/claim/cut.py") 788)]),#[]⟩)
  :: (nat_lit 457,⟨(.type "function"),none,(.func ⟨(S "primes_of"),(S "primes_of"),(L2.defArgs (W08.top 50)),.stmts (L2.defBody (W08.top 50)),(L2.defScope (W08.top 50)),3,[],.none,.none,.none,(.str (S "wheelrow.sums") 762),none,(.ref 456),.none,0⟩),#[]⟩)
  :: (nat_lit 458,⟨(.type "tuple"),none,(.seq #[] 0),#[]⟩)
  :: (nat_lit 461,⟨(.type "code"),none,(.fields #[(.str (S "grouped") 790),(.str (S "grouped") 791),(.str (S "/claim/cut.py") 792),(.int 254 0),(.int 2 0),(.int 0 0),(.int 0 0),(.int 3 0),(.ref 458),(.bool true),(.int 181 0),(.ref 459),.none,.none,.none,(.ref 460),(.int 793 0),(.int 254 0),(.str (S "/claim/cut.py") 794)]),#[]⟩)
  :: (nat_lit 462,⟨(.type "function"),none,(.func ⟨(S "grouped"),(S "grouped"),(L2.defArgs (W08.top 51)),.stmts (L2.defBody (W08.top 51)),(L2.defScope (W08.top 51)),3,[],.none,.none,.none,(.str (S "wheelrow.sums") 762),none,(.ref 461),.none,0⟩),#[]⟩)
  :: (nat_lit 463,⟨(.type "tuple"),none,(.seq #[] 0),#[]⟩)
  :: (nat_lit 465,⟨(.type "tuple"),none,(.seq #[(.str (S "groups") 799),(.str (S "prime") 800),(.str (S "total") 801),(.str (S "places") 802),(.str (S "group") 803)] 0),#[]⟩)
  :: (nat_lit 466,⟨(.type "tuple"),none,(.seq #[] 0),#[]⟩)
  :: (nat_lit 468,⟨(.type "code"),none,(.fields #[(.str (S "together") 796),(.str (S "together") 797),(.str (S "/claim/cut.py") 798),(.int 265 0),(.int 2 0),(.int 0 0),(.int 0 0),(.int 3 0),(.ref 463),(.bool true),(.int 181 0),(.ref 464),.none,(.ref 465),(.ref 466),(.ref 467),(.int 804 0),(.int 265 0),(.str (S "/claim/cut.py") 805)]),#[]⟩)
  :: (nat_lit 469,⟨(.type "function"),none,(.func ⟨(S "together"),(S "together"),(L2.defArgs (W08.top 52)),.stmts (L2.defBody (W08.top 52)),(L2.defScope (W08.top 52)),3,[],.none,.none,.none,(.str (S "wheelrow.sums") 762),none,(.ref 468),.none,0⟩),#[]⟩)
  :: (nat_lit 470,⟨(.type "tuple"),none,(.seq #[] 0),#[]⟩)
  :: (nat_lit 473,⟨(.type "code"),none,(.fields #[(.str (S "picked") 807),(.str (S "picked") 808),(.str (S "/claim/cut.py") 809),(.int 272 0),(.int 2 0),(.int 0 0),(.int 0 0),(.int 3 0),(.ref 470),(.bool true),(.int 181 0),(.ref 471),.none,.none,.none,(.ref 472),(.int 810 0),(.int 272 0),(.str (S "/claim/cut.py") 811)]),#[]⟩)
  :: (nat_lit 474,⟨(.type "function"),none,(.func ⟨(S "picked"),(S "picked"),(L2.defArgs (W08.top 53)),.stmts (L2.defBody (W08.top 53)),(L2.defScope (W08.top 53)),3,[],.none,.none,.none,(.str (S "wheelrow.sums") 762),none,(.ref 473),.none,0⟩),#[]⟩)
  :: (nat_lit 475,⟨(.type "tuple"),none,(.seq #[] 0),#[]⟩)
  :: (nat_lit 477,⟨(.type "tuple"),none,(.seq #[(.str (S "gains") 816),(.str (S "wanted") 817),(.str (S "prime") 818),(.str (S "reached") 819),(.str (S "changed") 820),(.str (S "total") 821),(.str (S "place") 822)] 0),#[]⟩)
  :: (nat_lit 478,⟨(.type "tuple"),none,(.seq #[] 0),#[]⟩)
  :: (nat_lit 480,⟨(.type "code"),none,(.fields #[(.str (S "changes") 813),(.str (S "changes") 814),(.str (S "/claim/cut.py") 815),(.int 282 0),(.int 3 0),(.int 0 0),(.int 0 0),(.int 3 0),(.ref 475),(.bool true),(.int 181 0),(.ref 476),.none,(.ref 477),(.ref 478),(.ref 479),(.int 823 0),(.int 282 0),(.str (S "/claim/cut.py") 824)]),#[]⟩)
  :: (nat_lit 481,⟨(.type "function"),none,(.func ⟨(S "changes"),(S "changes"),(L2.defArgs (W08.top 54)),.stmts (L2.defBody (W08.top 54)),(L2.defScope (W08.top 54)),3,[],.none,.none,.none,(.str (S "wheelrow.sums") 762),none,(.ref 480),.none,0⟩),#[]⟩)
  :: (nat_lit 482,⟨(.type "tuple"),none,(.seq #[] 0),#[]⟩)
  :: (nat_lit 484,⟨(.type "tuple"),none,(.seq #[(.str (S "gains") 829),(.str (S "wanted") 830),(.str (S "prime") 831),(.str (S "reached") 832),(.str (S "place") 833)] 0),#[]⟩)
  :: (nat_lit 485,⟨(.type "tuple"),none,(.seq #[] 0),#[]⟩)
  :: (nat_lit 487,⟨(.type "code"),none,(.fields #[(.str (S "reached_sums") 826),(.str (S "reached_sums") 827),(.str (S "/claim/cut.py") 828),(.int 291 0),(.int 3 0),(.int 0 0),(.int 0 0),(.int 3 0),(.ref 482),(.bool true),(.int 181 0),(.ref 483),.none,(.ref 484),(.ref 485),(.ref 486),(.int 834 0),(.int 291 0),(.str (S "/claim/cut.py") 835)]),#[]⟩)
  :: (nat_lit 488,⟨(.type "function"),none,(.func ⟨(S "reached_sums"),(S "reached_sums"),(L2.defArgs (W08.top 55)),.stmts (L2.defBody (W08.top 55)),(L2.defScope (W08.top 55)),3,[],.none,.none,.none,(.str (S "wheelrow.sums") 762),none,(.ref 487),.none,0⟩),#[]⟩)
  :: (nat_lit 489,⟨(.type "tuple"),none,(.seq #[] 0),#[]⟩)
  :: (nat_lit 491,⟨(.type "tuple"),none,(.seq #[(.str (S "reached") 840),(.str (S "gain") 841),(.str (S "wanted") 842),(.str (S "prime") 843),(.str (S "inside") 844),(.str (S "outside") 845),(.str (S "middle") 846)] 0),#[]⟩)
  :: (nat_lit 492,⟨(.type "tuple"),none,(.seq #[] 0),#[]⟩)
  :: (nat_lit 494,⟨(.type "code"),none,(.fields #[(.str (S "new_sum") 837),(.str (S "new_sum") 838),(.str (S "/claim/cut.py") 839),(.int 298 0),(.int 4 0),(.int 0 0),(.int 0 0),(.int 3 0),(.ref 489),(.bool true),(.int 181 0),(.ref 490),.none,(.ref 491),(.ref 492),(.ref 493),(.int 847 0),(.int 298 0),(.str (S "/claim/cut.py") 848)]),#[]⟩)
  :: (nat_lit 495,⟨(.type "function"),none,(.func ⟨(S "new_sum"),(S "new_sum"),(L2.defArgs (W08.top 56)),.stmts (L2.defBody (W08.top 56)),(L2.defScope (W08.top 56)),3,[],.none,.none,.none,(.str (S "wheelrow.sums") 762),none,(.ref 494),.none,0⟩),#[]⟩)
  :: (nat_lit 496,⟨(.type "tuple"),none,(.seq #[] 0),#[]⟩)
  :: (nat_lit 499,⟨(.type "code"),none,(.fields #[(.str (S "written") 854),(.str (S "written") 855),(.str (S "/claim/cut.py") 856),(.int 310 0),(.int 1 0),(.int 0 0),(.int 0 0),(.int 3 0),(.ref 496),(.bool true),(.int 181 0),(.ref 497),.none,.none,.none,(.ref 498),(.int 857 0),(.int 310 0),(.str (S "/claim/cut.py") 858)]),#[]⟩)
  :: (nat_lit 500,⟨(.type "function"),none,(.func ⟨(S "written"),(S "written"),(L2.defArgs (W08.top 59)),.stmts (L2.defBody (W08.top 59)),(L2.defScope (W08.top 59)),3,[],.none,.none,.none,(.str (S "wheelrow.texts") 850),none,(.ref 499),.none,0⟩),#[]⟩)
  :: (nat_lit 501,⟨(.type "tuple"),none,(.seq #[] 0),#[]⟩)
  :: (nat_lit 503,⟨(.type "tuple"),none,(.seq #[(.str (S "_law_script") 865),(.str (S "_law_k") 866)] 0),#[]⟩)
  :: (nat_lit 504,⟨(.type "tuple"),none,(.seq #[] 0),#[]⟩)
  :: (nat_lit 506,⟨(.type "code"),none,(.fields #[(.str (S "_law_cell_at") 862),(.str (S "_law_cell_at") 863),(.str (S "/claim/cut.py") 864),(.int 317 0),(.int 2 0),(.int 0 0),(.int 0 0),(.int 3 0),(.ref 501),(.bool true),(.int 181 0),(.ref 502),.none,(.ref 503),(.ref 504),(.ref 505),(.int 867 0),(.int 317 0),(.str (S "/claim/cut.py") 868)]),#[]⟩)
  :: (nat_lit 507,⟨(.type "function"),none,(.func ⟨(S "_law_cell_at"),(S "_law_cell_at"),(L2.defArgs (W08.top 61)),.stmts (L2.defBody (W08.top 61)),(L2.defScope (W08.top 61)),3,[],.none,.none,.none,(.str (S "law_wheelrow_k08_refused") 860),none,(.ref 506),.none,0⟩),#[]⟩)
  :: (nat_lit 508,⟨(.type "tuple"),none,(.seq #[] 0),#[]⟩)
  :: (nat_lit 510,⟨(.type "tuple"),none,(.seq #[(.str (S "_law_cell") 873),(.str (S "_law_k") 874),(.str (S "_law_many") 875),(.str (S "_law_primes") 876)] 0),#[]⟩)
  :: (nat_lit 511,⟨(.type "tuple"),none,(.seq #[] 0),#[]⟩)
  :: (nat_lit 513,⟨(.type "code"),none,(.fields #[(.str (S "_law_draw") 870),(.str (S "_law_draw") 871),(.str (S "/claim/cut.py") 872),(.int 321 0),(.int 3 0),(.int 0 0),(.int 0 0),(.int 3 0),(.ref 508),(.bool true),(.int 181 0),(.ref 509),.none,(.ref 510),(.ref 511),(.ref 512),(.int 877 0),(.int 321 0),(.str (S "/claim/cut.py") 878)]),#[]⟩)
  :: (nat_lit 514,⟨(.type "function"),none,(.func ⟨(S "_law_draw"),(S "_law_draw"),(L2.defArgs (W08.top 62)),.stmts (L2.defBody (W08.top 62)),(L2.defScope (W08.top 62)),3,[],.none,.none,.none,(.str (S "law_wheelrow_k08_refused") 860),none,(.ref 513),.none,0⟩),#[]⟩)
  :: (nat_lit 515,⟨(.type "tuple"),none,(.seq #[] 0),#[]⟩)
  :: (nat_lit 517,⟨(.type "tuple"),none,(.seq #[(.str (S "_law_script") 883),(.str (S "_law_kind") 884),(.str (S "_law_found") 885),(.str (S "_law_k") 886),(.str (S "_law_turn") 887)] 0),#[]⟩)
  :: (nat_lit 518,⟨(.type "tuple"),none,(.seq #[] 0),#[]⟩)
  :: (nat_lit 520,⟨(.type "code"),none,(.fields #[(.str (S "_law_turns") 880),(.str (S "_law_turns") 881),(.str (S "/claim/cut.py") 882),(.int 324 0),(.int 1 0),(.int 0 0),(.int 0 0),(.int 3 0),(.ref 515),(.bool true),(.int 181 0),(.ref 516),.none,(.ref 517),(.ref 518),(.ref 519),(.int 888 0),(.int 324 0),(.str (S "/claim/cut.py") 889)]),#[]⟩)
  :: (nat_lit 521,⟨(.type "function"),none,(.func ⟨(S "_law_turns"),(S "_law_turns"),(L2.defArgs (W08.top 63)),.stmts (L2.defBody (W08.top 63)),(L2.defScope (W08.top 63)),3,[],.none,.none,.none,(.str (S "law_wheelrow_k08_refused") 860),none,(.ref 520),.none,0⟩),#[]⟩)
  :: (nat_lit 522,⟨(.type "tuple"),none,(.seq #[] 0),#[]⟩)
  :: (nat_lit 525,⟨(.type "code"),none,(.fields #[(.str (S "_law_rests") 891),(.str (S "_law_rests") 892),(.str (S "/claim/cut.py") 893),(.int 333 0),(.int 1 0),(.int 0 0),(.int 0 0),(.int 3 0),(.ref 522),(.bool true),(.int 181 0),(.ref 523),.none,.none,.none,(.ref 524),(.int 894 0),(.int 333 0),(.str (S "/claim/cut.py") 895)]),#[]⟩)
  :: (nat_lit 526,⟨(.type "function"),none,(.func ⟨(S "_law_rests"),(S "_law_rests"),(L2.defArgs (W08.top 64)),.stmts (L2.defBody (W08.top 64)),(L2.defScope (W08.top 64)),3,[],.none,.none,.none,(.str (S "law_wheelrow_k08_refused") 860),none,(.ref 525),.none,0⟩),#[]⟩)
  :: (nat_lit 546,⟨(.type "tuple"),none,(.seq #[] 0),#[]⟩)
  :: (nat_lit 548,⟨(.type "tuple"),none,(.seq #[(.str (S "_law_error") 921),(.str (S "_law_found") 922)] 0),#[]⟩)
  :: (nat_lit 549,⟨(.type "tuple"),none,(.seq #[] 0),#[]⟩)
  :: (nat_lit 551,⟨(.type "code"),none,(.fields #[(.str (S "_law_kinds") 918),(.str (S "_law_kinds") 919),(.str (S "/claim/cut.py") 920),(.int 349 0),(.int 1 0),(.int 0 0),(.int 0 0),(.int 3 0),(.ref 546),(.bool true),(.int 181 0),(.ref 547),.none,(.ref 548),(.ref 549),(.ref 550),(.int 923 0),(.int 349 0),(.str (S "/claim/cut.py") 924)]),#[]⟩)
  :: (nat_lit 552,⟨(.type "function"),none,(.func ⟨(S "_law_kinds"),(S "_law_kinds"),(L2.defArgs (W08.top 68)),.stmts (L2.defBody (W08.top 68)),(L2.defScope (W08.top 68)),3,[],.none,.none,.none,(.str (S "law_wheelrow_k08_refused") 860),none,(.ref 551),.none,0⟩),#[]⟩)
  :: (nat_lit 553,⟨(.type "tuple"),none,(.seq #[] 0),#[]⟩)
  :: (nat_lit 555,⟨(.type "tuple"),none,(.seq #[(.str (S "_law_door") 929),(.str (S "_law_thing") 930)] 0),#[]⟩)
  :: (nat_lit 556,⟨(.type "tuple"),none,(.seq #[] 0),#[]⟩)
  :: (nat_lit 558,⟨(.type "code"),none,(.fields #[(.str (S "_law_with_rests") 926),(.str (S "_law_with_rests") 927),(.str (S "/claim/cut.py") 928),(.int 353 0),(.int 2 0),(.int 0 0),(.int 0 0),(.int 3 0),(.ref 553),(.bool true),(.int 181 0),(.ref 554),.none,(.ref 555),(.ref 556),(.ref 557),(.int 931 0),(.int 353 0),(.str (S "/claim/cut.py") 932)]),#[]⟩)
  :: (nat_lit 559,⟨(.type "function"),none,(.func ⟨(S "_law_with_rests"),(S "_law_with_rests"),(L2.defArgs (W08.top 69)),.stmts (L2.defBody (W08.top 69)),(L2.defScope (W08.top 69)),3,[],.none,.none,.none,(.str (S "law_wheelrow_k08_refused") 860),none,(.ref 558),.none,0⟩),#[]⟩)
  :: (nat_lit 560,⟨(.type "tuple"),none,(.seq #[] 0),#[]⟩)
  :: (nat_lit 562,⟨(.type "tuple"),none,(.seq #[(.str (S "_law_door") 937),(.str (S "_law_thing") 938)] 0),#[]⟩)
  :: (nat_lit 563,⟨(.type "tuple"),none,(.seq #[] 0),#[]⟩)
  :: (nat_lit 565,⟨(.type "code"),none,(.fields #[(.str (S "_law_with_numbers") 934),(.str (S "_law_with_numbers") 935),(.str (S "/claim/cut.py") 936),(.int 355 0),(.int 2 0),(.int 0 0),(.int 0 0),(.int 3 0),(.ref 560),(.bool true),(.int 181 0),(.ref 561),.none,(.ref 562),(.ref 563),(.ref 564),(.int 939 0),(.int 355 0),(.str (S "/claim/cut.py") 940)]),#[]⟩)
  :: (nat_lit 566,⟨(.type "function"),none,(.func ⟨(S "_law_with_numbers"),(S "_law_with_numbers"),(L2.defArgs (W08.top 70)),.stmts (L2.defBody (W08.top 70)),(L2.defScope (W08.top 70)),3,[],.none,.none,.none,(.str (S "law_wheelrow_k08_refused") 860),none,(.ref 565),.none,0⟩),#[]⟩)
  :: (nat_lit 567,⟨(.type "tuple"),none,(.seq #[] 0),#[]⟩)
  :: (nat_lit 569,⟨(.type "tuple"),none,(.seq #[(.str (S "_law_door") 945),(.str (S "_law_thing") 946)] 0),#[]⟩)
  :: (nat_lit 570,⟨(.type "tuple"),none,(.seq #[] 0),#[]⟩)
  :: (nat_lit 572,⟨(.type "code"),none,(.fields #[(.str (S "_law_with_turn") 942),(.str (S "_law_with_turn") 943),(.str (S "/claim/cut.py") 944),(.int 359 0),(.int 2 0),(.int 0 0),(.int 0 0),(.int 3 0),(.ref 567),(.bool true),(.int 181 0),(.ref 568),.none,(.ref 569),(.ref 570),(.ref 571),(.int 947 0),(.int 359 0),(.str (S "/claim/cut.py") 948)]),#[]⟩)
  :: (nat_lit 573,⟨(.type "function"),none,(.func ⟨(S "_law_with_turn"),(S "_law_with_turn"),(L2.defArgs (W08.top 71)),.stmts (L2.defBody (W08.top 71)),(L2.defScope (W08.top 71)),3,[],.none,.none,.none,(.str (S "law_wheelrow_k08_refused") 860),none,(.ref 572),.none,0⟩),#[]⟩)
  :: (nat_lit 574,⟨(.type "tuple"),none,(.seq #[] 0),#[]⟩)
  :: (nat_lit 576,⟨(.type "tuple"),none,(.seq #[(.str (S "_law_turn") 953),(.str (S "_law_thing") 954)] 0),#[]⟩)
  :: (nat_lit 577,⟨(.type "tuple"),none,(.seq #[] 0),#[]⟩)
  :: (nat_lit 579,⟨(.type "code"),none,(.fields #[(.str (S "_law_with_rest") 950),(.str (S "_law_with_rest") 951),(.str (S "/claim/cut.py") 952),(.int 361 0),(.int 2 0),(.int 0 0),(.int 0 0),(.int 3 0),(.ref 574),(.bool true),(.int 181 0),(.ref 575),.none,(.ref 576),(.ref 577),(.ref 578),(.int 955 0),(.int 361 0),(.str (S "/claim/cut.py") 956)]),#[]⟩)
  :: (nat_lit 580,⟨(.type "function"),none,(.func ⟨(S "_law_with_rest"),(S "_law_with_rest"),(L2.defArgs (W08.top 72)),.stmts (L2.defBody (W08.top 72)),(L2.defScope (W08.top 72)),3,[],.none,.none,.none,(.str (S "law_wheelrow_k08_refused") 860),none,(.ref 579),.none,0⟩),#[]⟩)
  :: (nat_lit 581,⟨(.type "tuple"),none,(.seq #[] 0),#[]⟩)
  :: (nat_lit 583,⟨(.type "tuple"),none,(.seq #[(.str (S "_law_door") 961),(.str (S "_law_thing") 962)] 0),#[]⟩)
  :: (nat_lit 584,⟨(.type "tuple"),none,(.seq #[] 0),#[]⟩)
  :: (nat_lit 586,⟨(.type "code"),none,(.fields #[(.str (S "_law_with_number") 958),(.str (S "_law_with_number") 959),(.str (S "/claim/cut.py") 960),(.int 363 0),(.int 2 0),(.int 0 0),(.int 0 0),(.int 3 0),(.ref 581),(.bool true),(.int 181 0),(.ref 582),.none,(.ref 583),(.ref 584),(.ref 585),(.int 963 0),(.int 363 0),(.str (S "/claim/cut.py") 964)]),#[]⟩)
  :: (nat_lit 587,⟨(.type "function"),none,(.func ⟨(S "_law_with_number"),(S "_law_with_number"),(L2.defArgs (W08.top 73)),.stmts (L2.defBody (W08.top 73)),(L2.defScope (W08.top 73)),3,[],.none,.none,.none,(.str (S "law_wheelrow_k08_refused") 860),none,(.ref 586),.none,0⟩),#[]⟩)
  :: (nat_lit 588,⟨(.type "tuple"),none,(.seq #[] 0),#[]⟩)
  :: (nat_lit 590,⟨(.type "tuple"),none,(.seq #[(.str (S "_law_ask") 969),(.str (S "_law_one") 970),(.str (S "_law_other") 971),(.str (S "_law_error") 972)] 0),#[]⟩)
  :: (nat_lit 591,⟨(.type "tuple"),none,(.seq #[] 0),#[]⟩)
  :: (nat_lit 593,⟨(.type "code"),none,(.fields #[(.str (S "_law_told") 966),(.str (S "_law_told") 967),(.str (S "/claim/cut.py") 968),(.int 365 0),(.int 3 0),(.int 0 0),(.int 0 0),(.int 3 0),(.ref 588),(.bool true),(.int 181 0),(.ref 589),.none,(.ref 590),(.ref 591),(.ref 592),(.int 973 0),(.int 365 0),(.str (S "/claim/cut.py") 974)]),#[]⟩)
  :: (nat_lit 594,⟨(.type "function"),none,(.func ⟨(S "_law_told"),(S "_law_told"),(L2.defArgs (W08.top 74)),.stmts (L2.defBody (W08.top 74)),(L2.defScope (W08.top 74)),3,[],.none,.none,.none,(.str (S "law_wheelrow_k08_refused") 860),none,(.ref 593),.none,0⟩),#[]⟩)
  :: (nat_lit 595,⟨(.type "tuple"),none,(.seq #[] 0),#[]⟩)
  :: (nat_lit 598,⟨(.type "code"),none,(.fields #[(.str (S "_law_all") 976),(.str (S "_law_all") 977),(.str (S "/claim/cut.py") 978),(.int 371 0),(.int 4 0),(.int 0 0),(.int 0 0),(.int 3 0),(.ref 595),(.bool true),(.int 181 0),(.ref 596),.none,.none,.none,(.ref 597),(.int 979 0),(.int 371 0),(.str (S "/claim/cut.py") 980)]),#[]⟩)
  :: (nat_lit 599,⟨(.type "function"),none,(.func ⟨(S "_law_all"),(S "_law_all"),(L2.defArgs (W08.top 75)),.stmts (L2.defBody (W08.top 75)),(L2.defScope (W08.top 75)),3,[],.none,.none,.none,(.str (S "law_wheelrow_k08_refused") 860),none,(.ref 598),.none,0⟩),#[]⟩)
  :: (nat_lit 600,⟨(.type "tuple"),none,(.seq #[] 0),#[]⟩)
  :: (nat_lit 603,⟨(.type "code"),none,(.fields #[(.str (S "law") 982),(.str (S "law") 983),(.str (S "/claim/cut.py") 984),(.int 376 0),(.int 1 0),(.int 0 0),(.int 0 0),(.int 3 0),(.ref 600),(.bool true),(.int 181 0),(.ref 601),.none,.none,.none,(.ref 602),(.int 985 0),(.int 376 0),(.str (S "/claim/cut.py") 986)]),#[]⟩)
  :: (nat_lit 604,⟨(.type "function"),none,(.func ⟨(S "law"),(S "law"),(L2.defArgs (W08.top 76)),.stmts (L2.defBody (W08.top 76)),(L2.defScope (W08.top 76)),3,[],.none,.none,.none,(.str (S "law_wheelrow_k08_refused") 860),none,(.ref 603),.none,0⟩),#[]⟩) :: []
abbrev as:List Addr:=(nat_lit 2) :: (nat_lit 3) :: (nat_lit 15) :: (nat_lit 17) :: (nat_lit 18) :: (nat_lit 20) :: (nat_lit 21) :: (nat_lit 22) :: (nat_lit 24) :: (nat_lit 25) :: (nat_lit 27) :: (nat_lit 28) :: (nat_lit 29) :: (nat_lit 31) :: (nat_lit 32) :: (nat_lit 34) :: (nat_lit 35) :: (nat_lit 36) :: (nat_lit 39) :: (nat_lit 40) :: (nat_lit 41) :: (nat_lit 43) :: (nat_lit 44) :: (nat_lit 46) :: (nat_lit 47) :: (nat_lit 48) :: (nat_lit 51) :: (nat_lit 52) :: (nat_lit 53) :: (nat_lit 55) :: (nat_lit 56) :: (nat_lit 58) :: (nat_lit 59) :: (nat_lit 60) :: (nat_lit 62) :: (nat_lit 63) :: (nat_lit 65) :: (nat_lit 66) :: (nat_lit 67) :: (nat_lit 70) :: (nat_lit 71) :: (nat_lit 72) :: (nat_lit 74) :: (nat_lit 75) :: (nat_lit 77) :: (nat_lit 78) :: (nat_lit 79) :: (nat_lit 81) :: (nat_lit 82) :: (nat_lit 84) :: (nat_lit 85) :: (nat_lit 86) :: (nat_lit 88) :: (nat_lit 89) :: (nat_lit 91) :: (nat_lit 92) :: (nat_lit 93) :: (nat_lit 95) :: (nat_lit 96) :: (nat_lit 98) :: (nat_lit 99) :: (nat_lit 100) :: (nat_lit 102) :: (nat_lit 103) :: (nat_lit 105) :: (nat_lit 106) :: (nat_lit 107) :: (nat_lit 109) :: (nat_lit 110) :: (nat_lit 112) :: (nat_lit 113) :: (nat_lit 114) :: (nat_lit 116) :: (nat_lit 117) :: (nat_lit 119) :: (nat_lit 120) :: (nat_lit 121) :: (nat_lit 124) :: (nat_lit 125) :: (nat_lit 133) :: (nat_lit 134) :: (nat_lit 135) :: (nat_lit 136) :: (nat_lit 137) :: (nat_lit 140) :: (nat_lit 147) :: (nat_lit 149) :: (nat_lit 150) :: (nat_lit 152) :: (nat_lit 153) :: (nat_lit 154) :: (nat_lit 157) :: (nat_lit 158) :: (nat_lit 159) :: (nat_lit 160) :: (nat_lit 161) :: (nat_lit 164) :: (nat_lit 171) :: (nat_lit 173) :: (nat_lit 174) :: (nat_lit 176) :: (nat_lit 177) :: (nat_lit 178) :: (nat_lit 180) :: (nat_lit 181) :: (nat_lit 183) :: (nat_lit 184) :: (nat_lit 185) :: (nat_lit 186) :: (nat_lit 187) :: (nat_lit 190) :: (nat_lit 197) :: (nat_lit 199) :: (nat_lit 200) :: (nat_lit 202) :: (nat_lit 203) :: (nat_lit 204) :: (nat_lit 206) :: (nat_lit 207) :: (nat_lit 209) :: (nat_lit 210) :: (nat_lit 211) :: (nat_lit 212) :: (nat_lit 213) :: (nat_lit 216) :: (nat_lit 223) :: (nat_lit 225) :: (nat_lit 226) :: (nat_lit 228) :: (nat_lit 229) :: (nat_lit 230) :: (nat_lit 233) :: (nat_lit 234) :: (nat_lit 235) :: (nat_lit 236) :: (nat_lit 237) :: (nat_lit 240) :: (nat_lit 247) :: (nat_lit 249) :: (nat_lit 250) :: (nat_lit 252) :: (nat_lit 253) :: (nat_lit 254) :: (nat_lit 257) :: (nat_lit 258) :: (nat_lit 259) :: (nat_lit 261) :: (nat_lit 262) :: (nat_lit 264) :: (nat_lit 265) :: (nat_lit 266) :: (nat_lit 267) :: (nat_lit 268) :: (nat_lit 271) :: (nat_lit 278) :: (nat_lit 280) :: (nat_lit 281) :: (nat_lit 283) :: (nat_lit 284) :: (nat_lit 285) :: (nat_lit 287) :: (nat_lit 288) :: (nat_lit 290) :: (nat_lit 291) :: (nat_lit 292) :: (nat_lit 293) :: (nat_lit 294) :: (nat_lit 297) :: (nat_lit 304) :: (nat_lit 305) :: (nat_lit 306) :: (nat_lit 307) :: (nat_lit 310) :: (nat_lit 317) :: (nat_lit 318) :: (nat_lit 319) :: (nat_lit 322) :: (nat_lit 329) :: (nat_lit 330) :: (nat_lit 331) :: (nat_lit 334) :: (nat_lit 341) :: (nat_lit 342) :: (nat_lit 343) :: (nat_lit 346) :: (nat_lit 353) :: (nat_lit 354) :: (nat_lit 355) :: (nat_lit 358) :: (nat_lit 365) :: (nat_lit 366) :: (nat_lit 367) :: (nat_lit 370) :: (nat_lit 377) :: (nat_lit 378) :: (nat_lit 379) :: (nat_lit 382) :: (nat_lit 384) :: (nat_lit 385) :: (nat_lit 387) :: (nat_lit 388) :: (nat_lit 389) :: (nat_lit 391) :: (nat_lit 392) :: (nat_lit 394) :: (nat_lit 395) :: (nat_lit 396) :: (nat_lit 398) :: (nat_lit 399) :: (nat_lit 401) :: (nat_lit 402) :: (nat_lit 403) :: (nat_lit 406) :: (nat_lit 407) :: (nat_lit 408) :: (nat_lit 410) :: (nat_lit 411) :: (nat_lit 413) :: (nat_lit 414) :: (nat_lit 415) :: (nat_lit 417) :: (nat_lit 418) :: (nat_lit 420) :: (nat_lit 421) :: (nat_lit 422) :: (nat_lit 424) :: (nat_lit 425) :: (nat_lit 427) :: (nat_lit 428) :: (nat_lit 429) :: (nat_lit 432) :: (nat_lit 433) :: (nat_lit 434) :: (nat_lit 437) :: (nat_lit 438) :: (nat_lit 439) :: (nat_lit 441) :: (nat_lit 442) :: (nat_lit 444) :: (nat_lit 445) :: (nat_lit 446) :: (nat_lit 449) :: (nat_lit 450) :: (nat_lit 451) :: (nat_lit 453) :: (nat_lit 454) :: (nat_lit 456) :: (nat_lit 457) :: (nat_lit 458) :: (nat_lit 461) :: (nat_lit 462) :: (nat_lit 463) :: (nat_lit 465) :: (nat_lit 466) :: (nat_lit 468) :: (nat_lit 469) :: (nat_lit 470) :: (nat_lit 473) :: (nat_lit 474) :: (nat_lit 475) :: (nat_lit 477) :: (nat_lit 478) :: (nat_lit 480) :: (nat_lit 481) :: (nat_lit 482) :: (nat_lit 484) :: (nat_lit 485) :: (nat_lit 487) :: (nat_lit 488) :: (nat_lit 489) :: (nat_lit 491) :: (nat_lit 492) :: (nat_lit 494) :: (nat_lit 495) :: (nat_lit 496) :: (nat_lit 499) :: (nat_lit 500) :: (nat_lit 501) :: (nat_lit 503) :: (nat_lit 504) :: (nat_lit 506) :: (nat_lit 507) :: (nat_lit 508) :: (nat_lit 510) :: (nat_lit 511) :: (nat_lit 513) :: (nat_lit 514) :: (nat_lit 515) :: (nat_lit 517) :: (nat_lit 518) :: (nat_lit 520) :: (nat_lit 521) :: (nat_lit 522) :: (nat_lit 525) :: (nat_lit 526) :: (nat_lit 546) :: (nat_lit 548) :: (nat_lit 549) :: (nat_lit 551) :: (nat_lit 552) :: (nat_lit 553) :: (nat_lit 555) :: (nat_lit 556) :: (nat_lit 558) :: (nat_lit 559) :: (nat_lit 560) :: (nat_lit 562) :: (nat_lit 563) :: (nat_lit 565) :: (nat_lit 566) :: (nat_lit 567) :: (nat_lit 569) :: (nat_lit 570) :: (nat_lit 572) :: (nat_lit 573) :: (nat_lit 574) :: (nat_lit 576) :: (nat_lit 577) :: (nat_lit 579) :: (nat_lit 580) :: (nat_lit 581) :: (nat_lit 583) :: (nat_lit 584) :: (nat_lit 586) :: (nat_lit 587) :: (nat_lit 588) :: (nat_lit 590) :: (nat_lit 591) :: (nat_lit 593) :: (nat_lit 594) :: (nat_lit 595) :: (nat_lit 598) :: (nat_lit 599) :: (nat_lit 600) :: (nat_lit 603) :: (nat_lit 604) :: []
theorem as_eq (P:Params):as = (K P).map (·.1):=by kernel_rfl
abbrev H:Hook:=kHook K as as_eq
abbrev rr:RowW:=PySem.Challenge.rw_wheelrow_k08_refused.row.toRowW
abbrev Q:Program:=viewOf pq
abbrev XtOf (q:Program) (s:Shared):Bool:=xlAt q [] s && recOk (RowW.records rr) s
set_option maxRecDepth 100000 in
theorem look1 (w:World):(fun os=>staticsOk (PySem.W.Fast.tw5923862056798008813 p'.main.body) (boot_heap w.params) (hf w.params) && namesBound p' (hf w.params) && gensDone ⟨hf w.params,⟨[]⟩,{},988,os⟩ && laidKept (boot_heap w.params) (hf w.params)) = fun _=>true:=by kernel_rfl
set_option maxRecDepth 100000 in
theorem look2 (w:World):(fun os=>PySem.W.Fast.tw4187177175401517315 (viewOf p') [] (PySem.W.Fast.tw5923862056798008813 p'.main.body) (XtOf (viewOf p')) true ⟨hf w.params,⟨[]⟩,{},988,os⟩) = fun _=>openGood (viewOf p') []:=by kernel_rfl
set_option maxRecDepth 100000 in
theorem look3 (w:World):as.map (hf w.params).get? = (K w.params).map fun p=>some p.2:=by kernel_rfl
set_option maxRecDepth 100000 in
theorem size (w:World):((boot_heap w.params).isNs mainGlobals && (⟨[]⟩:Array GenState).size == 0,(boot_heap w.params).objs.size,(boot_heap w.params).nsMap mainGlobals "__annotations__") = (true,11,ann):=by kernel_rfl
set_option maxRecDepth 100000 in
theorem looks (w:World):(fun os=>((staticsOk (importedModules p'.main.body) (boot_heap w.params) (hf w.params) && namesBound p' (hf w.params) && gensDone ⟨hf w.params,⟨[]⟩,{},988,os⟩ && laidKept (boot_heap w.params) (hf w.params)),openSeen (viewOf p') [] (importedModules p'.main.body) (XtOf (viewOf p')) true ⟨hf w.params,⟨[]⟩,{},988,os⟩,H.obs ⟨hf w.params,⟨[]⟩,{},988,os⟩)) = fun _=>(true,openGood (viewOf p') [],H.val w):=by
  have a:=look1 w
  have b:=look2 w
  rw [← PySem.W.Fast.te5923862056798008813] at a
  rw [← PySem.W.Fast.te4187177175401517315,← PySem.W.Fast.te5923862056798008813] at b
  funext os
  exact Prod.ext (congrFun a os) (Prod.ext (congrFun b os) (look3 w))
set_option maxRecDepth 100000 in
theorem left':LeftO p' (viewOf p') [] (XtOf (viewOf p')) H.obs H.val 10114 true:=LeftO.of_pieces (boot_open (by kernel_rfl) (by kernel_rfl) (fun s=>by kernel_rfl)) size run (by kernel_rfl) looks
theorem left:LeftO pq Q [] (XtOf Q) H.obs H.val 10114 true:=by
  have h:=left'
  rw [← pq_eq] at h
  exact h
end
end H08
set_option Elab.async false
set_option linter.all false
set_option maxRecDepth 100000
namespace W08
open PySem L2
set_option maxHeartbeats 4000000 in
theorem all_mk {l:PySem.W.OpenLaw} {w:World} {K:PySem.W.Frag} {h:Heap} {mg:Str → Option Value} {fa:Addr}
 {xhQ xgF:Option Addr} {xh7:Array (Option Value)} {xhN xhv xg5 xhX xgU xgY:Value}
 {xjj:Addr}
 {xfZ xe3:Option Addr} {xgl:Array (Option Value)} {xfV xfE xfu xf8 xfg xfm:Value}
 {xhf:Addr}
 {xdj xcZ:Option Addr} {xdr:Array (Option Value)} {xdi xdb xc8 xdm xc3 xc5:Value}
 {xdY:Addr}
 {xhP xgE:Option Addr} {xh6:Array (Option Value)} {xhM xhu xg4 xhW xgT xgX:Value}
 {xji:Addr}
 {xem xdA:Option Addr} {xeA:Array (Option Value)} {xei xea xdU xer xdL xdP:Value}
 {xfy:Addr}
 {xjM xiO:Option Addr} {xj5:Array (Option Value)} {xjJ xjt xjb xjT xi2 xi5:Value}
 {xkP:Addr}
 {xcJ xcu:Option Addr} {xcR:Array (Option Value)} {xcH xcF xcC xcM xcy xcA:Value}
 {xda:Addr}
 {xfY xe2:Option Addr} {xgk:Array (Option Value)} {xfU xfD xft xf7 xff xfl:Value}
 {xhe:Addr}
 {xla xky:Option Addr} {xln:Array (Option Value)} {xk8 xkV xkO xle xkH xkJ:Value}
 {xlz:Addr}
 {xmb xlJ:Option Addr} {xmr:Array (Option Value)} {xl7 xl3 xlZ xmj xlR xlV:Value}
 {xmV:Addr}
 {xma xlI:Option Addr} {xmq:Array (Option Value)} {xl6 xl2 xlY xmi xlQ xlU:Value}
 {xmU:Addr}
 {xmd xlL:Option Addr} {xmt:Array (Option Value)} {xl9 xl5 xl1 xml xlT xlX:Value}
 {xmX:Addr}
 {xmc xlK:Option Addr} {xms:Array (Option Value)} {xl8 xl4 xl0 xmk xlS xlW:Value}
 {xmW:Addr}
 {xjN xiP:Option Addr} {xj6:Array (Option Value)} {xjK xju xjc xjU xi3 xi6:Value}
 {xkQ:Addr}
 {xk9 xkx:Option Addr} {xlm:Array (Option Value)} {xk7 xkU xkN xld xkG xkI:Value}
 {xly:Addr}
 {xjO xiQ:Option Addr} {xj7:Array (Option Value)} {xjL xjv xjd xjV xi4 xi7:Value}
 {xkR:Addr}
 {xcI xct:Option Addr} {xcQ:Array (Option Value)} {xcG xcE xcB xcL xcx xcz:Value}
 {xc9:Addr}
 {xfW xe0:Option Addr} {xgi:Array (Option Value)} {xfS xfB xfr xf5 xfd xfj:Value}
 {xhc:Addr}
 {xel xdz:Option Addr} {xez:Array (Option Value)} {xeh xd9 xdT xeq xdK xdO:Value}
 {xfx:Addr}
 {xek xdy:Option Addr} {xey:Array (Option Value)} {xeg xd8 xdS xep xdJ xdN:Value}
 {xfw:Addr}
 {xej xdx:Option Addr} {xex:Array (Option Value)} {xef xd7 xdR xeo xdI xdM:Value}
 {xfv:Addr}
 {xbo xa8:Option Addr} {xbt:Array (Option Value)} {xbn xbj xbe xbq xbb xbc:Value}
 {xbI:Addr}
 {xaz xam:Option Addr} {xaC:Array (Option Value)} {xay xax xaq xaA xao xap:Value}
 {xaN:Addr}
 {xbT xbx:Option Addr} {xb2:Array (Option Value)} {xbR xbM xbH xbW xbC xbE:Value}
 {xcd:Addr}
 {xbS xbw:Option Addr} {xb1:Array (Option Value)} {xbQ xbL xbG xbV xbB xbD:Value}
 {xcc:Addr}
 {xa0 xaG:Option Addr} {xa5:Array (Option Value)} {xaZ xaV xaM xa2 xaJ xaK:Value}
 {xbf:Addr}
 {xfX xe1:Option Addr} {xgj:Array (Option Value)} {xfT xfC xfs xf6 xfe xfk:Value}
 {xhd:Addr}
 {xhO xgD:Option Addr} {xh5:Array (Option Value)} {xhL xht xg3 xhV xgS xgW:Value}
 {xjh:Addr}
 {xnc xmH:Option Addr} {xnk:Array (Option Value)} {xnb xmY xmT xne xmN xmO:Value}
 {f_law:Addr}
 {xgo:Addr}
 {xiA:Addr}
 {xeM:Addr}
 {xiB:Addr}
 {xkl:Addr}
 {xiz:Addr}
 {xkm:Addr}
 {xdF xdG xds:List Value} {xeV:Addr} {xee xf9:Str} {xcD xdw:Bool} {xeB:List Str} {xc4:Option Bool} {xdV:Option Addr} {xd2 xd3 xd4 xd5 xd6:Option Value}
 {xgK xgM xgn:List Value} {xiJ:Addr} {xhK xjX:Str} {xd0 xgC:Bool} {xh9:List Str} {xfi:Option Bool} {xg7:Option Addr} {xhk xhm xho xhq xhs:Option Value}
 {xiU xiV xie:List Value} {xkt:Addr} {xjI xlf:Str} {xfA xiN:Bool} {xj8:List Str} {xgV:Option Bool} {xje:Option Addr} {xjo xjp xjq xjr xjs:Option Value}
 {xgJ xgL xgm:List Value} {xiI:Addr} {xhJ xjW:Str} {xdZ xgB:Bool} {xh8:List Str} {xfh:Option Bool} {xg6:Option Addr} {xhj xhl xhn xhp xhr:Option Value}
 {xcs:Tok}
 {xb3:Tok}
 (KX:K.In h) (G:h.Ns mainGlobals mg) (hfa:mg "law" = some (.ref fa))
 (xiM:PySem.W.nsIn K mainGlobals "is_whole" = some (some (.ref xjj)))
 (xjB:K.lookup xjj = some ⟨xhN,xhQ,.func (PySem.W.fnOf "is_whole" "is_whole" (defArgs xj0) (defBody xj0) (defScope xj0) .none xhv xg5 xhX xgF xgU xgY),xh7⟩)
 (xi1:PySem.W.codeIn K xgU "is_whole" = true)
 (xjy:PySem.W.keepIn K (.ref xjj) = true)
 (xgA:PySem.W.nsIn K mainGlobals "is_number" = some (some (.ref xhf)))
 (xhD:K.lookup xhf = some ⟨xfV,xfZ,.func (PySem.W.fnOf "is_number" "is_number" (defArgs xh1) (defBody xh1) (defScope xh1) .none xfE xfu xf8 xe3 xfg xfm),xgl⟩)
 (xgR:PySem.W.codeIn K xfg "is_number" = true)
 (xhz:PySem.W.keepIn K (.ref xhf) = true)
 (xdv:PySem.W.nsIn K mainGlobals "are_numbers" = some (some (.ref xdY)))
 (xec:K.lookup xdY = some ⟨xdi,xdj,.func (PySem.W.fnOf "are_numbers" "are_numbers" (defArgs xes) (defBody xes) (defScope xes) .none xdb xc8 xdm xcZ xc3 xc5),xdr⟩)
 (xdH:PySem.W.codeIn K xc3 "are_numbers" = true)
 (xeb:PySem.W.keepIn K (.ref xdY) = true)
 (xiL:PySem.W.nsIn K mainGlobals "is_round" = some (some (.ref xji)))
 (xjA:K.lookup xji = some ⟨xhM,xhP,.func (PySem.W.fnOf "is_round" "is_round" (defArgs xjZ) (defBody xjZ) (defScope xjZ) .none xhu xg4 xhW xgE xgT xgX),xh6⟩)
 (xi0:PySem.W.codeIn K xgT "is_round" = true)
 (xjx:PySem.W.keepIn K (.ref xji) = true)
 (xeZ:PySem.W.nsIn K mainGlobals "are_rounds" = some (some (.ref xfy)))
 (xfM:K.lookup xfy = some ⟨xei,xem,.func (PySem.W.fnOf "are_rounds" "are_rounds" (defArgs xgd) (defBody xgd) (defScope xgd) .none xea xdU xer xdA xdL xdP),xeA⟩)
 (xfc:PySem.W.codeIn K xdL "are_rounds" = true)
 (xfI:PySem.W.keepIn K (.ref xfy) = true)
 (xku:PySem.W.nsIn K mainGlobals "is_rest" = some (some (.ref xkP)))
 (xkZ:K.lookup xkP = some ⟨xjJ,xjM,.func (PySem.W.fnOf "is_rest" "is_rest" (defArgs xlg) (defBody xlg) (defScope xlg) .none xjt xjb xjT xiO xi2 xi5),xj5⟩)
 (xkD:PySem.W.codeIn K xi2 "is_rest" = true)
 (xkW:PySem.W.keepIn K (.ref xkP) = true)
 (xcY:PySem.W.nsIn K mainGlobals "is_rest_pair" = some (some (.ref xda)))
 (xdf:K.lookup xda = some ⟨xcH,xcJ,.func (PySem.W.fnOf "is_rest_pair" "is_rest_pair" (defArgs xdo) (defBody xdo) (defScope xdo) .none xcF xcC xcM xcu xcy xcA),xcR⟩)
 (xc2:PySem.W.codeIn K xcy "is_rest_pair" = true)
 (xdd:PySem.W.keepIn K (.ref xda) = true)
 (xgz:PySem.W.nsIn K mainGlobals "are_rests" = some (some (.ref xhe)))
 (xhC:K.lookup xhe = some ⟨xfU,xfY,.func (PySem.W.fnOf "are_rests" "are_rests" (defArgs xh0) (defBody xh0) (defScope xh0) .none xfD xft xf7 xe2 xff xfl),xgk⟩)
 (xgQ:PySem.W.codeIn K xff "are_rests" = true)
 (xhy:PySem.W.keepIn K (.ref xhe) = true)
 (xlt:PySem.W.nsIn K mainGlobals "common" = some (some (.ref xlz)))
 (xlD:K.lookup xlz = some ⟨xk8,xla,.func (PySem.W.fnOf "common" "common" (defArgs xlH) (defBody xlH) (defScope xlH) .none xkV xkO xle xky xkH xkJ),xln⟩)
 (xlv:PySem.W.codeIn K xkH "common" = true)
 (xlB:PySem.W.keepIn K (.ref xlz) = true)
 (xmE:PySem.W.nsIn K mainGlobals "come" = some (some (.ref xmV)))
 (xm4:K.lookup xmV = some ⟨xl7,xmb,.func (PySem.W.fnOf "come" "come" (defArgs xng) (defBody xng) (defScope xng) .none xl3 xlZ xmj xlJ xlR xlV),xmr⟩)
 (xmK:PySem.W.codeIn K xlR "come" = true)
 (xm0:PySem.W.keepIn K (.ref xmV) = true)
 (xmD:PySem.W.nsIn K mainGlobals "back" = some (some (.ref xmU)))
 (xm3:K.lookup xmU = some ⟨xl6,xma,.func (PySem.W.fnOf "back" "back" (defArgs xnf) (defBody xnf) (defScope xnf) .none xl2 xlY xmi xlI xlQ xlU),xmq⟩)
 (xmJ:PySem.W.codeIn K xlQ "back" = true)
 (xmZ:PySem.W.keepIn K (.ref xmU) = true)
 (xmG:PySem.W.nsIn K mainGlobals "told" = some (some (.ref xmX)))
 (xm6:K.lookup xmX = some ⟨xl9,xmd,.func (PySem.W.fnOf "told" "told" (defArgs xni) (defBody xni) (defScope xni) .none xl5 xl1 xml xlL xlT xlX),xmt⟩)
 (xmM:PySem.W.codeIn K xlT "told" = true)
 (xm2:PySem.W.keepIn K (.ref xmX) = true)
 (xmF:PySem.W.nsIn K mainGlobals "left" = some (some (.ref xmW)))
 (xm5:K.lookup xmW = some ⟨xl8,xmc,.func (PySem.W.fnOf "left" "left" (defArgs xnh) (defBody xnh) (defScope xnh) .none xl4 xl0 xmk xlK xlS xlW),xms⟩)
 (xmL:PySem.W.codeIn K xlS "left" = true)
 (xm1:PySem.W.keepIn K (.ref xmW) = true)
 (xkv:PySem.W.nsIn K mainGlobals "stretch" = some (some (.ref xkQ)))
 (xk0:K.lookup xkQ = some ⟨xjK,xjN,.func (PySem.W.fnOf "stretch" "stretch" (defArgs xlh) (defBody xlh) (defScope xlh) .none xju xjc xjU xiP xi3 xi6),xj6⟩)
 (xkE:PySem.W.codeIn K xi3 "stretch" = true)
 (xkX:PySem.W.keepIn K (.ref xkQ) = true)
 (xls:PySem.W.nsIn K mainGlobals "chosen" = some (some (.ref xly)))
 (xlC:K.lookup xly = some ⟨xk7,xk9,.func (PySem.W.fnOf "chosen" "chosen" (defArgs xlG) (defBody xlG) (defScope xlG) .none xkU xkN xld xkx xkG xkI),xlm⟩)
 (xlu:PySem.W.codeIn K xkG "chosen" = true)
 (xlA:PySem.W.keepIn K (.ref xly) = true)
 (xkw:PySem.W.nsIn K mainGlobals "written" = some (some (.ref xkR)))
 (xk1:K.lookup xkR = some ⟨xjL,xjO,.func (PySem.W.fnOf "written" "written" (defArgs xli) (defBody xli) (defScope xli) .none xjv xjd xjV xiQ xi4 xi7),xj7⟩)
 (xkF:PySem.W.codeIn K xi4 "written" = true)
 (xkY:PySem.W.keepIn K (.ref xkR) = true)
 (xcX:PySem.W.nsIn K mainGlobals "_law_cell_at" = some (some (.ref xc9)))
 (xde:K.lookup xc9 = some ⟨xcG,xcI,.func (PySem.W.fnOf "_law_cell_at" "_law_cell_at" (defArgs xdn) (defBody xdn) (defScope xdn) .none xcE xcB xcL xct xcx xcz),xcQ⟩)
 (xc1:PySem.W.codeIn K xcx "_law_cell_at" = true)
 (xdc:PySem.W.keepIn K (.ref xc9) = true)
 (xgx:PySem.W.nsIn K mainGlobals "_law_draw" = some (some (.ref xhc)))
 (xhA:K.lookup xhc = some ⟨xfS,xfW,.func (PySem.W.fnOf "_law_draw" "_law_draw" (defArgs xhY) (defBody xhY) (defScope xhY) .none xfB xfr xf5 xe0 xfd xfj),xgi⟩)
 (xgO:PySem.W.codeIn K xfd "_law_draw" = true)
 (xhw:PySem.W.keepIn K (.ref xhc) = true)
 (xeY:PySem.W.nsIn K mainGlobals "_law_turns" = some (some (.ref xfx)))
 (xfL:K.lookup xfx = some ⟨xeh,xel,.func (PySem.W.fnOf "_law_turns" "_law_turns" (defArgs xgc) (defBody xgc) (defScope xgc) .none xd9 xdT xeq xdz xdK xdO),xez⟩)
 (xfb:PySem.W.codeIn K xdK "_law_turns" = true)
 (xfH:PySem.W.keepIn K (.ref xfx) = true)
 (xeX:PySem.W.nsIn K mainGlobals "_law_rests" = some (some (.ref xfw)))
 (xfK:K.lookup xfw = some ⟨xeg,xek,.func (PySem.W.fnOf "_law_rests" "_law_rests" (defArgs xgb) (defBody xgb) (defScope xgb) .none xd8 xdS xep xdy xdJ xdN),xey⟩)
 (xfa:PySem.W.codeIn K xdJ "_law_rests" = true)
 (xfG:PySem.W.keepIn K (.ref xfw) = true)
 (xeW:PySem.W.nsIn K mainGlobals "_law_kinds" = some (some (.ref xfv)))
 (xfJ:K.lookup xfv = some ⟨xef,xej,.func (PySem.W.fnOf "_law_kinds" "_law_kinds" (defArgs xga) (defBody xga) (defScope xga) .none xd7 xdR xeo xdx xdI xdM),xex⟩)
 (xe9:PySem.W.codeIn K xdI "_law_kinds" = true)
 (xfF:PySem.W.keepIn K (.ref xfv) = true)
 (xbv:PySem.W.nsIn K mainGlobals "_law_with_rests" = some (some (.ref xbI)))
 (xbO:K.lookup xbI = some ⟨xbn,xbo,.func (PySem.W.fnOf "_law_with_rests" "_law_with_rests" (defArgs xbX) (defBody xbX) (defScope xbX) .none xbj xbe xbq xa8 xbb xbc),xbt⟩)
 (xbA:PySem.W.codeIn K xbb "_law_with_rests" = true)
 (xbN:PySem.W.keepIn K (.ref xbI) = true)
 (xaF:PySem.W.nsIn K mainGlobals "_law_with_numbers" = some (some (.ref xaN)))
 (xaX:K.lookup xaN = some ⟨xay,xaz,.func (PySem.W.fnOf "_law_with_numbers" "_law_with_numbers" (defArgs xa3) (defBody xa3) (defScope xa3) .none xax xaq xaA xam xao xap),xaC⟩)
 (xaI:PySem.W.codeIn K xao "_law_with_numbers" = true)
 (xaW:PySem.W.keepIn K (.ref xaN) = true)
 (xb7:PySem.W.nsIn K mainGlobals "_law_with_turn" = some (some (.ref xcd)))
 (xci:K.lookup xcd = some ⟨xbR,xbT,.func (PySem.W.fnOf "_law_with_turn" "_law_with_turn" (defArgs xco) (defBody xco) (defScope xco) .none xbM xbH xbW xbx xbC xbE),xb2⟩)
 (xb9:PySem.W.codeIn K xbC "_law_with_turn" = true)
 (xcg:PySem.W.keepIn K (.ref xcd) = true)
 (xb6:PySem.W.nsIn K mainGlobals "_law_with_rest" = some (some (.ref xcc)))
 (xch:K.lookup xcc = some ⟨xbQ,xbS,.func (PySem.W.fnOf "_law_with_rest" "_law_with_rest" (defArgs xcn) (defBody xcn) (defScope xcn) .none xbL xbG xbV xbw xbB xbD),xb1⟩)
 (xb8:PySem.W.codeIn K xbB "_law_with_rest" = true)
 (xcf:PySem.W.keepIn K (.ref xcc) = true)
 (xa7:PySem.W.nsIn K mainGlobals "_law_with_number" = some (some (.ref xbf)))
 (xbl:K.lookup xbf = some ⟨xaZ,xa0,.func (PySem.W.fnOf "_law_with_number" "_law_with_number" (defArgs xbr) (defBody xbr) (defScope xbr) .none xaV xaM xa2 xaG xaJ xaK),xa5⟩)
 (xba:PySem.W.codeIn K xaJ "_law_with_number" = true)
 (xbk:PySem.W.keepIn K (.ref xbf) = true)
 (xgy:PySem.W.nsIn K mainGlobals "_law_told" = some (some (.ref xhd)))
 (xhB:K.lookup xhd = some ⟨xfT,xfX,.func (PySem.W.fnOf "_law_told" "_law_told" (defArgs xhZ) (defBody xhZ) (defScope xhZ) .none xfC xfs xf6 xe1 xfe xfk),xgj⟩)
 (xgP:PySem.W.codeIn K xfe "_law_told" = true)
 (xhx:PySem.W.keepIn K (.ref xhd) = true)
 (xiK:PySem.W.nsIn K mainGlobals "_law_all" = some (some (.ref xjh)))
 (xjz:K.lookup xjh = some ⟨xhL,xhO,.func (PySem.W.fnOf "_law_all" "_law_all" (defArgs xjY) (defBody xjY) (defScope xjY) .none xht xg3 xhV xgD xgS xgW),xh5⟩)
 (xiZ:PySem.W.codeIn K xgS "_law_all" = true)
 (xjw:PySem.W.keepIn K (.ref xjh) = true)
 (a_law:PySem.W.nsIn K mainGlobals "law" = some (some (.ref f_law)))
 (l_law:K.lookup f_law = some ⟨xnb,xnc,.func (PySem.W.fnOf "law" "law" (defArgs s_law) (defBody s_law) (defScope s_law) .none xmY xmT xne xmH xmN xmO),xnk⟩)
 (c_law:PySem.W.codeIn K xmN "law" = true)
 (k_law:PySem.W.keepIn K (.ref f_law) = true)
 (xhg:PySem.W.nsIn K mainGlobals "RestError" = some (some (.ref xgo)))
 (xjl:PySem.W.nsIn K mainGlobals "BadRests" = some (some (.ref xiA)))
 (xfz:PySem.W.nsIn K mainGlobals "BadNumbers" = some (some (.ref xeM)))
 (xjm:PySem.W.nsIn K mainGlobals "BadRound" = some (some (.ref xiB)))
 (xkS:PySem.W.nsIn K mainGlobals "BadRest" = some (some (.ref xkl)))
 (xjk:PySem.W.nsIn K mainGlobals "BadCount" = some (some (.ref xiz)))
 (xkT:PySem.W.nsIn K mainGlobals "BadText" = some (some (.ref xkm)))
 (xeH:K.lookup xeM = some (excClassObj xee xf9 xeM xeV xdG xdF xcD xeB xds xdw xc4 xdV xd2 xd3 xd4 xd5 xd6 "ValueError.__new__"))
 (xeI:PySem.W.nsOkIn K xeV = true)
 (xeG:PySem.W.nsIn K xeV "__init__" = some none)
 (xeL:PySem.W.tailIn K veM xdF = true)
 (xeF:PySem.W.findIn K (.ref xeM) "__getattribute__" = some (some (.builtin "BaseException.__getattribute__")))
 (xeK:PySem.W.findIn K (.ref xeM) "__getattr__" = some none)
 (xeE:PySem.W.findIn K (.ref xeM) "__class__" = some (some (.builtin "object.__class__")))
 (xeJ:PySem.W.mroIn K xeM (.type "object") = some true)
 (xeC:PySem.W.subIn K (.ref xeM) (.type "BaseException") = some true)
 (xeD:(PySem.W.clsIn K xeM).isSome = true)
 (xab:PySem.W.exmOne K (.ref xeM) (.ref xgo) = some true)
 (xad:PySem.W.kitOne K (.ref xeM) (.ref xiA) = some false)
 (xaa:PySem.W.kitOne K (.ref xeM) (.ref xeM) = some true)
 (xae:PySem.W.kitOne K (.ref xeM) (.ref xiB) = some false)
 (xah:PySem.W.kitOne K (.ref xeM) (.ref xkl) = some false)
 (xac:PySem.W.kitOne K (.ref xeM) (.ref xiz) = some false)
 (xai:PySem.W.kitOne K (.ref xeM) (.ref xkm) = some false)
 (xd1:PySem.W.kitOne K (.ref xeM) (.type "ValueError") = some true)
 (xiq:K.lookup xiB = some (excClassObj xhK xjX xiB xiJ xgM xgK xd0 xh9 xgn xgC xfi xg7 xhk xhm xho xhq xhs "ValueError.__new__"))
 (xis:PySem.W.nsOkIn K xiJ = true)
 (xio:PySem.W.nsIn K xiJ "__init__" = some none)
 (xiy:PySem.W.tailIn K veM xgK = true)
 (xim:PySem.W.findIn K (.ref xiB) "__getattribute__" = some (some (.builtin "BaseException.__getattribute__")))
 (xiw:PySem.W.findIn K (.ref xiB) "__getattr__" = some none)
 (xik:PySem.W.findIn K (.ref xiB) "__class__" = some (some (.builtin "object.__class__")))
 (xiu:PySem.W.mroIn K xiB (.type "object") = some true)
 (xig:PySem.W.subIn K (.ref xiB) (.type "BaseException") = some true)
 (xii:(PySem.W.clsIn K xiB).isSome = true)
 (xal:PySem.W.exmOne K (.ref xiB) (.ref xgo) = some true)
 (xav:PySem.W.kitOne K (.ref xiB) (.ref xiA) = some false)
 (xag:PySem.W.kitOne K (.ref xiB) (.ref xeM) = some false)
 (xaw:PySem.W.kitOne K (.ref xiB) (.ref xiB) = some true)
 (xaT:PySem.W.kitOne K (.ref xiB) (.ref xkl) = some false)
 (xau:PySem.W.kitOne K (.ref xiB) (.ref xiz) = some false)
 (xaU:PySem.W.kitOne K (.ref xiB) (.ref xkm) = some false)
 (xhi:PySem.W.kitOne K (.ref xiB) (.type "ValueError") = some true)
 (xkg:K.lookup xkl = some (excClassObj xjI xlf xkl xkt xiV xiU xfA xj8 xie xiN xgV xje xjo xjp xjq xjr xjs "ValueError.__new__"))
 (xkh:PySem.W.nsOkIn K xkt = true)
 (xkf:PySem.W.nsIn K xkt "__init__" = some none)
 (xkk:PySem.W.tailIn K veM xiU = true)
 (xke:PySem.W.findIn K (.ref xkl) "__getattribute__" = some (some (.builtin "BaseException.__getattribute__")))
 (xkj:PySem.W.findIn K (.ref xkl) "__getattr__" = some none)
 (xkd:PySem.W.findIn K (.ref xkl) "__class__" = some (some (.builtin "object.__class__")))
 (xki:PySem.W.mroIn K xkl (.type "object") = some true)
 (xkb:PySem.W.subIn K (.ref xkl) (.type "BaseException") = some true)
 (xkc:(PySem.W.clsIn K xkl).isSome = true)
 (xaD:PySem.W.exmOne K (.ref xkl) (.ref xgo) = some true)
 (xaP:PySem.W.kitOne K (.ref xkl) (.ref xiA) = some false)
 (xaj:PySem.W.kitOne K (.ref xkl) (.ref xeM) = some false)
 (xaQ:PySem.W.kitOne K (.ref xkl) (.ref xiB) = some false)
 (xbh:PySem.W.kitOne K (.ref xkl) (.ref xkl) = some true)
 (xaO:PySem.W.kitOne K (.ref xkl) (.ref xiz) = some false)
 (xbi:PySem.W.kitOne K (.ref xkl) (.ref xkm) = some false)
 (xjn:PySem.W.kitOne K (.ref xkl) (.type "ValueError") = some true)
 (xip:K.lookup xiA = some (excClassObj xhJ xjW xiA xiI xgL xgJ xdZ xh8 xgm xgB xfh xg6 xhj xhl xhn xhp xhr "ValueError.__new__"))
 (xir:PySem.W.nsOkIn K xiI = true)
 (xin:PySem.W.nsIn K xiI "__init__" = some none)
 (xix:PySem.W.tailIn K veM xgJ = true)
 (xil:PySem.W.findIn K (.ref xiA) "__getattribute__" = some (some (.builtin "BaseException.__getattribute__")))
 (xiv:PySem.W.findIn K (.ref xiA) "__getattr__" = some none)
 (xij:PySem.W.findIn K (.ref xiA) "__class__" = some (some (.builtin "object.__class__")))
 (xit:PySem.W.mroIn K xiA (.type "object") = some true)
 (xif:PySem.W.subIn K (.ref xiA) (.type "BaseException") = some true)
 (xih:(PySem.W.clsIn K xiA).isSome = true)
 (xak:PySem.W.exmOne K (.ref xiA) (.ref xgo) = some true)
 (xas:PySem.W.kitOne K (.ref xiA) (.ref xiA) = some true)
 (xaf:PySem.W.kitOne K (.ref xiA) (.ref xeM) = some false)
 (xat:PySem.W.kitOne K (.ref xiA) (.ref xiB) = some false)
 (xaR:PySem.W.kitOne K (.ref xiA) (.ref xkl) = some false)
 (xar:PySem.W.kitOne K (.ref xiA) (.ref xiz) = some false)
 (xaS:PySem.W.kitOne K (.ref xiA) (.ref xkm) = some false)
 (xhh:PySem.W.kitOne K (.ref xiA) (.type "ValueError") = some true)
 (xbK:PySem.W.nsIn K mainGlobals "GREATEST_ROUND" = some (some (.int 1000000 xcs)))
 (xbg:PySem.W.nsIn K mainGlobals "GREATEST_NUMBER" = some (some (.int 1000000 xb3)))
 (z_ValueError:PySem.W.nsIn K mainGlobals "ValueError" = some none)
 (z_abs:PySem.W.nsIn K mainGlobals "abs" = some none)
 (z_all:PySem.W.nsIn K mainGlobals "all" = some none)
 (z_bool:PySem.W.nsIn K mainGlobals "bool" = some none)
 (z_enumerate:PySem.W.nsIn K mainGlobals "enumerate" = some none)
 (z_int:PySem.W.nsIn K mainGlobals "int" = some none)
 (z_isinstance:PySem.W.nsIn K mainGlobals "isinstance" = some none)
 (z_len:PySem.W.nsIn K mainGlobals "len" = some none)
 (z_list:PySem.W.nsIn K mainGlobals "list" = some none)
 (z_range:PySem.W.nsIn K mainGlobals "range" = some none)
 (z_sum:PySem.W.nsIn K mainGlobals "sum" = some none)
 (z_tuple:PySem.W.nsIn K mainGlobals "tuple" = some none)
 (is_NoneType_int:PySem.W.kitOne K (.type "NoneType") (.type "int") = some false)
 (is_bool_int:PySem.W.kitOne K (.type "bool") (.type "int") = some true)
 (is_int_int:PySem.W.kitOne K (.type "int") (.type "int") = some true)
 (is_str_int:PySem.W.kitOne K (.type "str") (.type "int") = some false)
 (is_list_int:PySem.W.kitOne K (.type "list") (.type "int") = some false)
 (is_tuple_int:PySem.W.kitOne K (.type "tuple") (.type "int") = some false)
 (is_dict_int:PySem.W.kitOne K (.type "dict") (.type "int") = some false)
 (is_int_bool:PySem.W.kitOne K (.type "int") (.type "bool") = some false)
 (is_bool_bool:PySem.W.kitOne K (.type "bool") (.type "bool") = some true)
 (is_NoneType_list:PySem.W.kitOne K (.type "NoneType") (.type "list") = some false)
 (is_bool_list:PySem.W.kitOne K (.type "bool") (.type "list") = some false)
 (is_int_list:PySem.W.kitOne K (.type "int") (.type "list") = some false)
 (is_str_list:PySem.W.kitOne K (.type "str") (.type "list") = some false)
 (is_list_list:PySem.W.kitOne K (.type "list") (.type "list") = some true)
 (is_tuple_list:PySem.W.kitOne K (.type "tuple") (.type "list") = some false)
 (is_dict_list:PySem.W.kitOne K (.type "dict") (.type "list") = some false)
 (is_NoneType_tuple:PySem.W.kitOne K (.type "NoneType") (.type "tuple") = some false)
 (is_bool_tuple:PySem.W.kitOne K (.type "bool") (.type "tuple") = some false)
 (is_int_tuple:PySem.W.kitOne K (.type "int") (.type "tuple") = some false)
 (is_str_tuple:PySem.W.kitOne K (.type "str") (.type "tuple") = some false)
 (is_list_tuple:PySem.W.kitOne K (.type "list") (.type "tuple") = some false)
 (is_tuple_tuple:PySem.W.kitOne K (.type "tuple") (.type "tuple") = some true)
 (is_dict_tuple:PySem.W.kitOne K (.type "dict") (.type "tuple") = some false)
 : ∃ fd:FuncData,(∀ (s:Shared) (v:Value),BindsTo s fd ⟨[v],[]⟩ [("_law_script", v)]) ∧ ∀ base:Heap,K.In base → base.Ns mainGlobals mg → FnOk l.prog w K mg base CX0 10 fa fd ["_law_script"] (xnl K):=by
  have e:=hfa.symm.trans (PySem.W.mg_of KX G a_law)
  cases e
  have T:Txt K mg ⟨xjj,(PySem.W.fnOf "is_whole" "is_whole" (defArgs xj0) (defBody xj0) (defScope xj0) .none xhv xg5 xhX xgF xgU xgY),xhf,(PySem.W.fnOf "is_number" "is_number" (defArgs xh1) (defBody xh1) (defScope xh1) .none xfE xfu xf8 xe3 xfg xfm),xdY,(PySem.W.fnOf "are_numbers" "are_numbers" (defArgs xes) (defBody xes) (defScope xes) .none xdb xc8 xdm xcZ xc3 xc5),xji,(PySem.W.fnOf "is_round" "is_round" (defArgs xjZ) (defBody xjZ) (defScope xjZ) .none xhu xg4 xhW xgE xgT xgX),xfy,(PySem.W.fnOf "are_rounds" "are_rounds" (defArgs xgd) (defBody xgd) (defScope xgd) .none xea xdU xer xdA xdL xdP),xkP,(PySem.W.fnOf "is_rest" "is_rest" (defArgs xlg) (defBody xlg) (defScope xlg) .none xjt xjb xjT xiO xi2 xi5),xda,(PySem.W.fnOf "is_rest_pair" "is_rest_pair" (defArgs xdo) (defBody xdo) (defScope xdo) .none xcF xcC xcM xcu xcy xcA),xhe,(PySem.W.fnOf "are_rests" "are_rests" (defArgs xh0) (defBody xh0) (defScope xh0) .none xfD xft xf7 xe2 xff xfl),xlz,(PySem.W.fnOf "common" "common" (defArgs xlH) (defBody xlH) (defScope xlH) .none xkV xkO xle xky xkH xkJ),xmV,(PySem.W.fnOf "come" "come" (defArgs xng) (defBody xng) (defScope xng) .none xl3 xlZ xmj xlJ xlR xlV),xmU,(PySem.W.fnOf "back" "back" (defArgs xnf) (defBody xnf) (defScope xnf) .none xl2 xlY xmi xlI xlQ xlU),xmX,(PySem.W.fnOf "told" "told" (defArgs xni) (defBody xni) (defScope xni) .none xl5 xl1 xml xlL xlT xlX),xmW,(PySem.W.fnOf "left" "left" (defArgs xnh) (defBody xnh) (defScope xnh) .none xl4 xl0 xmk xlK xlS xlW),xkQ,(PySem.W.fnOf "stretch" "stretch" (defArgs xlh) (defBody xlh) (defScope xlh) .none xju xjc xjU xiP xi3 xi6),xly,(PySem.W.fnOf "chosen" "chosen" (defArgs xlG) (defBody xlG) (defScope xlG) .none xkU xkN xld xkx xkG xkI),xkR,(PySem.W.fnOf "written" "written" (defArgs xli) (defBody xli) (defScope xli) .none xjv xjd xjV xiQ xi4 xi7),xc9,(PySem.W.fnOf "_law_cell_at" "_law_cell_at" (defArgs xdn) (defBody xdn) (defScope xdn) .none xcE xcB xcL xct xcx xcz),xhc,(PySem.W.fnOf "_law_draw" "_law_draw" (defArgs xhY) (defBody xhY) (defScope xhY) .none xfB xfr xf5 xe0 xfd xfj),xfx,(PySem.W.fnOf "_law_turns" "_law_turns" (defArgs xgc) (defBody xgc) (defScope xgc) .none xd9 xdT xeq xdz xdK xdO),xfw,(PySem.W.fnOf "_law_rests" "_law_rests" (defArgs xgb) (defBody xgb) (defScope xgb) .none xd8 xdS xep xdy xdJ xdN),xfv,(PySem.W.fnOf "_law_kinds" "_law_kinds" (defArgs xga) (defBody xga) (defScope xga) .none xd7 xdR xeo xdx xdI xdM),xbI,(PySem.W.fnOf "_law_with_rests" "_law_with_rests" (defArgs xbX) (defBody xbX) (defScope xbX) .none xbj xbe xbq xa8 xbb xbc),xaN,(PySem.W.fnOf "_law_with_numbers" "_law_with_numbers" (defArgs xa3) (defBody xa3) (defScope xa3) .none xax xaq xaA xam xao xap),xcd,(PySem.W.fnOf "_law_with_turn" "_law_with_turn" (defArgs xco) (defBody xco) (defScope xco) .none xbM xbH xbW xbx xbC xbE),xcc,(PySem.W.fnOf "_law_with_rest" "_law_with_rest" (defArgs xcn) (defBody xcn) (defScope xcn) .none xbL xbG xbV xbw xbB xbD),xbf,(PySem.W.fnOf "_law_with_number" "_law_with_number" (defArgs xbr) (defBody xbr) (defScope xbr) .none xaV xaM xa2 xaG xaJ xaK),xhd,(PySem.W.fnOf "_law_told" "_law_told" (defArgs xhZ) (defBody xhZ) (defScope xhZ) .none xfC xfs xf6 xe1 xfe xfk),xjh,(PySem.W.fnOf "_law_all" "_law_all" (defArgs xjY) (defBody xjY) (defScope xjY) .none xht xg3 xhV xgD xgS xgW),fa,(PySem.W.fnOf "law" "law" (defArgs s_law) (defBody s_law) (defScope s_law) .none xmY xmT xne xmH xmN xmO),xgo,xiA,xeM,xiB,xkl,xiz,xkm,xcs,xb3⟩:=⟨fun_mk (st:=xj0) xjB xi1 xjy,
    (fun_mk (st:=xj0) xjB xi1 xjy).binds (ps:=["value"]) (fun _ _ _ _ _ _ us hl=>match us,hl with | [_],_=>rfl),
    PySem.W.mg_of KX G xiM,
    xjy,
    fun_mk (st:=xh1) xhD xgR xhz,
    (fun_mk (st:=xh1) xhD xgR xhz).binds (ps:=["value"]) (fun _ _ _ _ _ _ us hl=>match us,hl with | [_],_=>rfl),
    PySem.W.mg_of KX G xgA,
    xhz,
    fun_mk (st:=xes) xec xdH xeb,
    (fun_mk (st:=xes) xec xdH xeb).binds (ps:=["value"]) (fun _ _ _ _ _ _ us hl=>match us,hl with | [_],_=>rfl),
    PySem.W.mg_of KX G xdv,
    xeb,
    fun_mk (st:=xjZ) xjA xi0 xjx,
    (fun_mk (st:=xjZ) xjA xi0 xjx).binds (ps:=["value"]) (fun _ _ _ _ _ _ us hl=>match us,hl with | [_],_=>rfl),
    PySem.W.mg_of KX G xiL,
    xjx,
    fun_mk (st:=xgd) xfM xfc xfI,
    (fun_mk (st:=xgd) xfM xfc xfI).binds (ps:=["value"]) (fun _ _ _ _ _ _ us hl=>match us,hl with | [_],_=>rfl),
    PySem.W.mg_of KX G xeZ,
    xfI,
    fun_mk (st:=xlg) xkZ xkD xkW,
    (fun_mk (st:=xlg) xkZ xkD xkW).binds (ps:=["value", "turn"]) (fun _ _ _ _ _ _ us hl=>match us,hl with | [_,_],_=>rfl),
    PySem.W.mg_of KX G xku,
    xkW,
    fun_mk (st:=xdo) xdf xc2 xdd,
    (fun_mk (st:=xdo) xdf xc2 xdd).binds (ps:=["value"]) (fun _ _ _ _ _ _ us hl=>match us,hl with | [_],_=>rfl),
    PySem.W.mg_of KX G xcY,
    xdd,
    fun_mk (st:=xh0) xhC xgQ xhy,
    (fun_mk (st:=xh0) xhC xgQ xhy).binds (ps:=["value"]) (fun _ _ _ _ _ _ us hl=>match us,hl with | [_],_=>rfl),
    PySem.W.mg_of KX G xgz,
    xhy,
    fun_mk (st:=xlH) xlD xlv xlB,
    (fun_mk (st:=xlH) xlD xlv xlB).binds (ps:=["numbers"]) (fun _ _ _ _ _ _ us hl=>match us,hl with | [_],_=>rfl),
    PySem.W.mg_of KX G xlt,
    xlB,
    fun_mk (st:=xng) xm4 xmK xm0,
    (fun_mk (st:=xng) xm4 xmK xm0).binds (ps:=["numbers", "turn", "rest"]) (fun _ _ _ _ _ _ us hl=>match us,hl with | [_,_,_],_=>rfl),
    PySem.W.mg_of KX G xmE,
    xm0,
    fun_mk (st:=xnf) xm3 xmJ xmZ,
    (fun_mk (st:=xnf) xm3 xmJ xmZ).binds (ps:=["number", "turn"]) (fun _ _ _ _ _ _ us hl=>match us,hl with | [_,_],_=>rfl),
    PySem.W.mg_of KX G xmD,
    xmZ,
    fun_mk (st:=xni) xm6 xmM xm2,
    (fun_mk (st:=xni) xm6 xmM xm2).binds (ps:=["rests"]) (fun _ _ _ _ _ _ us hl=>match us,hl with | [_],_=>rfl),
    PySem.W.mg_of KX G xmG,
    xm2,
    fun_mk (st:=xnh) xm5 xmL xm1,
    (fun_mk (st:=xnh) xm5 xmL xm1).binds (ps:=["number", "rounds"]) (fun _ _ _ _ _ _ us hl=>match us,hl with | [_,_],_=>rfl),
    PySem.W.mg_of KX G xmF,
    xm1,
    fun_mk (st:=xlh) xk0 xkE xkX,
    (fun_mk (st:=xlh) xk0 xkE xkX).binds (ps:=["numbers"]) (fun _ _ _ _ _ _ us hl=>match us,hl with | [_],_=>rfl),
    PySem.W.mg_of KX G xkv,
    xkX,
    fun_mk (st:=xlG) xlC xlu xlA,
    (fun_mk (st:=xlG) xlC xlu xlA).binds (ps:=["numbers"]) (fun _ _ _ _ _ _ us hl=>match us,hl with | [_],_=>rfl),
    PySem.W.mg_of KX G xls,
    xlA,
    fun_mk (st:=xli) xk1 xkF xkY,
    (fun_mk (st:=xli) xk1 xkF xkY).binds (ps:=["rests"]) (fun _ _ _ _ _ _ us hl=>match us,hl with | [_],_=>rfl),
    PySem.W.mg_of KX G xkw,
    xkY,
    fun_mk (st:=xdn) xde xc1 xdc,
    (fun_mk (st:=xdn) xde xc1 xdc).binds (ps:=["_law_script", "_law_k"]) (fun _ _ _ _ _ _ us hl=>match us,hl with | [_,_],_=>rfl),
    PySem.W.mg_of KX G xcX,
    xdc,
    fun_mk (st:=xhY) xhA xgO xhw,
    (fun_mk (st:=xhY) xhA xgO xhw).binds (ps:=["_law_cell", "_law_k", "_law_many"]) (fun _ _ _ _ _ _ us hl=>match us,hl with | [_,_,_],_=>rfl),
    PySem.W.mg_of KX G xgx,
    xhw,
    fun_mk (st:=xgc) xfL xfb xfH,
    (fun_mk (st:=xgc) xfL xfb xfH).binds (ps:=["_law_script"]) (fun _ _ _ _ _ _ us hl=>match us,hl with | [_],_=>rfl),
    PySem.W.mg_of KX G xeY,
    xfH,
    fun_mk (st:=xgb) xfK xfa xfG,
    (fun_mk (st:=xgb) xfK xfa xfG).binds (ps:=["_law_script"]) (fun _ _ _ _ _ _ us hl=>match us,hl with | [_],_=>rfl),
    PySem.W.mg_of KX G xeX,
    xfG,
    fun_mk (st:=xga) xfJ xe9 xfF,
    (fun_mk (st:=xga) xfJ xe9 xfF).binds (ps:=["_law_error"]) (fun _ _ _ _ _ _ us hl=>match us,hl with | [_],_=>rfl),
    PySem.W.mg_of KX G xeW,
    xfF,
    fun_mk (st:=xbX) xbO xbA xbN,
    (fun_mk (st:=xbX) xbO xbA xbN).binds (ps:=["_law_door", "_law_thing"]) (fun _ _ _ _ _ _ us hl=>match us,hl with | [_,_],_=>rfl),
    PySem.W.mg_of KX G xbv,
    xbN,
    fun_mk (st:=xa3) xaX xaI xaW,
    (fun_mk (st:=xa3) xaX xaI xaW).binds (ps:=["_law_door", "_law_thing"]) (fun _ _ _ _ _ _ us hl=>match us,hl with | [_,_],_=>rfl),
    PySem.W.mg_of KX G xaF,
    xaW,
    fun_mk (st:=xco) xci xb9 xcg,
    (fun_mk (st:=xco) xci xb9 xcg).binds (ps:=["_law_door", "_law_thing"]) (fun _ _ _ _ _ _ us hl=>match us,hl with | [_,_],_=>rfl),
    PySem.W.mg_of KX G xb7,
    xcg,
    fun_mk (st:=xcn) xch xb8 xcf,
    (fun_mk (st:=xcn) xch xb8 xcf).binds (ps:=["_law_turn", "_law_thing"]) (fun _ _ _ _ _ _ us hl=>match us,hl with | [_,_],_=>rfl),
    PySem.W.mg_of KX G xb6,
    xcf,
    fun_mk (st:=xbr) xbl xba xbk,
    (fun_mk (st:=xbr) xbl xba xbk).binds (ps:=["_law_door", "_law_thing"]) (fun _ _ _ _ _ _ us hl=>match us,hl with | [_,_],_=>rfl),
    PySem.W.mg_of KX G xa7,
    xbk,
    fun_mk (st:=xhZ) xhB xgP xhx,
    (fun_mk (st:=xhZ) xhB xgP xhx).binds (ps:=["_law_ask", "_law_one", "_law_other"]) (fun _ _ _ _ _ _ us hl=>match us,hl with | [_,_,_],_=>rfl),
    PySem.W.mg_of KX G xgy,
    xhx,
    fun_mk (st:=xjY) xjz xiZ xjw,
    (fun_mk (st:=xjY) xjz xiZ xjw).binds (ps:=["_law_ask", "_law_doors", "_law_things", "_law_due"]) (fun _ _ _ _ _ _ us hl=>match us,hl with | [_,_,_,_],_=>rfl),
    PySem.W.mg_of KX G xiK,
    xjw,
    fun_mk (st:=s_law) l_law c_law k_law,
    (fun_mk (st:=s_law) l_law c_law k_law).binds (ps:=["_law_script"]) (fun _ _ _ _ _ _ us hl=>match us,hl with | [_],_=>rfl),
    PySem.W.mg_of KX G a_law,
    k_law,
    PySem.W.mg_of KX G xhg,
    PySem.W.mg_of KX G xjl,
    PySem.W.mg_of KX G xfz,
    PySem.W.mg_of KX G xjm,
    PySem.W.mg_of KX G xkS,
    PySem.W.mg_of KX G xjk,
    PySem.W.mg_of KX G xkT,
    ⟨_,_,_,_,_,_,_,_,_,_,_,_,_,_,_,_,xeH,xeI,xeG,xeL⟩,
    ⟨xeF,xeK,xeE,xeJ,xeC,xeD⟩,
    xab,
    xad,
    xaa,
    xae,
    xah,
    xac,
    xai,
    xd1,
    ⟨_,_,_,_,_,_,_,_,_,_,_,_,_,_,_,_,xiq,xis,xio,xiy⟩,
    ⟨xim,xiw,xik,xiu,xig,xii⟩,
    xal,
    xav,
    xag,
    xaw,
    xaT,
    xau,
    xaU,
    xhi,
    ⟨_,_,_,_,_,_,_,_,_,_,_,_,_,_,_,_,xkg,xkh,xkf,xkk⟩,
    ⟨xke,xkj,xkd,xki,xkb,xkc⟩,
    xaD,
    xaP,
    xaj,
    xaQ,
    xbh,
    xaO,
    xbi,
    xjn,
    ⟨_,_,_,_,_,_,_,_,_,_,_,_,_,_,_,_,xip,xir,xin,xix⟩,
    ⟨xil,xiv,xij,xit,xif,xih⟩,
    xak,
    xas,
    xaf,
    xat,
    xaR,
    xar,
    xaS,
    xhh,
    PySem.W.mg_of KX G xbK,
    PySem.W.mg_of KX G xbg,
    PySem.W.mg_none_of KX G z_ValueError,
    PySem.W.mg_none_of KX G z_abs,
    PySem.W.mg_none_of KX G z_all,
    PySem.W.mg_none_of KX G z_bool,
    PySem.W.mg_none_of KX G z_enumerate,
    PySem.W.mg_none_of KX G z_int,
    PySem.W.mg_none_of KX G z_isinstance,
    PySem.W.mg_none_of KX G z_len,
    PySem.W.mg_none_of KX G z_list,
    PySem.W.mg_none_of KX G z_range,
    PySem.W.mg_none_of KX G z_sum,
    PySem.W.mg_none_of KX G z_tuple,
    is_NoneType_int,
    is_bool_int,
    is_int_int,
    is_str_int,
    is_list_int,
    is_tuple_int,
    is_dict_int,
    is_int_bool,
    is_bool_bool,
    is_NoneType_list,
    is_bool_list,
    is_int_list,
    is_str_list,
    is_list_list,
    is_tuple_list,
    is_dict_list,
    is_NoneType_tuple,
    is_bool_tuple,
    is_int_tuple,
    is_str_tuple,
    is_list_tuple,
    is_tuple_tuple,
    is_dict_tuple⟩
  exact ⟨PySem.W.fnOf "law" "law" (defArgs s_law) (defBody s_law) (defScope s_law) .none xmY xmT xne xmH xmN xmO,fun s v=>.of_eq rfl,fun base _ _=>xnd T⟩
theorem walk {l:PySem.W.OpenLaw} {q:Program} {loose:List Str} {XP:(Str → Option Value) → Heap → Prop} {YP:World → Heap → Prop} {d:DefRec} {K:Params → PySem.W.Frag} (hn:l.most = some 63) (hdf:d.params.defaults = [])
    (hY:∀ (w:World) (h:Heap),YP w h → (K w.params).In h)
    (F:∀ (w:World) (mg:Str → Option Value) (fa:Addr) (h:Heap),(K w.params).In h → h.Ns mainGlobals mg → mg d.name = some (.ref fa) →
      ∃ fd:FuncData,(∀ (s:Shared) (u:Value),BindsTo s fd ⟨[u],[]⟩ [("_law_script", u)]) ∧ ∀ base:Heap,(K w.params).In base → base.Ns mainGlobals mg → FnOk l.prog w (K w.params) mg base CX0 10 fa fd ["_law_script"] (xnl (K w.params))) :
    PySem.W.WalkO q loose XP YP l.row.toRowW d [] (fun f vs=>PySem.call f vs) :=
  L2.walk_ofX (n:=63) (k:=10) (x := "_law_script") (CX:=fun _=>CX0) (sp:=fun w=>xnl (K w.params)) hn (by decide) hdf ⟨rfl,by decide,by decide⟩ hY F (fun _ _ a ns hl _ hS=>⟨a,ns,rfl,hS,hl,fun _=>rfl⟩) fun _ _ _ _ _ z=>z
end W08
open PySem PySem.W PyProof.Rows
set_option maxRecDepth 100000 in
set_option maxHeartbeats 0 in
theorem PySem.Challenge.cw_wheelrow_k08_refused_holds : PySem.Challenge.rw_wheelrow_k08_refused.Holds := by
  w_on; o_law
  refine PySem.W.holds_open (q:=H08.Q) (loose:=[]) (Xt:=H08.XtOf H08.Q) (XP:=XL H08.Q []) (Yf:=Hook.obs (kHook H08.K H08.as H08.as_eq)) (Ya:=Hook.val (kHook H08.K H08.as H08.as_eq)) (YP:=Hook.says (kHook H08.K H08.as H08.as_eq)) (N:=10114) H08.left (Hook.of H08.H) (Hook.keeps H08.H) (fun s e=>xl_of s (Bool.and_eq_true_iff.mp e).1) XL.keeps (by rfl) (by rfl) (by rfl) (fun s e=>recFacts_of (Bool.and_eq_true_iff.mp e).2) (by rfl) (by first | assumption | decide +kernel) (by decide +kernel) ⟨rfl,rfl,rfl,rfl,rfl,by decide +kernel⟩ ?hw ?hc
  (case hw=>w_witness2)
  k_fill
  refine W08.walk (l:=PySem.Challenge.rw_wheelrow_k08_refused) rfl rfl (fun w h Y=>PySem.W.kIn_of Y) ?F
  case F =>
    intro w mg fa h KX G hmg
    refine' W08.all_mk KX G hmg ?xiM ?xjB ?xi1 ?xjy ?xgA ?xhD ?xgR ?xhz ?xdv ?xec ?xdH ?xeb ?xiL ?xjA ?xi0 ?xjx ?xeZ ?xfM ?xfc ?xfI ?xku ?xkZ ?xkD ?xkW ?xcY ?xdf ?xc2 ?xdd ?xgz ?xhC ?xgQ ?xhy ?xlt ?xlD ?xlv ?xlB ?xmE ?xm4 ?xmK ?xm0 ?xmD ?xm3 ?xmJ ?xmZ ?xmG ?xm6 ?xmM ?xm2 ?xmF ?xm5 ?xmL ?xm1 ?xkv ?xk0 ?xkE ?xkX ?xls ?xlC ?xlu ?xlA ?xkw ?xk1 ?xkF ?xkY ?xcX ?xde ?xc1 ?xdc ?xgx ?xhA ?xgO ?xhw ?xeY ?xfL ?xfb ?xfH ?xeX ?xfK ?xfa ?xfG ?xeW ?xfJ ?xe9 ?xfF ?xbv ?xbO ?xbA ?xbN ?xaF ?xaX ?xaI ?xaW ?xb7 ?xci ?xb9 ?xcg ?xb6 ?xch ?xb8 ?xcf ?xa7 ?xbl ?xba ?xbk ?xgy ?xhB ?xgP ?xhx ?xiK ?xjz ?xiZ ?xjw ?a_law ?l_law ?c_law ?k_law ?xhg ?xjl ?xfz ?xjm ?xkS ?xjk ?xkT ?xeH ?xeI ?xeG ?xeL ?xeF ?xeK ?xeE ?xeJ ?xeC ?xeD ?xab ?xad ?xaa ?xae ?xah ?xac ?xai ?xd1 ?xiq ?xis ?xio ?xiy ?xim ?xiw ?xik ?xiu ?xig ?xii ?xal ?xav ?xag ?xaw ?xaT ?xau ?xaU ?xhi ?xkg ?xkh ?xkf ?xkk ?xke ?xkj ?xkd ?xki ?xkb ?xkc ?xaD ?xaP ?xaj ?xaQ ?xbh ?xaO ?xbi ?xjn ?xip ?xir ?xin ?xix ?xil ?xiv ?xij ?xit ?xif ?xih ?xak ?xas ?xaf ?xat ?xaR ?xar ?xaS ?xhh ?xbK ?xbg ?z_ValueError ?z_abs ?z_all ?z_bool ?z_enumerate ?z_int ?z_isinstance ?z_len ?z_list ?z_range ?z_sum ?z_tuple ?is_NoneType_int ?is_bool_int ?is_int_int ?is_str_int ?is_list_int ?is_tuple_int ?is_dict_int ?is_int_bool ?is_bool_bool ?is_NoneType_list ?is_bool_list ?is_int_list ?is_str_list ?is_list_list ?is_tuple_list ?is_dict_list ?is_NoneType_tuple ?is_bool_tuple ?is_int_tuple ?is_str_tuple ?is_list_tuple ?is_tuple_tuple ?is_dict_tuple
    (case xiM=>k_is)
    (case xjB=>k_is)
    (case xi1=>k_is)
    (case xjy=>k_is)
    (case xgA=>k_is)
    (case xhD=>k_is)
    (case xgR=>k_is)
    (case xhz=>k_is)
    (case xdv=>k_is)
    (case xec=>k_is)
    (case xdH=>k_is)
    (case xeb=>k_is)
    (case xiL=>k_is)
    (case xjA=>k_is)
    (case xi0=>k_is)
    (case xjx=>k_is)
    (case xeZ=>k_is)
    (case xfM=>k_is)
    (case xfc=>k_is)
    (case xfI=>k_is)
    (case xku=>k_is)
    (case xkZ=>k_is)
    (case xkD=>k_is)
    (case xkW=>k_is)
    (case xcY=>k_is)
    (case xdf=>k_is)
    (case xc2=>k_is)
    (case xdd=>k_is)
    (case xgz=>k_is)
    (case xhC=>k_is)
    (case xgQ=>k_is)
    (case xhy=>k_is)
    (case xlt=>k_is)
    (case xlD=>k_is)
    (case xlv=>k_is)
    (case xlB=>k_is)
    (case xmE=>k_is)
    (case xm4=>k_is)
    (case xmK=>k_is)
    (case xm0=>k_is)
    (case xmD=>k_is)
    (case xm3=>k_is)
    (case xmJ=>k_is)
    (case xmZ=>k_is)
    (case xmG=>k_is)
    (case xm6=>k_is)
    (case xmM=>k_is)
    (case xm2=>k_is)
    (case xmF=>k_is)
    (case xm5=>k_is)
    (case xmL=>k_is)
    (case xm1=>k_is)
    (case xkv=>k_is)
    (case xk0=>k_is)
    (case xkE=>k_is)
    (case xkX=>k_is)
    (case xls=>k_is)
    (case xlC=>k_is)
    (case xlu=>k_is)
    (case xlA=>k_is)
    (case xkw=>k_is)
    (case xk1=>k_is)
    (case xkF=>k_is)
    (case xkY=>k_is)
    (case xcX=>k_is)
    (case xde=>k_is)
    (case xc1=>k_is)
    (case xdc=>k_is)
    (case xgx=>k_is)
    (case xhA=>k_is)
    (case xgO=>k_is)
    (case xhw=>k_is)
    (case xeY=>k_is)
    (case xfL=>k_is)
    (case xfb=>k_is)
    (case xfH=>k_is)
    (case xeX=>k_is)
    (case xfK=>k_is)
    (case xfa=>k_is)
    (case xfG=>k_is)
    (case xeW=>k_is)
    (case xfJ=>k_is)
    (case xe9=>k_is)
    (case xfF=>k_is)
    (case xbv=>k_is)
    (case xbO=>k_is)
    (case xbA=>k_is)
    (case xbN=>k_is)
    (case xaF=>k_is)
    (case xaX=>k_is)
    (case xaI=>k_is)
    (case xaW=>k_is)
    (case xb7=>k_is)
    (case xci=>k_is)
    (case xb9=>k_is)
    (case xcg=>k_is)
    (case xb6=>k_is)
    (case xch=>k_is)
    (case xb8=>k_is)
    (case xcf=>k_is)
    (case xa7=>k_is)
    (case xbl=>k_is)
    (case xba=>k_is)
    (case xbk=>k_is)
    (case xgy=>k_is)
    (case xhB=>k_is)
    (case xgP=>k_is)
    (case xhx=>k_is)
    (case xiK=>k_is)
    (case xjz=>k_is)
    (case xiZ=>k_is)
    (case xjw=>k_is)
    (case a_law=>k_is)
    (case l_law=>k_is)
    (case c_law=>k_is)
    (case k_law=>k_is)
    (case xhg=>k_is)
    (case xjl=>k_is)
    (case xfz=>k_is)
    (case xjm=>k_is)
    (case xkS=>k_is)
    (case xjk=>k_is)
    (case xkT=>k_is)
    (case xeH=>k_is)
    (case xeI=>kernel_rfl)
    (case xeG=>k_is)
    (case xeL=>kernel_rfl)
    (case xeF=>k_is)
    (case xeK=>k_is)
    (case xeE=>k_is)
    (case xeJ=>k_is)
    (case xeC=>kernel_rfl)
    (case xeD=>kernel_rfl)
    (case xab=>kernel_rfl)
    (case xad=>kit_is)
    (case xaa=>kit_is)
    (case xae=>kit_is)
    (case xah=>kit_is)
    (case xac=>kit_is)
    (case xai=>kit_is)
    (case xd1=>kit_is)
    (case xiq=>k_is)
    (case xis=>kernel_rfl)
    (case xio=>k_is)
    (case xiy=>kernel_rfl)
    (case xim=>k_is)
    (case xiw=>k_is)
    (case xik=>k_is)
    (case xiu=>k_is)
    (case xig=>kernel_rfl)
    (case xii=>kernel_rfl)
    (case xal=>kernel_rfl)
    (case xav=>kit_is)
    (case xag=>kit_is)
    (case xaw=>kit_is)
    (case xaT=>kit_is)
    (case xau=>kit_is)
    (case xaU=>kit_is)
    (case xhi=>kit_is)
    (case xkg=>k_is)
    (case xkh=>kernel_rfl)
    (case xkf=>k_is)
    (case xkk=>kernel_rfl)
    (case xke=>k_is)
    (case xkj=>k_is)
    (case xkd=>k_is)
    (case xki=>k_is)
    (case xkb=>kernel_rfl)
    (case xkc=>kernel_rfl)
    (case xaD=>kernel_rfl)
    (case xaP=>kit_is)
    (case xaj=>kit_is)
    (case xaQ=>kit_is)
    (case xbh=>kit_is)
    (case xaO=>kit_is)
    (case xbi=>kit_is)
    (case xjn=>kit_is)
    (case xip=>k_is)
    (case xir=>kernel_rfl)
    (case xin=>k_is)
    (case xix=>kernel_rfl)
    (case xil=>k_is)
    (case xiv=>k_is)
    (case xij=>k_is)
    (case xit=>k_is)
    (case xif=>kernel_rfl)
    (case xih=>kernel_rfl)
    (case xak=>kernel_rfl)
    (case xas=>kit_is)
    (case xaf=>kit_is)
    (case xat=>kit_is)
    (case xaR=>kit_is)
    (case xar=>kit_is)
    (case xaS=>kit_is)
    (case xhh=>kit_is)
    (case xbK=>k_is)
    (case xbg=>k_is)
    (case z_ValueError=>k_is)
    (case z_abs=>k_is)
    (case z_all=>k_is)
    (case z_bool=>k_is)
    (case z_enumerate=>k_is)
    (case z_int=>k_is)
    (case z_isinstance=>k_is)
    (case z_len=>k_is)
    (case z_list=>k_is)
    (case z_range=>k_is)
    (case z_sum=>k_is)
    (case z_tuple=>k_is)
    (case is_NoneType_int=>kit_is)
    (case is_bool_int=>kit_is)
    (case is_int_int=>kit_is)
    (case is_str_int=>kit_is)
    (case is_list_int=>kit_is)
    (case is_tuple_int=>kit_is)
    (case is_dict_int=>kit_is)
    (case is_int_bool=>kit_is)
    (case is_bool_bool=>kit_is)
    (case is_NoneType_list=>kit_is)
    (case is_bool_list=>kit_is)
    (case is_int_list=>kit_is)
    (case is_str_list=>kit_is)
    (case is_list_list=>kit_is)
    (case is_tuple_list=>kit_is)
    (case is_dict_list=>kit_is)
    (case is_NoneType_tuple=>kit_is)
    (case is_bool_tuple=>kit_is)
    (case is_int_tuple=>kit_is)
    (case is_str_tuple=>kit_is)
    (case is_list_tuple=>kit_is)
    (case is_tuple_tuple=>kit_is)
    (case is_dict_tuple=>kit_is)
