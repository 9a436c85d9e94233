import PyProof.Rows.All
import Wide.All
import OpenK.AllK
import Wide.FinOn
import Lean
import PyProof.EqAt
import PyProof.EqKinds
import PyProof.TupleCall
import PySem.Challenge.RW_wheelrow_k06_answers_by_hand
set_option Elab.async false
set_option linter.all false
set_option maxRecDepth 100000
namespace L2
open PySem PySem.Spec PyProof.Rows
abbrev Key:=Sum Int Str
def keyIs:Key → Value → Bool
  | .inl k,v=>Value.isInt k v
  | .inr x,v=>Value.isStrOf x v
def keyH (w:World):Key → Int
  | .inl k=>hashInt k
  | .inr x=>hashStr w x
theorem keyIs_shape:∀ {k:Key} {v:Value},keyIs k v = true → (∃ i t,k = Sum.inl i ∧ v = Value.int i t) ∨ (∃ x t,k = Sum.inr x ∧ v = Value.str x t)
  | .inl i,v,h=>by
    obtain ⟨t,e⟩:=Value.isInt_shape (k:=i) (v:=v) h
    exact .inl ⟨i,t,rfl,e⟩
  | .inr x,v,h=>by
    obtain ⟨t,e⟩:=Value.isStrOf_shape (x:=x) (v:=v) h
    exact .inr ⟨x,t,rfl,e⟩
theorem key_ll (a b:Int):decide ((Sum.inl a:Key) = Sum.inl b) = (a == b):=by
  by_cases e:a = b
  · subst e; simp
  · have h:¬ (Sum.inl a:Key) = Sum.inl b:=fun q=>e (Sum.inl.inj q)
    rw [decide_eq_false h]
    exact (beq_eq_false_iff_ne.mpr e).symm
theorem key_rr (a b:Str):decide ((Sum.inr a:Key) = Sum.inr b) = decide (a = b):=by
  by_cases e:a = b
  · subst e; simp
  · have h:¬ (Sum.inr a:Key) = Sum.inr b:=fun q=>e (Sum.inr.inj q)
    rw [decide_eq_false h,decide_eq_false e]
theorem key_lr (a:Int) (b:Str):decide ((Sum.inl a:Key) = Sum.inr b) = false:=decide_eq_false (fun q=>nomatch q)
theorem key_rl (a:Str) (b:Int):decide ((Sum.inr a:Key) = Sum.inl b) = false:=decide_eq_false (fun q=>nomatch q)
def mixKind (prog:Program) (w:World):PySem.KeyKind prog w Key where
  is:=keyIs
  hash:=keyH w
  inj:=fun v a b ha hb=>by
    rcases keyIs_shape ha with ⟨i,t,rfl,rfl⟩ | ⟨x,t,rfl,rfl⟩
    · rcases keyIs_shape hb with ⟨j,u,rfl,e⟩ | ⟨y,u,rfl,e⟩
      · injection e with e1 _; rw [e1]
      · exact nomatch e
    · rcases keyIs_shape hb with ⟨j,u,rfl,e⟩ | ⟨y,u,rfl,e⟩
      · exact nomatch e
      · injection e with e1 _; rw [e1]
  byValue:=fun k v h=>by
    rcases keyIs_shape h with ⟨i,t,rfl,rfl⟩ | ⟨x,t,rfl,rfl⟩ <;> rfl
  pyHash:=fun hv h=>by
    rcases keyIs_shape hv with ⟨i,t,rfl,rfl⟩ | ⟨x,t,rfl,rfl⟩
    · exact wpAny_pyHash_int h
    · exact wpAny_pyHash_str h
  eqBool:=fun hu hv h=>by
    rcases keyIs_shape hu with ⟨i,t,rfl,rfl⟩ | ⟨x,t,rfl,rfl⟩
    · rcases keyIs_shape hv with ⟨j,u,rfl,rfl⟩ | ⟨y,u,rfl,rfl⟩
      · rw [key_ll] at h; exact wpAny_eqBool_int h
      · rw [key_lr] at h; exact SeqAt.EqAt.int_str i t y u _ _ _ _ h
    · rcases keyIs_shape hv with ⟨j,u,rfl,rfl⟩ | ⟨y,u,rfl,rfl⟩
      · rw [key_rl] at h; exact SeqAt.EqAt.str_int x t j u _ _ _ _ h
      · rw [key_rr] at h; exact wpAny_eqBool_str h
  «strs»:=fun k x t v h=>by
    rcases keyIs_shape h with ⟨i,u,rfl,e⟩ | ⟨y,u,rfl,e⟩
    · exact nomatch e
    · injection e with e1 _
      subst e1
      cases v <;> rfl
end L2
namespace L2
open PySem PySem.Spec PyProof.Rows
inductive V where
  | non | bl (b:Bool) | int (i:Int) | str (x:Str) | byt (b:Array UInt8) | flt (b:UInt64) | ref (a:Addr) | ty (n:String)
  deriving DecidableEq
def RelV:V → Value → Prop
  | .non,u=>u = Value.none
  | .bl b,u=>u = Value.bool b
  | .int i,u=>∃ t,u = Value.int i t
  | .str x,u=>∃ t,u = Value.str x t
  | .byt b,u=>∃ t,u = Value.bytes b t
  | .flt b,u=>∃ t,u = Value.float b t
  | .ref a,u=>u = Value.ref a
  | .ty n,u=>u = Value.type n
abbrev Vals:List V → List Value → Prop:=Paired RelV
theorem Vals.length {xs:List V} {us:List Value} (r:Vals xs us):xs.length = us.length:=Paired.length r
theorem Vals.get:∀ {xs:List V} {us:List Value} {i:Nat} {x:V},Vals xs us → xs[i]? = some x → ∃ u,us[i]? = some u ∧ RelV x u
  | _,_,_,_,.nil,e=>by simp at e
  | _,_,0,_,.cons r _,e=>by simp at e; subst e; exact ⟨_,rfl,r⟩
  | _,_,i + 1,x,.cons _ t,e=>by
    obtain ⟨u,h1,h2⟩:=Vals.get (i:=i) (x:=x) t (by simpa using e)
    exact ⟨u,by simpa using h1,h2⟩
theorem Vals.set {x:V} {u:Value} (r:RelV x u):∀ {xs:List V} {us:List Value} (i:Nat),Vals xs us → Vals (xs.set i x) (us.set i u)
  | _,_,_,.nil=>.nil
  | _,_,0,.cons _ t=>.cons r t
  | _,_,i + 1,.cons q t=>.cons q (Vals.set r i t)
theorem Vals.append:∀ {xs ys:List V} {us ws:List Value},Vals xs us → Vals ys ws → Vals (xs ++ ys) (us ++ ws)
  | _,_,_,_,.nil,s=>s
  | _,_,_,_,.cons r t,s=>.cons r (Vals.append t s)
theorem Vals.take:∀ {xs:List V} {us:List Value} (n:Nat),Vals xs us → Vals (xs.take n) (us.take n)
  | _,_,0,_=>.nil
  | _,_,_ + 1,.nil=>.nil
  | _,_,n + 1,.cons r t=>.cons r (Vals.take n t)
theorem Vals.drop:∀ {xs:List V} {us:List Value} (n:Nat),Vals xs us → Vals (xs.drop n) (us.drop n)
  | _,_,0,r=>r
  | _,_,_ + 1,.nil=>.nil
  | _,_,n + 1,.cons _ t=>Vals.drop n t
def RelO:Option V → Option Value → Prop
  | some v,some u=>RelV v u
  | none,none=>True
  | _,_=>False
def KV {κ:Type}:List (κ × V) → List (κ × Value) → Prop:=Paired fun (p:κ × V) (q:κ × Value)=>p.1 = q.1 ∧ RelV p.2 q.2
def kV:Key → V
  | .inl i=>.int i
  | .inr x=>.str x
inductive HO where
    | lst (xs:List V)
    | tup (xs:List V)
    | dK (kvs:List (Key × V)) | dT (kvs:List (List Key × V))
    | set (S:Int → Bool) (n:Nat)
    | ins (C dx:Addr) (fs:List (Str × V))
    | own (x:Addr)
    | xd (fs:List (Str × V))
    | met (f x:Addr)
    | rng (lo hi:Int)
    | frz (o:Obj) (u:HO)
    | tbl (ps:Array Value)
    | ext (φ:Heap → Prop)
abbrev Hp:=Addr → Option HO
def upd (H:Hp) (a:Addr) (o:HO):Hp:=fun b=>if b = a then some o else H b
theorem upd_same {H:Hp} {a:Addr} {o:HO}:upd H a o a = some o:=by unfold upd; rw [if_pos rfl]
theorem upd_ne {H:Hp} {a b:Addr} {o:HO} (h:b ≠ a):upd H a o b = H b:=by unfold upd; rw [if_neg h]
theorem ne_of {H:Hp} {a b:Addr} {o u:HO} (h:H a = some o) (h':H b = some u) (d:o ≠ u):a ≠ b:=by
  intro e; subst e; rw [h] at h'; exact d (Option.some.inj h')
theorem ne_of_none {H:Hp} {a b:Addr} {o:HO} (h:H a = some o) (h':H b = none):a ≠ b:=by
  intro e; subst e; rw [h] at h'; cases h'
section
variable (P:Program) (w:World)
def ObjOk (H:Hp) (h:Heap) (a:Addr):HO → Prop
  | .lst xs=>xs.length ≤ sizeLine ∧ ∃ (its:List Value) (n:Nat),Vals xs its ∧ h.get? a = some { cls:=.type "list", data:=.seq its.toArray n }
  | .tup xs=>xs.length ≤ sizeLine ∧ ∃ its:List Value,Vals xs its ∧ IsTup h a its.toArray
  | .dK kvs=>kvs.length ≤ sizeLine ∧ (a == sysModules) = false ∧ ∃ vs,KV kvs vs ∧ h.DictOf (mixKind P w) a vs
  | .dT kvs=>kvs.length ≤ sizeLine ∧ (a == sysModules) = false ∧ ∃ xs:List (List Key × Addr × Value),
      Paired (fun (p:List Key × V) (q:List Key × Addr × Value)=>p.1 = q.1 ∧ H q.2.1 = some (.tup (p.1.map kV)) ∧ RelV p.2 q.2.2) kvs xs ∧
      ∃ o es ep,h.get? a = some o ∧ o.ExactDict ∧ o.data = .dict es ep ∧ es.toList = xs.map (entryOfKey (tupleKind (mixKind P w))) ∧ (xs.map (·.1)).Nodup
  | .set S n=>h.SetOf (intKind P w) a S n
  | .ins C dx fs=>H dx = some (.own a) ∧ fs.length ≤ 1000 ∧ dx ≠ a ∧ h.get? a = some (PySem.W.instObj C dx) ∧
      ∃ mA,h.Ns1 dx mA ∧ (∀ f,RelO (fs.lookup f) (mA f)) ∧ PySem.Within mA (fs.map (·.1))
  | .own _=>∃ o,h.get? a = some o
  | .xd fs=>∃ mA,h.Ns1 a mA ∧ ∀ f,RelO (fs.lookup f) (mA f)
  | .rng lo hi=>∃ t u v,h.get? a = some { cls:=.type "range", data:=.fields #[.int lo t,.int hi u,.int 1 v] }
  | .frz o u=>h.get? a = some o ∧ ObjOk H h a u
  | .tbl ps=>h.get? a = some { cls:=.none,data:=.fields ps }
  | .met f x=>h.get? a = some (PySem.W.methodObj (.ref f) (.ref x))
  | .ext φ=>φ h ∧ (∃ o,h.get? a = some o) ∧ ∀ h1 h2:Heap,φ h1 → (∀ o,h1.get? a = some o → h2.get? a = some o) → φ h2
def HOk (H:Hp) (h:Heap):Prop:=∀ a o,H a = some o → ObjOk P w H h a o
end
section
variable {P:Program} {w:World} {H H':Hp} {h h':Heap} {a:Addr} {o:HO}
theorem ObjOk.lt (x:ObjOk P w H h a o):a < h.objs.size:=by
  cases o with
  | lst xs=>obtain ⟨_,_,_,_,e⟩:=x; exact Heap.lt_size e
  | tup xs=>obtain ⟨_,_,_,p⟩:=x; exact p.lt
  | dK kvs=>obtain ⟨_,_,_,_,o,_,_,e,_⟩:=x; exact Heap.lt_size e
  | dT kvs=>obtain ⟨_,_,_,_,o,_,_,e,_⟩:=x; exact Heap.lt_size e
  | set S n=>obtain ⟨o,_,_,_,e,_⟩:=x; exact Heap.lt_size e
  | ins C dx fs=>obtain ⟨_,_,_,e,_⟩:=x; exact Heap.lt_size e
  | own y=>obtain ⟨_,e⟩:=x; exact Heap.lt_size e
  | xd fs=>obtain ⟨_,⟨_,_,_,e,_⟩,_⟩:=x; exact Heap.lt_size e
  | rng lo hi=>obtain ⟨_,_,_,e⟩:=x; exact Heap.lt_size e
  | frz ob u=>obtain ⟨e,_⟩:=x; exact Heap.lt_size e
  | tbl ps=>exact Heap.lt_size (show h.get? a = some _ from x)
  | met f y=>exact Heap.lt_size (show h.get? a = some _ from x)
  | ext φ=>obtain ⟨_,⟨_,e⟩,_⟩:=x; exact Heap.lt_size e
theorem Paired.mapP {α β:Type} {F G:α → β → Prop}:∀ {l₁:List α} {l₂:List β},Paired F l₁ l₂ → (∀ a b,F a b → G a b) → Paired G l₁ l₂
  | _,_,.nil,_=>.nil
  | _,_,.cons r t,f=>.cons (f _ _ r) (Paired.mapP t f)
theorem ObjOk.stay (x:ObjOk P w H h a o) (k:∀ b u,(b = a ∨ H b = some (.own a)) → h.get? b = some u → h'.get? b = some u)
    (ho:∀ b,H b = some (.own a) → H' b = some (.own a)) (ht:∀ b xs,H b = some (.tup xs) → H' b = some (.tup xs)):ObjOk P w H' h' a o:=by
  induction o with
  | lst xs=>obtain ⟨z,its,n,r,e⟩:=x; exact ⟨z,its,n,r,k _ _ (.inl rfl) e⟩
  | tup xs=>obtain ⟨z,its,r,ob,e,c⟩:=x; exact ⟨z,its,r,ob,k _ _ (.inl rfl) e,c⟩
  | dK kvs=>obtain ⟨z,y,vs,r,ob,es,ep,e,c⟩:=x; exact ⟨z,y,vs,r,ob,es,ep,k _ _ (.inl rfl) e,c⟩
  | dT kvs =>
    obtain ⟨z,y,xs,r,ob,es,ep,e,c⟩:=x
    exact ⟨z,y,xs,Paired.mapP r fun p q z=>⟨z.1,ht _ _ z.2.1,z.2.2⟩,ob,es,ep,k _ _ (.inl rfl) e,c⟩
  | set S n=>obtain ⟨ob,es,ep,t,e,c⟩:=x; exact ⟨ob,es,ep,t,k _ _ (.inl rfl) e,c⟩
  | ins C dx fs =>
    obtain ⟨d,z,ne,e,mA,⟨od,es,ep,e2,c⟩,r⟩:=x
    exact ⟨ho _ d,z,ne,k _ _ (.inl rfl) e,mA,⟨od,es,ep,k _ _ (.inr d) e2,c⟩,r⟩
  | own y=>obtain ⟨ob,e⟩:=x; exact ⟨ob,k _ _ (.inl rfl) e⟩
  | xd fs=>obtain ⟨mA,⟨od,es,ep,e,c⟩,r⟩:=x; exact ⟨mA,⟨od,es,ep,k _ _ (.inl rfl) e,c⟩,r⟩
  | rng lo hi=>obtain ⟨t,u,v,e⟩:=x; exact ⟨t,u,v,k _ _ (.inl rfl) e⟩
  | frz ob u ih=>obtain ⟨e,q⟩:=x; exact ⟨k _ _ (.inl rfl) e,ih q⟩
  | tbl ps =>
    have e:h.get? a = some { cls:=.none,data:=.fields ps }:=x
    show h'.get? a = some { cls:=.none,data:=.fields ps }
    exact k a _ (.inl rfl) e
  | met f y =>
    have e:h.get? a = some (PySem.W.methodObj (.ref f) (.ref y)):=x
    show h'.get? a = some (PySem.W.methodObj (.ref f) (.ref y))
    exact k a _ (.inl rfl) e
  | ext φ=>obtain ⟨p,⟨o,e⟩,st⟩:=x; exact ⟨st _ _ p fun o q=>k _ _ (.inl rfl) q,⟨o,k _ _ (.inl rfl) e⟩,st⟩
theorem HOk.lt (x:HOk P w H h) (e:H a = some o):a < h.objs.size:=(x a o e).lt
theorem HOk.fresh (x:HOk P w H h) (e:h.objs.size ≤ a):H a = none:=by
  cases q:H a with
  | none=>rfl
  | some u=>exact absurd (Nat.lt_of_lt_of_le (x.lt q) e) (Nat.lt_irrefl _)
theorem HOk.kept (x:HOk P w H h) (k:∀ b u,h.get? b = some u → h'.get? b = some u):HOk P w H h':=fun a o e =>
  (x a o e).stay (fun b u _ q=>k b u q) (fun _ q=>q) fun _ _ q=>q
theorem HOk.laid (x:HOk P w H h) (k:∀ b u,h.get? b = some u → h'.get? b = some u) (hp:h.objs.size ≤ a) (new:ObjOk P w (upd H a o) h' a o):HOk P w (upd H a o) h':=fun b u e=>by
  have hn:=x.fresh hp
  by_cases hb:b = a
  · subst hb; rw [upd_same] at e; cases e; exact new
  · rw [upd_ne hb] at e
    exact (x b u e).stay (fun c v _ q=>k c v q) (fun c q=>by rw [upd_ne (ne_of_none q hn)]; exact q) fun c xs q=>by rw [upd_ne (ne_of_none q hn)]; exact q
end
def Rd (H:Hp) (a:Addr) (u:HO):Prop:=H a = some u ∨ ∃ o,H a = some (.frz o u)
theorem Rd.of {H:Hp} {a:Addr} {u:HO} (h:H a = some u):Rd H a u:=.inl h
theorem Rd.ok {P:Program} {w:World} {H:Hp} {h:Heap} {a:Addr} {u:HO} (r:Rd H a u) (x:HOk P w H h):ObjOk P w H h a u:=by
  rcases r with r | ⟨o,r⟩
  · exact x a u r
  · obtain ⟨_,q⟩:=x a _ r
    exact q
def Mut:Option HO → Prop
  | some (.lst _)=>True
  | some (.dK _)=>True
  | some (.dT _)=>True
  | some (.set _ _)=>True
  | some (.ins _ _ _)=>True
  | some (.ext _)=>True
  | _=>False
section
variable {P:Program} {w:World} {H:Hp} {h h':Heap} {x e:Addr} {o':HO}
theorem HOk.write (ok:HOk P w H h) (mu:Mut (H x)) (he:e = x ∨ H e = some (.own x)) (k:∀ b u,b ≠ e → h.get? b = some u → h'.get? b = some u) (heo:∃ u,h'.get? e = some u)
    (new:ObjOk P w (upd H x o') h' x o'):HOk P w (upd H x o') h':=fun b u q=>by
  have nown:∀ c y,H c = some (.own y) → c ≠ x:=fun c y r z=>by subst z; rw [r] at mu; exact mu
  have ntup:∀ c xs,H c = some (.tup xs) → c ≠ x:=fun c xs r z=>by subst z; rw [r] at mu; exact mu
  by_cases hb:b = x
  · subst hb; rw [upd_same] at q; cases q; exact new
  · rw [upd_ne hb] at q
    by_cases hbe:b = e
    · have q':H b = some (.own x):=by
        rcases he with z | z
        · exact absurd (hbe.trans z) hb
        · rw [hbe]; exact z
      rw [q] at q'; cases q'
      obtain ⟨v,hv⟩:=heo
      exact ⟨v,by rw [hbe]; exact hv⟩
    · refine (ok b u q).stay (fun c v hc r=>k c v ?_ r) (fun c r=>by rw [upd_ne (nown c b r)]; exact r) fun c xs r=>by rw [upd_ne (ntup c xs r)]; exact r
      rcases hc with rfl | hc
      · exact hbe
      · rintro rfl
        rcases he with z | z
        · exact nown c b hc z
        · rw [hc] at z; cases z; exact hb rfl
end
structure Un (fs ex:List Addr) (H H':Hp) (h h':Heap):Prop where
  keep:∀ b o,h.get? b = some o → H b = none → b ∉ fs → b ∉ ex → h'.get? b = some o
  slot:∀ b o,h.get? b = some o → H b = none → b ∈ fs → b ∉ ex → ∃ sl,h'.get? b = some { o with slots:=sl }
  free:∀ b o,h.get? b = some o → H b = none → b ∉ ex → H' b = none
  there:∀ b o,h.get? b = some o → b ∉ ex → ∃ o',h'.get? b = some o'
  tups:∀ b xs,H b = some (.tup xs) → H' b = some (.tup xs)
  frzs:∀ b o u,H b = some (.frz o u) → H' b = some (.frz o u)
  tbls:∀ b ps,H b = some (.tbl ps) → ∃ more,H' b = some (.tbl (ps ++ more))
section
variable {fs fs' ex ex':List Addr} {H H1 H2:Hp} {h h1 h2 h':Heap} {a x e:Addr} {o:HO}
theorem Un.any (u:Un fs ex H H1 h h1) {b:Addr} {ob:Obj} (q:h.get? b = some ob) (n:H b = none) (hx:b ∉ ex):∃ sl,h1.get? b = some { ob with slots:=sl }:=by
  by_cases hb:b ∈ fs
  · exact u.slot b ob q n hb hx
  · exact ⟨ob.slots,u.keep b ob q n hb hx⟩
theorem Un.trans (a:Un fs ex H H1 h h1) (b:Un fs ex H1 H2 h1 h2):Un fs ex H H2 h h2 where
  keep:=fun c ob q n hc hx=>b.keep c ob (a.keep c ob q n hc hx) (a.free c ob q n hx) hc hx
  slot:=fun c ob q n hc hx=>by
    obtain ⟨sl,e1⟩:=a.slot c ob q n hc hx
    obtain ⟨sl',e2⟩:=b.slot c _ e1 (a.free c ob q n hx) hc hx
    exact ⟨sl',e2⟩
  free:=fun c ob q n hx=>by
    obtain ⟨o',e1⟩:=a.there c ob q hx
    exact b.free c o' e1 (a.free c ob q n hx) hx
  there:=fun c ob q hx=>by
    obtain ⟨o',e1⟩:=a.there c ob q hx
    exact b.there c o' e1 hx
  tups:=fun c xs q=>b.tups c xs (a.tups c xs q)
  frzs:=fun c ob xs q=>b.frzs c ob xs (a.frzs c ob xs q)
  tbls:=fun c ps q=>by
    obtain ⟨m1,e1⟩:=a.tbls c ps q
    obtain ⟨m2,e2⟩:=b.tbls c _ e1
    exact ⟨m1 ++ m2,by rw [e2,Array.append_assoc]⟩
theorem Un.kept (k:∀ b u,h.get? b = some u → h'.get? b = some u):Un fs ex H H h h' :=
  ⟨fun b ob q _ _ _=>k b ob q,fun b ob q _ _ _=>⟨ob.slots,k b ob q⟩,fun _ _ _ n _=>n,fun b ob q _=>⟨ob,k b ob q⟩,fun _ _ q=>q,fun _ _ _ q=>q,fun _ ps q=>⟨#[],by rw [q]; simp⟩⟩
theorem Un.refl:Un fs ex H H h h:=Un.kept fun _ _ q=>q
theorem Un.laid (k:∀ b u,h.get? b = some u → h'.get? b = some u) (hp:h.objs.size ≤ a) (hn:H a = none):Un fs ex H (upd H a o) h h' where
  keep:=fun b u q _ _ _=>k b u q
  slot:=fun b u q _ _ _=>⟨u.slots,k b u q⟩
  free:=fun b u q n _=>by rw [upd_ne (Nat.ne_of_lt (Nat.lt_of_lt_of_le (Heap.lt_size q) hp))]; exact n
  there:=fun b u q _=>⟨u,k b u q⟩
  tups:=fun b xs q=>by rw [upd_ne (ne_of_none q hn)]; exact q
  frzs:=fun b u xs q=>by rw [upd_ne (ne_of_none q hn)]; exact q
  tbls:=fun b ps q=>⟨#[],by rw [upd_ne (ne_of_none q hn),q]; simp⟩
theorem Un.write (mu:Mut (H x)) (he:e = x ∨ H e = some (.own x)) (k:∀ b u,b ≠ e → h.get? b = some u → h'.get? b = some u) (heo:∃ u,h'.get? e = some u):Un fs ex H (upd H x o) h h':=by
  have hx:∀ b,H b = none → b ≠ x:=fun b n z=>by subst z; rw [n] at mu; exact mu
  have hb:∀ b,H b = none → b ≠ e:=fun b n z=>by
    subst z
    rcases he with r | r
    · exact hx b n r
    · rw [n] at r; cases r
  have hm:∀ b u,H b = some u → ¬ Mut (some u) → b ≠ x:=fun b u q nm z=>by subst z; rw [q] at mu; exact nm mu
  refine ⟨fun b u q n _ _=>k b u (hb b n) q,fun b u q n _ _=>⟨u.slots,k b u (hb b n) q⟩,fun b u q n _=>by rw [upd_ne (hx b n)]; exact n,fun b u q _=>?_,
    fun b xs q=>by rw [upd_ne (hm b _ q fun z=>z)]; exact q,fun b u xs q=>by rw [upd_ne (hm b _ q fun z=>z)]; exact q,fun b ps q=>⟨#[],by rw [upd_ne (hm b _ q fun z=>z),q]; simp⟩⟩
  by_cases hbe:b = e
  · subst hbe; exact heo
  · exact ⟨u,k b u hbe q⟩
theorem Un.mono (u:Un fs ex H H1 h h1) (hs:∀ b ∈ fs,b ∈ fs') (hx:∀ b ∈ ex,b ∈ ex'):Un fs' ex' H H1 h h1 :=
  ⟨fun b ob q n hb he=>u.keep b ob q n (fun z=>hb (hs b z)) fun z=>he (hx b z),fun _ _ q n _ he=>u.any q n fun z=>he (hx _ z),fun b ob q n he=>u.free b ob q n fun z=>he (hx b z),fun b ob q he=>u.there b ob q fun z=>he (hx b z),u.tups,u.frzs,u.tbls⟩
end
def trk (h:Heap) (H:Hp):List Addr:=(List.range h.objs.size).filter fun a=>(H a).isSome
def hidT (h:Heap) (H:Hp):Heap:=PySem.W.hideAll h (trk h H)
theorem hidT_size (h:Heap) (H:Hp):(hidT h H).objs.size = h.objs.size:=PySem.W.hideAll_size _ _
theorem hidT_get {h:Heap} {H:Hp} {b:Addr} {o:Obj} (e:h.get? b = some o) (n:H b = none):(hidT h H).get? b = some o :=
  PySem.W.hideAll_get _ e fun hm=>by
    have q:(H b).isSome = true:=(List.mem_filter.mp hm).2
    rw [n] at q; simp at q
theorem of_hidT {h:Heap} {H:Hp} {b:Addr} {o:Obj} (e:(hidT h H).get? b = some o):h.get? b = some o ∧ H b = none:=by
  have e':h.get? b = some o:=PySem.W.of_hideAll (trk h H) e
  refine ⟨e',?_⟩
  cases q:H b with
  | none=>rfl
  | some x =>
    have hm:b ∈ trk h H:=List.mem_filter.mpr ⟨List.mem_range.mpr (Heap.lt_size e'),by simp [q]⟩
    have z:(hidT h H).get? b = none:=PySem.W.hideAll_none (trk h H) hm
    rw [z] at e; cases e
def allNews (g h:Heap) (L:Addr):List (Addr × Obj):=(List.range h.objs.size).filterMap fun a=>if a = L ∨ (g.get? a).isSome = true then none else (h.get? a).map fun o=>(a,o)
def rest (g h:Heap) (L d:Addr):List (Addr × Obj):=(allNews g h L).filter fun p=>decide (p.1 ≠ d)
end L2
namespace L2
open PySem PySem.Spec PyProof.Rows
structure Mod (K:PySem.W.Frag) (mg:Str → Option Value) (base:Heap):Prop where
  kin:K.In base
  glob:base.Ns mainGlobals mg
  blt:∃ mb,base.Ns builtinsNs mb ∧ ∀ x:Str,x ≠ "__name__" → mb x = bootBuiltins x
  nolimit:base.NoLimit
structure Cx where
  prog:Program
  w:World
  K:PySem.W.Frag
  mg:Str → Option Value
  base:Heap
  A:Around
  N:List Str
  s₀:Shared
  H₀:Hp
  env:Env
  outer:List Env
  stack:List Env
  ex:List Addr
  fn:Str → Bool
  calm:Bool
  pn:List (Addr × Obj)
  xe:Value → Shared → Prop
def frs (l:List Env):List Addr:=l.filterMap (·.frame)
abbrev Cx.fs (X:Cx):List Addr:=frs X.outer
def Vis (sc:Scope) (x:Str):Prop:=sc.names.lookup x = some .local ∨ sc.names.lookup x = some .cell ∨ sc.names.lookup x = some .free
def Loc (sc:Scope) (x:Str):Prop:=sc.names.lookup x = some .local ∨ sc.names.lookup x = some .cell
def Look (env:Env) (h:Heap) (m:Str → Option Value) (x:Str) (u:Value):Prop :=
  (env.kindOf x = some .local ∧ m x = some u) ∨ ((env.kindOf x = some .cell ∨ env.kindOf x = some .free) ∧ ∃ c,env.cells.lookup x = some c ∧ h.IsCell c (some u))
structure Cx.Ok (X:Cx):Prop where
  mod:Mod X.K X.mg X.base
  kind:X.env.scope.kind = .function
  glob:X.env.globals = mainGlobals
  blt:X.env.builtins = builtinsNs
  above:X.s₀.heap.objs.size ≤ X.env.locals
  inj:∀ x y c,X.env.cells.lookup x = some c → X.env.cells.lookup y = some c → x = y
  has:∀ x,(X.env.kindOf x = some .cell ∨ X.env.kindOf x = some .free) → ∃ c,X.env.cells.lookup x = some c
  cab:∀ x c,X.fn x = true → X.env.cells.lookup x = some c → X.s₀.heap.objs.size ≤ c
  hd:X.calm = true → X.A.handled = none
  frames:X.A.frames = some X.stack
  stk:X.stack = X.outer ∨ (X.stack = X.env :: X.outer ∧ X.env.frame = some X.env.locals)
  exf:∀ b ∈ X.ex,b ≠ X.env.locals ∧ ∀ x c,X.env.cells.lookup x = some c → c ≠ b
  bs:∀ b o,X.base.get? b = some o → X.s₀.heap.get? b = some o ∧ X.H₀ b = none
  bsz:X.base.objs.size ≤ X.s₀.heap.objs.size
  noex:∀ b o,X.base.get? b = some o → b ∉ X.ex
  exfs:∀ b ∈ X.ex,b ∉ X.fs
  funs:X.s₀.heap.FunFrames X.base X.outer
  frf:∀ b ∈ X.fs,X.H₀ b = none
structure Inv (X:Cx) (pins:List (Addr × Obj)) (σ:List (Option V)) (H:Hp) (s:Shared):Prop where
  ok:X.Ok
  os:s.os = X.s₀.os
  bare:AllBare s.gens
  base:Un X.fs X.ex X.H₀ H X.s₀.heap s.heap
  loc:∃ m,s.heap.Ns X.env.locals m ∧ ∀ (i:Nat) (x:Str) (v:V),X.N[i]? = some x → σ[i]? = some (some v) → Vis X.env.scope x → ∃ u,RelV v u ∧ Look X.env s.heap m x u
  cell:∀ x c,X.env.cells.lookup x = some c → ∃ v,s.heap.IsCell c v
  free:H X.env.locals = none
  freeC:∀ x c,X.env.cells.lookup x = some c → H c = none
  pin:∀ p ∈ X.pn ++ pins,s.heap.get? p.1 = some p.2 ∧ H p.1 = none ∧ p.1 ≠ X.env.locals ∧ p.1 ∉ X.fs ∧ ∀ v,p.2.data ≠ .cell v
  hok:HOk X.prog X.w H s.heap
  len:σ.length = X.N.length
section
variable {X:Cx} {pins:List (Addr × Obj)} {σ:List (Option V)} {H H':Hp} {s:Shared} {h':Heap}
theorem Cx.Ok.nofr (ok:X.Ok) {b:Addr} {o:Obj} (e:X.base.get? b = some o):b ∉ X.fs:=fun hb=>by
  have:=(ok.funs.mem hb).1
  rw [e] at this; cases this
theorem Inv.bs (I:Inv X pins σ H s):∀ b o,X.base.get? b = some o → s.heap.get? b = some o ∧ H b = none:=fun b o e =>
  ⟨I.base.keep b o (I.ok.bs b o e).1 (I.ok.bs b o e).2 (I.ok.nofr e) (I.ok.noex b o e),I.base.free b o (I.ok.bs b o e).1 (I.ok.bs b o e).2 (I.ok.noex b o e)⟩
theorem Inv.bk (I:Inv X pins σ H s):∀ b o,X.base.get? b = some o → s.heap.get? b = some o:=fun b o e=>(I.bs b o e).1
theorem Inv.mod (I:Inv X pins σ H s):Mod X.K X.mg X.base:=I.ok.mod
theorem Inv.kIn (I:Inv X pins σ H s):X.K.In s.heap:=I.ok.mod.kin.keeps I.bk
theorem Inv.nolimit (I:Inv X pins σ H s):s.heap.NoLimit:=I.ok.mod.nolimit.keeps I.bk
theorem Inv.lt (I:Inv X pins σ H s):X.env.locals < s.heap.objs.size:=let ⟨_,hn,_⟩:=I.loc; hn.lt
theorem Inv.sz (I:Inv X pins σ H s):X.s₀.heap.objs.size ≤ s.heap.objs.size:=Nat.le_trans I.ok.above (Nat.le_of_lt I.lt)
theorem Inv.nofs (I:Inv X pins σ H s) {a:Addr} (h:s.heap.objs.size ≤ a):a ∉ X.fs:=fun hb=>by
  obtain ⟨_,o,ho,_⟩:=I.ok.funs.mem hb
  exact absurd (Nat.lt_of_lt_of_le (Heap.lt_size ho) (Nat.le_trans I.sz h)) (Nat.lt_irrefl _)
theorem Inv.cne (I:Inv X pins σ H s):∀ x c,X.env.cells.lookup x = some c → c ≠ X.env.locals:=fun x c e z=>by
  obtain ⟨v,o,ho,hd⟩:=I.cell x c e
  obtain ⟨m,⟨o',es,ep,ho',hd',_⟩,_⟩:=I.loc
  rw [z,ho'] at ho; cases ho; rw [hd'] at hd; cases hd
theorem Inv.funs (I:Inv X pins σ H s):s.heap.FunFrames X.base X.outer:=by
  have all:∀ (l:List Env),(∀ b ∈ frs l,b ∈ X.fs) → X.s₀.heap.FunFrames X.base l → s.heap.FunFrames X.base l:=by
    intro l
    induction l with
    | nil=>intro _ _; trivial
    | cons env r ih =>
      intro hs hl
      obtain ⟨hk,⟨L,o,hf,hn,ho,hd⟩,hr⟩:=hl
      have hL:L ∈ X.fs:=hs L (by unfold frs; rw [List.filterMap_cons,hf]; exact List.mem_cons_self)
      obtain ⟨sl,e⟩:=I.base.slot L o ho (I.ok.frf L hL) hL fun z=>I.ok.exfs L z hL
      exact ⟨hk,⟨L,_,hf,hn,e,hd⟩,ih (fun b hb=>hs b (by unfold frs; rw [List.filterMap_cons,hf]; exact List.mem_cons_of_mem _ hb)) hr⟩
  exact all X.outer (fun _ hb=>hb) I.ok.funs
theorem Inv.stack (I:Inv X pins σ H s):s.heap.FunFrames X.base X.stack:=by
  rcases I.ok.stk with e | ⟨e,hf⟩
  · rw [e]; exact I.funs
  · rw [e]
    obtain ⟨m,hn,_⟩:=I.loc
    refine .cons (by rw [I.ok.kind]; decide) hf hn ?_ I.funs
    exact Heap.get?_none_of_le (Nat.le_trans I.ok.bsz I.ok.above)
theorem Inv.stkSub (I:Inv X pins σ H s):∀ b ∈ frs X.stack,b ∈ X.env.locals :: X.fs:=fun b hb=>by
  rcases I.ok.stk with e | ⟨e,hf⟩
  · rw [e] at hb; exact List.mem_cons_of_mem _ hb
  · rw [e] at hb
    unfold frs at hb
    rw [List.filterMap_cons,hf] at hb
    exact hb
theorem Inv.stkFree (I:Inv X pins σ H s):∀ b ∈ frs X.stack,H b = none:=fun b hb=>by
  rcases List.mem_cons.mp (I.stkSub b hb) with e | hb
  · rw [e]; exact I.free
  · obtain ⟨_,o,ho,_⟩:=I.ok.funs.mem hb
    exact I.base.free b o ho (I.ok.frf b hb) fun z=>I.ok.exfs b z hb
theorem Inv.step {g':Array GenState} {t':Nat} {d':Drawn} {ch:List Addr} (I:Inv X pins σ H s)
    (hch:∀ b ∈ ch,(b ∈ X.ex ∨ X.s₀.heap.objs.size ≤ b) ∧ b ≠ X.env.locals ∧ (∀ x c,X.env.cells.lookup x = some c → c ≠ b) ∧ ∀ p ∈ X.pn ++ pins,p.1 ≠ b)
    (keep:∀ b o,b ≠ X.env.locals → b ∉ X.fs → b ∉ ch → s.heap.get? b = some o → H b = none → h'.get? b = some o)
    (slot:∀ b o,b ≠ X.env.locals → b ∈ X.fs → b ∉ ch → s.heap.get? b = some o → H b = none → ∃ sl,h'.get? b = some { o with slots:=sl }) (free:∀ b o,b ∉ ch → s.heap.get? b = some o → H b = none → H' b = none)
    (there:∀ b o,b ∉ ch → s.heap.get? b = some o → ∃ o',h'.get? b = some o')
    (tups:∀ b xs,H b = some (.tup xs) → H' b = some (.tup xs)) (frzs:∀ b o u,H b = some (.frz o u) → H' b = some (.frz o u)) (tbls:∀ b ps,H b = some (.tbl ps) → ∃ more,H' b = some (.tbl (ps ++ more)))
    (ns:∀ m,s.heap.Ns X.env.locals m → h'.Ns X.env.locals m) (hok:HOk X.prog X.w H' h') (hg:AllBare g') :
    Inv X pins σ H' { s with heap:=h',gens:=g',drawn:=d',toks:=t' }:=by
  have neL:∀ b o,X.s₀.heap.get? b = some o → b ≠ X.env.locals:=fun b o e=>Nat.ne_of_lt (Nat.lt_of_lt_of_le (Heap.lt_size e) I.ok.above)
  have neC:∀ b o,X.s₀.heap.get? b = some o → b ∉ X.ex → b ∉ ch:=fun b o e hx hb=>by
    rcases (hch b hb).1 with z | z
    · exact hx z
    · exact absurd (Nat.lt_of_lt_of_le (Heap.lt_size e) z) (Nat.lt_irrefl _)
  have cellK:∀ x c,X.env.cells.lookup x = some c → ∀ v,s.heap.IsCell c v → h'.IsCell c v:=fun x c e v ⟨o,ho,hd⟩=>by
    have nch:c ∉ ch:=fun z=>(hch c z).2.2.1 x c e rfl
    by_cases hc:c ∈ X.fs
    · obtain ⟨sl,q⟩:=slot c o (I.cne x c e) hc nch ho (I.freeC x c e)
      exact ⟨_,q,hd⟩
    · exact ⟨o,keep c o (I.cne x c e) hc nch ho (I.freeC x c e),hd⟩
  refine ⟨I.ok,I.os,hg,⟨fun b o e n hb hx=>?_,fun b o e n hb hx=>?_,fun b o e n hx=>?_,fun b o e hx=>?_,fun b xs e=>tups b xs (I.base.tups b xs e),fun b o xs e=>frzs b o xs (I.base.frzs b o xs e),fun b ps e=>?_⟩,?_,fun x c e=>?_,?_,fun x c e=>?_,fun p hp=>?_,hok,I.len⟩
  · exact keep b o (neL b o e) hb (neC b o e hx) (I.base.keep b o e n hb hx) (I.base.free b o e n hx)
  · obtain ⟨sl,e1⟩:=I.base.slot b o e n hb hx
    obtain ⟨sl',e2⟩:=slot b _ (neL b o e) hb (neC b o e hx) e1 (I.base.free b o e n hx)
    exact ⟨sl',e2⟩
  · obtain ⟨o',e1⟩:=I.base.there b o e hx
    exact free b o' (neC b o e hx) e1 (I.base.free b o e n hx)
  · obtain ⟨o',e1⟩:=I.base.there b o e hx
    exact there b o' (neC b o e hx) e1
  · obtain ⟨m1,e1⟩:=I.base.tbls b ps e
    obtain ⟨m2,e2⟩:=tbls b _ e1
    exact ⟨m1 ++ m2,by rw [e2,Array.append_assoc]⟩
  · obtain ⟨m,hn,hl⟩:=I.loc
    refine ⟨m,ns m hn,fun i x v e1 e2 e3=>?_⟩
    obtain ⟨u,r,l⟩:=hl i x v e1 e2 e3
    refine ⟨u,r,?_⟩
    rcases l with l | ⟨k,c,e,z⟩
    · exact .inl l
    · exact .inr ⟨k,c,e,cellK x c e _ z⟩
  · obtain ⟨v,z⟩:=I.cell x c e
    exact ⟨v,cellK x c e v z⟩
  · obtain ⟨m,⟨o,_,_,ho,_⟩,_⟩:=I.loc
    exact free _ o (fun z=>(hch _ z).2.1 rfl) ho I.free
  · obtain ⟨v,o,ho,hd⟩:=I.cell x c e
    exact free c o (fun z=>(hch c z).2.2.1 x c e rfl) ho (I.freeC x c e)
  · obtain ⟨e,n,ne,nf,d⟩:=I.pin p hp
    have nch:p.1 ∉ ch:=fun z=>(hch p.1 z).2.2.2 p hp rfl
    exact ⟨keep p.1 p.2 ne nf nch e n,free p.1 p.2 nch e n,ne,nf,d⟩
theorem Inv.un {t':Nat} (I:Inv X pins σ H s) (u:Un X.fs [] H H' s.heap h') (hok:HOk X.prog X.w H' h'):Inv X pins σ H' { s with heap:=h',toks:=t' }:=by
  obtain ⟨m,⟨o,es,ep,ho,r⟩,_⟩:=id I.loc
  obtain ⟨sl,hL⟩:=u.any ho I.free (by simp)
  exact I.step (g':=s.gens) (d':=s.drawn) (ch:=[]) (fun _ z=>nomatch z) (fun b o _ hb _ e n=>u.keep b o e n hb (by simp)) (fun b o _ hb _ e n=>u.slot b o e n hb (by simp)) (fun b o _ e n=>u.free b o e n (by simp)) (fun b o _ e=>u.there b o e (by simp)) u.tups u.frzs u.tbls (fun m' hm=>by
    obtain ⟨o',es',ep',ho',r'⟩:=hm
    rw [ho] at ho'; cases ho'
    exact ⟨_,es',ep',hL,r'⟩) hok I.bare
theorem Inv.call {g':Array GenState} {t':Nat} {d':Drawn} {ch:List Addr} (I:Inv X pins σ H s) (u:Un (frs X.stack) ch H H' s.heap h') (hok:HOk X.prog X.w H' h') (hg:AllBare g')
    (hch:∀ b ∈ ch,(b ∈ X.ex ∨ X.s₀.heap.objs.size ≤ b) ∧ b ≠ X.env.locals ∧ (∀ x c,X.env.cells.lookup x = some c → c ≠ b) ∧ ∀ p ∈ X.pn ++ pins,p.1 ≠ b) :
    Inv X pins σ H' { s with heap:=h',gens:=g',drawn:=d',toks:=t' }:=by
  obtain ⟨m,⟨o,es,ep,ho,r⟩,_⟩:=id I.loc
  obtain ⟨sl,hL⟩:=u.any ho I.free fun z=>(hch _ z).2.1 rfl
  exact I.step (ch:=ch) hch (fun b o hL hb hc e n=>u.keep b o e n (fun z=>(List.mem_cons.mp (I.stkSub b z)).elim hL hb) hc) (fun b o _ _ hc e n=>u.any e n hc) (fun b o hc e n=>u.free b o e n hc) (fun b o hc e=>u.there b o e hc) u.tups u.frzs u.tbls (fun m' hm=>by
    obtain ⟨o',es',ep',ho',r'⟩:=hm
    rw [ho] at ho'; cases ho'
    exact ⟨_,es',ep',hL,r'⟩) hok hg
theorem Inv.turned {t':Nat} {it:Addr} (I:Inv X pins σ H s) (k:∀ b o,b ≠ it → s.heap.get? b = some o → h'.get? b = some o) (hn:H it = none) (hL:it ≠ X.env.locals)
    (h1:it ∈ X.ex ∨ X.s₀.heap.objs.size ≤ it) (h2:∀ x c,X.env.cells.lookup x = some c → c ≠ it) (h3:∀ p ∈ X.pn ++ pins,p.1 ≠ it):Inv X pins σ H { s with heap:=h',toks:=t' }:=by
  have nit:∀ b u,H b = some u → b ≠ it:=fun b u e z=>by rw [z,hn] at e; cases e
  refine I.step (g':=s.gens) (d':=s.drawn) (ch:=[it]) (fun b hb=>?_) (fun b o _ _ hc e _=>k b o (fun z=>hc (by simp [z])) e) (fun b o _ _ hc e _=>⟨o.slots,k b o (fun z=>hc (by simp [z])) e⟩) (fun _ _ _ _ n=>n)
    (fun b o hc e=>⟨o,k b o (fun z=>hc (by simp [z])) e⟩) (fun _ _ e=>e) (fun _ _ _ e=>e) (fun b ps e=>⟨#[],by rw [e]; simp⟩) (fun m hm=>?_) (fun b u e=>?_) I.bare
  · have e:b = it:=by simpa using hb
    subst e
    exact ⟨h1,hL,h2,h3⟩
  · obtain ⟨o,es,ep,ho,r⟩:=hm
    exact ⟨o,es,ep,k _ o (Ne.symm hL) ho,r⟩
  · refine (I.hok b u e).stay (fun c v hc q=>k c v ?_ q) (fun _ q=>q) fun _ _ q=>q
    rcases hc with z | z
    · rw [z]; exact nit b u e
    · exact nit c _ z
theorem Inv.tok (I:Inv X pins σ H s) (t:Nat):Inv X pins σ H { s with toks:=t }:=I.un (h':=s.heap) (t':=t) Un.refl I.hok
theorem Inv.kept {t':Nat} (I:Inv X pins σ H s) (k:∀ b u,s.heap.get? b = some u → h'.get? b = some u):Inv X pins σ H { s with heap:=h',toks:=t' }:=I.un (Un.kept k) (I.hok.kept k)
theorem Inv.laid {a:Addr} {o:HO} {t':Nat} (I:Inv X pins σ H s) (k:∀ b u,s.heap.get? b = some u → h'.get? b = some u) (hp:s.heap.objs.size ≤ a) (new:ObjOk X.prog X.w (upd H a o) h' a o) :
    Inv X pins σ (upd H a o) { s with heap:=h',toks:=t' }:=I.un (Un.laid k hp (I.hok.fresh hp)) (I.hok.laid k hp new)
theorem Inv.write {x e:Addr} {o:HO} {t':Nat} (I:Inv X pins σ H s) (mu:Mut (H x)) (he:e = x ∨ H e = some (.own x)) (k:∀ b u,b ≠ e → s.heap.get? b = some u → h'.get? b = some u) (heo:∃ u,h'.get? e = some u)
    (new:ObjOk X.prog X.w (upd H x o) h' x o):Inv X pins σ (upd H x o) { s with heap:=h',toks:=t' }:=I.un (Un.write mu he k heo) (I.hok.write mu he k heo new)
theorem Inv.weak {σ':List (Option V)} (I:Inv X pins σ H s) (hl:σ'.length = σ.length) (w:∀ (i:Nat) v,σ'[i]? = some (some v) → σ[i]? = some (some v)):Inv X pins σ' H s :=
  ⟨I.ok,I.os,I.bare,I.base,let ⟨m,hn,hl'⟩:=I.loc; ⟨m,hn,fun i x v e1 e2 e3=>hl' i x v e1 (w i v e2) e3⟩,I.cell,I.free,I.freeC,I.pin,I.hok,hl.trans I.len⟩
theorem Inv.pins_of {pins':List (Addr × Obj)} (I:Inv X pins σ H s) (h:∀ p ∈ pins',s.heap.get? p.1 = some p.2 ∧ H p.1 = none ∧ p.1 ≠ X.env.locals ∧ p.1 ∉ X.fs ∧ ∀ v,p.2.data ≠ .cell v):Inv X pins' σ H s :=
  ⟨I.ok,I.os,I.bare,I.base,I.loc,I.cell,I.free,I.freeC,fun p hp=>(List.mem_append.mp hp).elim (fun z=>I.pin p (List.mem_append_left _ z)) (h p),I.hok,I.len⟩
theorem nodup_ix {N:List Str} (hN:N.Nodup) {i j:Nat} {x:Str} (a:N[i]? = some x) (b:N[j]? = some x):i = j:=by
  obtain ⟨h1,e1⟩:=List.getElem?_eq_some_iff.mp a
  obtain ⟨h2,e2⟩:=List.getElem?_eq_some_iff.mp b
  exact (List.getElem_inj hN).mp (e1.trans e2.symm)
theorem store_ok2 {M:Model} {A:Around} {E:Value → Shared → Prop} {i:Nat} {x:Str} {v:V} {u:Value} {Q:Unit → Shared → Prop} (I:Inv X pins σ H s) (hN:X.N.Nodup) (hi:X.N[i]? = some x) (hx:Loc X.env.scope x) (r:RelV v u)
    (h:∀ s',Inv X pins (σ.set i (some v)) H s' → (∃ a,Heap.SameBut a s.heap s'.heap ∧ (a = X.env.locals ∨ X.env.cells.lookup x = some a)) → Q () s') (hf:X.fn x = true ∨ X.env.scope.names.lookup x = some .local:=by first | exact .inl rfl | exact .inr rfl | assumption):wpAny M A (storeName X.env x u) Q E s:=by
  obtain ⟨m,hn,hl⟩:=id I.loc
  have hcls:(X.env.scope.kind == .class || (X.env.scope.kind == .module && X.env.locals != X.env.globals)) = false:=by rw [I.ok.kind]; rfl
  have hiσ:i < σ.length:=by rw [I.len]; exact (List.getElem?_eq_some_iff.mp hi).1
  have cne:=I.cne
  have tracked:∀ {a:Addr} {h':Heap},(∃ o,s.heap.get? a = some o ∧ H a = none) → Heap.SameBut a s.heap h' → HOk X.prog X.w H h':=fun {a h'} ha hs b ob e=>by
    obtain ⟨_,_,hfree⟩:=ha
    refine (I.hok b ob e).stay (fun c w' hc q=>(hs.2 c ?_).trans q) (fun _ q=>q) fun _ _ q=>q
    rintro rfl
    rcases hc with rfl | hc
    · rw [hfree] at e; cases e
    · rw [hfree] at hc; cases hc
  rcases hx with hk | hk
  · refine wpAny_storeName_local hk hn (fun h' hn' hs=>?_) hcls
    obtain ⟨oL,_,_,hoL,_⟩:=id hn
    refine h _ ⟨I.ok,I.os,I.bare,⟨fun b o e n hb hx=>?_,fun b o e n hb hx=>?_,I.base.free,fun b o e hx=>?_,I.base.tups,I.base.frzs,I.base.tbls⟩,⟨_,hn',fun j y v' e1 e2 e3=>?_⟩,fun y c e=>?_,I.free,I.freeC,fun p hp=>?_,tracked ⟨oL,hoL,I.free⟩ hs,by simpa using I.len⟩ ⟨_,hs,.inl rfl⟩
    · exact (hs.2 b (Nat.ne_of_lt (Nat.lt_of_lt_of_le (Heap.lt_size e) I.ok.above))).trans (I.base.keep b o e n hb hx)
    · obtain ⟨sl,e1⟩:=I.base.slot b o e n hb hx
      exact ⟨sl,(hs.2 b (Nat.ne_of_lt (Nat.lt_of_lt_of_le (Heap.lt_size e) I.ok.above))).trans e1⟩
    · obtain ⟨o',e1⟩:=I.base.there b o e hx
      exact ⟨o',(hs.2 b (Nat.ne_of_lt (Nat.lt_of_lt_of_le (Heap.lt_size e) I.ok.above))).trans e1⟩
    · by_cases hj:j = i
      · subst hj
        rw [hi] at e1; cases e1
        rw [List.getElem?_set_self hiσ] at e2
        cases e2
        exact ⟨u,r,.inl ⟨hk,by simp⟩⟩
      · rw [List.getElem?_set_ne (Ne.symm hj)] at e2
        obtain ⟨u',r',q⟩:=hl j y v' e1 e2 e3
        refine ⟨u',r',?_⟩
        rcases q with ⟨k,e⟩ | ⟨k,c,e,z⟩
        · refine .inl ⟨k,?_⟩
          have:y ≠ x:=fun e=>hj (nodup_ix hN e1 (e ▸ hi))
          simp [this,e]
        · exact .inr ⟨k,c,e,z.sameBut hs (cne y c e)⟩
    · obtain ⟨w',z⟩:=I.cell y c e
      exact ⟨w',z.sameBut hs (cne y c e)⟩
    · obtain ⟨e,n,ne,nf,d⟩:=I.pin p hp
      exact ⟨(hs.2 p.1 ne).trans e,n,ne,nf,d⟩
  · have hfn:X.fn x = true:=by
      rcases hf with z | z
      · exact z
      · rw [z] at hk; cases hk
    obtain ⟨c,hc⟩:=I.ok.has x (.inl hk)
    obtain ⟨w',z⟩:=I.cell x c hc
    refine wpAny_storeName_cell I.ok.kind hk hc z (fun h' hc' hs=>?_)
    obtain ⟨oc,hoc,hocd⟩:=id z
    refine h { s with heap:=h' } ⟨I.ok,I.os,I.bare,⟨fun b o e n hb hx=>?_,fun b o e n hb hx=>?_,I.base.free,fun b o e hx=>?_,I.base.tups,I.base.frzs,I.base.tbls⟩,⟨m,hn.sameBut hs (Ne.symm (cne x c hc)),fun j y v' e1 e2 e3=>?_⟩,fun y c' e=>?_,I.free,I.freeC,fun p hp=>?_,tracked ⟨oc,hoc,I.freeC x c hc⟩ hs,by simpa using I.len⟩ ⟨c,hs,.inr hc⟩
    · exact (hs.2 b (Nat.ne_of_lt (Nat.lt_of_lt_of_le (Heap.lt_size e) (I.ok.cab x c hfn hc)))).trans (I.base.keep b o e n hb hx)
    · obtain ⟨sl,e1⟩:=I.base.slot b o e n hb hx
      exact ⟨sl,(hs.2 b (Nat.ne_of_lt (Nat.lt_of_lt_of_le (Heap.lt_size e) (I.ok.cab x c hfn hc)))).trans e1⟩
    · obtain ⟨o',e1⟩:=I.base.there b o e hx
      exact ⟨o',(hs.2 b (Nat.ne_of_lt (Nat.lt_of_lt_of_le (Heap.lt_size e) (I.ok.cab x c hfn hc)))).trans e1⟩
    · by_cases hj:j = i
      · subst hj
        rw [hi] at e1; cases e1
        rw [List.getElem?_set_self hiσ] at e2
        cases e2
        exact ⟨u,r,.inr ⟨.inl hk,c,hc,hc'⟩⟩
      · rw [List.getElem?_set_ne (Ne.symm hj)] at e2
        obtain ⟨u',r',q⟩:=hl j y v' e1 e2 e3
        refine ⟨u',r',?_⟩
        rcases q with q | ⟨k,c',e,z'⟩
        · exact .inl q
        · refine .inr ⟨k,c',e,z'.sameBut hs ?_⟩
          rintro rfl
          exact hj (nodup_ix hN e1 (I.ok.inj _ _ _ e hc ▸ hi))
    · by_cases hcc:c' = c
      · subst hcc; exact ⟨_,hc'⟩
      · obtain ⟨w2,z2⟩:=I.cell y c' e
        exact ⟨w2,z2.sameBut hs hcc⟩
    · obtain ⟨e,n,ne,nf,d⟩:=I.pin p hp
      refine ⟨(hs.2 p.1 ?_).trans e,n,ne,nf,d⟩
      intro q
      rw [q,hoc] at e
      have q':oc = p.2:=Option.some.inj e
      exact d w' (by rw [← q']; exact hocd)
theorem store_ok {M:Model} {A:Around} {E:Value → Shared → Prop} {i:Nat} {x:Str} {v:V} {u:Value} {Q:Unit → Shared → Prop} (I:Inv X pins σ H s) (hN:X.N.Nodup) (hi:X.N[i]? = some x) (hx:Loc X.env.scope x) (r:RelV v u)
    (h:∀ s',Inv X pins (σ.set i (some v)) H s' → Q () s') (hf:X.fn x = true ∨ X.env.scope.names.lookup x = some .local:=by first | exact .inl rfl | exact .inr rfl | assumption):wpAny M A (storeName X.env x u) Q E s :=
  store_ok2 I hN hi hx r (fun s' I' _=>h s' I') hf
theorem Inv.call' {s':Shared} {ch:List Addr} (I:Inv X pins σ H s) (ho:s'.os = s.os) (u:Un (frs X.stack) ch H H' s.heap s'.heap) (hok:HOk X.prog X.w H' s'.heap) (hg:AllBare s'.gens)
    (hch:∀ b ∈ ch,(b ∈ X.ex ∨ X.s₀.heap.objs.size ≤ b) ∧ b ≠ X.env.locals ∧ (∀ x c,X.env.cells.lookup x = some c → c ≠ b) ∧ ∀ p ∈ X.pn ++ pins,p.1 ≠ b):Inv X pins σ H' s':=by
  obtain ⟨h',g',d',t',o'⟩:=s'
  have e:o' = s.os:=ho
  subst e
  exact I.call (g':=g') (t':=t') (d':=d') u hok hg hch
end
abbrev XK:=Value → Option Addr → Hp → Prop
abbrev St:=List (Option V)
abbrev VK:=V → Hp → Prop
abbrev TE:=St → Hp → VK → Prop
abbrev TT:=St → Hp → (Bool → Hp → Prop) → Prop
abbrev TA:=St → Hp → (List V → Hp → Prop) → Prop
structure Ends where
  nx:St → Hp → Prop
  rt:VK
  bk:St → Hp → Prop:=fun _ _=>False
  ct:St → Hp → Prop:=fun _ _=>False
abbrev TS:=Ends → St → Hp → Prop
def EP (X:Cx) (pins:List (Addr × Obj)) (σ:St) (Q:VK) (u:Value) (s':Shared):Prop:=∃ v H',Inv X pins σ H' s' ∧ RelV v u ∧ Q v H'
def TP (X:Cx) (pins:List (Addr × Obj)) (σ:St) (Q:Bool → Hp → Prop) (b:Bool) (s':Shared):Prop:=∃ H',Inv X pins σ H' s' ∧ Q b H'
def AP (X:Cx) (pins:List (Addr × Obj)) (σ:St) (Q:List V → Hp → Prop) (us:List Value) (s':Shared):Prop:=∃ vs H',Inv X pins σ H' s' ∧ Vals vs us ∧ Q vs H'
def SP (X:Cx) (pins:List (Addr × Obj)) (D:Ends) (f:Flow) (s':Shared):Prop :=
  match f with
  | .next=>∃ σ' H',Inv X pins σ' H' s' ∧ D.nx σ' H'
  | .brk=>∃ σ' H',Inv X pins σ' H' s' ∧ D.bk σ' H'
  | .cont=>∃ σ' H',Inv X pins σ' H' s' ∧ D.ct σ' H'
  | .ret u=>∃ v σ' H',Inv X pins σ' H' s' ∧ RelV v u ∧ D.rt v H'
def PE (X:Cx) (e:Expr) (t:TE):Prop :=
  ∀ (pins:List (Addr × Obj)) (s:Shared) (σ:St) (H:Hp) (Q:VK),Inv X pins σ H s → t σ H Q → wpAny (model X.prog X.w) X.A (eval e X.env) (EP X pins σ Q) X.xe s
def PT (X:Cx) (e:Expr) (t:TT):Prop :=
  ∀ (pins:List (Addr × Obj)) (s:Shared) (σ:St) (H:Hp) (Q:Bool → Hp → Prop),Inv X pins σ H s → t σ H Q → wpAny (model X.prog X.w) X.A (isTrue e X.env (eval e X.env)) (TP X pins σ Q) X.xe s
def PW (X:Cx) (e:Expr) (t:TT):Prop :=
  ∀ (whole:Sem Value) (pins:List (Addr × Obj)) (s:Shared) (σ:St) (H:Hp) (Q:Bool → Hp → Prop),Inv X pins σ H s → t σ H Q → wpAny (model X.prog X.w) X.A (isTrue e X.env whole) (TP X pins σ Q) X.xe s
theorem PW.pt {X:Cx} {e:Expr} {t:TT} (h:PW X e t):PT X e t:=h _
def PA (X:Cx) (es:List Expr) (t:TA):Prop :=
  ∀ (pos:Pos) (pins:List (Addr × Obj)) (s:Shared) (σ:St) (H:Hp) (Q:List V → Hp → Prop),Inv X pins σ H s → t σ H Q → wpAny (model X.prog X.w) X.A (spliced (backTo pos (starEach es X.env))) (AP X pins σ Q) X.xe s
def PS (X:Cx) (st:Stmt) (t:TS):Prop :=
  ∀ (pins:List (Addr × Obj)) (s:Shared) (σ:St) (H:Hp) (D:Ends),Inv X pins σ H s → t D σ H → wpAny (model X.prog X.w) X.A (exec st X.env) (SP X pins D) X.xe s
def PSs (X:Cx) (st:List Stmt) (t:TS):Prop :=
  ∀ (pins:List (Addr × Obj)) (s:Shared) (σ:St) (H:Hp) (D:Ends),Inv X pins σ H s → t D σ H → wpAny (model X.prog X.w) X.A (execs st X.env) (SP X pins D) X.xe s
theorem thn {α:Type} {t:Sem α} {Q Q':α → Shared → Prop} {M:Model} {A:Around} {E:Value → Shared → Prop} {s:Shared} (h:wpAny M A t Q E s) (hQ:∀ a s,Q a s → Q' a s):wpAny M A t Q' E s:=wpAny_mono h hQ fun _ _ x=>x
end L2
namespace L2
open PySem PySem.Spec PyProof.Rows
section
variable {X:Cx}
def tVar (i:Nat):TE:=fun σ H Q=>∃ v,σ[i]? = some (some v) ∧ Q v H
def tC (v:V):TE:=fun _ H Q=>Q v H
theorem pe_var {i:Nat} {x:Str} {pos:Pos} (hN:X.N[i]? = some x) (hv:Vis X.env.scope x) (hd:(x == ("__debug__" : Str)) = false:=by decide) (hcd:(x == ("__classdict__" : Str)) = false:=by decide):PE X (.Name x pos) (tVar i):=by
  intro pins s σ H Q I h
  obtain ⟨v,e,h⟩:=h
  obtain ⟨m,hn,hl⟩:=I.loc
  obtain ⟨u,r,l⟩:=hl i x v hN e hv
  have fin:EP X pins σ Q u s:=⟨v,H,I,r,h⟩
  rcases l with ⟨hk,hm⟩ | ⟨hk,c,hc,hcell⟩
  · exact wpAny_Name (wpAny_loadName_local I.ok.kind hk hn hm fin) hd
  · rcases hk with hk | hk
    · exact wpAny_Name (wpAny_loadName_cell I.ok.kind hk hc hcell fin) hd
    · exact wpAny_Name (wpAny_loadName_free I.ok.kind hk hc hcell fin hcd) hd
theorem pe_int {i j pos}:PE X (.Constant (.int i) j pos) (tC (.int i)):=fun _ _ _ H _ I h=>wpAny_Constant_int ⟨.int i,H,I.tok _,⟨_,rfl⟩,h⟩
theorem pe_bl {b j pos}:PE X (.Constant (.bool b) j pos) (tC (.bl b)):=fun _ _ _ H _ I h=>Constant_bool ⟨.bl b,H,I,rfl,h⟩
theorem pe_non {j pos}:PE X (.Constant .none j pos) (tC .non):=fun _ _ _ H _ I h=>Constant_none ⟨.non,H,I,rfl,h⟩
def Gl (X:Cx) (x:Str):Prop:=X.env.kindOf x = some .globalImplicit
theorem ld_glob {E:Value → Shared → Prop} {pins:List (Addr × Obj)} {s:Shared} {σ:St} {H:Hp} {x:Str} {u:Value} {pos:Pos} {Q:Value → Shared → Prop} (I:Inv X pins σ H s) (hg:Gl X x) (hm:X.mg x = some u) (h:Q u s)
    (hd:(x == ("__debug__" : Str)) = false:=by decide):wpAny (model X.prog X.w) X.A (eval (.Name x pos) X.env) Q E s :=
  Calls.Name_function_global I.ok.kind hg (Calls.loadGlobal_global (by rw [I.ok.glob]; exact I.mod.glob.keeps I.bk) hm h) hd
theorem ld_blt {E:Value → Shared → Prop} {pins:List (Addr × Obj)} {s:Shared} {σ:St} {H:Hp} {x:Str} {u:Value} {pos:Pos} {Q:Value → Shared → Prop} (I:Inv X pins σ H s) (hg:Gl X x) (hm:X.mg x = none) (hv:bootBuiltins x = some u) (h:Q u s)
    (hn:x ≠ "__name__" := by decide) (hd:(x == ("__debug__" : Str)) = false:=by decide):wpAny (model X.prog X.w) X.A (eval (.Name x pos) X.env) Q E s:=by
  obtain ⟨mb,h1,h2⟩:=I.mod.blt
  exact Calls.Name_function_global I.ok.kind hg (Calls.loadGlobal_builtin (by rw [I.ok.glob]; exact I.mod.glob.keeps I.bk) hm (by rw [I.ok.blt]; exact h1.keeps I.bk) ((h2 x hn).trans hv) h) hd
theorem pe_glob {x:Str} {v:V} {u:Value} {pos:Pos} (hg:Gl X x) (hm:X.mg x = some u) (r:RelV v u) (hd:(x == ("__debug__" : Str)) = false:=by decide):PE X (.Name x pos) (tC v) :=
  fun _ _ _ H _ I h=>ld_glob I hg hm ⟨v,H,I,r,h⟩ hd
theorem pe_bltn {x:Str} {v:V} {u:Value} {pos:Pos} (hg:Gl X x) (hm:X.mg x = none) (hv:bootBuiltins x = some u) (r:RelV v u) (hn:x ≠ "__name__" := by decide) (hd:(x == ("__debug__" : Str)) = false:=by decide):PE X (.Name x pos) (tC v) :=
  fun _ _ _ H _ I h=>ld_blt I hg hm hv ⟨v,H,I,r,h⟩ hn hd
variable {a b:Expr} {ta tb:TE} {pos:Pos}
def tB (t:TE):TT:=fun σ H Q=>t σ H fun x H1=>∃ c,x = .bl c ∧ Q c H1
theorem pt_val {e:Expr} {t:TE} (h:PE X e t) (he:∀ whole,isTrue e X.env whole = (do let v ← whole; standAt e.pos; holding [v] (truthy v)):=by intro _; rfl):PT X e (tB t):=by
  intro pins s σ H Q I hw
  refine isTrue_plain (thn (h pins s σ H _ I hw) fun v s1 ⟨x,H1,I1,r1,q1⟩=>?_) (he _)
  obtain ⟨d,rfl,q⟩:=q1
  cases r1
  exact wpAny_truthy_bool ⟨H1,I1,q⟩
variable {tA tB':TT} {rest:List Expr}
def tAnd (t u:TT):TT:=fun σ H Q=>t σ H fun c H1=>if c = true then u σ H1 Q else Q false H1
def tOr (t u:TT):TT:=fun σ H Q=>t σ H fun c H1=>if c = true then Q true H1 else u σ H1 Q
def tNot (t:TT):TT:=fun σ H Q=>t σ H fun c H1=>Q (!c) H1
theorem pw_and1 (ha:PT X a tA):PW X (.BoolOp .And [a] pos) tA:=by
  intro wh pins s σ H Q I h
  refine isTrue_and (thn (ha pins s σ H Q I h) fun c s1 e=>?_)
  cases c with
  | true=>exact isTrue_and_nil e
  | false=>exact e
theorem pw_or1 (ha:PT X a tA):PW X (.BoolOp .Or [a] pos) tA:=by
  intro wh pins s σ H Q I h
  refine isTrue_or (thn (ha pins s σ H Q I h) fun c s1 e=>?_)
  cases c with
  | false=>exact isTrue_or_nil e
  | true=>exact e
theorem pw_and (ha:PT X a tA) (hb:PW X (.BoolOp .And (b :: rest) pos) tB'):PW X (.BoolOp .And (a :: b :: rest) pos) (tAnd tA tB'):=by
  intro wh pins s σ H Q I h
  refine isTrue_and (thn (ha pins s σ H _ I h) fun c s1 ⟨H1,I1,q1⟩=>?_)
  cases c with
  | true=>exact hb wh pins s1 σ H1 Q I1 q1
  | false=>exact ⟨H1,I1,q1⟩
theorem pw_or (ha:PT X a tA) (hb:PW X (.BoolOp .Or (b :: rest) pos) tB'):PW X (.BoolOp .Or (a :: b :: rest) pos) (tOr tA tB'):=by
  intro wh pins s σ H Q I h
  refine isTrue_or (thn (ha pins s σ H _ I h) fun c s1 ⟨H1,I1,q1⟩=>?_)
  cases c with
  | true=>exact ⟨H1,I1,q1⟩
  | false=>exact hb wh pins s1 σ H1 Q I1 q1
theorem pt_not (ha:PT X a tA):PT X (.UnaryOp .Not a pos) (tNot tA):=by
  intro pins s σ H Q I h
  exact isTrue_not (ha pins s σ H (fun c H1=>Q (!c) H1) I h)
def tAndV (ta tb:TE):TE:=fun σ H Q=>ta σ H fun x H1=>∃ c,x = .bl c ∧ if c = true then tb σ H1 Q else Q (.bl false) H1
def tNotV (ta:TE):TE:=fun σ H Q=>ta σ H fun x H1=>∃ c,x = .bl c ∧ Q (.bl (!c)) H1
theorem pe_one {op} {t:TE} (h:PE X a t):PE X (.BoolOp op [a] pos) t:=fun pins s σ H Q I hw=>BoolOp_one (h pins s σ H Q I hw)
theorem pe_and (ha:PE X a ta) (hb:PE X (.BoolOp .And (b :: rest) pos) tb):PE X (.BoolOp .And (a :: b :: rest) pos) (tAndV ta tb):=by
  intro pins s σ H Q I h
  refine BoolOp_and (thn (ha pins s σ H _ I h) fun v s1 ⟨x,H1,I1,r1,q1⟩=>?_)
  obtain ⟨c,rfl,q1⟩:=q1
  cases r1
  refine wpAny_truthy_bool ?_
  cases c with
  | true=>exact hb pins s1 σ H1 Q I1 q1
  | false=>exact ⟨.bl false,H1,I1,rfl,q1⟩
theorem pe_not (ha:PE X a ta):PE X (.UnaryOp .Not a pos) (tNotV ta):=by
  intro pins s σ H Q I h
  refine UnaryOp_ (thn (ha pins s σ H _ I h) fun v s1 ⟨x,H1,I1,r1,q1⟩=>?_)
  obtain ⟨c,rfl,q1⟩:=q1
  cases r1
  exact not_of (wpAny_truthy_bool ⟨.bl (!c),H1,I1,rfl,q1⟩)
def tIf (t:TT) (ta tb:TE):TE:=fun σ H Q=>t σ H fun c H1=>if c = true then ta σ H1 Q else tb σ H1 Q
theorem pe_ifExp {c:Expr} (hc:PT X c tA) (ha:PE X a ta) (hb:PE X b tb):PE X (.IfExp c a b pos) (tIf tA ta tb):=by
  intro pins s σ H Q I h
  refine wpAny_IfExp (thn (hc pins s σ H _ I h) fun d s1 ⟨H1,I1,q1⟩=>?_)
  cases d with
  | true=>exact ha pins s1 σ H1 Q I1 q1
  | false=>exact hb pins s1 σ H1 Q I1 q1
end
end L2
namespace L2
open PySem PySem.Spec PyProof.Rows
def SqL (K:PySem.W.Frag) (H:Hp) (a:Addr) (xs:List V):Prop :=
  Rd H a (.lst xs) ∨
    ∃ (o:Obj) (its:Array Value) (n:Nat),K.lookup a = some o ∧ o.cls = .type "list" ∧ o.dict = none ∧ o.data = .seq its n ∧ its.size ≤ sizeLine ∧ Vals xs its.toList
def SqT (K:PySem.W.Frag) (H:Hp) (a:Addr) (xs:List V):Prop :=
  Rd H a (.tup xs) ∨
    ∃ (o:Obj) (its:Array Value) (n:Nat),K.lookup a = some o ∧ o.cls = .type "tuple" ∧ o.data = .seq its n ∧ its.size ≤ sizeLine ∧ Vals xs its.toList
def absV:Value → Option V
  | .none=>some .non
  | .bool b=>some (.bl b)
  | .int i _=>some (.int i)
  | .str x _=>some (.str x)
  | .bytes b _=>some (.byt b)
  | .float b _=>some (.flt b)
  | .ref a=>some (.ref a)
  | .type n=>some (.ty n)
  | _=>none
theorem RelV.abs {x:V} {u:Value} (r:RelV x u):absV u = some x:=by
  cases x with
  | non=>cases r; rfl
  | bl _=>cases r; rfl
  | int _=>obtain ⟨t,rfl⟩:=r; rfl
  | str _=>obtain ⟨t,rfl⟩:=r; rfl
  | byt _=>obtain ⟨t,rfl⟩:=r; rfl
  | flt _=>obtain ⟨t,rfl⟩:=r; rfl
  | ref _=>cases r; rfl
  | ty _=>cases r; rfl
theorem RelV.inj {x y:V} {u:Value} (r:RelV x u) (q:RelV y u):x = y:=Option.some.inj (r.abs.symm.trans q.abs)
theorem Vals.inj:∀ {xs ys:List V} {us:List Value},Vals xs us → Vals ys us → xs = ys
  | _,_,_,.nil,.nil=>rfl
  | _,_,_,.cons r t,.cons r' t'=>by rw [r.inj r',Vals.inj t t']
section
variable {X:Cx} {pins:List (Addr × Obj)} {σ:St} {H:Hp} {s:Shared} {a:Addr} {xs ys:List V}
theorem SqL.of {K:PySem.W.Frag} (h:H a = some (.lst xs)):SqL K H a xs:=.inl (.inl h)
theorem SqT.of {K:PySem.W.Frag} (h:H a = some (.tup xs)):SqT K H a xs:=.inl (.inl h)
theorem Inv.list (I:Inv X pins σ H s) (h:SqL X.K H a xs):∃ its:List Value,Vals xs its ∧ PlainL s.heap a its.toArray ∧ xs.length ≤ sizeLine:=by
  rcases h with h | ⟨o,its,n,hk,hc,hd,hs,hz,r⟩
  · obtain ⟨z,its,n,r,e⟩:=h.ok I.hok
    exact ⟨its,r,⟨_,n,e,rfl,rfl,rfl⟩,z⟩
  · refine ⟨its.toList,r,⟨o,n,I.kIn a o hk,hc,hd,by simpa using hs⟩,?_⟩
    have e:=r.length
    simp only [Array.length_toList] at e
    omega
theorem Inv.tuple (I:Inv X pins σ H s) (h:SqT X.K H a xs):∃ its:List Value,Vals xs its ∧ IsTup s.heap a its.toArray ∧ xs.length ≤ sizeLine:=by
  rcases h with h | ⟨o,its,n,hk,hc,hs,hz,r⟩
  · obtain ⟨z,its,r,p⟩:=h.ok I.hok
    exact ⟨its,r,p,z⟩
  · refine ⟨its.toList,r,⟨o,I.kIn a o hk,hc,n,by simpa using hs⟩,?_⟩
    have e:=r.length
    simp only [Array.length_toList] at e
    omega
theorem Inv.list_inj (I:Inv X pins σ H s) (h:SqL X.K H a xs) (h':SqL X.K H a ys):xs = ys:=by
  obtain ⟨its,r,⟨o,n,e,_,_,d⟩,_⟩:=I.list h
  obtain ⟨its',r',⟨o',n',e',_,_,d'⟩,_⟩:=I.list h'
  rw [e] at e'; cases e'
  rw [d] at d'
  injection d' with d1 _
  have:its = its':=by simpa using congrArg Array.toList d1
  subst this
  exact r.inj r'
theorem Inv.tuple_inj (I:Inv X pins σ H s) (h:SqT X.K H a xs) (h':SqT X.K H a ys):xs = ys:=by
  obtain ⟨its,r,⟨o,e,_,n,d⟩,_⟩:=I.tuple h
  obtain ⟨its',r',⟨o',e',_,n',d'⟩,_⟩:=I.tuple h'
  rw [e] at e'; cases e'
  rw [d] at d'
  injection d' with d1 _
  have:its = its':=by simpa using congrArg Array.toList d1
  subst this
  exact r.inj r'
end
abbrev Cx.wish (X:Cx) (E:Value → Shared → Prop):Cx:={ X with xe:=E }
abbrev Cx.nox (X:Cx):Cx:=X.wish fun _ _=>False
theorem Cx.Ok.wish {X:Cx} (ok:X.Ok) (E:Value → Shared → Prop):(X.wish E).Ok :=
  ⟨ok.mod,ok.kind,ok.glob,ok.blt,ok.above,ok.inj,ok.has,ok.cab,ok.hd,ok.frames,ok.stk,ok.exf,ok.bs,ok.bsz,ok.noex,ok.exfs,ok.funs,ok.frf⟩
theorem Cx.Ok.unwish {X:Cx} {E:Value → Shared → Prop} (ok:(X.wish E).Ok):X.Ok :=
  ⟨ok.mod,ok.kind,ok.glob,ok.blt,ok.above,ok.inj,ok.has,ok.cab,ok.hd,ok.frames,ok.stk,ok.exf,ok.bs,ok.bsz,ok.noex,ok.exfs,ok.funs,ok.frf⟩
section
variable {X:Cx} {pins:List (Addr × Obj)} {σ:St} {H:Hp} {s:Shared} {E:Value → Shared → Prop}
theorem Inv.wish (I:Inv X pins σ H s) (E:Value → Shared → Prop):Inv (X.wish E) pins σ H s:=⟨I.ok.wish E,I.os,I.bare,I.base,I.loc,I.cell,I.free,I.freeC,I.pin,I.hok,I.len⟩
theorem Inv.unwish (I:Inv (X.wish E) pins σ H s):Inv X pins σ H s:=⟨I.ok.unwish,I.os,I.bare,I.base,I.loc,I.cell,I.free,I.freeC,I.pin,I.hok,I.len⟩
theorem SP.unwish {D:Ends} {f:Flow} {s':Shared} (h:SP (X.wish E) pins D f s'):SP X pins D f s':=by
  cases f with
  | next=>obtain ⟨σ',H',I,q⟩:=h; exact ⟨σ',H',I.unwish,q⟩
  | brk=>obtain ⟨σ',H',I,q⟩:=h; exact ⟨σ',H',I.unwish,q⟩
  | cont=>obtain ⟨σ',H',I,q⟩:=h; exact ⟨σ',H',I.unwish,q⟩
  | ret u=>obtain ⟨v,σ',H',I,r,q⟩:=h; exact ⟨v,σ',H',I.unwish,r,q⟩
theorem PE.nox {e:Expr} {t:TE} (h:PE X.nox e t):PE X e t:=fun pins s σ H Q I hw =>
  wpAny_mono (h pins s σ H Q (I.wish _) hw) (fun _ _ ⟨v,H',I',r,q⟩=>⟨v,H',I'.unwish,r,q⟩) fun _ _ z=>False.elim z
theorem PT.nox {e:Expr} {t:TT} (h:PT X.nox e t):PT X e t:=fun pins s σ H Q I hw =>
  wpAny_mono (h pins s σ H Q (I.wish _) hw) (fun _ _ ⟨H',I',q⟩=>⟨H',I'.unwish,q⟩) fun _ _ z=>False.elim z
theorem PSs.nox {st:List Stmt} {t:TS} (h:PSs X.nox st t):PSs X st t:=fun pins s σ H D I hw =>
  wpAny_mono (h pins s σ H D (I.wish _) hw) (fun _ _ q=>q.unwish) fun _ _ z=>False.elim z
end
section
variable {X:Cx} {st:Stmt} {rest:List Stmt} {t u:TS} {e:Expr} {te:TE} {pos:Pos}
def tNext:TS:=fun D σ H=>D.nx σ H
def tSeq (t u:TS):TS:=fun D σ H=>t { D with nx:=u D } σ H
theorem pss_nil:PSs X [] tNext:=fun _ _ σ H _ I h=>wpAny_execs_nil ⟨σ,H,I,h⟩
theorem pss_cons (h1:PS X st t) (h2:PSs X rest u):PSs X (st :: rest) (tSeq t u):=by
  intro pins s σ H D I h
  refine wpAny_execs_cons (thn (h1 pins s σ H { D with nx:=u D } I h) fun f s1 q=>?_)
  cases f with
  | next =>
    obtain ⟨σ',H',I',q⟩:=q
    exact h2 pins s1 σ' H' D I' q
  | ret v=>exact q
  | brk=>exact q
  | cont=>exact q
theorem pss_one (h1:PS X st t):PSs X [st] t:=by
  intro pins s σ H D I h
  refine wpAny_execs_cons (thn (h1 pins s σ H D I h) fun f s1 q=>?_)
  cases f with
  | next=>exact wpAny_execs_nil q
  | ret v=>exact q
  | brk=>exact q
  | cont=>exact q
theorem Inv.quiet {pins:List (Addr × Obj)} {σ:St} {H:Hp} {s:Shared} (I:Inv X pins σ H s):interactive X.env = false:=by simp [interactive,I.ok.kind]
def tDrop (te:TE):TS:=fun D σ H=>te σ H fun _ H1=>D.nx σ H1
theorem ps_expr (he:PE X e te) (hs:swapsWith e none pos.line X.env = pure false:=by rfl):PS X (.Expr e pos) (tDrop te):=by
  intro pins s σ H D I h
  exact wpAny_Expr_any (thn (he pins s σ H _ I h) fun v s1 ⟨x,H1,I1,r1,q1⟩=>⟨σ,H1,I1,q1⟩) I.quiet hs
def tRet (te:TE):TS:=fun D σ H=>te σ H D.rt
theorem ps_ret (he:PE X e te):PS X (.Return (some e) pos) (tRet te):=by
  intro pins s σ H D I h
  exact wpAny_Return_some (thn (he pins s σ H _ I h) fun v s1 ⟨x,H1,I1,r1,q1⟩=>⟨x,σ,H1,I1,r1,q1⟩)
def tIfS (c:TT) (t u:TS):TS:=fun D σ H=>c σ H fun b H1=>if b = true then t D σ H1 else u D σ H1
theorem ps_if {c:Expr} {a b:List Stmt} {tc:TT} (hc:PT X c tc) (ha:PSs X a t) (hb:PSs X b u):PS X (.If c a b pos) (tIfS tc t u):=by
  intro pins s σ H D I h
  refine wpAny_If (thn (hc pins s σ H _ I h) fun d s1 ⟨H1,I1,q1⟩=>?_)
  cases d with
  | true=>exact ha pins s1 σ H1 D I1 q1
  | false=>exact hb pins s1 σ H1 D I1 q1
def tNever:TS:=fun _ _ _=>False
theorem ps_never:PS X st tNever:=fun _ _ _ _ _ _ h=>h.elim
end
abbrev TG:=V → St → Hp → (St → Hp → Prop) → Prop
abbrev TGs:=List V → St → Hp → (St → Hp → Prop) → Prop
def PG (X:Cx) (target:Expr) (t:TG):Prop :=
  ∀ (pins:List (Addr × Obj)) (s:Shared) (σ:St) (H:Hp) (v:V) (u:Value) (Q:St → Hp → Prop),Inv X pins σ H s → RelV v u → t v σ H Q →
    wpAny (model X.prog X.w) X.A (assign target X.env u) (fun _ s'=>∃ σ' H',Inv X pins σ' H' s' ∧ Q σ' H') X.xe s
def PGs (X:Cx) (ts:List Expr) (t:TGs):Prop :=
  ∀ (pins:List (Addr × Obj)) (s:Shared) (σ:St) (H:Hp) (vs:List V) (us:List Value) (Q:St → Hp → Prop),Inv X pins σ H s → Vals vs us → t vs σ H Q →
    wpAny (model X.prog X.w) X.A (assignInOrder ((assignEach ts X.env).map (·.2)) us) (fun _ s'=>∃ σ' H',Inv X pins σ' H' s' ∧ Q σ' H') X.xe s
abbrev TSet:=V → V → V → Hp → (Hp → Prop) → Prop
def PSet (X:Cx) (t:TSet):Prop :=
  ∀ (pins:List (Addr × Obj)) (s:Shared) (σ:St) (H:Hp) (o i v:V) (ov iv u:Value) (Q:Hp → Prop),Inv X pins σ H s → RelV o ov → RelV i iv → RelV v u → t o i v H Q →
    wpAny (model X.prog X.w) X.A (setItem ov iv u) (fun _ s'=>∃ H',Inv X pins σ H' s' ∧ Q H') X.xe s
section
variable {X:Cx} {pos:Pos}
def gName (i:Nat):TG:=fun v σ H Q=>Q (σ.set i (some v)) H
theorem pg_name {i:Nat} {x:Str} (hN:X.N.Nodup) (hi:X.N[i]? = some x) (hx:Loc X.env.scope x) (hf:X.fn x = true ∨ X.env.scope.names.lookup x = some .local:=by first | exact .inl rfl | exact .inr rfl | assumption):PG X (.Name x pos) (gName i):=by
  intro pins s σ H v u Q I r h
  exact wpAny_assign_Name (store_ok I hN hi hx r (fun s' I'=>⟨_,H,I',h⟩) hf)
def gNil:TGs:=fun vs σ H Q=>vs = [] ∧ Q σ H
def gCons (t:TG) (u:TGs):TGs:=fun vs σ H Q=>∃ v r,vs = v :: r ∧ t v σ H fun σ' H'=>u r σ' H' Q
theorem pgs_nil:PGs X [] gNil:=by
  intro pins s σ H vs us Q I r h
  obtain ⟨e,h⟩:=h
  subst e
  cases r
  exact assignInOrder_nil ⟨σ,H,I,h⟩
theorem pgs_cons {e:Expr} {es:List Expr} {t:TG} {u:TGs} (h1:PG X e t) (h2:PGs X es u)
    (hs:(assignEach (e :: es) X.env).map (·.2) = assign e X.env :: (assignEach es X.env).map (·.2):=by rfl):PGs X (e :: es) (gCons t u):=by
  intro pins s σ H vs us Q I r h
  obtain ⟨v,vr,e1,h⟩:=h
  subst e1
  cases r with
  | cons r rr =>
    rw [hs]
    refine assignInOrder_cons (thn (h1 pins s σ H _ _ _ I r h) fun _ s1 ⟨σ1,H1,I1,q1⟩=>?_)
    exact h2 pins s1 σ1 H1 _ _ Q I1 rr q1
def gTup (K:PySem.W.Frag) (n:Nat) (t:TGs):TG:=fun v σ H Q=>∃ a xs,v = .ref a ∧ SqT K H a xs ∧ xs.length = n ∧ t xs σ H Q
theorem pg_tup {es:List Expr} {k:Nat} {t:TGs} {n:Nat} (hc:X.calm = true) (h:PGs X es t)
    (hn:(assignEach es X.env).length = n:=by rfl) (hst:(assignEach es X.env).findIdx? (·.1) = none:=by rfl):PG X (.Tuple es k pos) (gTup X.K n t):=by
  intro pins s σ H v u Q I r hw
  obtain ⟨a,xs,e1,hq,hl,hw⟩:=hw
  subst e1
  cases r
  obtain ⟨its,rv,ht,hz⟩:=I.tuple hq
  refine assign_Tuple_tuple (I.ok.hd hc) ht (by simp [hn,← hl,rv.length]) hst fun h' hx=>?_
  have I1:Inv X pins σ H { s with heap:=h' }:=I.kept (t':=s.toks) fun b o e=>hx b o (Nat.ne_of_lt (Heap.lt_size e)) e
  exact h pins _ σ H xs _ Q I1 (by simpa using rv) hw
def gSub (to ti:TE) (t:TSet):TG:=fun v σ H Q=>to σ H fun o H1=>ti σ H1 fun i H2=>t o i v H2 fun H3=>Q σ H3
theorem pg_sub {o i:Expr} {to ti:TE} {t:TSet} (ho:PE X o to) (hi:PE X i ti) (hs:PSet X t)
    (ha:∀ v,assign (.Subscript o i pos) X.env v = (do
      let ov ← holding [v] (eval o X.env)
      let iv ← holding [v,ov] (eval i X.env)
      standAt pos
      holding [v,ov,iv] (setItem ov iv v)
      release [v,ov,iv] []):=by intro _; rfl):PG X (.Subscript o i pos) (gSub to ti t):=by
  intro pins s σ H v u Q I r h
  rw [ha]
  refine wpAny_bind (wpAny_holding (thn (ho pins s σ H _ I h) fun ov s1 ⟨x,H1,I1,r1,q1⟩=>?_))
  refine wpAny_bind (wpAny_holding (thn (hi pins s1 σ H1 _ I1 q1) fun iv s2 ⟨y,H2,I2,r2,q2⟩=>?_))
  refine wpAny_bind (wpAny_standAt (wpAny_bind (wpAny_holding (thn (hs pins s2 σ H2 x y v ov iv u _ I2 r1 r2 r q2) fun _ s3 ⟨H3,I3,q3⟩=>?_))))
  exact wpAny_release ⟨σ,H3,I3,q3⟩
def tAsg (te:TE) (g:TG):TS:=fun D σ H=>te σ H fun x H1=>g x σ H1 D.nx
theorem ps_asg {tg e:Expr} {te:TE} {g:TG} (he:PE X e te) (hg:PG X tg g) (hs:swapsWithSole [tg] e pos.line X.env = pure false:=by rfl) (hw:swappedStores [tg] e X.env = pure none:=by rfl)
    (h1:(assignEach [tg] X.env).map (·.2) = [assign tg X.env]:=by rfl):PS X (.Assign [tg] e pos) (tAsg te g):=by
  intro pins s σ H D I h
  refine wpAny_Assign_stores (thn (he pins s σ H _ I h) fun v s1 ⟨x,H1,I1,r1,q1⟩=>?_) hs hw
  rw [h1]
  exact thn (hg pins s1 σ H1 x v _ I1 r1 q1) fun _ s2 q=>q
theorem ps_set {i:Nat} {x:Str} {e:Expr} {te:TE} {pos':Pos} (hN:X.N.Nodup) (hi:X.N[i]? = some x) (hx:Loc X.env.scope x) (he:PE X e te) (hs:swapsWith e (some (.Name x pos')) pos.line X.env = pure false:=by rfl) (hf:X.fn x = true ∨ X.env.scope.names.lookup x = some .local:=by first | exact .inl rfl | exact .inr rfl | assumption) :
    PS X (.Assign [.Name x pos'] e pos) (tAsg te (gName i)):=by
  intro pins s σ H D I h
  refine wpAny_Assign_Name (thn (he pins s σ H _ I h) fun v s1 ⟨y,H1,I1,r1,q1⟩=>?_) hs
  exact store_ok I1 hN hi hx r1 (fun s2 I2=>⟨_,H1,I2,q1⟩) hf
def tPar (i j:Nat) (ta:TA):TS:=fun D σ H=>ta σ H fun vs H1=>∃ v w,vs = [v,w] ∧ D.nx ((σ.set i (some v)).set j (some w)) H1
theorem ps_par {i j:Nat} {x y:Str} {a b:Expr} {ta:TA} {px py pt:Pos} {kt k2 pt2} (hc:X.calm = true) (hN:X.N.Nodup) (hi:X.N[i]? = some x) (hj:X.N[j]? = some y) (hij:i ≠ j)
    (hx:X.env.scope.names.lookup x = some .local) (hy:X.env.scope.names.lookup y = some .local) (ha:PA X [a,b] ta)
    (hw:swappedStores [.Tuple [.Name x px,.Name y py] kt pt] (.Tuple [a,b] k2 pt2) X.env = pure (some [x,y]))
    (hs:swapsWithSole [.Tuple [.Name x px,.Name y py] kt pt] (.Tuple [a,b] k2 pt2) pos.line X.env = pure false:=by rfl) :
    PS X (.Assign [.Tuple [.Name x px,.Name y py] kt pt] (.Tuple [a,b] k2 pt2) pos) (tPar i j ta):=by
  intro pins s σ H D I h
  rw [exec_Assign_arm]
  refine wpAny_bind (wpAny_standAt ?_)
  rw [hs]
  refine wpAny_bind (wpAny_pure ?_)
  rw [if_neg (by decide)]
  refine wpAny_bind (Tuple_ (thn (ha _ pins s σ H _ I h) fun us s1 ⟨vs,H1,I1,r1,q1⟩=>?_))
  obtain ⟨v,w,e1,q1⟩:=q1
  subst e1
  obtain ⟨u1,u2,rfl,rv,rw'⟩:∃ u1 u2,us = [u1,u2] ∧ RelV v u1 ∧ RelV w u2:=by
    cases r1 with
    | cons p q =>
      cases q with
      | cons p' q' =>
        cases q'
        exact ⟨_,_,rfl,p,p'⟩
  refine wpAny_newObj_type ?_ (by show 2 ≤ sizeLine; decide)
  have I2:Inv X pins σ H1 { s1 with heap:=s1.heap.push { cls:=.type "tuple", data:=.seq [u1,u2].toArray } }:=I1.kept (t':=s1.toks) fun b o e=>Heap.get?_push_of_some _ e
  rw [hw]
  refine wpAny_bind (wpAny_pure ?_)
  show wpAny (model X.prog X.w) X.A (do rule "assign.swapped-stores"; let items ← unpackItems (.ref s1.heap.objs.size) 2 none; assignInOrder [fun v=>bindName X.env y v,fun v=>bindName X.env x v] items.reverse; pure Flow.next) _ _ _
  refine wpAny_bind (wpAny_rule (wpAny_bind (unpackItems_tuple (items:=#[u1,u2]) (I.ok.hd hc) (IsTup.new s1.heap _) fun h' hx'=>?_)))
  have I3:=I2.kept (h':=h') (t':=s1.toks) fun b o e=>hx' b o (Nat.ne_of_lt (Heap.lt_size e)) e
  show wpAny _ _ (assignInOrder [fun v=>bindName X.env y v,fun v=>bindName X.env x v] [u2,u1] >>= fun _=>pure Flow.next) _ _ _
  refine wpAny_bind (assignInOrder_cons (wpAny_bindName (store_ok I3 hN hj (.inl hy) rw' (fun s2 I4=>?_) (.inr hy))))
  refine assignInOrder_cons (wpAny_bindName (store_ok I4 hN hi (.inl hx) rv (fun s3 I5=>assignInOrder_nil (wpAny_pure ?_)) (.inr hx)))
  rw [List.set_comm _ _ (Ne.symm hij)] at I5
  exact ⟨_,H1,I5,q1⟩
end
section
variable {X:Cx} {pos:Pos}
def tWhile (c:TT) (tb:TS):TS:=fun D σ H=>∃ W:Nat → St → Hp → Prop,(∃ m,W m σ H) ∧ ∀ m σ H,W m σ H →
  c σ H fun b H1=>if b = true then ∃ N:St → Hp → Prop,(∀ σ' H',N σ' H' → ∃ m',m' < m ∧ W m' σ' H') ∧ tb { D with nx:=N,ct:=N,bk:=D.nx } σ H1 else D.nx σ H1
theorem ps_while {c:Expr} {body:List Stmt} {tc:TT} {tb:TS} (hp:PassesOwn (model X.prog X.w) X.A X.env X.xe) (hc:PT X c tc) (hb:PSs X body tb):PS X (.While c body [] pos) (tWhile tc tb):=by
  intro pins s σ H D I h
  obtain ⟨W,⟨m0,w0⟩,turn⟩:=h
  refine wpAny_While (codeAny_whileLoop (fun n s'=>∃ σ' H',Inv X pins σ' H' s' ∧ W n σ' H') ?_ m0 ⟨σ,H,I,w0⟩)
  rintro n s1 ⟨σ1,H1,I1,w1⟩
  refine wpAny_passesOwn hp (thn (hc pins s1 σ1 H1 _ I1 (turn n σ1 H1 w1)) fun b s2 ⟨H2,I2,q2⟩=>?_)
  cases b with
  | true =>
    obtain ⟨N,hN,q2⟩:=q2
    rw [if_pos rfl]
    refine wpAny_passesOwn hp (thn (hb pins s2 σ1 H2 _ I2 q2) fun f s3 q3=>?_)
    cases f with
    | next =>
      obtain ⟨σ3,H3,I3,n3⟩:=q3
      obtain ⟨m',hm,w3⟩:=hN σ3 H3 n3
      exact ⟨m',hm,σ3,H3,I3,w3⟩
    | cont =>
      obtain ⟨σ3,H3,I3,n3⟩:=q3
      obtain ⟨m',hm,w3⟩:=hN σ3 H3 n3
      exact ⟨m',hm,σ3,H3,I3,w3⟩
    | brk=>exact q3
    | ret v=>exact q3
  | false =>
    rw [if_neg Bool.false_ne_true]
    exact wpAny_execs_nil ⟨σ1,H2,I2,q2⟩
end
structure It where
  go:Nat → Hp → Prop
  yld:Nat → Hp → V → Hp → Prop
  stop:Nat → Hp → Prop
def FpOk (X:Cx) (pins:List (Addr × Obj)) (H:Hp) (b:Addr):Prop :=
  H b = none ∧ b ≠ X.env.locals ∧ b ∉ X.fs ∧ (b ∈ X.ex ∨ X.s₀.heap.objs.size ≤ b) ∧ (∀ x c,X.env.cells.lookup x = some c → c ≠ b) ∧ ∀ p ∈ X.pn ++ pins,p.1 ≠ b
theorem Inv.fpOk {X:Cx} {pins:List (Addr × Obj)} {σ:St} {H H':Hp} {s:Shared} {b:Addr} (I:Inv X pins σ H s) (hb:s.heap.objs.size ≤ b) (hn:H' b = none):FpOk X pins H' b:=by
  refine ⟨hn,Nat.ne_of_gt (Nat.lt_of_lt_of_le I.lt hb),I.nofs hb,.inr (Nat.le_trans I.sz hb),fun x c e z=>?_,fun p hp z=>?_⟩
  · obtain ⟨v,q⟩:=I.cell x c e
    exact absurd (Nat.lt_of_lt_of_le q.lt (by rw [z]; exact hb)) (Nat.lt_irrefl _)
  · exact absurd (Nat.lt_of_lt_of_le (Heap.lt_size (I.pin p hp).1) (by rw [z]; exact hb)) (Nat.lt_irrefl _)
structure Turn (P:Program) (w:World) (K:PySem.W.Frag) (tg:Expr) (J:It) (fp:List Addr) (it:Addr) (tn:Nat → Heap → Prop):Prop where
  mem:it ∈ fp
  obj:∀ i h,tn i h → ∀ b ∈ fp,∃ o,h.get? b = some o ∧ ∀ v,o.data ≠ .cell v
  keep:∀ i h h',tn i h → (∀ b ∈ fp,∀ o,h.get? b = some o → h'.get? b = some o) → tn i h'
  item:∀ (X:Cx),X.prog = P → X.w = w → X.K = K → X.calm = true → ∀ (i:Nat) (pins:List (Addr × Obj)) (s:Shared) (σ:St) (H:Hp) (E:Value → Shared → Prop),Inv X pins σ H s → (∀ b ∈ fp,FpOk X pins H b) → tn i s.heap → J.go i H →
    wpAny (model P w) X.A (pyNext (.ref it)) (fun r s1=>∃ u,r = some u ∧
      wpAny (model P w) X.A (letOwnedTupleGo tg (.ref it) u) (fun _ s2=>∃ x H',Inv X pins σ H' s2 ∧ RelV x u ∧ J.yld i H x H' ∧ tn (i + 1) s2.heap ∧ ∀ b ∈ fp,H' b = none) E s1) E s
  done:∀ (X:Cx),X.prog = P → X.w = w → X.K = K → X.calm = true → ∀ (i:Nat) (pins:List (Addr × Obj)) (s:Shared) (σ:St) (H:Hp) (E:Value → Shared → Prop),Inv X pins σ H s → (∀ b ∈ fp,FpOk X pins H b) → tn i s.heap → J.stop i H →
    wpAny (model P w) X.A (pyNext (.ref it)) (fun r s1=>r = none ∧ Inv X pins σ H s1) E s
  self:∀ (A:Around) (i:Nat) (s:Shared) (Q:Value → Shared → Prop) (E:Value → Shared → Prop),tn i s.heap → Q (.ref it) s → wpAny (model P w) A (pyIter (.ref it)) Q E s
abbrev TI:=St → Hp → (It → Hp → Prop) → Prop
def PIE (X:Cx) (pins:List (Addr × Obj)) (σ:St) (tg:Expr) (R:It → Hp → Prop) (itv:Value) (s2:Shared):Prop :=
  ∃ (it:Addr) (fp:List Addr) (tn:Nat → Heap → Prop) (J:It) (H':Hp),itv = .ref it ∧ Inv X pins σ H' s2 ∧ Turn X.prog X.w X.K tg J fp it tn ∧ tn 0 s2.heap ∧ (∀ b ∈ fp,FpOk X pins H' b) ∧ R J H'
def PI (X:Cx) (tg iter:Expr) (wi:TI):Prop :=
  ∀ (pins:List (Addr × Obj)) (s:Shared) (σ:St) (H:Hp) (R:It → Hp → Prop),Inv X pins σ H s → wi σ H R →
    wpAny (model X.prog X.w) X.A (eval iter X.env) (fun v s1=>wpAny (model X.prog X.w) X.A (pyIter v) (PIE X pins σ tg R) X.xe s1) X.xe s
theorem go_of {M:Model} {A:Around} {E:Value → Shared → Prop} {s:Shared} {tg:Expr} {it:Addr} {u:Value} {o:Obj} {n:String} {vs:Array Value} {Q:Unit → Shared → Prop} (ho:s.heap.get? it = some o) (hc:o.cls = .type n) (hd:o.data = .fields vs)
    (hn:["enumerate", "zip", "dict_itemiterator", "dict_reverseitemiterator", "odict_iterator", "itertools.zip_longest", "itertools.pairwise"].contains n = false) (hQ:Q () s):wpAny M A (letOwnedTupleGo tg (.ref it) u) Q E s:=by
  unfold letOwnedTupleGo
  cases tg <;> first
    | exact wpAny_pure hQ
    | (cases u <;> first
        | exact wpAny_pure hQ
        | (refine wpAny_bind (wpAny_load ho ?_)
           rw [hc,hd]
           show wpAny M A (if (["enumerate", "zip", "dict_itemiterator", "dict_reverseitemiterator", "odict_iterator", "itertools.zip_longest", "itertools.pairwise"].contains n && vs[0]? == some (rawInt _)) = true then _ else _) Q E s
           rw [if_neg (by intro h; rw [hn,Bool.false_and] at h; cases h)]
           exact wpAny_pure hQ))
def Itl (K:PySem.W.Frag) (a:Addr):It :=
  ⟨fun i H=>∃ xs x,SqL K H a xs ∧ xs[i]? = some x,fun i H x H'=>H' = H ∧ ∀ xs,SqL K H a xs → xs[i]? = some x,fun i H=>∃ xs,SqL K H a xs ∧ xs.length ≤ i⟩
def Itt (K:PySem.W.Frag) (a:Addr):It :=
  ⟨fun i H=>∃ xs x,SqT K H a xs ∧ xs[i]? = some x,fun i H x H'=>H' = H ∧ ∀ xs,SqT K H a xs → xs[i]? = some x,fun i H=>∃ xs,SqT K H a xs ∧ xs.length ≤ i⟩
def Itr (lo:Int) (n:Nat):It:=⟨fun i _=>i < n,fun i H x H'=>H' = H ∧ x = .int (lo + i),fun i _=>n ≤ i⟩
theorem turn_list {P:Program} {w:World} {K:PySem.W.Frag} {tg:Expr} (a it:Addr):Turn P w K tg (Itl K a) [it] it (fun i h=>h.IsListIter it a i) where
  mem:=by simp
  obj:=fun i h st b hb=>by
    have e:b = it:=by simpa using hb
    subst e
    obtain ⟨o,e,c,d⟩:=st
    exact ⟨o,e,fun v z=>by rw [d] at z; cases z⟩
  keep:=fun i h h' st k=>st.at fun o e=>k it (by simp) o e
  item:=by
    intro X hP hw hK hc i pins s σ H E I hf st hg
    subst hP hw hK
    obtain ⟨xs,x,hq,hx⟩:=hg
    obtain ⟨its,rv,p,hz⟩:=I.list hq
    obtain ⟨u,hu,ru⟩:=rv.get hx
    obtain ⟨f0,f1,f2,f3,f4,f5⟩:=hf it (by simp)
    refine wpAny_pyNext_list_item st p.isList (x:=u) (by simpa using hu) fun h' st' sb=>?_
    have I1:Inv X pins σ H { s with heap:=h' }:=I.turned (t':=s.toks) (fun b o hb e=>(sb.2 b hb).trans e) f0 f1 f3 f4 f5
    obtain ⟨o,e,c,d⟩:=id st'
    exact ⟨u,rfl,go_of (s:={ s with heap:=h' }) e c d (by decide) ⟨x,H,I1,ru,⟨rfl,fun ys hy=>by rw [I.list_inj hy hq]; exact hx⟩,st',fun b hb=>(hf b hb).1⟩⟩
  done:=by
    intro X hP hw hK hc i pins s σ H E I hf st hg
    subst hP hw hK
    obtain ⟨xs,hq,hx⟩:=hg
    obtain ⟨its,rv,p,hz⟩:=I.list hq
    obtain ⟨f0,f1,f2,f3,f4,f5⟩:=hf it (by simp)
    have hl:=rv.length
    exact wpAny_pyNext_list_end (I.ok.hd hc) st p.isList (by simp; omega) fun h' eb=>⟨rfl,I.turned (t':=s.toks) (fun b o hb e=>eb b o hb e) f0 f1 f3 f4 f5⟩
  self:=fun _ _ _ _ _ st h=>wpAny_pyIter_listiter st h
theorem turn_tuple {P:Program} {w:World} {K:PySem.W.Frag} {tg:Expr} (a it:Addr):Turn P w K tg (Itt K a) [it] it (fun i h=>h.IsTupleIter it a i) where
  mem:=by simp
  obj:=fun i h st b hb=>by
    have e:b = it:=by simpa using hb
    subst e
    obtain ⟨o,e,c,d⟩:=st
    exact ⟨o,e,fun v z=>by rw [d] at z; cases z⟩
  keep:=fun i h h' st k=>st.at fun o e=>k it (by simp) o e
  item:=by
    intro X hP hw hK hc i pins s σ H E I hf st hg
    subst hP hw hK
    obtain ⟨xs,x,hq,hx⟩:=hg
    obtain ⟨its,rv,p,hz⟩:=I.tuple hq
    obtain ⟨u,hu,ru⟩:=rv.get hx
    obtain ⟨f0,f1,f2,f3,f4,f5⟩:=hf it (by simp)
    refine wpAny_pyNext_tuple_item st (show s.heap.IsTuple a its.toArray from p) (x:=u) (by simpa using hu) fun h' st' sb=>?_
    have I1:Inv X pins σ H { s with heap:=h' }:=I.turned (t':=s.toks) (fun b o hb e=>(sb.2 b hb).trans e) f0 f1 f3 f4 f5
    obtain ⟨o,e,c,d⟩:=id st'
    exact ⟨u,rfl,go_of (s:={ s with heap:=h' }) e c d (by decide) ⟨x,H,I1,ru,⟨rfl,fun ys hy=>by rw [I.tuple_inj hy hq]; exact hx⟩,st',fun b hb=>(hf b hb).1⟩⟩
  done:=by
    intro X hP hw hK hc i pins s σ H E I hf st hg
    subst hP hw hK
    obtain ⟨xs,hq,hx⟩:=hg
    obtain ⟨its,rv,p,hz⟩:=I.tuple hq
    obtain ⟨f0,f1,f2,f3,f4,f5⟩:=hf it (by simp)
    have hl:=rv.length
    exact wpAny_pyNext_tuple_end (I.ok.hd hc) st (show s.heap.IsTuple a its.toArray from p) (by simp; omega) fun h' eb=>⟨rfl,I.turned (t':=s.toks) (fun b o hb e=>eb b o hb e) f0 f1 f3 f4 f5⟩
  self:=fun _ _ _ _ _ st h=>wpAny_pyIter_tupleiter st h
theorem turn_range {P:Program} {w:World} {K:PySem.W.Frag} {tg:Expr} (it:Addr) (lo:Int) (n:Nat):Turn P w K tg (Itr lo n) [it] it (fun i h=>IsRangeIter h it (lo + (i:Nat) * 1) ((n:Int) - (i:Nat)) 1) where
  mem:=by simp
  obj:=fun i h st b hb=>by
    have e:b = it:=by simpa using hb
    subst e
    exact ⟨_,st,fun v z=>by
      have z':Data.fields _ = Data.cell v:=z
      cases z'⟩
  keep:=fun i h h' st k=>k it (by simp) _ st
  item:=by
    intro X hP hw hK hc i pins s σ H E I hf st hg
    subst hP hw hK
    obtain ⟨f0,f1,f2,f3,f4,f5⟩:=hf it (by simp)
    have W:=Walks.range (prog:=X.prog) (w:=X.w) (I.ok.hd hc) it lo 1 n
    refine W.item i s _ _ hg st fun v h' tk hv st' kk=>?_
    obtain ⟨t,rfl⟩:=hv
    have I1:Inv X pins σ H { s with heap:=h',toks:=tk }:=I.turned (fun b o hb e=>kk b o (by simpa using hb) e) f0 f1 f3 f4 f5
    refine ⟨_,rfl,go_of (s:={ s with heap:=h',toks:=tk }) (n := "range_iterator") st' rfl rfl (by decide) ⟨.int (lo + i),H,I1,⟨t,?_⟩,⟨rfl,rfl⟩,st',fun b hb=>(hf b hb).1⟩⟩
    rw [Int.mul_one]
  done:=by
    intro X hP hw hK hc i pins s σ H E I hf st hg
    subst hP hw hK
    obtain ⟨f0,f1,f2,f3,f4,f5⟩:=hf it (by simp)
    exact wpAny_pyNext_range_end (I.ok.hd hc) st (by have:n ≤ i:=hg; omega) fun h' eb=>⟨rfl,I.turned (t':=s.toks) (fun b o hb e=>eb b o hb e) f0 f1 f3 f4 f5⟩
  self:=fun _ _ _ _ _ st h=>wpAny_pyIter_rangeiter st h
end L2
namespace L2
open PySem PySem.Spec PyProof.Rows
section
variable {X:Cx} {tg:Expr}
def iList (K:PySem.W.Frag) (tl:TE):TI:=fun σ H R=>tl σ H fun x H1=>∃ a,x = .ref a ∧ (∃ xs,SqL K H1 a xs) ∧ R (Itl K a) H1
def iTup (K:PySem.W.Frag) (tl:TE):TI:=fun σ H R=>tl σ H fun x H1=>∃ a,x = .ref a ∧ (∃ xs,SqT K H1 a xs) ∧ R (Itt K a) H1
theorem pi_list {l:Expr} {tl:TE} (hl:PE X l tl):PI X tg l (iList X.K tl):=by
  intro pins s σ H R I h
  refine thn (hl pins s σ H _ I h) fun v s1 ⟨x,H1,I1,r1,q1⟩=>?_
  obtain ⟨a,e,⟨xs,hq⟩,q⟩:=q1
  subst e
  cases r1
  obtain ⟨its,rv,p,hz⟩:=I1.list hq
  refine wpAny_pyIter_list p.isList ?_
  refine ⟨s1.heap.objs.size,[s1.heap.objs.size],_,_,H1,rfl,I1.kept (t':=s1.toks) fun b o e=>Heap.get?_push_of_some _ e,turn_list a _,⟨_,Heap.get?_push_size _ rfl,rfl,rfl⟩,fun b hb=>?_,q⟩
  have e:b = s1.heap.objs.size:=by simpa using hb
  subst e
  exact I1.fpOk (Nat.le_refl _) (I1.hok.fresh (Nat.le_refl _))
theorem pi_tup {l:Expr} {tl:TE} (hl:PE X l tl):PI X tg l (iTup X.K tl):=by
  intro pins s σ H R I h
  refine thn (hl pins s σ H _ I h) fun v s1 ⟨x,H1,I1,r1,q1⟩=>?_
  obtain ⟨a,e,⟨xs,hq⟩,q⟩:=q1
  subst e
  cases r1
  obtain ⟨its,rv,p,hz⟩:=I1.tuple hq
  refine wpAny_pyIter_tuple (show s1.heap.IsTuple a its.toArray from p) ?_
  refine ⟨s1.heap.objs.size,[s1.heap.objs.size],_,_,H1,rfl,I1.kept (t':=s1.toks) fun b o e=>Heap.get?_push_of_some _ e,turn_tuple a _,⟨_,Heap.get?_push_size _ rfl,rfl,rfl⟩,fun b hb=>?_,q⟩
  have e:b = s1.heap.objs.size:=by simpa using hb
  subst e
  exact I1.fpOk (Nat.le_refl _) (I1.hok.fresh (Nat.le_refl _))
theorem range_it {pins:List (Addr × Obj)} {σ:St} {H:Hp} {s:Shared} {R:It → Hp → Prop} {E:Value → Shared → Prop} {lo hi:Int} {t u v:Tok} {tk:Nat} (I:Inv X pins σ H s) (h1 : -(2 ^ 62) ≤ lo) (h2:lo < 2 ^ 62) (h3 : -(2 ^ 62) ≤ hi) (h4:hi < 2 ^ 62)
    (q:R (Itr lo (hi - lo).toNat) H):wpAny (model X.prog X.w) X.A (pyIter (.ref s.heap.objs.size)) (PIE X pins σ tg R) E { s with heap:=s.heap.push { cls:=.type "range", data:=.fields #[.int lo t,.int hi u,.int 1 v] },toks:=tk }:=by
  refine wpAny_pyIter_range (IsRange.new ..) (small_one h1 h2 h3 h4) ?_
  have I1:Inv X pins σ H { s with heap:=s.heap.push { cls:=.type "range", data:=.fields #[.int lo t,.int hi u,.int 1 v] },toks:=tk }:=I.kept fun b o e=>Heap.get?_push_of_some _ e
  refine ⟨(s.heap.push { cls:=.type "range", data:=.fields #[.int lo t,.int hi u,.int 1 v] }).objs.size,[(s.heap.push { cls:=.type "range", data:=.fields #[.int lo t,.int hi u,.int 1 v] }).objs.size],_,_,H,rfl,
    I1.kept (t':=tk) fun b o e=>Heap.get?_push_of_some _ e,turn_range _ lo (hi - lo).toNat,?_,fun b hb=>?_,q⟩
  · have e1:lo + ((0:Nat):Int) * 1 = lo:=by simp
    have e2:(((hi - lo).toNat:Nat):Int) - ((0:Nat):Int) = Builtin.Range.rangeSize lo hi 1:=by rw [rangeSize_one]; split <;> omega
    show IsRangeIter _ _ (lo + ((0:Nat):Int) * 1) ((((hi - lo).toNat:Nat):Int) - ((0:Nat):Int)) 1
    rw [e1,e2]
    exact Heap.get?_push_size _ rfl
  · have e:b = (s.heap.push { cls:=.type "range", data:=.fields #[.int lo t,.int hi u,.int 1 v] }).objs.size:=by simpa using hb
    subst e
    exact I1.fpOk (Nat.le_refl _) (I1.hok.fresh (Nat.le_refl _))
def iRng1 (ta:TA):TI:=fun σ H R=>ta σ H fun vs H1=>∃ j:Int,vs = [.int j] ∧ -(2 ^ 62) ≤ j ∧ j < 2 ^ 62 ∧ R (Itr 0 j.toNat) H1
theorem pi_range1 {a:Expr} {ta:TA} {p pos:Pos} (hg:Gl X "range") (hm:X.mg "range" = none) (ha:PA X [a] ta) (hs:starEach [a] X.env = [(false,eval a X.env)]:=by rfl):PI X tg (.Call (.Name "range" p) [a] [] pos) (iRng1 ta):=by
  intro pins s σ H R I h
  refine Call_ (ld_blt I hg hm boot_range (PyProof.Rows.callWith_type1 (thn (ha pos pins s σ H _ I h) fun us s1 ⟨vs,H1,I1,r1,q1⟩=>?_) hs rfl))
  obtain ⟨j,e,q1,q2,q⟩:=q1
  subst e
  cases r1 with
  | cons r rr =>
    cases rr
    obtain ⟨t,rfl⟩:=r
    exact call_range_1 (range_it I1 (by omega) (by omega) q1 q2 (by simpa using q))
def tFor (wi:TI) (g:TG) (tb:TS):TS:=fun D σ H=>wi σ H fun J H1=>∃ W:Nat → Nat → St → Hp → Prop,(∃ m,W 0 m σ H1) ∧ ∀ i m σ H,W i m σ H →
  (J.stop i H ∧ D.nx σ H) ∨ (J.go i H ∧ ∃ N:St → Hp → Prop,(∀ σ' H',N σ' H' → ∃ m',m' < m ∧ W (i + 1) m' σ' H') ∧ ∀ x H',J.yld i H x H' → g x σ H' fun σ2 H2=>tb { D with nx:=N,ct:=N,bk:=D.nx } σ2 H2)
def pinsAt (fp:List Addr) (h:Heap):List (Addr × Obj):=fp.filterMap fun b=>(h.get? b).map fun o=>(b,o)
theorem mem_pinsAt {fp:List Addr} {h:Heap} {b:Addr} {o:Obj} (hb:b ∈ fp) (e:h.get? b = some o):(b,o) ∈ pinsAt fp h:=List.mem_filterMap.mpr ⟨b,hb,by rw [e]; rfl⟩
theorem of_pinsAt {fp:List Addr} {h:Heap} {p:Addr × Obj} (hp:p ∈ pinsAt fp h):p.1 ∈ fp ∧ h.get? p.1 = some p.2:=by
  obtain ⟨b,hb,e⟩:=List.mem_filterMap.mp hp
  cases q:h.get? b with
  | none=>rw [q] at e; cases e
  | some o =>
    rw [q] at e
    have e':(b,o) = p:=Option.some.inj e
    subst e'
    exact ⟨hb,q⟩
theorem Inv.pinned {pins:List (Addr × Obj)} {σ:St} {H:Hp} {s:Shared} {fp:List Addr} (I:Inv X pins σ H s) (hf:∀ b ∈ fp,FpOk X pins H b) (ho:∀ b ∈ fp,∃ o,s.heap.get? b = some o ∧ ∀ v,o.data ≠ .cell v):Inv X (pins ++ pinsAt fp s.heap) σ H s :=
  I.pins_of fun p hp=>(List.mem_append.mp hp).elim (fun z=>I.pin p (List.mem_append_right _ z)) fun z=>by
    obtain ⟨hb,e⟩:=of_pinsAt z
    obtain ⟨f0,f1,f2,_⟩:=hf p.1 hb
    obtain ⟨o,e',d⟩:=ho p.1 hb
    rw [e] at e'; cases e'
    exact ⟨e,f0,f1,f2,d⟩
theorem Inv.unpinned {pins pl:List (Addr × Obj)} {σ:St} {H:Hp} {s:Shared} (I:Inv X (pins ++ pl) σ H s):Inv X pins σ H s:=I.pins_of fun p hp=>I.pin p (List.mem_append_right _ (List.mem_append_left _ hp))
theorem ps_for {iter:Expr} {body:List Stmt} {wi:TI} {g:TG} {tb:TS} {pos:Pos} (hp:PassesOwn (model X.prog X.w) X.A X.env X.xe) (hc:X.calm = true) (hi:PI X tg iter wi) (hg:PG X tg g) (hb:PSs X body tb)
    (hs:∀ x,foldedSetIterable iter X.env x = pure x:=by intro _; rfl):PS X (.For tg iter body [] pos) (tFor wi g tb):=by
  intro pins s σ H D I h
  refine wpAny_For (thn (hi pins s σ H _ I h) fun v s1 h1=>thn h1 fun itv s2 h2=>?_) hs
  obtain ⟨it,fp,tn,J,H2,e,I2,T,st2,f2,W,⟨m0,w0⟩,turn⟩:=h2
  subst e
  have stat:∀ {H':Hp},(∀ b ∈ fp,H' b = none) → ∀ b ∈ fp,FpOk X pins H' b:=fun hn b hb=>⟨hn b hb,(f2 b hb).2⟩
  refine codeAny_forLoop_any (fun n s'=>∃ i σ' H',Inv X pins σ' H' s' ∧ tn i s'.heap ∧ (∀ b ∈ fp,H' b = none) ∧ W i n σ' H') ?_ m0 ⟨0,σ,H2,I2,st2,fun b hb=>(f2 b hb).1,w0⟩
  rintro n s3 ⟨i,σ3,H3,I3,st3,fr3,w3⟩
  rcases turn i n σ3 H3 w3 with ⟨stop,qn⟩ | ⟨go,N,hN,step⟩
  · refine wpAny_passesOwn hp (thn (T.done X rfl rfl rfl hc i pins s3 σ3 H3 X.xe I3 (stat fr3) st3 stop) fun r s4 ⟨hr,I4⟩=>?_)
    subst hr
    exact wpAny_execs_nil ⟨σ3,H3,I4,qn⟩
  · refine wpAny_passesOwn hp (thn (T.item X rfl rfl rfl hc i pins s3 σ3 H3 X.xe I3 (stat fr3) st3 go) fun r s4 ⟨u,hr,h4⟩=>?_)
    subst hr
    refine wpAny_passesOwn hp (thn h4 fun _ s5 ⟨x,H5,I5,r5,y5,st5,fr5⟩=>?_)
    have I5':=I5.pinned (stat fr5) (T.obj _ _ st5)
    refine wpAny_passesOwn hp (thn (hg _ s5 σ3 H5 x u _ I5' r5 (step x H5 y5)) fun _ s6 ⟨σ6,H6,I6,q6⟩=>?_)
    refine wpAny_passesOwn hp (thn (hb _ s6 σ6 H6 _ I6 q6) fun f s7 q7=>?_)
    have again:∀ {σ7:St} {H7:Hp},Inv X (pins ++ pinsAt fp s5.heap) σ7 H7 s7 → N σ7 H7 → ∃ m,m < n ∧ ∃ i σ' H',Inv X pins σ' H' s7 ∧ tn i s7.heap ∧ (∀ b ∈ fp,H' b = none) ∧ W i m σ' H':=fun {σ7 H7} I7 n7=>by
      obtain ⟨m',hm,w7⟩:=hN σ7 H7 n7
      refine ⟨m',hm,i + 1,σ7,H7,I7.unpinned,T.keep _ _ _ st5 fun b hb o e=>(I7.pin (b,o) (List.mem_append_right _ (List.mem_append_right _ (mem_pinsAt hb e)))).1,fun b hb=>?_,w7⟩
      obtain ⟨o,e,d⟩:=T.obj _ _ st5 b hb
      exact (I7.pin (b,o) (List.mem_append_right _ (List.mem_append_right _ (mem_pinsAt hb e)))).2.1
    cases f with
    | next=>obtain ⟨σ7,H7,I7,n7⟩:=q7; exact again I7 n7
    | cont=>obtain ⟨σ7,H7,I7,n7⟩:=q7; exact again I7 n7
    | brk=>obtain ⟨σ7,H7,I7,q7⟩:=q7; exact ⟨σ7,H7,I7.unpinned,q7⟩
    | ret v=>obtain ⟨x7,σ7,H7,I7,r7,q7⟩:=q7; exact ⟨x7,σ7,H7,I7.unpinned,r7,q7⟩
end
theorem for_list {K:PySem.W.Frag} {a:Addr} {xs:List V} {g:TG} {tb:TS} {D:Ends} {σ:St} {H:Hp} (Pv:Nat → St → Hp → Prop) (h0:Pv 0 σ H) (hl:∀ i σ H,i ≤ xs.length → Pv i σ H → SqL K H a xs)
    (hs:∀ i x σ H,xs[i]? = some x → Pv i σ H → g x σ H fun σ2 H2=>tb { D with nx:=Pv (i + 1),ct:=Pv (i + 1),bk:=D.nx } σ2 H2) (hd:∀ σ H,Pv xs.length σ H → D.nx σ H) :
    ∃ W:Nat → Nat → St → Hp → Prop,(∃ m,W 0 m σ H) ∧ ∀ i m σ H,W i m σ H →
      ((Itl K a).stop i H ∧ D.nx σ H) ∨ ((Itl K a).go i H ∧ ∃ N:St → Hp → Prop,(∀ σ' H',N σ' H' → ∃ m',m' < m ∧ W (i + 1) m' σ' H') ∧ ∀ x H',(Itl K a).yld i H x H' → g x σ H' fun σ2 H2=>tb { D with nx:=N,ct:=N,bk:=D.nx } σ2 H2):=by
  refine ⟨fun i m σ H=>m = xs.length - i ∧ i ≤ xs.length ∧ Pv i σ H,⟨xs.length,by simp,Nat.zero_le _,h0⟩,?_⟩
  rintro i m σ H ⟨rfl,hi,p⟩
  have q:=hl i σ H hi p
  by_cases hlt:i < xs.length
  · refine .inr ⟨⟨xs,xs[i],q,by simp [hlt]⟩,Pv (i + 1),fun σ' H' p'=>⟨xs.length - (i + 1),by omega,rfl,hlt,p'⟩,fun x H' y=>?_⟩
    obtain ⟨e,y⟩:=y
    subst e
    exact hs i x σ _ (y xs q) p
  · have e:i = xs.length:=by omega
    subst e
    exact .inl ⟨⟨xs,q,Nat.le_refl _⟩,hd σ H p⟩
theorem for_tup {K:PySem.W.Frag} {a:Addr} {xs:List V} {g:TG} {tb:TS} {D:Ends} {σ:St} {H:Hp} (Pv:Nat → St → Hp → Prop) (h0:Pv 0 σ H) (hl:∀ i σ H,i ≤ xs.length → Pv i σ H → SqT K H a xs)
    (hs:∀ i x σ H,xs[i]? = some x → Pv i σ H → g x σ H fun σ2 H2=>tb { D with nx:=Pv (i + 1),ct:=Pv (i + 1),bk:=D.nx } σ2 H2) (hd:∀ σ H,Pv xs.length σ H → D.nx σ H) :
    ∃ W:Nat → Nat → St → Hp → Prop,(∃ m,W 0 m σ H) ∧ ∀ i m σ H,W i m σ H →
      ((Itt K a).stop i H ∧ D.nx σ H) ∨ ((Itt K a).go i H ∧ ∃ N:St → Hp → Prop,(∀ σ' H',N σ' H' → ∃ m',m' < m ∧ W (i + 1) m' σ' H') ∧ ∀ x H',(Itt K a).yld i H x H' → g x σ H' fun σ2 H2=>tb { D with nx:=N,ct:=N,bk:=D.nx } σ2 H2):=by
  refine ⟨fun i m σ H=>m = xs.length - i ∧ i ≤ xs.length ∧ Pv i σ H,⟨xs.length,by simp,Nat.zero_le _,h0⟩,?_⟩
  rintro i m σ H ⟨rfl,hi,p⟩
  have q:=hl i σ H hi p
  by_cases hlt:i < xs.length
  · refine .inr ⟨⟨xs,xs[i],q,by simp [hlt]⟩,Pv (i + 1),fun σ' H' p'=>⟨xs.length - (i + 1),by omega,rfl,hlt,p'⟩,fun x H' y=>?_⟩
    obtain ⟨e,y⟩:=y
    subst e
    exact hs i x σ _ (y xs q) p
  · have e:i = xs.length:=by omega
    subst e
    exact .inl ⟨⟨xs,q,Nat.le_refl _⟩,hd σ H p⟩
theorem for_range {lo:Int} {n:Nat} {g:TG} {tb:TS} {D:Ends} {σ:St} {H:Hp} (Pv:Nat → St → Hp → Prop) (h0:Pv 0 σ H)
    (hs:∀ i σ H,i < n → Pv i σ H → g (.int (lo + i)) σ H fun σ2 H2=>tb { D with nx:=Pv (i + 1),ct:=Pv (i + 1),bk:=D.nx } σ2 H2) (hd:∀ σ H,Pv n σ H → D.nx σ H) :
    ∃ W:Nat → Nat → St → Hp → Prop,(∃ m,W 0 m σ H) ∧ ∀ i m σ H,W i m σ H →
      ((Itr lo n).stop i H ∧ D.nx σ H) ∨ ((Itr lo n).go i H ∧ ∃ N:St → Hp → Prop,(∀ σ' H',N σ' H' → ∃ m',m' < m ∧ W (i + 1) m' σ' H') ∧ ∀ x H',(Itr lo n).yld i H x H' → g x σ H' fun σ2 H2=>tb { D with nx:=N,ct:=N,bk:=D.nx } σ2 H2):=by
  refine ⟨fun i m σ H=>m = n - i ∧ i ≤ n ∧ Pv i σ H,⟨n,by simp,Nat.zero_le _,h0⟩,?_⟩
  rintro i m σ H ⟨rfl,hi,p⟩
  by_cases hlt:i < n
  · refine .inr ⟨hlt,Pv (i + 1),fun σ' H' p'=>⟨n - (i + 1),by omega,rfl,hlt,p'⟩,fun x H' y=>?_⟩
    obtain ⟨e,y⟩:=y
    subst e y
    exact hs i σ _ hlt p
  · have e:i = n:=by omega
    subst e
    exact .inl ⟨Nat.le_refl _,hd σ H p⟩
theorem while_by {c:TT} {tb:TS} {D:Ends} {σ:St} {H:Hp} (Pv:St → Hp → Prop) (μ:St → Hp → Nat) (h0:Pv σ H)
    (hs:∀ σ H,Pv σ H → c σ H fun b H1=>if b = true then tb { D with nx:=fun σ' H'=>Pv σ' H' ∧ μ σ' H' < μ σ H,ct:=fun σ' H'=>Pv σ' H' ∧ μ σ' H' < μ σ H,bk:=D.nx } σ H1 else D.nx σ H1)
    (mono:∀ σ H Q Q',(∀ b H1,Q b H1 → Q' b H1) → c σ H Q → c σ H Q'):tWhile c tb D σ H:=by
  refine ⟨fun m σ H=>m = μ σ H ∧ Pv σ H,⟨_,rfl,h0⟩,?_⟩
  rintro m σ H ⟨rfl,p⟩
  refine mono σ H _ _ (fun b H1 q=>?_) (hs σ H p)
  cases b with
  | true=>exact ⟨_,fun σ' H' ⟨p',l⟩=>⟨_,l,rfl,p'⟩,q⟩
  | false=>exact q
end L2
namespace L2
open PySem PySem.Spec PyProof.Rows
abbrev R2:=V → V → Hp → VK → Prop
def OpR (X:Cx) (f:Value → Value → Sem Value) (r:R2):Prop :=
  ∀ (pins:List (Addr × Obj)) (s:Shared) (σ:St) (H:Hp) (x y:V) (v u:Value) (Q:VK),Inv X pins σ H s → RelV x v → RelV y u → r x y H Q →
    wpAny (model X.prog X.w) X.A (f v u) (EP X pins σ Q) X.xe s
def UnR (X:Cx) (f:Value → Sem Value) (r:V → Hp → VK → Prop):Prop :=
  ∀ (pins:List (Addr × Obj)) (s:Shared) (σ:St) (H:Hp) (x:V) (v:Value) (Q:VK),Inv X pins σ H s → RelV x v → r x H Q →
    wpAny (model X.prog X.w) X.A (f v) (EP X pins σ Q) X.xe s
def CallR (X:Cx) (f:Value) (r:List V → Hp → VK → Prop):Prop :=
  ∀ (pins:List (Addr × Obj)) (s:Shared) (σ:St) (H:Hp) (xs:List V) (us:List Value) (Q:VK),Inv X pins σ H s → Vals xs us → r xs H Q →
    wpAny (model X.prog X.w) X.A (call f us) (EP X pins σ Q) X.xe s
def tOp (r:R2) (ta tb:TE):TE:=fun σ H Q=>ta σ H fun x H1=>tb σ H1 fun y H2=>r x y H2 Q
def tUn (r:V → Hp → VK → Prop) (ta:TE):TE:=fun σ H Q=>ta σ H fun x H1=>r x H1 Q
def rI (C:Int → Int → Prop) (g:Int → Int → V):R2:=fun x y H Q=>∃ i j,x = .int i ∧ y = .int j ∧ C i j ∧ Q (g i j) H
def rI0 (g:Int → Int → V):R2:=fun x y H Q=>∃ i j,x = .int i ∧ y = .int j ∧ Q (g i j) H
def rU (g:Int → V):V → Hp → VK → Prop:=fun x H Q=>∃ i,x = .int i ∧ Q (g i) H
section
variable {X:Cx} {a b c:Expr} {ta tb tc:TE} {pos:Pos}
theorem binT (ha:PE X a ta) (hb:PE X b tb) {pins:List (Addr × Obj)} {s:Shared} {σ:St} {H:Hp} {R:V → V → Hp → Prop} (I:Inv X pins σ H s)
    (h:ta σ H fun x H1=>tb σ H1 fun y H2=>R x y H2) {Q:Value → Shared → Prop} {f:Value → Value → Sem Value}
    (hf:∀ v u s2 x y H2,Inv X pins σ H2 s2 → RelV x v → RelV y u → R x y H2 → wpAny (model X.prog X.w) X.A (f v u) Q X.xe s2) :
    wpAny (model X.prog X.w) X.A (eval a X.env) (fun v s₁=>wpAny (model X.prog X.w) X.A (eval b X.env) (fun u s₂=>wpAny (model X.prog X.w) X.A (f v u) Q X.xe s₂) X.xe s₁) X.xe s:=by
  refine thn (ha pins s σ H _ I h) fun v s1 ⟨x,H1,I1,r1,q1⟩=>?_
  refine thn (hb pins s1 σ H1 _ I1 q1) fun u s2 ⟨y,H2,I2,r2,q2⟩=>?_
  exact hf v u s2 x y H2 I2 r1 r2 q2
theorem pe_op {op:Operator} {r:R2} (ho:OpR X (binaryOp op) r) (ha:PE X a ta) (hb:PE X b tb):PE X (.BinOp a op b pos) (tOp r ta tb):=by
  intro pins s σ H Q I h
  exact wpAny_BinOp (binT ha hb I h fun v u s2 x y H2 I2 rx ry q=>ho pins s2 σ H2 x y v u Q I2 rx ry q)
theorem pe_un {op:UnaryOp} {r:V → Hp → VK → Prop} (ho:UnR X (unaryOp op) r) (ha:PE X a ta):PE X (.UnaryOp op a pos) (tUn r ta):=by
  intro pins s σ H Q I h
  exact UnaryOp_ (thn (ha pins s σ H _ I h) fun v s1 ⟨x,H1,I1,r1,q1⟩=>ho pins s1 σ H1 x v Q I1 r1 q1)
theorem opI {f:Value → Value → Sem Value} {C:Int → Int → Prop} {g:Int → Int → Int}
    (rule:∀ (i j:Int) (t u:Tok) (s:Shared) (Q:Value → Shared → Prop) (E:Value → Shared → Prop),C i j → Q (.int (g i j) s.toks) { s with toks:=s.toks + 1 } → wpAny (model X.prog X.w) X.A (f (.int i t) (.int j u)) Q E s) :
    OpR X f (rI C fun i j=>.int (g i j)):=by
  intro pins s σ H x y v u Q I rx ry h
  obtain ⟨i,j,rfl,rfl,hc,q⟩:=h
  obtain ⟨t,rfl⟩:=rx
  obtain ⟨t',rfl⟩:=ry
  exact rule i j t t' s _ _ hc ⟨.int (g i j),H,I.tok _,⟨_,rfl⟩,q⟩
theorem opI0 {f:Value → Value → Sem Value} {g:Int → Int → Int}
    (rule:∀ (i j:Int) (t u:Tok) (s:Shared) (Q:Value → Shared → Prop) (E:Value → Shared → Prop),Q (.int (g i j) s.toks) { s with toks:=s.toks + 1 } → wpAny (model X.prog X.w) X.A (f (.int i t) (.int j u)) Q E s) :
    OpR X f (rI0 fun i j=>.int (g i j)):=by
  intro pins s σ H x y v u Q I rx ry h
  obtain ⟨i,j,rfl,rfl,q⟩:=h
  obtain ⟨t,rfl⟩:=rx
  obtain ⟨t',rfl⟩:=ry
  exact rule i j t t' s _ _ ⟨.int (g i j),H,I.tok _,⟨_,rfl⟩,q⟩
theorem opB0 {f:Value → Value → Sem Value} {g:Int → Int → Bool}
    (rule:∀ (i j:Int) (t u:Tok) (s:Shared) (Q:Value → Shared → Prop) (E:Value → Shared → Prop),Q (.bool (g i j)) s → wpAny (model X.prog X.w) X.A (f (.int i t) (.int j u)) Q E s) :
    OpR X f (rI0 fun i j=>.bl (g i j)):=by
  intro pins s σ H x y v u Q I rx ry h
  obtain ⟨i,j,rfl,rfl,q⟩:=h
  obtain ⟨t,rfl⟩:=rx
  obtain ⟨t',rfl⟩:=ry
  exact rule i j t t' s _ _ ⟨.bl (g i j),H,I,rfl,q⟩
def CDiv (i j:Int):Prop:=0 < j ∧ j < 1073741824
def CDivN (i j:Int):Prop:=j ≠ 0 ∧ j.natAbs < 1073741824
def CPow (i j:Int):Prop:=0 ≤ j ∧ j ≤ 1000000 ∧ i.natAbs < 2 ^ 64
def CMul (i j:Int):Prop:=(-(2 ^ 64) < i ∧ i < 2 ^ 64) ∨ (-(2 ^ 64) < j ∧ j < 2 ^ 64)
theorem CMul.ok {i j:Int} (h:CMul i j):IntMulOk i j:=by
  rcases h with ⟨h1,h2⟩ | ⟨h1,h2⟩
  · exact .of_left (intBits_le_64 h1 h2)
  · exact .of_right (intBits_le_64 h1 h2)
theorem op_add:OpR X (binaryOp .Add) (rI0 fun i j=>.int (i + j)):=opI0 fun _ _ _ _ _ _ _ q=>add_int q
theorem op_sub:OpR X (binaryOp .Sub) (rI0 fun i j=>.int (i - j)):=opI0 fun _ _ _ _ _ _ _ q=>sub_int q
theorem op_mul:OpR X (binaryOp .Mult) (rI CMul fun i j=>.int (i * j)):=opI fun _ _ _ _ _ _ _ hc q=>mul_int q hc.ok
theorem op_fdiv:OpR X (binaryOp .FloorDiv) (rI CDiv fun i j=>.int (i / j)):=opI fun i j _ _ _ _ _ hc q=>by
  have h1:(0:Int) < j:=hc.1
  have h2:j < 1073741824:=hc.2
  exact floordiv_int (by omega) (by rw [Int.fdiv_eq_ediv_of_nonneg i (by omega)]; exact q) (.inl (PyProof.noPylong_small (by omega)))
theorem op_fdivN:OpR X (binaryOp .FloorDiv) (rI CDivN fun i j=>.int (i.fdiv j)):=opI fun _ _ _ _ _ _ _ hc q=>floordiv_int hc.1 q (.inl (PyProof.noPylong_small hc.2))
theorem op_mod:OpR X (binaryOp .Mod) (rI (fun _ j=>0 < j) fun i j=>.int (i % j)):=opI fun i j _ _ _ _ _ hc q=>by
  have h1:(0:Int) < j:=hc
  exact mod_int' (by omega) (by rw [Int.fmod_eq_emod_of_nonneg i (by omega)]; exact q)
theorem op_pow:OpR X (binaryOp .Pow) (rI CPow fun i j=>.int (i ^ j.toNat)):=opI fun _ _ _ _ _ _ _ hc q=>pow_int_small hc.1 hc.2.1 hc.2.2 q
theorem unI {f:Value → Sem Value} {g:Int → Int}
    (rule:∀ (i:Int) (t:Tok) (s:Shared) (Q:Value → Shared → Prop) (E:Value → Shared → Prop),Q (.int (g i) s.toks) { s with toks:=s.toks + 1 } → wpAny (model X.prog X.w) X.A (f (.int i t)) Q E s) :
    UnR X f (rU fun i=>.int (g i)):=by
  intro pins s σ H x v Q I rx h
  obtain ⟨i,rfl,q⟩:=h
  obtain ⟨t,rfl⟩:=rx
  exact rule i t s _ _ ⟨.int (g i),H,I.tok _,⟨_,rfl⟩,q⟩
theorem un_neg:UnR X (unaryOp .USub) (rU fun i=>.int (-i)):=unI fun _ _ _ _ _ q=>neg_int q
end
def scal:V → V → Bool
  | .non,.non=>true | .non,.int _=>true | .int _,.non=>true | .non,.bl _=>true | .bl _,.non=>true | .non,.str _=>true | .str _,.non=>true
  | .int _,.int _=>true | .bl _,.bl _=>true | .str _,.str _=>true | .byt _,.byt _=>true
  | .int _,.str _=>true | .str _,.int _=>true | .bl _,.str _=>true | .str _,.bl _=>true
  | _,_=>false
def rEq:R2:=fun x y H Q=>scal x y = true ∧ Q (.bl (decide (x = y))) H
theorem dec_int {i j:Int}:decide (V.int i = V.int j) = (i == j):=by
  rw [Bool.eq_iff_iff]
  simp
theorem dec_bl {i j:Bool}:decide (V.bl i = V.bl j) = (i == j):=by
  rw [Bool.eq_iff_iff]
  simp
theorem dec_str {i j:Str}:decide (V.str i = V.str j) = (i == j):=by
  rw [Bool.eq_iff_iff]
  simp
theorem dec_byt {i j:Array UInt8}:decide (V.byt i = V.byt j) = (i.toList == j.toList):=by
  rw [Bool.eq_iff_iff]
  cases i
  cases j
  simp
section
variable {X:Cx} {a b c:Expr} {ta tb tc:TE} {pos:Pos}
theorem fin_bl {pins:List (Addr × Obj)} {σ:St} {H:Hp} {s:Shared} {Q:VK} {k k':Bool} (I:Inv X pins σ H s) (q:Q (.bl k) H) (e:k = k'):EP X pins σ Q (.bool k') s:=by
  subst e
  exact ⟨.bl k,H,I,rfl,q⟩
theorem op_eq:OpR X (compareOp .Eq) rEq:=by
  intro pins s σ H x y v u Q I rx ry h
  obtain ⟨hs,q⟩:=h
  cases x with
  | non =>
    cases rx
    cases y with
    | non=>cases ry; exact PySem.EqNone.eq_none_none (fin_bl I q (by simp))
    | bl j=>cases ry; exact PySem.EqNone.eq_none_bool (fin_bl I q (by simp))
    | int j=>obtain ⟨t',rfl⟩:=ry; exact PySem.EqNone.eq_none_int (fin_bl I q (by simp))
    | str j=>obtain ⟨t',rfl⟩:=ry; exact PySem.EqNone.eq_none_str (fin_bl I q (by simp))
    | _=>exact absurd (show false = true from hs) Bool.false_ne_true
  | bl i =>
    cases rx
    cases y with
    | non=>cases ry; exact PySem.EqNone.eq_bool_none (fin_bl I q (by simp))
    | bl j=>cases ry; exact eq_bool (fin_bl I q dec_bl)
    | str j=>obtain ⟨t',rfl⟩:=ry; exact PySem.EqMixed.eq_bool_str (fin_bl I q (by simp))
    | _=>exact absurd (show false = true from hs) Bool.false_ne_true
  | int i =>
    obtain ⟨t,rfl⟩:=rx
    cases y with
    | non=>cases ry; exact PySem.EqNone.eq_int_none (fin_bl I q (by simp))
    | int j=>obtain ⟨t',rfl⟩:=ry; exact eq_int (fin_bl I q dec_int)
    | str j=>obtain ⟨t',rfl⟩:=ry; exact PySem.EqMixed.eq_int_str (fin_bl I q (by simp))
    | _=>exact absurd (show false = true from hs) Bool.false_ne_true
  | str i =>
    obtain ⟨t,rfl⟩:=rx
    cases y with
    | non=>cases ry; exact PySem.EqNone.eq_str_none (fin_bl I q (by simp))
    | bl j=>cases ry; exact PySem.EqMixed.eq_str_bool (fin_bl I q (by simp))
    | int j=>obtain ⟨t',rfl⟩:=ry; exact PySem.EqMixed.eq_str_int (fin_bl I q (by simp))
    | str j=>obtain ⟨t',rfl⟩:=ry; exact eq_str (fin_bl I q dec_str)
    | _=>exact absurd (show false = true from hs) Bool.false_ne_true
  | byt i =>
    obtain ⟨t,rfl⟩:=rx
    cases y with
    | byt j=>obtain ⟨t',rfl⟩:=ry; exact PySem.W.eq_bytes (fin_bl I q dec_byt)
    | _=>exact absurd (show false = true from hs) Bool.false_ne_true
  | _=>cases y <;> exact absurd (show false = true from hs) Bool.false_ne_true
theorem op_lt:OpR X (compareOp .Lt) (rI0 fun i j=>.bl (decide (i < j))):=opB0 fun _ _ _ _ _ _ _ q=>lt_int q
theorem op_le:OpR X (compareOp .LtE) (rI0 fun i j=>.bl (decide (i ≤ j))):=opB0 fun _ _ _ _ _ _ _ q=>le_int q
theorem op_gt:OpR X (compareOp .Gt) (rI0 fun i j=>.bl (decide (j < i))):=opB0 fun _ _ _ _ _ _ _ q=>gt_int q
theorem op_ge:OpR X (compareOp .GtE) (rI0 fun i j=>.bl (decide (j ≤ i))):=opB0 fun _ _ _ _ _ _ _ q=>ge_int q
theorem op_isN:OpR X (compareOp .Is) (fun x y H Q=>y = .non ∧ Q (.bl (decide (x = .non))) H):=by
  intro pins s σ H x y v u Q I rx ry h
  obtain ⟨rfl,q⟩:=h
  cases ry
  refine is_none_gen (fin_bl I q ?_)
  cases x <;> first
    | (cases rx; rfl)
    | (obtain ⟨t,rfl⟩:=rx; rfl)
theorem OpR.or {f:Value → Value → Sem Value} {r r':R2} (h:OpR X f r) (h':OpR X f r'):OpR X f (fun x y H Q=>r x y H Q ∨ r' x y H Q):=by
  intro pins s σ H x y v u Q I rx ry q
  rcases q with q | q
  · exact h pins s σ H x y v u Q I rx ry q
  · exact h' pins s σ H x y v u Q I rx ry q
theorem nomark (b:Expr) {op:CmpOp} (h:op ≠ .In:=by decide) (h2:op ≠ .NotIn:=by decide):behindInMarks op b = false:=by
  have e1:(op == CmpOp.In) = false:=by cases op <;> first | rfl | exact absurd rfl h
  have e2:(op == CmpOp.NotIn) = false:=by cases op <;> first | rfl | exact absurd rfl h2
  cases b <;> simp [behindInMarks,e1,e2]
theorem pe_cmpR {op:CmpOp} {r:R2} (ho:OpR X (compareOp op) r) (ha:PE X a ta) (hb:PE X b tb) (hm:behindInMarks op b = false):PE X (.Compare a [op] [b] pos) (tOp r ta tb):=by
  intro pins s σ H Q I h
  exact wpAny_Compare1 (binT ha hb I h fun v u s2 x y H2 I2 rx ry q=>ho pins s2 σ H2 x y v u Q I2 rx ry q) hm
def tTest (t:TE):TT:=fun σ H Q=>t σ H fun x H'=>∃ k,x = .bl k ∧ Q k H'
theorem pt_cmpR {op:CmpOp} {r:R2} (ho:OpR X (compareOp op) r) (ha:PE X a ta) (hb:PE X b tb) (hm:behindInMarks op b = false):PT X (.Compare a [op] [b] pos) (tTest (tOp r ta tb)):=by
  intro pins s σ H Q I h
  refine wpAny_isTrue_Compare1 (thn (ha pins s σ H _ I h) fun v s1 ⟨x,H1,I1,r1,q1⟩=>thn (hb pins s1 σ H1 _ I1 q1) fun u s2 ⟨y,H2,I2,r2,q2⟩ =>
    thn (ho pins s2 σ H2 x y v u _ I2 r1 r2 q2) fun c s3 ⟨z,H3,I3,r3,k,e,q3⟩=>?_) hm
  subst e
  cases r3
  exact wpAny_truthy_bool ⟨H3,I3,q3⟩
def tChain (r r':R2) (ta tb tc:TE):TE:=fun σ H Q=>ta σ H fun x H1=>tb σ H1 fun y H2=>r x y H2 fun z H3=>∃ k,z = .bl k ∧
  (if k = true then tc σ H3 fun w' H4=>r' y w' H4 Q else Q (.bl false) H3)
theorem pe_chain {op op':CmpOp} {r r':R2} (ho:OpR X (compareOp op) r) (ho':OpR X (compareOp op') r') (ha:PE X a ta) (hb:PE X b tb) (hc:PE X c tc)
    (hm:lastMarks [op,op'] [b,c] = false:=by with_unfolding_all rfl):PE X (.Compare a [op,op'] [b,c] pos) (tChain r r' ta tb tc):=by
  intro pins s σ H Q I h
  refine Compare_chain (thn (ha pins s σ H _ I h) fun v s1 ⟨x,H1,I1,r1,q1⟩=>chain_link (thn (hb pins s1 σ H1 _ I1 q1) fun u s2 ⟨y,H2,I2,r2,q2⟩ =>
    thn (ho pins s2 σ H2 x y v u _ I2 r1 r2 q2) fun d s3 ⟨z,H3,I3,r3,k,e,q3⟩=>?_)) hm
  subst e
  cases r3
  refine wpAny_truthy_bool ?_
  cases k with
  | false=>exact ite_ff ⟨.bl false,H3,I3,rfl,q3⟩
  | true=>exact ite_tt (chain_last (thn (hc pins s3 σ H3 _ I3 q3) fun w' s4 ⟨z',H4,I4,r4,q4⟩=>ho' pins s4 σ H4 y z' u w' Q I4 r2 r4 q4))
theorem pt_chain {op op':CmpOp} {r r':R2} (ho:OpR X (compareOp op) r) (ho':OpR X (compareOp op') r') (ha:PE X a ta) (hb:PE X b tb) (hc:PE X c tc)
    (hm:lastMarks [op,op'] [b,c] = false:=by with_unfolding_all rfl):PT X (.Compare a [op,op'] [b,c] pos) (tTest (tChain r r' ta tb tc)):=by
  intro pins s σ H Q I h
  refine isTrue_chain (thn (ha pins s σ H _ I h) fun v s1 ⟨x,H1,I1,r1,q1⟩=>test_link (thn (hb pins s1 σ H1 _ I1 q1) fun u s2 ⟨y,H2,I2,r2,q2⟩ =>
    thn (ho pins s2 σ H2 x y v u _ I2 r1 r2 q2) fun d s3 ⟨z,H3,I3,r3,k,e,q3⟩=>?_)) hm
  subst e
  cases r3
  refine wpAny_truthy_bool ?_
  cases k with
  | false =>
    obtain ⟨k',e',q'⟩:=q3
    cases e'
    exact ite_ff ⟨H3,I3,q'⟩
  | true =>
    refine ite_tt (test_last (thn (hc pins s3 σ H3 _ I3 q3) fun w' s4 ⟨z',H4,I4,r4,q4⟩=>thn (ho' pins s4 σ H4 y z' u w' _ I4 r2 r4 q4) fun d' s5 ⟨z2,H5,I5,r5,k2,e2,q5⟩=>?_))
    subst e2
    cases r5
    exact wpAny_truthy_bool ⟨H5,I5,q5⟩
theorem line63:(sizeLine:Nat) < 2 ^ 63:=by rw [sizeLine_eq]; decide
theorem vals1 {x:V} {us:List Value} (r:Vals [x] us):∃ u,us = [u] ∧ RelV x u:=by
  cases r with
  | cons r1 r2=>cases r2; exact ⟨_,rfl,r1⟩
theorem vals2 {x y:V} {us:List Value} (r:Vals [x,y] us):∃ u w',us = [u,w'] ∧ RelV x u ∧ RelV y w':=by
  cases r with
  | cons r1 r2 =>
    cases r2 with
    | cons r3 r4=>cases r4; exact ⟨_,_,rfl,r1,r3⟩
theorem call_abs:CallR X (.builtin "abs") (fun xs H Q=>∃ i,xs = [.int i] ∧ Q (.int (if i < 0 then -i else i)) H):=by
  intro pins s σ H xs us Q I r h
  obtain ⟨i,rfl,q⟩:=h
  obtain ⟨u,rfl,t,rfl⟩:=vals1 r
  exact call_abs_int fun u tk=>⟨.int (if i < 0 then -i else i),H,I.tok _,⟨_,rfl⟩,q⟩
end
end L2
namespace L2
open PySem PySem.Spec PyProof.Rows
structure ObjM (h:Heap) (x dx C:Addr) (mA:Str → Option Value):Prop where
  obj:h.get? x = some (PySem.W.instObj C dx)
  ns:h.Ns1 dx mA
  ne:dx ≠ x
theorem lookIn_ns {h:Heap} {dx:Addr} {mA:Str → Option Value} (n:h.Ns1 dx mA):∃ od,h.get? dx = some od ∧ ∀ name,PySem.W.lookIn name od = some (mA name):=by
  obtain ⟨o,es,ep,ho,hd,hk,_,hm⟩:=n
  refine ⟨o,ho,fun name=>?_⟩
  have e:=hm name
  unfold nsFind findBy at e
  rw [← Array.find?_toList] at e
  unfold PySem.W.lookIn
  rw [hd]
  dsimp only
  split
  · rename_i y q
    rw [q] at e
    exact congrArg some e
  · rename_i q
    rw [q] at e
    have a:es.toList.any (·.refKey) = false:=by
      rw [List.any_eq_false]
      intro y hy
      obtain ⟨z,t,hkey⟩:=hk y (Array.mem_toList_iff.mp hy)
      simp [DictEntry.refKey,hkey]
    have a':¬ es.toList.any (·.refKey) = true:=by rw [a]; exact Bool.false_ne_true
    rw [if_neg a']
    exact congrArg some e
theorem ObjM.look {h:Heap} {x dx C:Addr} {mA:Str → Option Value} (I:ObjM h x dx C mA):∃ od,PySem.W.InstAt h x (PySem.W.instObj C dx) C (some od) ∧ ∀ name,PySem.W.lookIn name od = some (mA name) :=
  let ⟨od,ho,hl⟩:=lookIn_ns I.ns
  ⟨od,⟨I.obj,rfl,rfl,ho⟩,hl⟩
section
variable {prog:Program} {w:World} {A:Around} {E:Value → Shared → Prop} {s:Shared} {K:PySem.W.Frag} {x dx C f:Addr} {mA:Str → Option Value} {name:Str} {v:Value}
theorem get_map {expr:Bool} {Q:Value → Shared → Prop} (X:K.In s.heap) (I:ObjM s.heap x dx C mA) (hg:PySem.W.plainGet K C name = true) (hh:PySem.W.hasDictIn K C = true)
    (ha:PySem.W.findIn K (.ref C) name = some none) (hv:mA name = some v) (hv':PySem.W.handedIn v = true) (h:Q v { s with toks:=s.toks + 1 }) :
    wpAny (model prog w) A (getAttr (.ref x) name expr) Q E s:=by
  obtain ⟨od,J,hl⟩:=I.look
  exact PySem.W.get_value X J (PySem.W.plainGet_of hg).1 (PySem.W.findObj_own hh ha rfl (by rw [hl,hv])) hv' h
theorem get_meth {pl:Sem Bool} {Q:Value × List Value → Shared → Prop} (X:K.In s.heap) (I:ObjM s.heap x dx C mA) (hg:PySem.W.plainGet K C name = true)
    (hf:PySem.W.findIn K (.ref C) name = some (some (.ref f))) (ht:PySem.W.isFn K (.ref f) = true) (hv:mA name = none) (h:Q (.ref f,[.ref x]) s) :
    wpAny (model prog w) A (getMethod (.ref x) name pl) Q E s:=by
  obtain ⟨od,J,hl⟩:=I.look
  exact PySem.W.method_fn X J (PySem.W.plainGet_of hg).1 (PySem.W.plainGet_of hg).2 hf (beq_iff_eq.mp ht) (by show (PySem.W.lookIn name od).map (·.isSome) = some false; rw [hl,hv]; rfl) h
theorem set_map {ns:List Str} {Q:Unit → Shared → Prop} (X:K.In s.heap) (I:ObjM s.heap x dx C mA)
    (hs:PySem.W.findIn K (.ref C) "__setattr__" = some (some (.builtin "object.__setattr__"))) (hp:PySem.W.plainOver K C = true) (ht:PySem.W.takerIn K C name = some none) (hh:PySem.W.hasDictIn K C = true)
    (hw:PySem.Within mA ns) (hsz:ns.length ≤ sizeLine)
    (h:∀ h',ObjM h' x dx C (fun y=>if y = name then some v else mA y) → Heap.SameBut dx s.heap h' → Q () { s with heap:=h',toks:=s.toks + 2 }) :
    wpAny (model prog w) A (setAttr (.ref x) name v) Q E s:=by
  obtain ⟨od,J,hl⟩:=I.look
  refine PySem.W.set_plain X J hs (PySem.W.osa_open (s:={ s with toks:=s.toks + 1 }) (r:=none) X J hp ht fun b=>?_)
  obtain ⟨cd,hc,hd'⟩:=PySem.W.any_some hh
  have hx:s.heap.get? x = some ⟨.ref C,some dx,.plain,#[]⟩:=I.obj
  refine wpAny_bind (wpAny_pure (wpAny_bind (wpAny_bind (wpAny_loadPart hx (wpAny_bind (PySem.W.Looks.here (s:={ s with toks:=s.toks + 1 }) (PySem.W.looks_clsIn X hc) ?_))))))
  rw [hd']
  refine wpAny_pure (a:=some dx) (wpAny_bind (wpAny_pure (wpAny_bind ?_)))
  refine wpAny_nsSet1 (s:={ s with toks:=s.toks + 1 }) I.ns fun h' hn2 hs2=>?_
  obtain ⟨oD,esD,epD,hoD,hdD,hcD⟩:=hn2.count (PySem.Within.cons name v hw)
  refine wpAny_bind (wpAny_lookBehind hoD (by rw [hdD]; exact pastItsLine_dict (Nat.le_trans hcD (by rw [List.length_cons]; omega))) ?_)
  exact wpAny_pure (h _ ⟨(hs2.2 _ (Ne.symm I.ne)).trans I.obj,hn2,I.ne⟩ hs2)
theorem make_map {R:Result → Shared → Prop} {vs:List Value} {kw:List (Str × Value)} (X:K.In s.heap) (hm:PySem.W.makesIn K C = true)
    (hi:PySem.W.findIn K (.ref C) "__init__" = some (some (.ref f))) (hf:PySem.W.typeIn K (.ref f) = some (.type "function"))
    (h:codeAny (model prog w) (A.under (.builtin "type.__call__" ⟨.ref C :: vs,kw⟩)) (.call (.ref f) ⟨.ref (s.heap.objs.size + 1) :: vs,kw⟩) (PySem.W.InitBack (s.heap.objs.size + 1) R)
      { s with heap:=(s.heap.push PySem.W.emptyDict).push (PySem.W.instObj C s.heap.objs.size) }) :
    codeAny (model prog w) A (.call (.ref C) ⟨vs,kw⟩) R s:=by
  obtain ⟨hh,g,d,t,os⟩:=s
  exact PySem.W.make_core (PySem.W.makes_of X hm) (PySem.W.looks_findIn X hi) (fun self=>PySem.W.bind_fn X self hf) (.inl rfl) h
end
def putF (f:Str) (v:V):List (Str × V) → List (Str × V)
  | []=>[(f,v)]
  | (g,x) :: r=>if g = f then (g,v) :: r else (g,x) :: putF f v r
theorem lookup_putF (f g:Str) (v:V):∀ fs:List (Str × V),(putF f v fs).lookup g = if g = f then some v else fs.lookup g
  | []=>by
    show List.lookup g [(f,v)] = _
    by_cases h:g = f
    · have hb:(g == f) = true:=beq_iff_eq.mpr h
      simp only [List.lookup,hb,if_pos h]
    · have hb:(g == f) = false:=beq_eq_false_iff_ne.mpr h
      simp only [List.lookup,hb,if_neg h]
  | (k,x) :: r=>by
    have ih:=lookup_putF f g v r
    rw [show putF f v ((k,x) :: r) = (if k = f then (k,v) :: r else (k,x) :: putF f v r) from rfl]
    by_cases hk:k = f
    · rw [if_pos hk]
      by_cases h:g = k
      · have hb:(g == k) = true:=beq_iff_eq.mpr h
        simp only [List.lookup,hb,if_pos (h.trans hk)]
      · have hb:(g == k) = false:=beq_eq_false_iff_ne.mpr h
        simp only [List.lookup,hb,if_neg (fun e:g = f=>h (e.trans hk.symm))]
    · rw [if_neg hk]
      by_cases h:g = k
      · have hb:(g == k) = true:=beq_iff_eq.mpr h
        simp only [List.lookup,hb,if_neg (fun e:g = f=>hk (h.symm.trans e))]
      · have hb:(g == k) = false:=beq_eq_false_iff_ne.mpr h
        simp only [List.lookup,hb]
        exact ih
theorem keys_putF (f:Str) (v:V):∀ fs:List (Str × V),f ∈ (putF f v fs).map (·.1) ∧ ∀ g,g ∈ fs.map (·.1) → g ∈ (putF f v fs).map (·.1)
  | []=>⟨by simp [putF],fun g h=>by simp at h⟩
  | (k,x) :: r=>by
    obtain ⟨i1,i2⟩:=keys_putF f v r
    rw [show putF f v ((k,x) :: r) = (if k = f then (k,v) :: r else (k,x) :: putF f v r) from rfl]
    by_cases hk:k = f
    · rw [if_pos hk]
      subst hk
      exact ⟨by simp,fun g h=>by simpa using h⟩
    · rw [if_neg hk]
      refine ⟨?_,fun g h=>?_⟩
      · rw [List.map_cons]
        exact List.mem_cons_of_mem _ i1
      · rw [List.map_cons] at h ⊢
        rcases List.mem_cons.mp h with e | e
        · exact List.mem_cons.mpr (.inl e)
        · exact List.mem_cons_of_mem _ (i2 g e)
theorem length_putF (f:Str) (v:V):∀ fs:List (Str × V),(putF f v fs).length ≤ fs.length + 1
  | []=>by simp [putF]
  | (k,x) :: r=>by
    have ih:=length_putF f v r
    rw [show putF f v ((k,x) :: r) = (if k = f then (k,v) :: r else (k,x) :: putF f v r) from rfl]
    by_cases hk:k = f
    · rw [if_pos hk,List.length_cons,List.length_cons]; omega
    · rw [if_neg hk,List.length_cons,List.length_cons]; omega
theorem RelO.some_of {v:V} {o:Option Value} (r:RelO (some v) o):∃ u,o = some u ∧ RelV v u:=by
  cases o with
  | none=>exact (show False from r).elim
  | some u=>exact ⟨u,rfl,r⟩
theorem RelO.none_of {o:Option Value} (r:RelO none o):o = none:=by
  cases o with
  | none=>rfl
  | some u=>exact (show False from r).elim
theorem handed_of {v:V} {u:Value} (r:RelV v u):PySem.W.handedIn u = true:=by
  cases v with
  | non=>cases (show u = Value.none from r); rfl
  | bl b=>cases (show u = Value.bool b from r); rfl
  | int i=>obtain ⟨t,e⟩:=(show ∃ t,u = Value.int i t from r); cases e; rfl
  | str x=>obtain ⟨t,e⟩:=(show ∃ t,u = Value.str x t from r); cases e; rfl
  | byt b=>obtain ⟨t,e⟩:=(show ∃ t,u = Value.bytes b t from r); cases e; rfl
  | flt b=>obtain ⟨t,e⟩:=(show ∃ t,u = Value.float b t from r); cases e; rfl
  | ref a=>cases (show u = Value.ref a from r); rfl
  | ty n=>cases (show u = Value.type n from r); rfl
section
variable {P:Program} {w:World} {H H':Hp} {h h':Heap} {a C dx:Addr} {fs fs':List (Str × V)}
theorem ins_get (hok:HOk P w H h) (e:H a = some (.ins C dx fs)):∃ mA,ObjM h a dx C mA ∧ (∀ f,RelO (fs.lookup f) (mA f)) ∧ PySem.Within mA (fs.map (·.1)) ∧ fs.length ≤ 1000 ∧ H dx = some (.own a):=by
  obtain ⟨d,z,ne,ob,mA,n,r,q⟩:=(show ObjOk P w H h a (.ins C dx fs) from hok a _ e)
  exact ⟨mA,⟨ob,n,ne⟩,r,q,z,d⟩
end
structure Cls (K:PySem.W.Frag) (C:Addr):Prop where
  pg:PySem.W.plainGet K C Str.empty = true
  hd:PySem.W.hasDictIn K C = true
  po:PySem.W.plainOver K C = true
  sa:PySem.W.findIn K (.ref C) "__setattr__" = some (some (.builtin "object.__setattr__"))
theorem Cls.get {K:PySem.W.Frag} {C:Addr} (c:Cls K C) (f:Str):PySem.W.plainGet K C f = true:=c.pg
def NoAttr (K:PySem.W.Frag) (C:Addr) (f:Str):Prop:=PySem.W.findIn K (.ref C) f = some none
theorem NoAttr.taker {K:PySem.W.Frag} {C:Addr} {f:Str} (n:NoAttr K C f):PySem.W.takerIn K C f = some none:=by
  unfold PySem.W.takerIn
  rw [show PySem.W.findIn K (.ref C) f = some none from n]
  rfl
structure Meth (K:PySem.W.Frag) (C:Addr) (m:Str) (f:Addr):Prop where
  at_:PySem.W.findIn K (.ref C) m = some (some (.ref f))
  fn:PySem.W.isFn K (.ref f) = true
  kp:PySem.W.keepIn K (.ref f) = true
section
variable {X:Cx} {pins:List (Addr × Obj)} {σ:St} {H:Hp} {s:Shared} {a C dx:Addr} {fs:List (Str × V)} {f:Str} {v:V} {A:Around} {E:Value → Shared → Prop}
theorem getattr_ok {b:Bool} {Q:Value → Shared → Prop} (I:Inv X pins σ H s) (e:H a = some (.ins C dx fs)) (c:Cls X.K C) (n:NoAttr X.K C f) (l:fs.lookup f = some v)
    (h:∀ u s',Inv X pins σ H s' → RelV v u → Q u s'):wpAny (model X.prog X.w) A (getAttr (.ref a) f b) Q E s:=by
  obtain ⟨mA,O,r,_,_,_⟩:=ins_get I.hok e
  obtain ⟨u,hu,ru⟩:=RelO.some_of (v:=v) (o:=mA f) (by rw [← l]; exact r f)
  exact get_map I.kIn O (c.get f) c.hd n hu (handed_of ru) (h u _ (I.tok _) ru)
theorem getmeth_ok {m:Str} {g:Addr} {pl:Sem Bool} {Q:Value × List Value → Shared → Prop} (I:Inv X pins σ H s) (e:H a = some (.ins C dx fs)) (c:Cls X.K C) (k:Meth X.K C m g) (l:fs.lookup m = none)
    (h:Q (.ref g,[.ref a]) s):wpAny (model X.prog X.w) A (getMethod (.ref a) m pl) Q E s:=by
  obtain ⟨mA,O,r,_,_,_⟩:=ins_get I.hok e
  have hn:mA m = none:=RelO.none_of (by rw [← l]; exact r m)
  exact get_meth I.kIn O (c.get m) k.at_ k.fn hn h
theorem setattr_ok {y:V} {u:Value} {Q:Unit → Shared → Prop} (I:Inv X pins σ H s) (e:H a = some (.ins C dx fs)) (c:Cls X.K C) (n:NoAttr X.K C f) (hl:fs.length < 1000) (ry:RelV y u)
    (h:∀ s',Inv X pins σ (upd H a (.ins C dx (putF f y fs))) s' → Q () s'):wpAny (model X.prog X.w) A (setAttr (.ref a) f u) Q E s:=by
  obtain ⟨mA,O,r,wi,_,ho⟩:=ins_get I.hok e
  have hz:(fs.map (·.1)).length ≤ sizeLine:=by rw [List.length_map,sizeLine_eq]; omega
  refine set_map I.kIn O c.sa c.po n.taker c.hd wi hz fun h' O' sb=>h _ ?_
  have hd:∃ o,h'.get? dx = some o:=let ⟨o,_,_,e',_⟩:=O'.ns; ⟨o,e'⟩
  refine I.write (x:=a) (e:=dx) (by rw [e]; exact True.intro) (.inr ho) (fun b q hb z=>(sb.2 b hb).trans z) hd ?_
  refine ⟨by rw [upd_ne O.ne]; exact ho,?_,O.ne,O'.obj,_,O'.ns,fun g=>?_,fun g hg=>?_⟩
  · have:=length_putF f y fs; omega
  · show RelO ((putF f y fs).lookup g) (if g = f then some u else mA g)
    rw [lookup_putF]
    by_cases q:g = f
    · rw [if_pos q,if_pos q]; exact ry
    · rw [if_neg q,if_neg q]; exact r g
  · by_cases q:g = f
    · rw [q]; exact (keys_putF f y fs).1
    · refine (keys_putF f y fs).2 g (wi g fun z=>hg ?_)
      show (if g = f then some u else mA g) = none
      rw [if_neg q]; exact z
theorem Inv.made (I:Inv X pins σ H s):Inv X pins σ (upd (upd H s.heap.objs.size (.own (s.heap.objs.size + 1))) (s.heap.objs.size + 1) (.ins C s.heap.objs.size []))
    { s with heap:=(s.heap.push PySem.W.emptyDict).push (PySem.W.instObj C s.heap.objs.size) }:=by
  have e1:(s.heap.push PySem.W.emptyDict).get? s.heap.objs.size = some PySem.W.emptyDict:=Heap.get?_push_size s.heap rfl
  have e2:((s.heap.push PySem.W.emptyDict).push (PySem.W.instObj C s.heap.objs.size)).get? (s.heap.objs.size + 1) = some (PySem.W.instObj C s.heap.objs.size):=by
    have:=Heap.get?_push_size (s.heap.push PySem.W.emptyDict) (o:=PySem.W.instObj C s.heap.objs.size) rfl
    rwa [Heap.size_push] at this
  have e3:(s.heap.push PySem.W.emptyDict).Ns s.heap.objs.size (fun _=>none):=⟨PySem.W.emptyDict,#[],_,e1,rfl,(fun e he=>absurd he (by simp)),fun _=>rfl⟩
  have I1:=I.laid (a:=s.heap.objs.size) (o:=.own (s.heap.objs.size + 1)) (h':=s.heap.push PySem.W.emptyDict) (t':=s.toks) (fun b u q=>Heap.get?_push_of_some _ q) (Nat.le_refl _) ⟨_,e1⟩
  refine I1.laid (a:=s.heap.objs.size + 1) (o:=.ins C s.heap.objs.size []) (t':=s.toks) (fun b u q=>Heap.get?_push_of_some _ q) (Nat.le_of_eq (Heap.size_push _ _)) ?_
  have ne:s.heap.objs.size ≠ s.heap.objs.size + 1:=Nat.ne_of_lt (Nat.lt_succ_self _)
  refine ⟨by rw [upd_ne ne,upd_same],Nat.zero_le _,ne,e2,fun _=>none,(Heap.Ns1.of_empty e3).at fun o q=>Heap.get?_push_of_some _ q,fun _=>True.intro,fun y hy=>absurd rfl hy⟩
theorem attr_of {prog:Program} {w:World} {env:Env} {e:Expr} {f:Str} {pos:Pos} {s:Shared} {Q:Value → Shared → Prop} (hb:attributeBase e f env (eval e env) = eval e env)
    (h:wpAny (model prog w) A (eval e env) (fun o s₁=>wpAny (model prog w) A (getAttr o f true) Q E s₁) E s):wpAny (model prog w) A (eval (.Attribute e f pos) env) Q E s :=
  Attribute_any_ h (by rw [arm_eval_Attribute,hb])
end
def tFld (K:PySem.W.Frag) (ta:TE) (f:Str):TE:=fun σ H Q=>ta σ H fun x H1=>∃ a C dx fs v,x = .ref a ∧ H1 a = some (.ins C dx fs) ∧ Cls K C ∧ NoAttr K C f ∧ fs.lookup f = some v ∧ Q v H1
def sFld (K:PySem.W.Frag) (ta tv:TE) (f:Str):TS:=fun D σ H=>tv σ H fun y H1=>ta σ H1 fun x H2=>∃ a C dx fs,x = .ref a ∧ H2 a = some (.ins C dx fs) ∧ Cls K C ∧ NoAttr K C f ∧ fs.length < 1000 ∧
  D.nx σ (upd H2 a (.ins C dx (putF f y fs)))
section
variable {X:Cx} {o e value:Expr} {f:Str} {pos pos' tpos:Pos} {ta tv:TE}
theorem pe_fld (he:PE X e ta) (hb:attributeBase e f X.env (eval e X.env) = eval e X.env):PE X (.Attribute e f pos) (tFld X.K ta f):=by
  intro pins s σ H Q I h
  refine attr_of hb (thn (he pins s σ H _ I h) fun u s1 ⟨x,H1,I1,rx,a,C,dx,fs,v,ex,ea,c,n,l,q⟩=>?_)
  subst ex
  obtain rfl:u = Value.ref a:=rx
  exact getattr_ok I1 ea c n l fun u' s2 I2 ru=>⟨v,H1,I2,ru,q⟩
theorem ps_fld (ha:PE X o ta) (hv:PE X value tv) (hs:swapsWith value (some (.Attribute o f pos')) pos.line X.env = pure false):PS X (.Assign [.Attribute o f pos'] value pos) (sFld X.K ta tv f):=by
  intro pins s σ H D I h
  refine plainObj_wpAny_Assign_Attribute (thn (hv pins s σ H _ I h) fun u s1 ⟨y,H1,I1,ry,q⟩=>thn (ha pins s1 σ H1 _ I1 q) fun ov s2 ⟨x,H2,I2,rx,a,C,dx,fs,ex,ea,c,n,l,q2⟩=>?_) hs
  subst ex
  obtain rfl:ov = Value.ref a:=rx
  exact setattr_ok I2 ea c n l ry fun s3 I3=>⟨σ,_,I3,q2⟩
end
section
variable {X:Cx} {pins:List (Addr × Obj)} {σ:St} {H:Hp} {s:Shared} {A:Around} {E:Value → Shared → Prop} {Q:Value → Shared → Prop} {c:Value} {b:Bool}
inductive TyOf (K:PySem.W.Frag) (H:Hp):V → Value → Prop where
  | non:TyOf K H .non (.type "NoneType")
  | bl (x:Bool):TyOf K H (.bl x) (.type "bool")
  | int (i:Int):TyOf K H (.int i) (.type "int")
  | str (x:Str):TyOf K H (.str x) (.type "str")
  | flt (x:UInt64):TyOf K H (.flt x) (.type "float")
  | lst {a:Addr} {xs:List V} (e:H a = some (.lst xs)):TyOf K H (.ref a) (.type "list")
  | frz {a:Addr} {o:Obj} {xs:List V} (e:H a = some (.frz o (.lst xs))):TyOf K H (.ref a) (.type "list")
  | tup {a:Addr} {xs:List V} (e:H a = some (.tup xs)):TyOf K H (.ref a) (.type "tuple")
  | dK {a:Addr} {kvs:List (Key × V)} (e:H a = some (.dK kvs)):TyOf K H (.ref a) (.type "dict")
  | dT {a:Addr} {kvs:List (List Key × V)} (e:H a = some (.dT kvs)):TyOf K H (.ref a) (.type "dict")
  | ins {a C dx:Addr} {fs:List (Str × V)} (e:H a = some (.ins C dx fs)) (cl:Cls K C) (ha:PySem.W.findIn K (.ref C) "__class__" = some (some (.builtin "object.__class__")))
      (hn:PySem.W.specialIn K (.builtin "object.__class__") "__get__" = some (some (.builtin "getset_descriptor.__get__"))) (htk:PySem.W.takesIn K (.builtin "object.__class__") = some true)
      (hm:PySem.W.mroIn K C (.type "object") = some true):TyOf K H (.ref a) (.ref C)
theorem isinst_ok {x:V} {u t:Value} (I:Inv X pins σ H s) (rx:RelV x u) (ty:TyOf X.K H x t) (e:PySem.W.kitOne X.K t c = some b) (h:∀ tk,Q (.bool b) { s with toks:=tk }) :
    wpAny (model X.prog X.w) A (call (.builtin "isinstance") [u,c]) Q E s:=by
  cases ty with
  | non=>cases (show u = Value.none from rx); exact PySem.W.kia_one PySem.W.kitx_none I.kIn True.intro e (fun z=>nomatch z) h
  | bl y=>cases (show u = Value.bool y from rx); exact PySem.W.kia_one PySem.W.kitx_bool I.kIn True.intro e (fun z=>nomatch z) h
  | int i=>obtain ⟨t,q⟩:=(show ∃ t,u = Value.int i t from rx); cases q; exact PySem.W.kia_one PySem.W.kitx_int I.kIn True.intro e (fun z=>nomatch z) h
  | str y=>obtain ⟨t,q⟩:=(show ∃ t,u = Value.str y t from rx); cases q; exact PySem.W.kia_one PySem.W.kitx_str I.kIn True.intro e (fun z=>nomatch z) h
  | flt y=>obtain ⟨t,q⟩:=(show ∃ t,u = Value.float y t from rx); cases q; exact PySem.W.kia_one PySem.W.kitx_float I.kIn True.intro e (fun z=>nomatch z) h
  | @lst a xs ea =>
    cases (show u = Value.ref a from rx)
    obtain ⟨_,_,n,_,h1⟩:=(show ObjOk X.prog X.w H s.heap a (.lst xs) from I.hok a _ ea)
    exact PySem.W.kia_one PySem.W.kitx_list I.kIn ⟨_,h1,rfl⟩ e (fun z=>nomatch z) h
  | @frz a ob xs ea =>
    cases (show u = Value.ref a from rx)
    obtain ⟨_,_,_,n,_,h1⟩:=(show ObjOk X.prog X.w H s.heap a (.frz ob (.lst xs)) from I.hok a _ ea)
    exact PySem.W.kia_one PySem.W.kitx_list I.kIn ⟨_,h1,rfl⟩ e (fun z=>nomatch z) h
  | @tup a xs ea =>
    cases (show u = Value.ref a from rx)
    obtain ⟨_,_,_,p⟩:=(show ObjOk X.prog X.w H s.heap a (.tup xs) from I.hok a _ ea)
    obtain ⟨o,h1,h2,_⟩:=p
    exact PySem.W.kia_one PySem.W.kitx_tuple I.kIn ⟨o,h1,h2⟩ e (fun z=>nomatch z) h
  | @dK a kvs ea =>
    cases (show u = Value.ref a from rx)
    obtain ⟨_,_,vs,_,p⟩:=(show ObjOk X.prog X.w H s.heap a (.dK kvs) from I.hok a _ ea)
    obtain ⟨o,es,ep,h1,h2,_⟩:=p
    exact PySem.W.kia_one PySem.W.kitx_dict I.kIn ⟨o,h1,h2.1⟩ e (fun z=>nomatch z) h
  | @dT a kvs ea =>
    cases (show u = Value.ref a from rx)
    obtain ⟨_,_,xs,_,o,es,ep,h1,h2,_⟩:=(show ObjOk X.prog X.w H s.heap a (.dT kvs) from I.hok a _ ea)
    exact PySem.W.kia_one PySem.W.kitx_dict I.kIn ⟨o,h1,h2.1⟩ e (fun z=>nomatch z) h
  | @ins a C dx fs ea cl ha hn htk hm =>
    cases (show u = Value.ref a from rx)
    obtain ⟨mA,O,_⟩:=ins_get I.hok ea
    obtain ⟨od,J,_⟩:=O.look
    exact PySem.W.kia_one (PySem.W.kitx_own (cl.get _) cl.hd ha hn htk hm) I.kIn J e (fun z=>nomatch z) h
end
end L2
namespace L2
open PySem PySem.Spec PyProof.Rows
structure Room (k:Nat) (A:Around):Prop where
  hd:A.handled = none
  dp:A.depth + 3 * k + 5 < recursionLimit
  un:A.units + 16 * k + 200 < cLine
theorem Room.mono {j k:Nat} {A:Around} (r:Room k A) (h:j ≤ k):Room j A:=⟨r.hd,by have:=r.dp; omega,by have:=r.un; omega⟩
theorem Room.deeper {k:Nat} {A:Around} (r:Room (k + 1) A) (env:Env):Room k (A.deeper env) :=
  ⟨r.hd,by have:=r.dp; show A.depth + 1 + 3 * k + 5 < _; omega,by have:=r.un; show A.units + 3 + 16 * k + 200 < _; omega⟩
theorem make_depth {A:Around} {C:Addr} {us:List Value} {kw:List (Str × Value)}:(A.under (.builtin "type.__call__" ⟨.ref C :: us,kw⟩)).depth = A.depth + 1:=by
  first | rfl | simp [Around.under,Code.weight,Code.isCreation,Code.isGuard,Code.isCaller,Code.frames,Code.isFrame,guardIds]
theorem make_units {A:Around} {C:Addr} {us:List Value} {kw:List (Str × Value)}:(A.under (.builtin "type.__call__" ⟨.ref C :: us,kw⟩)).units = A.units + 1:=by
  first | rfl | simp [Around.under,Code.cUnits,Code.frames,Code.isFrame]
theorem Room.make {k:Nat} {A:Around} (r:Room (k + 1) A) (C:Addr) (us:List Value) (kw:List (Str × Value)):Room k (A.under (.builtin "type.__call__" ⟨.ref C :: us,kw⟩)) :=
  ⟨r.hd,by have:=r.dp; rw [make_depth]; omega,by have:=r.un; rw [make_units]; omega⟩
theorem Room.depth {k:Nat} {A:Around} (r:Room k A):A.depth < recursionLimit:=by have:=r.dp; omega
theorem Room.units {k:Nat} {A:Around} (r:Room k A):A.units + 64 < cLine:=by have:=r.un; omega
theorem Room.units0 {k:Nat} {A:Around} (r:Room k A):A.units < cLine:=by have:=r.un; omega
def tNil:TA:=fun _ H Q=>Q [] H
def tCons (ta:TE) (tr:TA):TA:=fun σ H Q=>ta σ H fun x H1=>tr σ H1 fun xs H2=>Q (x :: xs) H2
section
variable {X:Cx} {e:Expr} {es:List Expr} {te:TE} {t:TA} {pos:Pos}
theorem pa_nil:PA X [] tNil:=fun _ _ _ _ H Q I h=>Calls.spliced_nil ⟨[],H,I,.nil,h⟩
theorem pa_cons (ha:PE X e te) (hr:PA X es t) (hs:starEach (e :: es) X.env = (false,eval e X.env) :: starEach es X.env:=by rfl):PA X (e :: es) (tCons te t):=by
  intro pos pins s σ H Q I h
  rw [hs]
  show wpAny _ _ (spliced ((false,eval e X.env) :: backTo pos (starEach es X.env))) _ _ s
  refine Calls.spliced_cons (thn (ha pins s σ H _ I h) fun u s1 ⟨x,H1,I1,r1,q1⟩=>?_)
  exact thn (hr pos pins s1 σ H1 _ I1 q1) fun us s2 ⟨xs,H2,I2,r2,q2⟩=>⟨x :: xs,H2,I2,.cons r1 r2,q2⟩
def tTup (t:TA):TE:=fun σ H Q=>t σ H fun xs H1=>xs.length ≤ sizeLine ∧ ∀ p,H1 p = none → Q (.ref p) (upd H1 p (.tup xs))
def tLst (t:TA):TE:=fun σ H Q=>t σ H fun xs H1=>xs.length ≤ sizeLine ∧ ∀ p,H1 p = none → Q (.ref p) (upd H1 p (.lst xs))
theorem pe_tup {x1} (h:PA X es t):PE X (.Tuple es x1 pos) (tTup t):=by
  intro pins s σ H Q I hq
  refine wpAny_Tuple_spliced (thn (h pos pins s σ H _ I hq) fun us s1 ⟨xs,H1,I1,r,z,q⟩=>⟨by rw [← r.length]; exact z,?_⟩)
  have hf:H1 s1.heap.objs.size = none:=I1.hok.fresh (Nat.le_refl _)
  refine ⟨.ref s1.heap.objs.size,upd H1 s1.heap.objs.size (.tup xs),I1.laid (t':=s1.toks) (fun b u e=>Heap.get?_push_of_some _ e) (Nat.le_refl _) ?_,rfl,q _ hf⟩
  exact ⟨z,us,r,⟨_,Heap.get?_push_size _ rfl,rfl,_,rfl⟩⟩
theorem pe_lst (h:PA X es t):PE X (.List es pos) (tLst t):=by
  intro pins s σ H Q I hq
  refine wpAny_List_spliced (thn (h pos pins s σ H _ I hq) fun us s1 ⟨xs,H1,I1,r,z,q⟩=>⟨by rw [← r.length]; exact z,?_⟩)
  have hf:H1 s1.heap.objs.size = none:=I1.hok.fresh (Nat.le_refl _)
  refine ⟨.ref s1.heap.objs.size,upd H1 s1.heap.objs.size (.lst xs),I1.laid (t':=s1.toks) (fun b u e=>Heap.get?_push_of_some _ e) (Nat.le_refl _) ?_,rfl,q _ hf⟩
  exact ⟨z,us,0,r,Heap.get?_push_size _ rfl⟩
end
abbrev Sp:=List V → Hp → VK → XK → Prop
abbrev CXT:=List Env → Hp → Shared → XK → Value → Shared → Prop
structure Env0 (P:Program) (w:World) (K:PySem.W.Frag) (mg:Str → Option Value) (base:Heap) (A:Around) (outer:List Env) (s:Shared) (H:Hp):Prop where
  frames:A.frames = some outer
  mod:Mod K mg base
  bs:∀ b o,base.get? b = some o → s.heap.get? b = some o ∧ H b = none
  bsz:base.objs.size ≤ s.heap.objs.size
  funs:s.heap.FunFrames base outer
  frf:∀ b ∈ frs outer,H b = none
  hok:HOk P w H s.heap
  bare:AllBare s.gens
def CE (outer:List Env) (P:Program) (w:World) (H:Hp) (s:Shared) (Q:VK) (u:Value) (s':Shared):Prop :=
  ∃ v H',s'.os = s.os ∧ AllBare s'.gens ∧ Un (frs outer) [] H H' s.heap s'.heap ∧ HOk P w H' s'.heap ∧ RelV v u ∧ Q v H'
def CR (CX:CXT) (outer:List Env) (P:Program) (w:World) (H:Hp) (s:Shared) (Q:VK) (E:XK) (r:Result) (s':Shared):Prop :=
  match r with
  | .ok (.ret u)=>CE outer P w H s Q u s'
  | .ok _=>False
  | .error e=>CX outer H s E e s'
structure FnOk (P:Program) (w:World) (K:PySem.W.Frag) (mg:Str → Option Value) (base:Heap) (CX:CXT) (k:Nat) (f:Addr) (fd:FuncData) (ps:List Str) (sp:Sp):Prop where
  len:∀ vs H Q E,sp vs H Q E → vs.length = ps.length
  run:∀ (A:Around) (outer:List Env) (s:Shared) (H:Hp) (args:Args) (us:List Value) (vs:List V) (Q:VK) (E:XK),Room k A → Env0 P w K mg base A outer s H → BindsTo s fd args (ps.zip us) → Vals vs us → sp vs H Q E →
    codeAny (model P w) A (.call (.ref f) args) (CR CX outer P w H s Q E) s
theorem FnOk.mono {P:Program} {w:World} {K:PySem.W.Frag} {mg:Str → Option Value} {base:Heap} {CX:CXT} {j k:Nat} {f:Addr} {fd:FuncData} {ps:List Str} {sp:Sp} (F:FnOk P w K mg base CX j f fd ps sp) (h:j ≤ k) :
    FnOk P w K mg base CX k f fd ps sp:=⟨F.len,fun A outer s H args us vs Q E hr=>F.run A outer s H args us vs Q E (hr.mono h)⟩
theorem Env0.make {P:Program} {w:World} {K:PySem.W.Frag} {mg:Str → Option Value} {base:Heap} {A:Around} {outer:List Env} {s:Shared} {H:Hp} (e:Env0 P w K mg base A outer s H) (C:Addr) (us:List Value) (kw:List (Str × Value)) :
    Env0 P w K mg base (A.under (.builtin "type.__call__" ⟨.ref C :: us,kw⟩)) outer s H:=⟨by first | exact e.frames | (simpa [Around.under,Code.envs,Code.isFrame,pushEnvs] using e.frames),e.mod,e.bs,e.bsz,e.funs,e.frf,e.hok,e.bare⟩
section
variable {X:Cx} {pins:List (Addr × Obj)} {σ:St} {H:Hp} {s s':Shared}
theorem Inv.env0 (I:Inv X pins σ H s):Env0 X.prog X.w X.K X.mg X.base X.A X.stack s H :=
  ⟨I.ok.frames,I.ok.mod,I.bs,Nat.le_trans I.ok.bsz I.sz,I.stack,I.stkFree,I.hok,I.bare⟩
theorem Inv.after {Q:VK} {u:Value} (I:Inv X pins σ H s) (h:CE X.stack X.prog X.w H s Q u s'):EP X pins σ Q u s':=by
  obtain ⟨v,H',os,bare,un,hok,r,q⟩:=h
  obtain ⟨hh,g,d,t,os'⟩:=s'
  obtain rfl:os' = s.os:=os
  exact ⟨v,H',I.call (h':=hh) (g':=g) (d':=d) (t':=t) (ch:=[]) un hok bare (fun b z=>absurd z (by simp)),r,q⟩
end
def tCall (sp:Sp) (dvs:List V) (E:XK) (t:TA):TE:=fun σ H Q=>t σ H fun vs H1=>sp (vs ++ dvs) H1 Q E
def tMeth (C:Addr) (m:Str) (sp:Sp) (dvs:List V) (E:XK) (ta:TE) (t:TA):TE:=fun σ H Q=>ta σ H fun x H1=>∃ a dx fs,x = .ref a ∧ H1 a = some (.ins C dx fs) ∧ fs.lookup m = none ∧
  t σ H1 fun vs H2=>sp (x :: (vs ++ dvs)) H2 Q E
def tMake (C:Addr) (sp:Sp) (dvs:List V) (E:XK) (t:TA):TE:=fun σ H Q=>t σ H fun vs H1=>∀ x dx,H1 x = none → H1 dx = none → dx ≠ x →
  sp (.ref x :: (vs ++ dvs)) (upd (upd H1 dx (.own x)) x (.ins C dx [])) (fun v H2=>v = .non ∧ Q (.ref x) H2) E
def Binds (K:PySem.W.Frag) (fd:FuncData) (ps:List Str) (ds:List Value):Prop :=
  ∀ (s:Shared) (us:List Value),K.In s.heap → (us ++ ds).length = ps.length → BindsTo s fd ⟨us,[]⟩ (ps.zip (us ++ ds))
theorem Binds.all {K:PySem.W.Frag} {fd:FuncData} {ps:List Str} (h:∀ us:List Value,us.length = ps.length → bindArgs fd ⟨us,[]⟩ = pure (ps.zip us)):Binds K fd ps []:=fun s us _ hl=>by
  rw [List.append_nil] at hl ⊢
  exact .of_eq (h us hl)
def Passes (CX:CXT) (X:Cx) (E:XK):Prop:=∀ (pins:List (Addr × Obj)) (σ:St) (H:Hp) (s:Shared) (e:Value) (s':Shared),Inv X pins σ H s → CX X.stack H s E e s' → X.xe e s'
section
variable {X:Cx} {CX:CXT} {k:Nat} {f C:Addr} {fd:FuncData} {ps:List Str} {sp:Sp} {dvs:List V} {ds:List Value} {E:XK} {x m:Str} {p pos apos:Pos} {e o:Expr} {es:List Expr} {ta:TE} {t:TA}
theorem run_fn {pins:List (Addr × Obj)} {σ:St} {H:Hp} {s:Shared} {Q:VK} {us:List Value} {vs:List V} (F:FnOk X.prog X.w X.K X.mg X.base CX k f fd ps sp) (hr:Room k X.A) (hb:Binds X.K fd ps ds) (hd:Vals dvs ds) (hx:Passes CX X E)
    (I:Inv X pins σ H s) (r:Vals vs us) (h:sp (vs ++ dvs) H Q E):wpAny (model X.prog X.w) X.A (call (.ref f) us) (EP X pins σ Q) X.xe s:=by
  have r2:Vals (vs ++ dvs) (us ++ ds):=r.append hd
  have hl:(us ++ ds).length = ps.length:=by rw [← r2.length]; exact F.len _ _ _ _ h
  refine wpAny_call (codeAny_mono (F.run X.A X.stack s H ⟨us,[]⟩ (us ++ ds) (vs ++ dvs) Q E hr I.env0 (hb s us I.kIn hl) r2 h) fun r s' hq=>?_)
  cases r with
  | error e=>exact hx pins σ H s e s' I hq
  | ok fl =>
    cases fl with
    | ret u=>exact I.after hq
    | next=>exact False.elim hq
    | brk=>exact False.elim hq
    | cont=>exact False.elim hq
theorem pe_call (F:FnOk X.prog X.w X.K X.mg X.base CX k f fd ps sp) (hr:Room k X.A) (hg:Gl X x) (hm:X.mg x = some (.ref f)) (hk:PySem.W.keepIn X.K (.ref f) = true) (hb:Binds X.K fd ps ds) (hd:Vals dvs ds) (hx:Passes CX X E)
    (ha:PA X (e :: es) t) (hdb:(x == ("__debug__" : Str)) = false:=by decide) (he:starEach (e :: es) X.env = (false,eval e X.env) :: starEach es X.env:=by rfl) (hpl:(backTo pos (starEach es X.env)).any (·.1) = false:=by rfl) :
    PE X (.Call (.Name x p) (e :: es) [] pos) (tCall sp dvs E t):=by
  intro pins s σ H Q I h
  refine wpAny_Call_Name_kw (ld_glob I hg hm ?_ hdb)
  refine PySem.W.callWith_K (h₀:=X.base) I.ok.mod.kin hk (thn (ha pos pins s σ H _ I h) fun us s1 ⟨vs,H1,I1,r,q⟩=>⟨I1.kIn,?_⟩) he hpl
  exact run_fn F hr hb hd hx I1 r q
theorem pe_meth {pl:Sem Bool} (he:PE X o ta) (c:Cls X.K C) (hm:Meth X.K C m f) (F:FnOk X.prog X.w X.K X.mg X.base CX k f fd ps sp) (hr:Room k X.A) (hb:Binds X.K fd ps ds) (hd:Vals dvs ds) (hx:Passes CX X E) (ha:PA X (e :: es) t)
    (hst:starEach (e :: es) X.env = (false,eval e X.env) :: starEach es X.env:=by rfl) (hpl:(backTo pos (starEach es X.env)).any (·.1) = false:=by rfl)
    (ht:eval (.Call (.Attribute o m apos) (e :: es) [] pos) X.env = (do
      let ov ← eval o X.env
      standAt apos.atName
      let (f,first) ← holding [ov] (getMethod ov m pl)
      callWith pos f first (backTo pos (starEach (e :: es) X.env)) (backToKw pos (keywordEach [] X.env))):=by rfl) :
    PE X (.Call (.Attribute o m apos) (e :: es) [] pos) (tMeth C m sp dvs E ta t):=by
  intro pins s σ H Q I h
  refine PySem.W.methodCall_KW (pl:=pl) (thn (he pins s σ H _ I h) fun u s1 ⟨x,H1,I1,rx,a,dx,fs,ex,ea,l,q⟩=>?_) ht
  subst ex
  obtain rfl:u = Value.ref a:=rx
  refine getmeth_ok I1 ea c hm l ?_
  refine PySem.W.callWith_K (first:=[.ref a]) (h₀:=X.base) I.ok.mod.kin hm.kp (thn (ha pos pins s1 σ H1 _ I1 q) fun us s2 ⟨vs,H2,I2,r,q2⟩=>⟨I2.kIn,?_⟩) hst hpl
  exact run_fn (us:=.ref a :: us) (vs:=.ref a :: vs) F hr hb hd hx I2 (.cons rfl r) q2
structure Mk (K:PySem.W.Frag) (C f:Addr):Prop where
  makes:PySem.W.makesIn K C = true
  init:PySem.W.findIn K (.ref C) "__init__" = some (some (.ref f))
  fn:PySem.W.isFn K (.ref f) = true
  kp:PySem.W.keepIn K (.ref C) = true
theorem run_make {pins:List (Addr × Obj)} {σ:St} {H:Hp} {s:Shared} {Q:VK} {us:List Value} {vs:List V} (M:Mk X.K C f) (F:FnOk X.prog X.w X.K X.mg X.base CX k f fd ps sp) (hr:Room (k + 1) X.A) (hb:Binds X.K fd ps ds) (hd:Vals dvs ds)
    (hx:Passes CX X E) (I:Inv X pins σ H s) (r:Vals vs us)
    (h:∀ x dx,H x = none → H dx = none → dx ≠ x → sp (.ref x :: (vs ++ dvs)) (upd (upd H dx (.own x)) x (.ins C dx [])) (fun v H2=>v = .non ∧ Q (.ref x) H2) E) :
    wpAny (model X.prog X.w) X.A (call (.ref C) us) (EP X pins σ Q) X.xe s:=by
  have hq:=h (s.heap.objs.size + 1) s.heap.objs.size (I.hok.fresh (Nat.le_succ _)) (I.hok.fresh (Nat.le_refl _)) (Nat.ne_of_lt (Nat.lt_succ_self _))
  have I2:=Inv.made (C:=C) I
  have r2:Vals (V.ref (s.heap.objs.size + 1) :: (vs ++ dvs)) (Value.ref (s.heap.objs.size + 1) :: (us ++ ds)):=.cons rfl (r.append hd)
  have hl:(Value.ref (s.heap.objs.size + 1) :: us ++ ds).length = ps.length:=by
    have e:=r2.length
    rw [F.len _ _ _ _ hq] at e
    exact e.symm
  refine wpAny_call (make_map (f:=f) I.kIn M.makes M.init (beq_iff_eq.mp M.fn) (codeAny_mono (F.run _ X.stack _ _ ⟨Value.ref (s.heap.objs.size + 1) :: us,[]⟩ (Value.ref (s.heap.objs.size + 1) :: (us ++ ds)) _ _ E (hr.make C us [])
    (I2.env0.make C us []) (hb _ (Value.ref (s.heap.objs.size + 1) :: us) I2.kIn hl) r2 hq) fun r s' hq'=>?_))
  cases r with
  | error e=>exact hx pins σ _ _ e s' I2 hq'
  | ok fl =>
    cases fl with
    | ret u =>
      obtain ⟨v,H',I3,rv,ev,q3⟩:=I2.after hq'
      subst ev
      exact ⟨rv,⟨V.ref (s.heap.objs.size + 1),H',I3,rfl,q3⟩⟩
    | next=>exact False.elim hq'
    | brk=>exact False.elim hq'
    | cont=>exact False.elim hq'
theorem pe_make (M:Mk X.K C f) (F:FnOk X.prog X.w X.K X.mg X.base CX k f fd ps sp) (hr:Room (k + 1) X.A) (hg:Gl X x) (hm:X.mg x = some (.ref C)) (hb:Binds X.K fd ps ds) (hd:Vals dvs ds) (hx:Passes CX X E)
    (ha:PA X (e :: es) t) (hdb:(x == ("__debug__" : Str)) = false:=by decide) (he:starEach (e :: es) X.env = (false,eval e X.env) :: starEach es X.env:=by rfl) (hpl:(backTo pos (starEach es X.env)).any (·.1) = false:=by rfl) :
    PE X (.Call (.Name x p) (e :: es) [] pos) (tMake C sp dvs E t):=by
  intro pins s σ H Q I h
  refine wpAny_Call_Name_kw (ld_glob I hg hm ?_ hdb)
  refine PySem.W.callWith_K (h₀:=X.base) I.ok.mod.kin M.kp (thn (ha pos pins s σ H _ I h) fun us s1 ⟨vs,H1,I1,r,q⟩=>⟨I1.kIn,?_⟩) he hpl
  exact run_make M F hr hb hd hx I1 r q
end
section
variable {X:Cx} {CX:CXT} {k:Nat} {f C:Addr} {fd:FuncData} {ps ks:List Str} {sp:Sp} {E:XK} {x m:Str} {p pos apos kpos:Pos} {e o:Expr} {es:List Expr} {kws:List Keyword} {te ta:TE} {t tk:TA} {nm:Option Str}
variable {g:List Value → List Value → List Value} {gV:List V → List V → List V}
end
structure FnScope (N P:List Str) (sc:Scope):Prop where
  kind:sc.kind = .function
  co:sc.isCoroutine = false
  gen:sc.isGenerator = false
  nd:N.Nodup
  pre:N.take P.length = P
  par:∀ x ∈ P,sc.names.lookup x = some .local ∨ sc.names.lookup x = some .cell
  nofree:∀ y ∈ sc.names,y.2 ≠ .free
theorem bindL_out {kindOf:Str → Option NameKind} {x:Str}:∀ {binds:List (Str × Value)} {m:Str → Option Value},(∀ v,(x,v) ∉ binds) → bindL kindOf binds m x = m x
  | [],_,_=>rfl
  | (n,v) :: r,m,h=>by
    unfold bindL
    rw [bindL_out fun w hw=>h w (List.mem_cons_of_mem _ hw)]
    split
    · have:x ≠ n:=by rintro rfl; exact h v List.mem_cons_self
      simp [this]
    · rfl
theorem bindC_out {kindOf:Str → Option NameKind} {x:Str}:∀ {binds:List (Str × Value)} {m:Str → Option Value},(∀ v,(x,v) ∉ binds) → bindC kindOf binds m x = m x
  | [],_,_=>rfl
  | (n,v) :: r,m,h=>by
    unfold bindC
    rw [bindC_out fun w hw=>h w (List.mem_cons_of_mem _ hw)]
    split
    · rfl
    · have:x ≠ n:=by rintro rfl; exact h v List.mem_cons_self
      simp [this]
theorem bindL_get {kindOf:Str → Option NameKind} {x:Str} {v:Value}:∀ {P:List Str} {vs:List Value} {i:Nat} {m:Str → Option Value},P.Nodup → P[i]? = some x → vs[i]? = some v → kindOf x = some .local →
    bindL kindOf (P.zip vs) m x = some v
  | [],_,_,_,_,h,_,_=>by simp at h
  | _ :: _,[],_,_,_,_,h,_=>by simp at h
  | p :: P,w :: vs,0,m,nd,h1,h2,hk=>by
    simp at h1 h2; subst h1; subst h2
    show bindL kindOf ((p,w) :: P.zip vs) m p = _
    unfold bindL
    rw [bindL_out fun v hv=>(List.nodup_cons.mp nd).1 (List.of_mem_zip hv).1,if_pos hk]
    simp
  | p :: P,w :: vs,i + 1,m,nd,h1,h2,hk=>by
    show bindL kindOf ((p,w) :: P.zip vs) m x = _
    unfold bindL
    exact bindL_get (i:=i) (List.nodup_cons.mp nd).2 (by simpa using h1) (by simpa using h2) hk
theorem bindC_get {kindOf:Str → Option NameKind} {x:Str} {v:Value}:∀ {P:List Str} {vs:List Value} {i:Nat} {m:Str → Option Value},P.Nodup → P[i]? = some x → vs[i]? = some v → kindOf x ≠ some .local →
    bindC kindOf (P.zip vs) m x = some v
  | [],_,_,_,_,h,_,_=>by simp at h
  | _ :: _,[],_,_,_,_,h,_=>by simp at h
  | p :: P,w :: vs,0,m,nd,h1,h2,hk=>by
    simp at h1 h2; subst h1; subst h2
    show bindC kindOf ((p,w) :: P.zip vs) m p = _
    unfold bindC
    rw [bindC_out fun v hv=>(List.nodup_cons.mp nd).1 (List.of_mem_zip hv).1,if_neg hk]
    simp
  | p :: P,w :: vs,i + 1,m,nd,h1,h2,hk=>by
    show bindC kindOf ((p,w) :: P.zip vs) m x = _
    unfold bindC
    exact bindC_get (i:=i) (List.nodup_cons.mp nd).2 (by simpa using h1) (by simpa using h2) hk
def start (N:List Str) (vs:List V):St:=vs.map some ++ List.replicate (N.length - vs.length) none
def cxOf (CX:CXT) (P:Program) (w:World) (K:PySem.W.Frag) (mg:Str → Option Value) (base:Heap) (N:List Str) (qual:Str) (scope:Scope) (f:Addr) (cd:Value) (A:Around) (outer:List Env) (s:Shared) (H:Hp) (E:XK):Cx where
  prog:=P
  w:=w
  K:=K
  mg:=mg
  base:=base
  A:=A.deeper (envOfC qual scope s.heap.objs.size f cd)
  N:=N
  s₀:=s
  H₀:=H
  env:=envOfC qual scope s.heap.objs.size f cd
  outer:=outer
  stack:=envOfC qual scope s.heap.objs.size f cd :: outer
  ex:=[]
  calm:=true
  fn:=fun _=>true
  pn:=[]
  xe:=fun e s'=>wpAny (model P w) (A.deeper (envOfC qual scope s.heap.objs.size f cd)) (leaving (envOfC qual scope s.heap.objs.size f cd) e) (fun _ s''=>CX outer H s E e s'') (fun e' s''=>CX outer H s E e' s'') s'
theorem cell_has {sc:Scope} {n:Nat} {x:Str} (h:sc.names.lookup x = some .cell):∃ c,(cellsFrom n sc.names []).lookup x = some c:=by
  have q:=PySem.W.cellsFrom_some sc.names n [] (.inl h)
  exact Option.isSome_iff_exists.mp q
theorem inv_start {CX:CXT} {P:Program} {w:World} {K:PySem.W.Frag} {mg:Str → Option Value} {base:Heap} {N ps:List Str} {qual:Str} {scope:Scope} {f:Addr} {cd:Value} {A:Around} {outer:List Env} {s s1:Shared} {H:Hp} {E:XK} {us:List Value} {vs:List V}
    (S:FnScope N ps scope) (hd:A.handled = none) (e0:Env0 P w K mg base A outer s H) (hl:vs.length = ps.length) (r:Vals vs us)
    (x:InCallC s s.heap.objs.size (bindL (envOfC qual scope s.heap.objs.size f cd).kindOf (ps.zip us) fun _=>none) (cellsFrom (s.heap.objs.size + 1) scope.names []) (bindC (envOfC qual scope s.heap.objs.size f cd).kindOf (ps.zip us) fun _=>none) s1) :
    Inv (cxOf CX P w K mg base N qual scope f cd A outer s H E) [] (start N vs) H s1:=by
  have hpl:ps.length ≤ N.length:=by have:=congrArg List.length S.pre; rw [List.length_take] at this; omega
  obtain ⟨h1,tk,rfl,hk⟩:=x.done
  have noA:∀ b:Addr,b ∉ (cxOf CX P w K mg base N qual scope f cd A outer s H E).ex:=fun b z=>absurd (show b ∈ ([]:List Addr) from z) (by simp)
  refine ⟨⟨e0.mod,S.kind,rfl,rfl,Nat.le_refl _,fun y z c h1 h2=>?_,fun y hy=>?_,fun y c _ h=>?_,fun _=>hd,Around.frames_deeper e0.frames,.inr ⟨rfl,rfl⟩,fun b z=>absurd z (noA b),e0.bs,e0.bsz,fun b _ _=>noA b,fun b z=>absurd z (noA b),e0.funs,e0.frf⟩,
    rfl,e0.bare,Un.kept hk,⟨_,x.toInCall.ns,fun i y v h1 h2 h3=>?_⟩,fun y c h=>⟨_,x.cell y c h⟩,e0.hok.fresh (Nat.le_refl _),fun y c h=>?_,fun p hp=>absurd (show p ∈ ([]:List (Addr × Obj)) from hp) (by simp),e0.hok.kept hk,?_⟩
  · exact name_of_addr x.apart (PySem.mem_of_lookup h1) (PySem.mem_of_lookup h2)
  · have hy:scope.names.lookup y = some .cell ∨ scope.names.lookup y = some .free:=hy
    rcases hy with hy | hy
    · exact cell_has hy
    · exact absurd rfl (S.nofree _ (PySem.mem_of_lookup hy))
  · exact Nat.le_of_lt (x.above y c (PySem.mem_of_lookup h))
  · have hi:i < vs.length:=by
      unfold start at h2
      by_cases hi:i < vs.length
      · exact hi
      · rw [List.getElem?_append_right (by simpa using hi)] at h2
        rw [List.getElem?_replicate] at h2
        split at h2 <;> cases h2
    have ha:vs[i]? = some v:=by
      unfold start at h2
      rw [List.getElem?_append_left (by simpa using hi),List.getElem?_map] at h2
      cases e:vs[i]? with
      | none=>rw [e] at h2; cases h2
      | some a=>rw [e] at h2; cases h2; rfl
    obtain ⟨u,hu,rv⟩:=r.get ha
    have hp:ps[i]? = some y:=by
      rw [← S.pre,List.getElem?_take_of_lt (by omega)]; exact h1
    have ndP:ps.Nodup:=by rw [← S.pre]; exact S.nd.sublist (List.take_sublist _ _)
    refine ⟨u,rv,?_⟩
    rcases S.par y (List.mem_of_getElem? hp) with k | k
    · exact .inl ⟨k,bindL_get ndP hp hu k⟩
    · obtain ⟨c,e⟩:=cell_has (n:=s.heap.objs.size + 1) k
      refine .inr ⟨.inl k,c,e,?_⟩
      have q:=x.cell y c e
      rw [bindC_get ndP hp hu (by show scope.names.lookup y ≠ _; rw [k]; decide)] at q
      exact q
  · exact e0.hok.fresh (Nat.le_of_lt (x.above y c (PySem.mem_of_lookup h)))
  · unfold start
    show _ = N.length
    rw [List.length_append,List.length_map,List.length_replicate]
    omega
theorem fn_of {CX:CXT} {P:Program} {w:World} {K:PySem.W.Frag} {mg:Str → Option Value} {base:Heap} {k:Nat} {f:Addr} {name qual:Str} {params:Arguments} {body:List Stmt} {scope:Scope} {dV kV doc pm cdv ct oc:Value} {an od:Option Addr}
    {osl:Array (Option Value)} {N ps:List Str} {sp:Sp} (lk:K.lookup f = some ⟨oc,od,.func (PySem.W.fnOf name qual params body scope dV kV doc pm an cdv ct),osl⟩) (hcd:PySem.W.codeIn K cdv qual = true) (S:FnScope N ps scope)
    (len:∀ vs H Q E,sp vs H Q E → vs.length = ps.length)
    (hbody:∀ (A:Around) (outer:List Env) (s:Shared) (H:Hp) (vs:List V) (Q:VK) (E:XK),Room k (A.deeper (envOfC qual scope s.heap.objs.size f cdv)) → sp vs H Q E →
      ∃ t,PSs (cxOf CX P w K mg base N qual scope f cdv A outer s H E) body t ∧ t { nx:=fun _ H'=>Q .non H',rt:=Q } (start N vs) H) :
    FnOk P w K mg base CX (k + 1) f (PySem.W.fnOf name qual params body scope dV kV doc pm an cdv ct) ps sp:=by
  refine ⟨len,fun A outer s H args us vs Q E hr e0 hb r hsp=>?_⟩
  have hl:=len _ _ _ _ hsp
  have KX:K.In s.heap:=e0.mod.kin.keeps fun b o e=>(e0.bs b o e).1
  have lim:s.heap.NoLimit:=e0.mod.nolimit.keeps fun b o e=>(e0.bs b o e).1
  have hkind:∀ y ∈ ps.zip us,scope.names.lookup y.1 = some .local ∨ (scope.names.lookup y.1 = some .cell ∧ ((cellsFrom (s.heap.objs.size + 1) scope.names []).lookup y.1).isSome = true):=fun ⟨n,v⟩ hy=>by
    rcases S.par n (List.of_mem_zip hy).1 with q | q
    · exact .inl q
    · exact .inr ⟨q,PySem.W.cellsFrom_some _ _ _ (.inl q)⟩
  refine codeAny_call_function hr.depth (KX _ _ lk) rfl S.co S.gen rfl (PySem.W.codeRec_of KX hcd) (hb _ _ _ _ ?_)
  refine wpAny_newFunctionEnv_cells S.kind hkind fun env he s1 x=>?_
  subst he
  refine ⟨lim.keeps x.toInCall.keep,codeAny_func ?_⟩
  obtain ⟨t,ht,hq⟩:=hbody A outer s H vs Q E (hr.deeper _) hsp
  have I:Inv (cxOf CX P w K mg base N qual scope f cdv A outer s H E) [] (start N vs) H s1:=inv_start S hr.hd e0 hl r x
  refine wpAny_mono (ht [] s1 (start N vs) H _ I hq) (fun fl s' hs=>?_) fun e s' hs=>hs
  have fin:∀ {σ':St} {H':Hp} {v:V} {u:Value},Inv (cxOf CX P w K mg base N qual scope f cdv A outer s H E) [] σ' H' s' → RelV v u → Q v H' → CE outer P w H s Q u s' :=
    fun {σ' H' v u} J rv q=>⟨v,H',J.os,J.bare,J.base,J.hok,rv,q⟩
  cases fl with
  | ret u =>
    obtain ⟨v,σ',H',J,rv,q⟩:=hs
    exact fin J rv q
  | next =>
    obtain ⟨σ',H',J,q⟩:=hs
    exact fin (v:=V.non) (u:=Value.none) J rfl q
  | brk =>
    obtain ⟨_,_,_,q⟩:=hs
    exact False.elim q
  | cont =>
    obtain ⟨_,_,_,q⟩:=hs
    exact False.elim q
end L2
namespace L2
open PySem PySem.Spec PyProof.Rows
section
variable {X:Cx} {x:Str} {p pos:Pos} {e:Expr} {es:List Expr} {t:TA} {id T:String} {r:List V → Hp → VK → Prop}
def tCB (r:List V → Hp → VK → Prop) (t:TA):TE:=fun σ H Q=>t σ H fun vs H1=>r vs H1 Q
theorem pe_callB (hc:CallR X (.builtin id) r) (hg:Gl X x) (hm:X.mg x = none) (hv:bootBuiltins x = some (.builtin id)) (ha:PA X (e :: es) t) (hn:x ≠ "__name__" := by decide) (hdb:(x == ("__debug__" : Str)) = false:=by decide)
    (he:starEach (e :: es) X.env = (false,eval e X.env) :: starEach es X.env:=by rfl) (hpl:(backTo pos (starEach es X.env)).any (·.1) = false:=by rfl):PE X (.Call (.Name x p) (e :: es) [] pos) (tCB r t):=by
  intro pins s σ H Q I h
  refine wpAny_Call_Name_kw (ld_blt I hg hm hv ?_ hn hdb)
  exact PyProof.Rows.callWith_builtin1 (thn (ha pos pins s σ H _ I h) fun us s1 ⟨vs,H1,I1,r1,q1⟩=>hc pins s1 σ H1 vs us Q I1 r1 q1) he hpl
theorem pe_callTy (hc:CallR X (.type T) r) (hg:Gl X x) (hm:X.mg x = none) (hv:bootBuiltins x = some (.type T)) (ha:PA X (e :: es) t) (hn:x ≠ "__name__" := by decide) (hdb:(x == ("__debug__" : Str)) = false:=by decide)
    (he:starEach (e :: es) X.env = (false,eval e X.env) :: starEach es X.env:=by rfl) (hpl:(backTo pos (starEach es X.env)).any (·.1) = false:=by rfl):PE X (.Call (.Name x p) (e :: es) [] pos) (tCB r t):=by
  intro pins s σ H Q I h
  refine wpAny_Call_Name_kw (ld_blt I hg hm hv ?_ hn hdb)
  exact PyProof.Rows.callWith_type1 (thn (ha pos pins s σ H _ I h) fun us s1 ⟨vs,H1,I1,r1,q1⟩=>hc pins s1 σ H1 vs us Q I1 r1 q1) he hpl
end
end L2
namespace HT
open PySem PyProof.Rows
section
open PySem.SeqAt
open PySem.AutoSeq1 (wpAny_loadPart')
open PySem.MeetsSeq PySem.MeetsSeq2 PySem.MeetsSeq3
end
section
variable {prog:Program} {w:World} {A:Around} {E:Value → Shared → Prop} {s:Shared}
def sIx (n d:Nat):Option Int → Nat
  | none=>d
  | some v=>if v < 0 then (v + (n:Int)).toNat else min v.toNat n
theorem sIx_none (n d:Nat):sIx n d none = d:=rfl
end
end HT
namespace L2
open PySem PySem.Spec PyProof.Rows
abbrev TO:=St → Hp → (Option Int → Hp → Prop) → Prop
def PO (X:Cx) (e:Option Expr) (t:TO):Prop :=
  ∀ (pins:List (Addr × Obj)) (s:Shared) (σ:St) (H:Hp) (Q:Option Int → Hp → Prop),Inv X pins σ H s → t σ H Q →
    wpAny (model X.prog X.w) X.A (evalPart e X.env) (fun u s'=>∃ o H',Inv X pins σ H' s' ∧ IsPart u o ∧ Q o H') X.xe s
def tNoPart:TO:=fun _ H Q=>Q none H
def tPart (t:TE):TO:=fun σ H Q=>t σ H fun x H1=>∃ i,x = .int i ∧ Q (some i) H1
theorem intsAre_of {ns:List Int}:∀ {us:List Value},Vals (ns.map V.int) us → IntsAre us ns:=by
  induction ns with
  | nil=>intro us r; rw [List.map_nil] at r; cases r; exact .nil
  | cons n ns ih =>
    intro us r
    rw [List.map_cons] at r
    cases r with
    | cons r1 r2 =>
      obtain ⟨t,e⟩:=r1
      subst e
      exact .cons n t (ih r2)
section
variable {X:Cx} {e:Expr} {te:TE} {lo hi:Option Expr} {tl th:TO} {pos p2:Pos}
theorem po_none:PO X none tNoPart:=by
  intro pins s σ H Q I h
  rw [evalPart_none]
  exact wpAny_pure ⟨none,H,I,.none,h⟩
theorem po_some (h:PE X e te):PO X (some e) (tPart te):=by
  intro pins s σ H Q I hw
  rw [evalPart_some]
  refine thn (h pins s σ H _ I hw) fun u s1 ⟨x,H1,I1,r1,q1⟩=>?_
  obtain ⟨i,rfl,q⟩:=q1
  obtain ⟨t,rfl⟩:=r1
  exact ⟨some i,H1,I1,.int i t,q⟩
def SlR (X:Cx) (r:V → Option Int → Option Int → Hp → VK → Prop):Prop :=
  ∀ (pins:List (Addr × Obj)) (s:Shared) (σ:St) (H:Hp) (x:V) (v vl vu:Value) (lo hi:Option Int) (sl:Addr) (Q:VK),Inv X pins σ H s → RelV x v → s.heap.IsSliceOf sl vl vu .none → IsPart vl lo → IsPart vu hi → r x lo hi H Q →
    ∃ T id,typeLookup (.type T) "__getitem__" = pure (some (.builtin id)) ∧ s.TypeIs v T ∧ wpAny (model X.prog X.w) X.A (getItem v (.ref sl)) (EP X pins σ Q) X.xe s
theorem SlR.or {r r':V → Option Int → Option Int → Hp → VK → Prop} (h:SlR X r) (h':SlR X r'):SlR X (fun x lo hi H Q=>r x lo hi H Q ∨ r' x lo hi H Q):=by
  intro pins s σ H x v vl vu lo hi sl Q I rx hs pl pu q
  rcases q with q | q
  · exact h pins s σ H x v vl vu lo hi sl Q I rx hs pl pu q
  · exact h' pins s σ H x v vl vu lo hi sl Q I rx hs pl pu q
def tSl (r:V → Option Int → Option Int → Hp → VK → Prop) (te:TE) (tl th:TO):TE:=fun σ H Q=>te σ H fun x H1=>tl σ H1 fun l H2=>th σ H2 fun u H3=>r x l u H3 Q
theorem pe_slice {r:V → Option Int → Option Int → Hp → VK → Prop} (hr:SlR X r) (he:PE X e te) (hl:PO X lo tl) (hu:PO X hi th):PE X (.Subscript e (.Slice lo hi none p2) pos) (tSl r te tl th):=by
  intro pins s σ H Q I h
  refine Subscript_ (thn (he pins s σ H _ I h) fun v s1 ⟨x,H1,I1,r1,q1⟩=>?_)
  refine wpAny_Slice (thn (hl pins s1 σ H1 _ I1 q1) fun vl s2 ⟨l,H2,I2,pl,q2⟩=>thn (hu pins s2 σ H2 _ I2 q2) fun vu s3 ⟨u,H3,I3,pu,q3⟩=>?_)
  rw [evalPart_none]
  refine wpAny_pure ?_
  have I4:Inv X pins σ H3 { s3 with heap:=s3.heap.push { cls:=.type "slice", data:=.fields #[vl,vu,.none] } }:=I3.kept (t':=s3.toks) fun b ob q=>Heap.get?_push_of_some _ q
  obtain ⟨T,id,hT,ht,hg⟩:=hr pins { s3 with heap:=s3.heap.push { cls:=.type "slice", data:=.fields #[vl,vu,.none] } } σ H3 x v vl vu l u s3.heap.objs.size Q I4 r1 (Heap.IsSliceOf.new ..) pl pu q3
  show wpAny (model X.prog X.w) X.A (subscriptTail e (.Slice lo hi none p2) v (.ref s3.heap.objs.size)) (EP X pins σ Q) X.xe { s3 with heap:=s3.heap.push { cls:=.type "slice", data:=.fields #[vl,vu,.none] } }
  exact tail_any (ops:=[.ref s3.heap.objs.size,v]) ht hT hg (by with_unfolding_all rfl)
def cutV (xs:List V) (lo hi:Option Int):List V:=(xs.drop (HT.sIx xs.length 0 lo)).take (HT.sIx xs.length xs.length hi - HT.sIx xs.length 0 lo)
theorem cutV_length (xs:List V) (lo hi:Option Int):(cutV xs lo hi).length ≤ xs.length:=by
  unfold cutV
  rw [List.length_take,List.length_drop]
  omega
end
end L2
namespace L2
open PySem PySem.Spec PyProof.Rows
def ixN (n:Nat) (i:Int):Option Nat:=if 0 ≤ i then (if i < n then some i.toNat else none) else if -(n:Int) ≤ i then some (i + n).toNat else none
def atI {α:Type} (xs:List α) (i:Int):Option α:=(ixN xs.length i).bind fun j=>xs[j]?
theorem ixN_seq {n:Nat} {i:Int} {j:Nat} (h:ixN n i = some j):seqIndex? i n = some j ∧ j < n ∧ -(n:Int) ≤ i ∧ i < n:=by
  unfold ixN at h
  by_cases h0:0 ≤ i
  · rw [if_pos h0] at h
    by_cases h1:i < n
    · rw [if_pos h1] at h
      have e:i.toNat = j:=Option.some.inj h
      exact ⟨by rw [seqIndex_of h0 h1,e],by omega,by omega,h1⟩
    · rw [if_neg h1] at h; cases h
  · rw [if_neg h0] at h
    by_cases h1 : -(n:Int) ≤ i
    · rw [if_pos h1] at h
      have e:(i + n).toNat = j:=Option.some.inj h
      exact ⟨by rw [seqIndex_neg (by omega) h1,e],by omega,h1,by omega⟩
    · rw [if_neg h1] at h; cases h
theorem atI_get {α:Type} {xs:List α} {i:Int} {v:α} (h:atI xs i = some v):∃ j,seqIndex? i xs.length = some j ∧ xs[j]? = some v ∧ j < xs.length ∧ -(xs.length:Int) ≤ i ∧ i < xs.length:=by
  unfold atI at h
  cases e:ixN xs.length i with
  | none=>rw [e] at h; cases h
  | some j =>
    rw [e] at h
    obtain ⟨h1,h2,h3,h4⟩:=ixN_seq e
    exact ⟨j,h1,h,h2,h3,h4⟩
theorem atI_nat {α:Type} {xs:List α} {j:Nat} {v:α} (h:xs[j]? = some v):atI xs (j:Int) = some v:=by
  have hj:j < xs.length:=(List.getElem?_eq_some_iff.mp h).1
  have e:ixN xs.length (j:Int) = some j:=by
    unfold ixN
    rw [if_pos (by omega),if_pos (by omega)]; simp
  unfold atI; rw [e]; exact h
def PlainIx (b:Expr):Prop:=∀ o i,subscripted b false o i = operate [o,i] (getItem o i)
def IxR (X:Cx) (r:R2):Prop :=
  ∀ (value slice:Expr) (pins:List (Addr × Obj)) (s:Shared) (σ:St) (H:Hp) (x y:V) (v u:Value) (Q:VK),Inv X pins σ H s → RelV x v → RelV y u → r x y H Q →
    subscripted slice false v u = operate [v,u] (getItem v u) → wpAny (model X.prog X.w) X.A (subscriptTail value slice v u) (EP X pins σ Q) X.xe s
def MtR (X:Cx) (id:String) (r:V → List V → Hp → VK → Prop):Prop :=
  ∀ (pins:List (Addr × Obj)) (s:Shared) (σ:St) (H:Hp) (x:V) (xs:List V) (v:Value) (us:List Value) (Q:VK),Inv X pins σ H s → RelV x v → Vals xs us → r x xs H Q →
    wpAny (model X.prog X.w) X.A (call (.builtin id) (v :: us)) (EP X pins σ Q) X.xe s
section
variable {X:Cx} {a b:Expr} {ta tb:TE} {pos:Pos}
theorem IxR.or {r r':R2} (h:IxR X r) (h':IxR X r'):IxR X (fun x y H Q=>r x y H Q ∨ r' x y H Q):=by
  intro value slice pins s σ H x y v u Q I rx ry q hs
  rcases q with q | q
  · exact h value slice pins s σ H x y v u Q I rx ry q hs
  · exact h' value slice pins s σ H x y v u Q I rx ry q hs
theorem MtR.or {id:String} {r r':V → List V → Hp → VK → Prop} (h:MtR X id r) (h':MtR X id r'):MtR X id (fun x xs H Q=>r x xs H Q ∨ r' x xs H Q):=by
  intro pins s σ H x xs v us Q I rx rs q
  rcases q with q | q
  · exact h pins s σ H x xs v us Q I rx rs q
  · exact h' pins s σ H x xs v us Q I rx rs q
theorem pe_ix {r:R2} (hr:IxR X r) (ha:PE X a ta) (hb:PE X b tb) (hs:PlainIx b):PE X (.Subscript a b pos) (tOp r ta tb):=by
  intro pins s σ H Q I h
  exact Subscript_ (binT ha hb I h fun v u s2 x y H2 I2 rx ry q=>hr a b pins s2 σ H2 x y v u Q I2 rx ry q (hs _ _))
def rIxL (K:PySem.W.Frag):R2:=fun x y H Q=>∃ p xs i v,x = .ref p ∧ y = .int i ∧ SqL K H p xs ∧ atI xs i = some v ∧ Q v H
def rIxT (K:PySem.W.Frag):R2:=fun x y H Q=>∃ p xs i v,x = .ref p ∧ y = .int i ∧ SqT K H p xs ∧ atI xs i = some v ∧ Q v H
theorem ix_list:IxR X (rIxL X.K):=by
  intro value slice pins s σ H x y v u Q I rx ry h hs
  obtain ⟨p,xs,i,z,rfl,rfl,hq,he,q⟩:=h
  cases rx
  obtain ⟨t,rfl⟩:=ry
  obtain ⟨its,r,pl,hz⟩:=I.list hq
  obtain ⟨j,h1,h2,h3,h4,h5⟩:=atI_get he
  obtain ⟨w,ew,rw'⟩:=r.get h2
  have hl:=r.length
  have hn:=line63
  have fin:EP X pins σ Q w s:=⟨z,H,I,rw',q⟩
  by_cases h0:0 ≤ i
  · have hj:i.toNat = j:=by
      rw [seqIndex_of h0 h5] at h1
      exact Option.some.inj h1
    exact item_listR pl.isList h0 (by omega) (by rw [hj]; simpa using ew) fin hs
  · have hj:(i + (its.toArray.size:Int)).toNat = j:=by
      rw [seqIndex_neg (by omega) h4] at h1
      rw [List.size_toArray,← hl]
      exact Option.some.inj h1
    exact subscriptTail_builtinR (x:=w) pl.isList.typeIs slot_list_getitem.lookup
      (wpAny_getItem_list_neg (Q:=fun r s'=>r = w ∧ EP X pins σ Q r s') pl.isList (by omega) (by rw [List.size_toArray] <;> omega) (by omega) (by rw [hj]; simpa using ew) ⟨rfl,fin⟩) hs
theorem ix_tup:IxR X (rIxT X.K):=by
  intro value slice pins s σ H x y v u Q I rx ry h hs
  obtain ⟨p,xs,i,z,rfl,rfl,hq,he,q⟩:=h
  cases rx
  obtain ⟨t,rfl⟩:=ry
  obtain ⟨its,r,pl,hz⟩:=I.tuple hq
  obtain ⟨j,h1,h2,h3,h4,h5⟩:=atI_get he
  obtain ⟨w,ew,rw'⟩:=r.get h2
  have hl:=r.length
  have hn:=line63
  have fin:EP X pins σ Q w s:=⟨z,H,I,rw',q⟩
  exact subscriptTail_builtinR (x:=w) pl.typeIs slot_tuple_getitem.lookup
    (getItem_tuple (j:=j) (Q:=fun r s'=>r = w ∧ EP X pins σ Q r s') pl (by omega) (by omega) (by rw [List.size_toArray,← hl]; exact h1) (by simpa using ew) ⟨rfl,fin⟩) hs
theorem mapSeq_set (its:List Value) (n j:Nat) (u:Value):Obj.mapSeq (·.setIfInBounds j u) { cls:=.type "list", data:=.seq its.toArray n } = { cls:=.type "list", data:=.seq (its.set j u).toArray n }:=by
  simp [Obj.mapSeq]
theorem Inv.lst {pins:List (Addr × Obj)} {σ:St} {H:Hp} {s:Shared} {p:Addr} {xs:List V} (I:Inv X pins σ H s) (h:H p = some (.lst xs)) :
    ∃ (its:List Value) (n:Nat),Vals xs its ∧ s.heap.get? p = some { cls:=.type "list", data:=.seq its.toArray n } ∧ xs.length ≤ sizeLine:=by
  obtain ⟨z,its,n,r,e⟩:=I.hok p _ h
  exact ⟨its,n,r,e,z⟩
theorem Inv.lstUpd {pins:List (Addr × Obj)} {σ:St} {H:Hp} {s:Shared} {p:Addr} {xs ys:List V} {its its':List Value} {n n':Nat} {f:Obj → Obj} (I:Inv X pins σ H s) (h:H p = some (.lst xs))
    (ho:s.heap.get? p = some { cls:=.type "list", data:=.seq its.toArray n }) (hf:f { cls:=.type "list", data:=.seq its.toArray n } = { cls:=.type "list", data:=.seq its'.toArray n' }) (r:Vals ys its') (hz:ys.length ≤ sizeLine) (t:Nat) :
    Inv X pins σ (upd H p (.lst ys)) { s with heap:=s.heap.update p f,toks:=t }:=by
  have e:(s.heap.update p f).get? p = some { cls:=.type "list", data:=.seq its'.toArray n' }:=by
    rw [Heap.get?_update_self f ho (by rw [hf] <;> rfl),hf]
  refine I.write (x:=p) (e:=p) (by rw [h]; trivial) (.inl rfl) (fun b u hb q=>(Heap.get?_update_other _ _ (Ne.symm hb)).trans q) ⟨_,e⟩ ?_
  exact ⟨hz,its',n',r,e⟩
def rSetL:V → V → V → Hp → (Hp → Prop) → Prop:=fun o i v H Q=>∃ p xs k j,o = .ref p ∧ i = .int k ∧ H p = some (.lst xs) ∧ ixN xs.length k = some j ∧ Q (upd H p (.lst (xs.set j v)))
theorem set_list:PSet X rSetL:=by
  intro pins s σ H o i v ov iv u Q I ro ri rv h
  obtain ⟨p,xs,k,j,rfl,rfl,hp,hj,q⟩:=h
  cases ro
  obtain ⟨t,rfl⟩:=ri
  obtain ⟨its,n,r,ho,hz⟩:=I.lst hp
  obtain ⟨h1,h2,h3,h4⟩:=ixN_seq hj
  have hl:=r.length
  have hn:=line63
  have I':Inv X pins σ (upd H p (.lst (xs.set j v))) { s with heap:=s.heap.update p (Obj.mapSeq (·.setIfInBounds j u)) } :=
    I.lstUpd hp ho (mapSeq_set its n j u) (r.set rv j) (by rw [List.length_set]; exact hz) s.toks
  by_cases h0:0 ≤ k
  · have hk:k.toNat = j:=by
      rw [seqIndex_of h0 h4] at h1
      exact Option.some.inj h1
    exact PySem.W.ki_setAt ho h0 (by omega) (by rw [List.size_toArray,← hl]; exact h4) (by rw [hk]; exact ⟨_,I',q⟩)
  · have hk:(k + (its.toArray.size:Int)).toNat = j:=by
      rw [seqIndex_neg (by omega) h3] at h1
      rw [List.size_toArray,← hl]
      exact Option.some.inj h1
    exact PySem.W.ki_setBack ho (by omega) (by rw [List.size_toArray,← hl]; exact h3) (by omega) (by rw [hk]; exact ⟨_,I',q⟩)
theorem slice_bounds (lo hi:Option Int) (n:Nat):(sliceBounds lo hi none n).1 = ((HT.sIx n 0 lo:Nat):Int) ∧ (sliceBounds lo hi none n).2.1 = ((HT.sIx n n hi:Nat):Int) ∧ (sliceBounds lo hi none n).2.2 = 1:=by
  refine ⟨?_,?_,rfl⟩
  · cases lo with
    | none=>simp [sliceBounds,HT.sIx]
    | some i =>
      simp only [sliceBounds,HT.sIx,Option.getD_none,show (1:Int) > 0 by decide,if_true]
      by_cases h:i < 0
      · simp only [h,if_true] <;> omega
      · simp only [h,if_false] <;> omega
  · cases hi with
    | none=>simp [sliceBounds,HT.sIx]
    | some i =>
      simp only [sliceBounds,HT.sIx,Option.getD_none,show (1:Int) > 0 by decide,if_true]
      by_cases h:i < 0
      · simp only [h,if_true] <;> omega
      · simp only [h,if_false] <;> omega
theorem slicePick_cut (its:List Value) (lo hi:Option Int):slicePick its.toArray lo hi none = ((its.drop (HT.sIx its.length 0 lo)).take (HT.sIx its.length its.length hi - HT.sIx its.length 0 lo)).toArray:=by
  obtain ⟨h1,h2,h3⟩:=slice_bounds lo hi its.toArray.size
  unfold slicePick
  rw [h1,h2,h3]
  simp only [sliceRange_one,pick_run,List.size_toArray] <;> rfl
def rSlL (K:PySem.W.Frag):V → Option Int → Option Int → Hp → VK → Prop:=fun x lo hi H Q=>∃ a xs,x = .ref a ∧ SqL K H a xs ∧ ∀ p,H p = none → Q (.ref p) (upd H p (.lst (cutV xs lo hi)))
theorem sl_list:SlR X (rSlL X.K):=by
  intro pins s σ H x v vl vu lo hi sl Q I rx hs pl pu h
  obtain ⟨a,xs,rfl,hx,q⟩:=h
  cases rx
  obtain ⟨its,r,ht,hz⟩:=I.list hx
  have hlen:=r.length
  refine ⟨"list", _,slot_list_getitem.lookup,ht.isList.typeIs,?_⟩
  refine wpAny_getItem_list_slice ht.isList hs pl pu .none (by simp) ?_ (by rw [List.size_toArray] <;> omega)
  rw [slicePick_cut,← hlen]
  refine ⟨.ref s.heap.objs.size,_,I.laid (t':=s.toks) (o:=.lst (cutV xs lo hi)) (fun b ob q=>Heap.get?_push_of_some _ q) (Nat.le_refl _) ?_,rfl,q _ (I.hok.fresh (Nat.le_refl _))⟩
  exact ⟨Nat.le_trans (cutV_length xs lo hi) hz,_,0,(r.drop (HT.sIx xs.length 0 lo)).take (HT.sIx xs.length xs.length hi - HT.sIx xs.length 0 lo),Heap.get?_push_size _ rfl⟩
def flatV:V → Bool
  | .non=>true
  | .bl _=>true
  | .int _=>true
  | .str _=>true
  | _=>false
def eqV:V → V → Bool
  | .non,.non=>true
  | .bl a,.bl b=>a == b
  | .bl a,.int b=>(if a then 1 else 0) == b
  | .int a,.bl b=>a == (if b then 1 else 0)
  | .int a,.int b=>a == b
  | .str a,.str b=>a == b
  | _,_=>false
theorem eqAt_V {A:Around} {s:Shared} {y x:V} {u v:Value} (ry:RelV y u) (rx:RelV x v) (fy:flatV y = true) (fx:flatV x = true):SeqAt.EqAt A s u v (eqV y x):=by
  cases y with
  | non =>
    cases ry
    cases x with
    | non=>cases rx; exact SeqAt.EqAt.same _
    | bl b=>cases rx; exact SeqAt.EqAt.none_bool b
    | int b=>obtain ⟨t,rfl⟩:=rx; exact SeqAt.EqAt.none_int b t
    | str b=>obtain ⟨t,rfl⟩:=rx; exact SeqAt.EqAt.none_str b t
    | _=>exact absurd (show false = true from fx) Bool.false_ne_true
  | bl a =>
    cases ry
    cases x with
    | non=>cases rx; exact SeqAt.EqAt.bool_none a
    | bl b=>cases rx; exact SeqAt.EqAt.bool_bool a b
    | int b=>obtain ⟨t,rfl⟩:=rx; exact SeqAt.EqAt.bool_int a b t
    | str b=>obtain ⟨t,rfl⟩:=rx; exact SeqAt.EqAt.bool_str a b t
    | _=>exact absurd (show false = true from fx) Bool.false_ne_true
  | int a =>
    obtain ⟨t',rfl⟩:=ry
    cases x with
    | non=>cases rx; exact SeqAt.EqAt.int_none a t'
    | bl b=>cases rx; exact SeqAt.EqAt.int_bool a t' b
    | int b=>obtain ⟨t,rfl⟩:=rx; exact SeqAt.EqAt.int_int a t' b t
    | str b=>obtain ⟨t,rfl⟩:=rx; exact SeqAt.EqAt.int_str a t' b t
    | _=>exact absurd (show false = true from fx) Bool.false_ne_true
  | str a =>
    obtain ⟨t',rfl⟩:=ry
    cases x with
    | non=>cases rx; exact SeqAt.EqAt.str_none a t'
    | bl b=>cases rx; exact SeqAt.EqAt.str_bool a t' b
    | int b=>obtain ⟨t,rfl⟩:=rx; exact SeqAt.EqAt.str_int a t' b t
    | str b=>obtain ⟨t,rfl⟩:=rx; exact SeqAt.EqAt.str_str a t' b t
    | _=>exact absurd (show false = true from fx) Bool.false_ne_true
  | _=>exact absurd (show false = true from fy) Bool.false_ne_true
theorem call_len_seq:CallR X (.builtin "len") (fun xs H Q=>∃ p ys,xs = [.ref p] ∧ (SqL X.K H p ys ∨ SqT X.K H p ys) ∧ Q (.int ys.length) H):=by
  intro pins s σ H xs us Q I r h
  obtain ⟨p,ys,rfl,hq,q⟩:=h
  obtain ⟨u,rfl,rx⟩:=vals1 r
  cases rx
  have hn:=line63
  rcases hq with hq | hq
  · obtain ⟨its,r',pl,hz⟩:=I.list hq
    have hlen:=r'.length
    exact Calls.call_len_list pl.isList (by simp only [List.size_toArray] <;> omega) ⟨.int ys.length,H,I.tok _,⟨s.toks + 1,by rw [List.size_toArray,hlen]⟩,q⟩
  · obtain ⟨its,r',pl,hz⟩:=I.tuple hq
    have hlen:=r'.length
    exact len_tuple pl (by simp only [List.size_toArray] <;> omega) ⟨.int ys.length,H,I.tok _,⟨s.toks + 1,by rw [List.size_toArray,hlen]⟩,q⟩
theorem CallR.or {f:Value} {r r':List V → Hp → VK → Prop} (h:CallR X f r) (h':CallR X f r'):CallR X f (fun xs H Q=>r xs H Q ∨ r' xs H Q):=by
  intro pins s σ H xs us Q I rs q
  rcases q with q | q
  · exact h pins s σ H xs us Q I rs q
  · exact h' pins s σ H xs us Q I rs q
theorem call_list_of:CallR X (.type "list") (fun xs H Q=>∃ p ys,xs = [.ref p] ∧ (SqL X.K H p ys ∨ SqT X.K H p ys) ∧ ∀ l,H l = none → Q (.ref l) (upd H l (.lst ys))):=by
  intro pins s σ H xs us Q I r h
  obtain ⟨p,ys,rfl,hq,q⟩:=h
  obtain ⟨u,rfl,rx⟩:=vals1 r
  cases rx
  have fin:∀ (its:List Value),Vals ys its → ys.length ≤ sizeLine → ∀ (h':Heap) (c':Nat),(∀ b o',s.heap.get? b = some o' → h'.get? b = some o') →
      h'.get? s.heap.objs.size = some { cls:=.type "list", dict:=none,data:=.seq its.toArray c',slots:=#[] } → EP X pins σ Q (.ref s.heap.objs.size) { s with heap:=h' }:=fun its r' hz h' c' kp e =>
    ⟨.ref s.heap.objs.size,_,I.laid (t':=s.toks) kp (Nat.le_refl _) (show ObjOk X.prog X.w _ h' _ (.lst ys) from ⟨hz,its,c',r',e⟩),rfl,q _ (I.hok.fresh (Nat.le_refl _))⟩
  rcases hq with hq | hq
  · obtain ⟨its,r',pl,hz⟩:=I.list hq
    have hlen:=r'.length
    obtain ⟨o,ho,hc,n,hd⟩:=pl.isList
    exact call_list_seq p (.inl rfl) ho hc hd (fun h' c' kp e=>fin its r' hz h' c' kp e) (by simp only [List.size_toArray] <;> omega)
  · obtain ⟨its,r',pl,hz⟩:=I.tuple hq
    have hlen:=r'.length
    obtain ⟨o,ho,hc,n,hd⟩:=pl
    exact call_list_seq p (.inr rfl) ho hc hd (fun h' c' kp e=>fin its r' hz h' c' kp e) (by simp only [List.size_toArray] <;> omega)
def tyV (K:PySem.W.Frag) (T:String) (x:V) (H:Hp):Prop:=match x with
  | .str _=>T = "str"
  | .int _=>T = "int"
  | .ref p=>(T = "list" ∧ ∃ xs,SqL K H p xs) ∨ (T = "tuple" ∧ ∃ o,K.lookup p = some o ∧ o.cls = .type "tuple" ∧ o.dict = none) ∨
      (T = "dict" ∧ ((∃ kvs,H p = some (.dK kvs)) ∨ ∃ kvs,H p = some (.dT kvs))) ∨ (T = "set" ∧ ∃ S n,H p = some (.set S n))
  | _=>False
theorem tyV_is {pins:List (Addr × Obj)} {σ:St} {H:Hp} {s:Shared} {T:String} {x:V} {v:Value} (I:Inv X pins σ H s) (r:RelV x v) (ty:tyV X.K T x H) :
    s.TypeIs v T ∧ ∀ a,v = .ref a → ∃ ob,s.heap.get? a = some ob ∧ ob.dict = none:=by
  cases x with
  | str z =>
    obtain ⟨t,rfl⟩:=r
    cases (show T = "str" from ty)
    exact ⟨typeIs_str s z t,fun _ e=>nomatch e⟩
  | int i =>
    obtain ⟨t,rfl⟩:=r
    cases (show T = "int" from ty)
    exact ⟨typeIs_int s i t,fun _ e=>nomatch e⟩
  | ref p =>
    cases r
    rcases ty with ⟨rfl,xs,hq⟩ | ⟨rfl,o,hk,hc,hd⟩ | ⟨rfl,hk⟩ | ⟨rfl,S,n,hk⟩
    · obtain ⟨its,_,pl,_⟩:=I.list hq
      refine ⟨pl.isList.typeIs,fun a e=>?_⟩
      cases e
      obtain ⟨o,n,e,c,hd,_⟩:=pl
      exact ⟨o,e,hd⟩
    · refine ⟨⟨o,I.kIn p o hk,hc⟩,fun a e=>?_⟩
      cases e
      exact ⟨o,I.kIn _ o hk,hd⟩
    · have z:∃ o,s.heap.get? p = some o ∧ o.ExactDict:=by
        rcases hk with ⟨kvs,hk⟩ | ⟨kvs,hk⟩
        · obtain ⟨_,_,_,_,o,_,_,e,ex,_⟩:=I.hok p _ hk
          exact ⟨o,e,ex⟩
        · obtain ⟨_,_,_,_,o,_,_,e,ex,_⟩:=I.hok p _ hk
          exact ⟨o,e,ex⟩
      obtain ⟨o,e,ex⟩:=z
      refine ⟨⟨o,e,ex.1⟩,fun a e2=>?_⟩
      cases e2
      exact ⟨o,e,ex.2.1⟩
    · obtain ⟨o,_,_,_,e,ex,_⟩:=I.hok p _ hk
      refine ⟨⟨o,e,ex.1⟩,fun a e2=>?_⟩
      cases e2
      exact ⟨o,e,ex.2.1⟩
  | _=>exact False.elim ty
def tBM (K:PySem.W.Frag) (T:String) (r:V → List V → Hp → VK → Prop) (to:TE) (t:TA):TE:=fun σ H Q=>to σ H fun x H1=>tyV K T x H1 ∧ t σ H1 fun xs H2=>r x xs H2 Q
variable {o e:Expr} {es:List Expr} {to:TE} {t:TA} {name:Str} {apos cpos:Pos} {T id:String} {r:V → List V → Hp → VK → Prop}
theorem pe_bm (pa:PlainAttrs T) (slot:Slot T name id) (hty:typeOf (.builtin id) = pure (.type "method_descriptor")) (hm:MtR X id r) (ho:PE X o to) (ha:PA X (e :: es) t)
    (hbase:attributeBase o name X.env (eval o X.env) = eval o X.env:=by rfl)
    (hfew:((backTo cpos (starEach (e :: es) X.env)).all (fun x=>!x.1) && (backToKw cpos (keywordEach [] X.env)).all (fun x=>x.1.isSome)
      && decide ((e :: es).length + ([]:List Keyword).length + (if ([]:List Keyword).isEmpty then 0 else 1) < 30)) = true:=by rfl)
    (hline:(apos.endLine == cpos.line) = true:=by rfl) (hs:starEach (e :: es) X.env = (false,eval e X.env) :: starEach es X.env:=by rfl) (hplain:(backTo cpos (starEach es X.env)).any (·.1) = false:=by rfl) :
    PE X (.Call (.Attribute o name apos) (e :: es) [] cpos) (tBM X.K T r to t):=by
  intro pins s σ H Q I h
  refine wpAny_Call_method_late hbase hfew hline rfl (thn (ho pins s σ H _ I h) fun v s1 ⟨x,H1,I1,r1,ty,q1⟩=>?_)
  obtain ⟨h1,h2⟩:=tyV_is I1 r1 ty
  refine ⟨T,id,pa,slot,hty,h1,h2,?_⟩
  have hA:=ha cpos pins s1 σ H1 _ I1 q1
  rw [hs] at hA ⊢
  refine Calls.callWith_builtin (by show (false || (backTo cpos (starEach es X.env)).any (·.1)) = false; rw [hplain] <;> rfl) (Calls.evalArgs_plain ?_)
  exact thn hA fun us s2 ⟨vs,H2,I2,r2,q2⟩=>hm pins s2 σ H2 x vs v us Q I2 r1 r2 q2
/- xs.append(e),list.index on a module's tuple .. are MtR facts of 06m -/
end
end L2
namespace L2
open PySem PySem.Spec PyProof.Rows
def MtM (X:Cx) (id:String) (r:V → List V → Hp → VK → Prop):Prop :=
  ∀ (pins:List (Addr × Obj)) (s:Shared) (σ:St) (H:Hp) (x:V) (xs:List V) (v:Value) (us:List Value) (Q:VK),Inv X pins σ H s → RelV x v → Vals xs us → r x xs H Q →
    wpAny (model X.prog X.w) X.A (call (.builtin id) (v :: us)) (EP X pins σ Q) X.xe s
theorem Vals.one:∀ {x:V} {us:List Value},Vals [x] us → ∃ u,us = [u] ∧ RelV x u
  | _,_,.cons r .nil=>⟨_,rfl,r⟩
theorem Vals.two:∀ {x y:V} {us:List Value},Vals [x,y] us → ∃ u v,us = [u,v] ∧ RelV x u ∧ RelV y v
  | _,_,_,.cons r (.cons q .nil)=>⟨_,_,rfl,r,q⟩
theorem Vals.zero:∀ {us:List Value},Vals [] us → us = []
  | _,.nil=>rfl
theorem Vals.reverse {xs:List V} {us:List Value} (h:Vals xs us):Vals xs.reverse us.reverse:=by
  induction h with
  | nil=>exact .nil
  | cons r t ih=>rw [List.reverse_cons,List.reverse_cons]; exact Vals.append ih (.cons r .nil)
theorem Vals.rep {xs:List V} {us:List Value} (h:Vals xs us):∀ k:Nat,Vals (List.replicate k xs).flatten (List.replicate k us).flatten
  | 0=>.nil
  | k + 1=>by
    rw [List.replicate_succ,List.replicate_succ,List.flatten_cons,List.flatten_cons]
    exact Vals.append h (Vals.rep h k)
theorem foldl_rep (its:List Value):∀ (k:Nat) (acc:List Value),
    List.foldl (fun x1 x2=>x1 ++ x2) acc.toArray (List.replicate k its.toArray) = (acc ++ (List.replicate k its).flatten).toArray
  | 0,acc=>by simp
  | k + 1,acc=>by
    have e:acc.toArray ++ its.toArray = (acc ++ its).toArray:=by simp
    have e2:(acc ++ its) ++ (List.replicate k its).flatten = acc ++ (List.replicate (k + 1) its).flatten:=by
      rw [List.replicate_succ,List.flatten_cons,List.append_assoc]
    rw [← e2,← foldl_rep its k (acc ++ its),← e,List.replicate_succ,List.foldl_cons]
section
variable {X:Cx} {pins:List (Addr × Obj)} {σ:St} {H:Hp} {s:Shared} {l b:Addr} {xs ys zs:List V}
theorem Inv.lset {its its':List Value} {n:Nat} {f:Array Value → Array Value} {t':Nat} (I:Inv X pins σ H s) (hH:H l = some (.lst xs))
    (e:s.heap.get? l = some { cls:=.type "list", data:=.seq its.toArray n }) (hf:f its.toArray = its'.toArray) (hv:Vals ys its') (hz:ys.length ≤ sizeLine) :
    Inv X pins σ (upd H l (.lst ys)) { s with heap:=s.heap.update l (Obj.mapSeq f),toks:=t' }:=by
  have q:=PySem.IsL.update e f
  rw [hf] at q
  refine I.write (x:=l) (e:=l) (by rw [hH]; exact trivial) (.inl rfl) (fun b' u hb hu=>(Heap.get?_update_other s.heap (Obj.mapSeq f) (Ne.symm hb)).trans hu) ⟨_,q⟩ ?_
  exact ⟨hz,its',_,hv,q⟩
theorem Inv.lnew {its:List Value} {t':Nat} (I:Inv X pins σ H s) (hv:Vals ys its) (hz:ys.length ≤ sizeLine) :
    Inv X pins σ (upd H s.heap.objs.size (.lst ys)) { s with heap:=s.heap.push { cls:=.type "list", data:=.seq its.toArray },toks:=t' } :=
  I.laid (fun _ _ q=>Heap.get?_push_of_some _ q) (Nat.le_refl _) ⟨hz,its,0,hv,Heap.get?_push_size _ rfl⟩
theorem Inv.fresh (I:Inv X pins σ H s):H s.heap.objs.size = none:=I.hok.fresh (Nat.le_refl _)
theorem Inv.lstM (I:Inv X pins σ H s) (hH:H l = some (.lst xs)):xs.length ≤ sizeLine ∧ ∃ (its:List Value) (n:Nat),Vals xs its ∧ xs.length = its.length ∧ s.heap.get? l = some { cls:=.type "list", data:=.seq its.toArray n }:=by
  obtain ⟨z,its,n,r,e⟩:=I.hok l _ hH
  exact ⟨z,its,n,r,r.length,e⟩
theorem notLongL {n:Nat} (h:n ≤ sizeLine):Builtin.List.listTooLong n = false:=by
  unfold Builtin.List.listTooLong
  exact decide_eq_false (by omega)
end
section
variable {X:Cx}
def rAppend:V → List V → Hp → VK → Prop:=fun x vs H Q=>∃ l xs y,x = .ref l ∧ vs = [y] ∧ H l = some (.lst xs) ∧ xs.length < sizeLine ∧ Q .non (upd H l (.lst (xs ++ [y])))
theorem mt_append:MtM X "list.append" rAppend:=by
  intro pins s σ H x vs v us Q I rx rv h
  obtain ⟨l,xs,y,rfl,rfl,hH,hz,q⟩:=h
  cases rx
  obtain ⟨u,rfl,ru⟩:=rv.one
  obtain ⟨z,its,n,r,hl,e⟩:=I.lstM hH
  refine call_meets F.slot_list_append ⟨_,e,rfl⟩ F.entry_list_append (F.args_list_append_2 _ _) (PySem.list_append l its.toArray n u (by rw [List.size_toArray]; omega)) ⟨e,?_⟩
  refine ⟨.non,_,I.lset (its':=its ++ [u]) hH e (by simp) (r.append (.cons ru .nil)) ?_,rfl,q⟩
  rw [List.length_append,List.length_singleton]
  omega
def rCat:R2:=fun x y H Q=>∃ l b xs zs,x = .ref l ∧ y = .ref b ∧ H l = some (.lst xs) ∧ H b = some (.lst zs) ∧ xs.length + zs.length ≤ sizeLine ∧ ∀ p,H p = none → Q (.ref p) (upd H p (.lst (xs ++ zs)))
theorem op_cat:OpR X (binaryOp .Add) rCat:=by
  intro pins s σ H x y v u Q I rx ry h
  obtain ⟨l,b,xs,zs,rfl,rfl,hH,hB,hz,q⟩:=h
  cases rx
  cases ry
  obtain ⟨z,its,n,r,hl,e⟩:=I.lstM hH
  obtain ⟨z2,its2,n2,r2,hl2,e2⟩:=I.lstM hB
  refine PySem.P.add_list e e2 ?_ (by rw [List.size_toArray,List.size_toArray]; omega)
  have ea:its.toArray ++ its2.toArray = (its ++ its2).toArray:=by simp
  rw [ea]
  exact ⟨.ref _,_,I.lnew (t':=s.toks) (r.append r2) (by rw [List.length_append]; omega),rfl,q _ I.fresh⟩
def rRep:R2:=fun x y H Q=>∃ l k xs,x = .ref l ∧ y = .int k ∧ H l = some (.lst xs) ∧ -(2 ^ 63) ≤ k ∧ k < 2 ^ 63 ∧ xs.length * k.toNat ≤ sizeLine ∧
  ∀ p,H p = none → Q (.ref p) (upd H p (.lst (List.replicate k.toNat xs).flatten))
theorem len_rep {α:Type} (xs:List α) (k:Nat):(List.replicate k xs).flatten.length = k * xs.length:=by
  induction k with
  | zero=>simp
  | succ k ih=>rw [List.replicate_succ,List.flatten_cons,List.length_append,ih,Nat.succ_mul,Nat.add_comm]
theorem op_rep:OpR X (binaryOp .Mult) rRep:=by
  intro pins s σ H x y v u Q I rx ry h
  obtain ⟨l,k,xs,rfl,rfl,hH,h1,h2,hz,q⟩:=h
  cases rx
  obtain ⟨t,rfl⟩:=ry
  obtain ⟨z,its,n,r,hl,e⟩:=I.lstM hH
  have hlen:its.toArray.size * k.toNat ≤ sizeLine:=by rw [List.size_toArray,← hl]; exact hz
  have hcap:¬ its.toArray.size * k.toNat > (2 ^ 63 - 1) / 8:=by
    have:(sizeLine:Nat) ≤ (2 ^ 63 - 1) / 8:=by decide
    omega
  have hfit:¬ (!Builtin.List.listFitsIndex k) = true:=by
    rw [fitsIndex_both h1 h2]
    exact Bool.false_ne_true
  have hlong:¬ Builtin.List.listTooLong (its.toArray.size * k.toNat) = true:=by
    rw [notLongL hlen]
    exact Bool.false_ne_true
  have hnew:List.foldl (fun x1 x2=>x1 ++ x2) #[] (List.replicate (if its.toArray.isEmpty = true then 0 else k.toNat) its.toArray) = (List.replicate k.toNat its).flatten.toArray:=by
    have f0:∀ m:Nat,List.foldl (fun x1 x2=>x1 ++ x2) #[] (List.replicate m its.toArray) = (List.replicate m its).flatten.toArray:=fun m=>by
      have:=foldl_rep its m []
      rw [List.nil_append] at this
      exact this
    rw [f0]
    cases its with
    | nil=>simp
    | cons a r'=>rw [if_neg (by simp)]
  refine wpAny_binaryOp_repeat_ref (T := "list") (U := "int") (by decide) ⟨_,e,rfl⟩ (fun s'=>typeIs_int s' k t) noFill_list_mul F.fills_int_mul F.slot_int_rmul repeat_list F.slot_int_index.lookup
    (call_meets F.slot_int_rmul (typeIs_int s k t) F.entry_int_rmul (F.args_int_rmul_2 _ _) (int___rmul___int_list k t l its.toArray n)
      ⟨e,rfl,⟨_,e,rfl⟩,call_meets F.slot_list_mul ⟨_,e,rfl⟩ F.entry_list_mul (F.args_list_mul_2 _ _) (AutoListH.list___mul___list_int_3 l its.toArray n k t hfit hcap hlong) ⟨e,?_⟩⟩)
  rw [hnew]
  exact ⟨.ref _,_,I.lnew (t':=s.toks) (r.rep k.toNat) (by rw [len_rep,Nat.mul_comm]; exact hz),rfl,q _ I.fresh⟩
end
section
variable {prog:Program} {w:World} {A:Around} {E:Value → Shared → Prop} {s:Shared}
end
section
variable {X:Cx}
end
end L2
namespace Att
open PySem PySem.W PySem.Calls PyProof.Rows
theorem ints_of_wellAll {P:Params} {h:Heap}:∀ (ns:List Int) (vs:List Value),WellAll P h vs (ns.map WData.int) → IntsAre vs ns:=by
  intro ns
  induction ns with
  | nil =>
    intro vs w
    rw [List.map_nil] at w
    cases w
    exact .nil
  | cons n ns ih =>
    intro vs w
    rw [List.map_cons] at w
    cases w with
    | cons a b =>
      cases a
      exact .cons _ _ (ih _ b)
theorem script_of {l:OpenLaw} {n:Nat} (hn:l.most = some n) {P:Params} {h:Heap} {args:List WData} {vals:List Value}
    (hpre:l.row.toRowW.claim.pre args = true) (hwl:WellAll P h vals args) :
    ∃ a vs ns,vals = [Value.ref a] ∧ args = [WData.list (ns.map WData.int)] ∧ h.get? a = some { cls:=.type "list", data:=.seq vs.toArray } ∧ IntsAre vs ns ∧ ns.length ≤ n:=by
  have hsh:WShape.hasAll [] args [.list .int] = true:=(pre_splitW hpre).1
  have hc:l.pre.holds [] { args:=args } = true:=(pre_splitW hpre).2
  obtain ⟨d,r,rfl,h1,h2⟩:=hasAllW_cons hsh
  obtain rfl:=hasAllW_nil h2
  obtain ⟨xs,rfl,h3⟩:=hasW_list h1
  obtain ⟨ns,rfl⟩:=items_int h3
  have hlen:ns.length ≤ n:=by
    unfold OpenLaw.pre at hc
    have h4:(WTm.not (.lt (.lit (.int (n:Int))) (.len (.arg 0)))).holds [] { args:=[.list (ns.map .int)] } = true:=by
      have h4:=(holds_andW hc).1
      rw [hn] at h4
      exact h4
    have h5:=condW_of h4 (w_not (w_lt w_lit (w_len_list (w_arg rfl))))
    rw [List.length_map] at h5
    refine Nat.le_of_not_lt fun q=>?_
    have q':(n:Int) < ((ns.length:Nat):Int):=by omega
    first
      | (rw [decide_eq_true q'] at h5; exact absurd h5 (by decide))
      | (simp at h5; omega)
  cases hwl with
  | cons w1 w2 =>
    cases w2
    cases w1 with
    | list ho hall=>exact ⟨_,_,ns,rfl,rfl,ho,ints_of_wellAll ns _ hall,hlen⟩
theorem post_true (l:OpenLaw) (args:List WData):l.row.toRowW.claim.post args (.bool true) args = true :=
  postW_of (r:=l.row.toRowW) (X:=(true == true))
    (show WShape.has [] (.bool true) .bool = true by first | rfl | decide | simp [WShape.has,WShape.arms,WShape.armsAll])
    (show (WTm.eq .res (.lit (.bool true))).value [] { args:=args,res:=some (.bool true),after:=args } = some (.bool (true == true)) from w_eq_bool (w_res rfl) w_lit) rfl
theorem attach_call {l:OpenLaw} {n:Nat} {q:Program} {loose:List Str} {XP:(Str → Option Value) → Heap → Prop} {YP:World → Heap → Prop} {d:DefRec}
    (hn:l.most = some n) (hdf:d.params.defaults = [])
    (call:∀ (w:World) (s₀ s₁:Shared) (mg mb:Str → Option Value) (fa:Addr) (o:Obj) (pm cd doc:Value) (a:Addr) (vs:List Value) (ns:List Int),
      Ground q loose [] XP w s₀ mg mb s₁.heap → YP w s₁.heap →
      s₁.heap.get? fa = some o → o.data = .func (docDef d.name d.params d.body d.scope pm cd doc) → s₁.heap.CodeRec cd d.name → mg d.name = some (.ref fa) →
      s₁.heap.get? a = some { cls:=.type "list", data:=.seq vs.toArray } → IntsAre vs ns → ns.length ≤ n → s₁.gens = #[] →
      codeAny (model l.prog w) callerA (.call (.ref fa) ⟨[.ref a],[]⟩) (fun r s'=>r = .ok (.ret (.bool true)) ∧ OldK s₁.heap s'.heap ∧ s'.os = s₁.os ∧ AllBare s'.gens) s₁) :
    WalkO q loose XP YP l.row.toRowW d [] (fun f vs=>PySem.call f vs):=by
  intro w s₀ s₁ mg mb G Y fa o pm cd doc dV kV ho hd hcd hD hmg hg args vals as hpre hlay hrd hwl hlo
  obtain rfl:dV = .none:=Dflts.none hD hdf
  obtain rfl:kV = .none:=Dflts.noKw hD
  obtain ⟨a,vs,ns,rfl,rfl,hobj,hints,hlen⟩:=script_of hn hpre hwl
  refine enter_call (codeAny_mono (call w s₀ s₁ mg mb fa o pm cd doc a vs ns G Y ho (fd_plain hd) hcd hmg hobj hints hlen hg) fun r s' hq=>?_)
  obtain ⟨rfl,h2,h3,h4⟩:=hq
  exact ⟨.inl ⟨.bool true,.bool true,[],rfl,fun _=>rfl,.bool true,post_true l _,fun _=>⟨List.Pairwise.nil,fun _ hm=>(nomatch hm)⟩⟩,h2,h3,h4⟩
section
variable {prog:Program} {w:World} {A:Around} {E:Value → Shared → Prop} {s:Shared} {K:Frag}
end
end Att
namespace L2
open PySem PySem.Spec PyProof.Rows
theorem vals_ints:∀ {vs:List Value} {ns:List Int},IntsAre vs ns → Vals (ns.map V.int) vs
  | _,_,.nil=>.nil
  | _,_,.cons n t h=>.cons ⟨t,rfl⟩ (vals_ints h)
def Only (H:Hp):Prop:=∀ b,H b = none ∨ ∃ o xs,H b = some (.frz o (.lst xs))
end L2
namespace L2
open PySem PySem.Spec PyProof.Rows
end L2
namespace L2
open PySem PySem.Spec PyProof.Rows
def inClass (s:Stmt) (j:Nat):Stmt:=match s with
  | .ClassDef _ _ _ body _ _ _ _ _ _ _=>body.getD j (.Pass ⟨0,0,0,0⟩)
  | _=>.Pass ⟨0,0,0,0⟩
def defArgs (s:Stmt):Arguments:=match s with
  | .FunctionDef _ a _ _ _ _ _ _ _ _=>a
  | _=>{ posonlyargs:=[],args:=[],vararg:=none,kwonlyargs:=[],kw_defaults:=[],kwarg:=none,defaults:=[] }
def defBody (s:Stmt):List Stmt:=match s with
  | .FunctionDef _ _ b _ _ _ _ _ _ _=>b
  | _=>[]
def defScope (s:Stmt):Scope:=match s with
  | .FunctionDef _ _ _ _ _ _ sc _ _ _=>sc
  | _=>{ kind:=.function,names:=[],isGenerator:=false,isCoroutine:=false }
abbrev CX0:CXT:=fun _ _ _ _ _ _=>False
abbrev E0:XK:=fun _ _ _=>False
theorem pass0 {X:Cx}:Passes CX0 X E0:=fun _ _ _ _ _ _ _ h=>h.elim
structure Fun (K:PySem.W.Frag) (x qual:Str) (st:Stmt) (f:Addr) (fd:FuncData):Prop where
  ex:∃ (oc:Value) (od:Option Addr) (kV doc pm:Value) (an:Option Addr) (cdv ct:Value) (osl:Array (Option Value)),
    fd = PySem.W.fnOf x qual (defArgs st) (defBody st) (defScope st) .none kV doc pm an cdv ct ∧ K.lookup f = some ⟨oc,od,.func fd,osl⟩ ∧ PySem.W.codeIn K cdv qual = true
  kp:PySem.W.keepIn K (.ref f) = true
section
variable {P:Program} {w:World} {K:PySem.W.Frag} {mg:Str → Option Value} {base:Heap}
theorem Fun.ok {x qual:Str} {st:Stmt} {f:Addr} {fd:FuncData} {N ps:List Str} {k:Nat} {sp:Sp} (F:Fun K x qual st f fd) (S:FnScope N ps (defScope st)) (len:∀ vs H Q E,sp vs H Q E → vs.length = ps.length)
    (hbody:∀ (cdv:Value) (A:Around) (outer:List Env) (s:Shared) (H:Hp) (vs:List V) (Q:VK) (E:XK),Room k (A.deeper (envOfC qual (defScope st) s.heap.objs.size f cdv)) → sp vs H Q E →
      ∃ t,PSs (cxOf CX0 P w K mg base N qual (defScope st) f cdv A outer s H E).nox (defBody st) t ∧ t { nx:=fun _ H'=>Q .non H',rt:=Q } (start N vs) H):FnOk P w K mg base CX0 (k + 1) f fd ps sp:=by
  obtain ⟨oc,od,kV,doc,pm,an,cdv,ct,osl,rfl,lk,hcd⟩:=F.ex
  refine fn_of lk hcd S len fun A outer s H vs Q E hr hsp=>?_
  obtain ⟨t,h,q⟩:=hbody cdv A outer s H vs Q E hr hsp
  exact ⟨t,h.nox,q⟩
theorem Fun.binds {x qual:Str} {st:Stmt} {f:Addr} {fd:FuncData} {ps:List Str} (F:Fun K x qual st f fd)
    (h:∀ (kV doc pm:Value) (an:Option Addr) (cdv ct:Value) (us:List Value),us.length = ps.length → bindArgs (PySem.W.fnOf x qual (defArgs st) (defBody st) (defScope st) .none kV doc pm an cdv ct) ⟨us,[]⟩ = pure (ps.zip us)):Binds K fd ps []:=by
  obtain ⟨oc,od,kV,doc,pm,an,cdv,ct,osl,rfl,lk,hcd⟩:=F.ex
  exact .all (h kV doc pm an cdv ct)
theorem fun_mk {x qual:Str} {st:Stmt} {f:Addr} {oc:Value} {od an:Option Addr} {osl:Array (Option Value)} {kV doc pm cdv ct:Value} (l:K.lookup f = some ⟨oc,od,.func (PySem.W.fnOf x qual (defArgs st) (defBody st) (defScope st) .none kV doc pm an cdv ct),osl⟩)
    (c:PySem.W.codeIn K cdv qual = true) (k:PySem.W.keepIn K (.ref f) = true):Fun K x qual st f (PySem.W.fnOf x qual (defArgs st) (defBody st) (defScope st) .none kV doc pm an cdv ct):=⟨⟨oc,od,kV,doc,pm,an,cdv,ct,osl,rfl,l,c⟩,k⟩
end
theorem hu_of {A:Around} {k:Nat} (hr:Room k A):A.units + 1 < cLine:=Nat.lt_of_le_of_lt (Nat.add_le_add_left (by decide:1 ≤ 64) _) hr.units
theorem small1000 {n:Nat} (h:n ≤ 1000):n < sizeLine:=Nat.lt_of_le_of_lt h (by decide)
section
variable {X:Cx}
theorem pv (i:Nat) {x:Str} {pos:Pos} (hN:X.N[i]? = some x:=by rfl) (hv:Vis X.env.scope x:=by first | exact Or.inl rfl | exact Or.inr (Or.inl rfl) | exact Or.inr (Or.inr rfl)) (hd:(x == ("__debug__" : Str)) = false:=by decide)
    (hcd:(x == ("__classdict__" : Str)) = false:=by decide):PE X (.Name x pos) (tVar i):=pe_var hN hv hd hcd
end
theorem iteF {A B:Prop} (h:B):if false = true then A else B:=by
  rw [if_neg Bool.false_ne_true]
  exact h
theorem iteT {A B:Prop} (h:A):if true = true then A else B:=by
  rw [if_pos rfl]
  exact h
def Same (H H':Hp):Prop:=∀ b o,H b = some o → H' b = some o
theorem Same.refl (H:Hp):Same H H:=fun _ _ h=>h
theorem Same.trans {H H1 H2:Hp} (a:Same H H1) (b:Same H1 H2):Same H H2:=fun c o h=>b c o (a c o h)
theorem Same.free {H H':Hp} (e:Same H H') {l:Addr} (h:H' l = Option.none):H l = Option.none:=by
  cases q:H l with
  | none=>rfl
  | some o =>
    rw [e l o q] at h
    cases h
theorem Same.seq {K:PySem.W.Frag} {H H':Hp} {a:Addr} {xs:List V} (e:Same H H') (h:SqL K H a xs):SqL K H' a xs:=by
  rcases h with (h | ⟨o,h⟩) | h
  · exact .inl (.inl (e _ _ h))
  · exact .inl (.inr ⟨o,e _ _ h⟩)
  · exact .inr h
end L2
set_option Elab.async false
set_option linter.all false
set_option maxRecDepth 100000
namespace L2
open PySem PySem.Spec PyProof.Rows
def captS (cp:List (Option Nat)) (σ:St):St:=cp.map fun o=>match o with
  | none=>none
  | some j=>(σ[j]?).getD none
structure CompSc (esc sc:Scope) (XN N:List Str) (cp:List (Option Nat)):Prop where
  kind:sc.kind = .function
  nocell:∀ y ∈ sc.names,y.2 ≠ .cell
  names:∀ y ∈ sc.names,y.2 = .local → sc.names.lookup y.1 = some .local
  free:∀ y ∈ sc.names,y.2 = .free → esc.names.lookup y.1 = some .cell ∨ esc.names.lookup y.1 = some .free
  len:cp.length = N.length
  nd:N.Nodup
  cap:((N.zip cp).all fun p=>match p.2 with
    | none=>true
    | some j=>decide (XN[j]? = some p.1) && decide (sc.names.lookup p.1 = some .free)) = true
theorem CompSc.capt {esc sc:Scope} {XN N:List Str} {cp:List (Option Nat)} (S:CompSc esc sc XN N cp) {i j:Nat} {x:Str} (hN:N[i]? = some x) (hc:cp[i]? = some (some j)) :
    XN[j]? = some x ∧ sc.names.lookup x = some .free:=by
  have hm:(x,some j) ∈ N.zip cp:=by
    have e:(N.zip cp)[i]? = some (x,some j):=by
      rw [List.getElem?_zip_eq_some]
      exact ⟨hN,hc⟩
    exact List.mem_of_getElem? e
  have q:=List.all_eq_true.mp S.cap _ hm
  simp only [Bool.and_eq_true,decide_eq_true_eq] at q
  exact q
theorem captS_get {cp:List (Option Nat)} {σ:St} {i:Nat} {v:V} (h:(captS cp σ)[i]? = some (some v)):∃ j,cp[i]? = some (some j) ∧ σ[j]? = some (some v):=by
  unfold captS at h
  rw [List.getElem?_map] at h
  cases e:cp[i]? with
  | none=>rw [e] at h; cases h
  | some o =>
    rw [e] at h
    cases o with
    | none=>cases h
    | some j =>
      refine ⟨j,rfl,?_⟩
      simp only [Option.map_some,Option.some.injEq] at h
      cases e2:σ[j]? with
      | none=>rw [e2] at h; cases h
      | some w=>rw [e2] at h; simpa using h
theorem forIn_yield_fold {α β:Type} {f:α → β → Sem (ForInStep β)} (k:α → β → β):∀ (l:List α) (c:β),(∀ x ∈ l,∀ c,f x c = pure (.yield (k x c))) → forIn l c f = (pure (l.foldl (fun c x=>k x c) c):Sem β)
  | [],c,_=>rfl
  | x :: l,c,h=>by
    rw [List.forIn_cons,h x List.mem_cons_self c]
    show forIn l (k x c) f = _
    exact forIn_yield_fold k l (k x c) fun y hy c=>h y (List.mem_cons_of_mem _ hy) c
structure ClOk (env:Env) (sc:Scope) (cl:List (Str × Addr)):Prop where
  clos:closureFor sc env = pure cl
  sub:∀ x c,cl.lookup x = some c → env.cells.lookup x = some c
  has:∀ y ∈ sc.names,y.2 = .free → ∃ c,cl.lookup y.1 = some c
theorem closure_ok {env:Env} {sc:Scope} (h:∀ y ∈ sc.names,y.2 = .free → ∃ c,env.cells.lookup y.1 = some c):∃ cl,ClOk env sc cl:=by
  let k:Str × NameKind → List (Str × Addr) → List (Str × Addr):=fun y c=>if y.2 = .free then (y.1,(env.cells.lookup y.1).getD 0) :: c else c
  have e:closureFor sc env = pure (sc.names.foldl (fun c x=>k x c) []):=by
    simp only [closureFor]
    rw [forIn_yield_fold k sc.names [] (fun x hx c=>by
      obtain ⟨n,kd⟩:=x
      by_cases hk:kd = .free
      · subst hk
        obtain ⟨a,ha⟩:=h _ hx rfl
        have hca:cellOf env n = pure a:=by unfold cellOf; rw [show env.cells.lookup n = some a from ha]
        have hkk:k (n,NameKind.free) c = (n,a) :: c:=by
          show (if NameKind.free = .free then (n,(env.cells.lookup n).getD 0) :: c else c) = _
          rw [if_pos rfl,show env.cells.lookup n = some a from ha]; rfl
        rw [hkk]
        simp only [beq_self_eq_true,if_true,hca]
        rfl
      · have hb:(kd == NameKind.free) = false:=by simpa using hk
        have hkk:k (n,kd) c = c:=by
          show (if kd = .free then _ else c) = _
          rw [if_neg hk]
        rw [hkk]
        simp only [hb,Bool.false_eq_true,if_false])]
    rfl
  have go:∀ (l:List (Str × NameKind)) (acc:List (Str × Addr)),(∀ y ∈ l,y.2 = .free → ∃ c,env.cells.lookup y.1 = some c) → (∀ x c,acc.lookup x = some c → env.cells.lookup x = some c) →
      (∀ x c,(l.foldl (fun c x=>k x c) acc).lookup x = some c → env.cells.lookup x = some c) ∧ (∀ y ∈ l,y.2 = .free → ∃ c,(l.foldl (fun c x=>k x c) acc).lookup y.1 = some c) ∧
      ∀ x c,acc.lookup x = some c → ∃ c,(l.foldl (fun c x=>k x c) acc).lookup x = some c:=by
    intro l
    induction l with
    | nil=>intro acc _ h2; exact ⟨h2,fun y hy=>(nomatch hy),fun x c e=>⟨c,e⟩⟩
    | cons y l ih =>
      intro acc h1 h2
      have h1':∀ z ∈ l,z.2 = .free → ∃ c,env.cells.lookup z.1 = some c:=fun z hz=>h1 z (List.mem_cons_of_mem _ hz)
      by_cases hk:y.2 = .free
      · obtain ⟨a,ha⟩:=h1 y List.mem_cons_self hk
        have ek:k y acc = (y.1,a) :: acc:=by show (if y.2 = .free then _ else _) = _; rw [if_pos hk,ha]; rfl
        have h2':∀ x c,((y.1,a) :: acc).lookup x = some c → env.cells.lookup x = some c:=fun x c e=>by
          rw [List.lookup_cons] at e
          cases hx:x == y.1 with
          | true=>rw [hx] at e; cases e; rw [eq_of_beq hx]; exact ha
          | false=>rw [hx] at e; exact h2 x c e
        obtain ⟨p,q,r⟩:=ih ((y.1,a) :: acc) h1' h2'
        rw [List.foldl_cons,ek]
        refine ⟨p,fun z hz hf=>?_,fun x c e=>?_⟩
        · rcases List.mem_cons.mp hz with e | hz
          · subst e; exact r z.1 a (by simp [List.lookup_cons])
          · exact q z hz hf
        · cases hx:x == y.1 with
          | true=>exact r x a (by simp [List.lookup_cons,hx])
          | false=>exact r x c (by simp [List.lookup_cons,hx,e])
      · have ek:k y acc = acc:=by show (if y.2 = .free then _ else _) = _; rw [if_neg hk]
        obtain ⟨p,q,r⟩:=ih acc h1' h2
        rw [List.foldl_cons,ek]
        refine ⟨p,fun z hz hf=>?_,r⟩
        rcases List.mem_cons.mp hz with e | hz
        · subst e; exact absurd hf hk
        · exact q z hz hf
  obtain ⟨p,q,_⟩:=go sc.names [] h (fun x c e=>by cases e)
  exact ⟨_,e,p,q⟩
theorem relabel_free {env:Env}:∀ {names:List (Str × NameKind)} {x:Str},names.lookup x = some .free →
    ((names.map fun (n,k)=>if (k == NameKind.free && env.scope.kind == .function && env.kindOf n == some .cell) then (n,NameKind.cell) else (n,k)).lookup x = some .cell ∨
     (names.map fun (n,k)=>if (k == NameKind.free && env.scope.kind == .function && env.kindOf n == some .cell) then (n,NameKind.cell) else (n,k)).lookup x = some .free)
  | [],_,h=>by simp at h
  | (n,k) :: r,x,h=>by
    have ih:=@relabel_free env r x
    show List.lookup x ((if (k == NameKind.free && env.scope.kind == .function && env.kindOf n == some .cell) = true then (n,NameKind.cell) else (n,k)) :: _) = _ ∨ List.lookup x ((if (k == NameKind.free && env.scope.kind == .function && env.kindOf n == some .cell) = true then (n,NameKind.cell) else (n,k)) :: _) = _
    cases hx:x == n with
    | true =>
      simp only [List.lookup_cons,hx] at h
      cases h
      by_cases hc:(NameKind.free == NameKind.free && env.scope.kind == .function && env.kindOf n == some .cell) = true
      · rw [if_pos hc]; left; simp [List.lookup_cons,hx]
      · rw [if_neg hc]; right; simp [List.lookup_cons,hx]
    | false =>
      simp only [List.lookup_cons,hx] at h
      by_cases hc:(k == NameKind.free && env.scope.kind == .function && env.kindOf n == some .cell) = true
      · rw [if_pos hc]; simp only [List.lookup_cons,hx]; exact ih h
      · rw [if_neg hc]; simp only [List.lookup_cons,hx]; exact ih h
theorem relabel_inv {env:Env} {names:List (Str × NameKind)} {x:Str} (hn:∀ y ∈ names,y.2 ≠ .cell)
    (h:(names.map fun (n,k)=>if (k == NameKind.free && env.scope.kind == .function && env.kindOf n == some .cell) then (n,NameKind.cell) else (n,k)).lookup x = some .cell ∨
     (names.map fun (n,k)=>if (k == NameKind.free && env.scope.kind == .function && env.kindOf n == some .cell) then (n,NameKind.cell) else (n,k)).lookup x = some .free):∃ y ∈ names,y.1 = x ∧ y.2 = .free:=by
  have hm:∃ kd,(kd = .cell ∨ kd = .free) ∧ (x,kd) ∈ (names.map fun (n,k)=>if (k == NameKind.free && env.scope.kind == .function && env.kindOf n == some .cell) then (n,NameKind.cell) else (n,k)):=by
    rcases h with h | h
    · exact ⟨_,.inl rfl,PySem.mem_of_lookup h⟩
    · exact ⟨_,.inr rfl,PySem.mem_of_lookup h⟩
  obtain ⟨kd,hk,hm⟩:=hm
  obtain ⟨⟨n,k⟩,hy,e⟩:=List.mem_map.mp hm
  have e':(if (k == NameKind.free && env.scope.kind == .function && env.kindOf n == some .cell) = true then (n,NameKind.cell) else (n,k)) = (x,kd):=e
  by_cases hc:(k == NameKind.free && env.scope.kind == .function && env.kindOf n == some .cell) = true
  · rw [if_pos hc] at e'
    cases e'
    simp only [Bool.and_eq_true,beq_iff_eq] at hc
    exact ⟨_,hy,rfl,hc.1.1⟩
  · rw [if_neg hc] at e'
    cases e'
    rcases hk with z | z
    · exact absurd z (hn _ hy)
    · exact ⟨_,hy,rfl,z⟩
structure CompPt where
  cl:List (Str × Addr)
  C:Addr
  D:Addr
  s:Shared
  H:Hp
  fp:List Addr
  pins:List (Addr × Obj)
abbrev cxC (X:Cx) (sc:Scope) (N:List Str) (z:CompPt):Cx :=
  { X with N:=N,s₀:=z.s,H₀:=z.H,env:=compEnvC sc z.cl z.C X.env,outer:=X.stack,ex:=z.D :: z.fp,fn:=fun _=>false,pn:=X.pn ++ z.pins,xe:=fun _ _=>False }
def Sets (g:TG) (Sg:List Nat):Prop:=∀ v σ H Q,g v σ H Q → g v σ H fun σ2 H2=>Q σ2 H2 ∧ σ2.length = σ.length ∧ ∀ i,i ∉ Sg → σ2[i]? = σ[i]?
theorem sets_name (k:Nat):Sets (gName k) [k]:=fun v σ H Q h=>⟨h,by simp,fun i hi=>by
  rw [List.getElem?_set_ne]
  intro e; exact hi (by simp [e])⟩
theorem sets_two (K:PySem.W.Frag) (n k l:Nat):Sets (gTup K n (gCons (gName k) (gCons (gName l) gNil))) [k,l]:=by
  intro v σ H Q h
  obtain ⟨a,xs,e,hq,hn,v1,r1,e1,v2,r2,e2,e3,q⟩:=h
  refine ⟨a,xs,e,hq,hn,v1,r1,e1,v2,r2,e2,e3,q,by simp,fun i hi=>?_⟩
  rw [List.getElem?_set_ne,List.getElem?_set_ne]
  · intro e; exact hi (by simp [e])
  · intro e; exact hi (by simp [e])
def PIf (X:Cx) (ifs:List Expr) (t:TT):Prop :=
  ∀ (pins:List (Addr × Obj)) (s:Shared) (σ:St) (H:Hp) (Q:Bool → Hp → Prop),Inv X pins σ H s → t σ H Q →
    wpAny (model X.prog X.w) X.A (forIn ifs true fun c r=>if r = true then do let ok ← isTrue c X.env (eval c X.env); pure (ForInStep.yield ok) else pure (ForInStep.yield r)) (TP X pins σ Q) X.xe s
def tYes:TT:=fun _ H Q=>Q true H
theorem pif_nil {X:Cx}:PIf X [] tYes:=fun _ _ _ H _ I h=>wpAny_tests_nil ⟨H,I,h⟩
theorem pif_one {X:Cx} {c:Expr} {t:TT} (h:PT X c t):PIf X [c] t:=fun pins s σ H Q I hw=>wpAny_tests_one (h pins s σ H Q I hw)
section
variable {prog:Program} {w:World} {A:Around} {R:Result → Shared → Prop} {s:Shared}
theorem codeAny_compLoop_own {elt target iter:Expr} {ifs:List Expr} {scope:Scope} {pos:Pos} {it acc:Value} {env:Env} (I:Nat → Shared → Prop)
    (turn:∀ n s,I n s → wpAny (model prog w) A (pyNext it) (fun r s₁=>match r with
      | none=>R (.ok .next) s₁
      | some v=>wpAny (model prog w) A (letOwnedTupleGo target it v) (fun _ s₁'=>wpAny (model prog w) A (assign target env v) (fun _ s₂ =>
          wpAny (model prog w) A (forIn ifs true fun c r=>if r = true then do let ok ← isTrue c env (eval c env); pure (ForInStep.yield ok) else pure (ForInStep.yield r)) (fun ok s₃ =>
            if ok = true then wpAny (model prog w) A (eval elt env) (fun x s₄ =>
              wpAny (model prog w) A (call (.builtin "list.append") [acc,x]) (fun _ s₅=>∃ m,m < n ∧ I m s₅) (fun _ _=>False) s₄) (fun _ _=>False) s₃
            else ∃ m,m < n ∧ I m s₃) (fun _ _=>False) s₂) (fun _ _=>False) s₁') (fun _ _=>False) s₁) (fun _ _=>False) s)
    (n:Nat) (h:I n s) :
    codeAny (model prog w) A (.compLoop (.ListComp elt [⟨target,iter,ifs,0⟩] scope pos) 0 it acc env) R s:=by
  refine codeAny_loop rfl I (fun n s hI=>?_) n h
  show wpAny _ A ((compTurn (.ListComp elt [⟨target,iter,ifs,0⟩] scope pos) 0 it acc env).onRaise (fun x=>do noteFrame x env; theTreesLotGoes x)) _ _ s
  refine wpAny_noted ?_
  rw [compTurn_list]
  refine wpAny_bind (wpAny_standAt (wpAny_bind (wpAny_mono (turn n s hI) (fun r s₁ h₁=>?_) fun _ _ h'=>h'.elim)))
  cases r with
  | none=>exact wpAny_pure h₁
  | some v =>
    refine wpAny_bind (wpAny_mono h₁ (fun _ s₁' h₁'=>?_) fun _ _ h'=>h'.elim)
    refine wpAny_bind (wpAny_mono h₁' (fun _ s₂ h₂=>wpAny_bind (wpAny_mono h₂ (fun ok s₃ h₃=>?_) fun _ _ h'=>h'.elim)) fun _ _ h'=>h'.elim)
    cases ok with
    | false=>exact wpAny_pure ⟨rfl,h₃⟩
    | true =>
      exact wpAny_bind (wpAny_bind (wpAny_mono h₃ (fun x s₄ h₄=>wpAny_bind (wpAny_mono h₄ (fun _ s₅ h₅=>wpAny_pure (wpAny_pure ⟨rfl,h₅⟩)) fun _ _ h'=>h'.elim)) fun _ _ h'=>h'.elim))
end
end L2
set_option Elab.async false
set_option linter.all false
set_option maxRecDepth 100000
namespace L2
open PySem PySem.Spec PyProof.Rows
def accObj (its:List Value) (n:Nat):Obj:={ cls:=.type "list", data:=.seq its.toArray n }
theorem comp_start {X:Cx} {sc:Scope} {N:List Str} {cp:List (Option Nat)} {pins:List (Addr × Obj)} {σ:St} {H:Hp} {s:Shared} {fp:List Addr} {cl:List (Str × Addr)} {h4:Heap} {tk:Nat} {m:Str → Option Value}
    (S:CompSc X.env.scope sc X.N N cp) (I:Inv X pins σ H s) (hf:∀ b ∈ fp,FpOk X pins H b) (hfo:∀ b ∈ fp,∃ o,s.heap.get? b = some o) (K:ClOk X.env sc cl)
    (hns:h4.Ns (s.heap.objs.size + 1) m) (hsb:∀ b o,b ≠ s.heap.objs.size + 1 → (s.heap.push (accObj [] 0)).get? b = some o → h4.get? b = some o) :
    Inv (cxC X sc N ⟨cl,s.heap.objs.size + 1,s.heap.objs.size,{ s with heap:=s.heap.push (accObj [] 0) },H,fp,pins⟩) [(s.heap.objs.size,accObj [] 0)] (captS cp σ) H { s with heap:=h4,toks:=tk }:=by
  have I3:Inv X pins σ H { s with heap:=s.heap.push (accObj [] 0) }:=I.kept (t':=s.toks) fun b o e=>Heap.get?_push_of_some _ e
  have up:∀ b o,(s.heap.push (accObj [] 0)).get? b = some o → b < s.heap.objs.size + 1:=fun b o e=>by
    have:=Heap.lt_size e
    rwa [Heap.size_push] at this
  have old:∀ b o,(s.heap.push (accObj [] 0)).get? b = some o → h4.get? b = some o:=fun b o e=>hsb b o (Nat.ne_of_lt (up b o e)) e
  have cells:∀ x c,X.env.cells.lookup x = some c → c < s.heap.objs.size:=fun x c e=>by
    obtain ⟨v,q⟩:=I.cell x c e
    exact q.lt
  have ok:(cxC X sc N ⟨cl,s.heap.objs.size + 1,s.heap.objs.size,{ s with heap:=s.heap.push (accObj [] 0) },H,fp,pins⟩).Ok:=by
    refine ⟨I3.ok.mod,S.kind,I3.ok.glob,I3.ok.blt,by show (s.heap.push (accObj [] 0)).objs.size ≤ _; rw [Heap.size_push]; exact Nat.le_refl _,fun x y c h1 h2=>I3.ok.inj x y c (K.sub x c h1) (K.sub y c h2),fun x hx=>?_,fun x c h1 _=>(by cases h1),I3.ok.hd,I3.ok.frames,.inl rfl,
      fun b hb=>?_,I3.bs,Nat.le_trans I3.ok.bsz I3.sz,fun b o e hb=>?_,fun b hb hs=>?_,I3.stack,I3.stkFree⟩
    · obtain ⟨y,hy,e,hf⟩:=relabel_inv S.nocell hx
      obtain ⟨c,hc⟩:=K.has y hy hf
      exact ⟨c,by rw [← e]; exact hc⟩
    · have hb':b = s.heap.objs.size ∨ b ∈ fp:=by simpa using hb
      rcases hb' with rfl | hb'
      · exact ⟨Nat.ne_of_lt (Nat.lt_succ_self _),fun x c e=>Nat.ne_of_lt (cells x c (K.sub x c e))⟩
      · obtain ⟨o,e⟩:=hfo b hb'
        exact ⟨Nat.ne_of_lt (Nat.lt_succ_of_lt (Heap.lt_size e)),fun x c e=>(hf b hb').2.2.2.2.1 x c (K.sub x c e)⟩
    · have hb':b = s.heap.objs.size ∨ b ∈ fp:=by simpa using hb
      rcases hb' with rfl | hb'
      · exact absurd (Heap.lt_size (I.bk _ _ e)) (Nat.lt_irrefl _)
      · rcases (hf b hb').2.2.2.1 with z | z
        · exact I.ok.noex b o e z
        · exact absurd (Nat.lt_of_lt_of_le (Heap.lt_size e) (Nat.le_trans I.ok.bsz z)) (Nat.lt_irrefl _)
    · have hb':b = s.heap.objs.size ∨ b ∈ fp:=by simpa using hb
      have hs':=I.stkSub b hs
      rcases hb' with rfl | hb'
      · rcases List.mem_cons.mp hs' with z | z
        · exact absurd I.lt (by rw [← z]; exact Nat.lt_irrefl _)
        · exact I.nofs (Nat.le_refl _) z
      · rcases List.mem_cons.mp hs' with z | z
        · exact (hf b hb').2.1 z
        · exact (hf b hb').2.2.1 z
  have stk:∀ b,b ≠ X.env.locals → b ∉ X.fs → b ∉ frs X.stack:=fun b h1 h2 h3=>by
    rcases List.mem_cons.mp (I.stkSub b h3) with z | z
    · exact h1 z
    · exact h2 z
  refine ⟨ok,rfl,I3.bare,Un.kept old,⟨m,hns,fun i x v h1 h2 h3=>?_⟩,fun x c e=>?_,?_,fun x c e=>I3.freeC x c (K.sub x c e),fun p hp=>?_,I3.hok.kept old,?_⟩
  · obtain ⟨j,hj,hσ⟩:=captS_get h2
    obtain ⟨hXN,hfr⟩:=S.capt h1 hj
    have hXk:=S.free (x,.free) (PySem.mem_of_lookup hfr) rfl
    obtain ⟨mX,hnX,hlX⟩:=I3.loc
    obtain ⟨u,r,l⟩:=hlX j x v hXN hσ (by rcases hXk with z | z; exact .inr (.inl z); exact .inr (.inr z))
    refine ⟨u,r,.inr ⟨relabel_free hfr,?_⟩⟩
    obtain ⟨c',hc'⟩:=K.has (x,.free) (PySem.mem_of_lookup hfr) rfl
    rcases l with ⟨k,_⟩ | ⟨_,c,e,z⟩
    · have k':X.env.scope.names.lookup x = some .local:=k
      rcases hXk with q | q <;> (rw [show X.env.scope.names.lookup x = _ from q] at k'; cases k')
    · have e2:=K.sub x c' hc'
      have ec:c = c':=by
        rw [e] at e2
        exact Option.some.inj e2
      exact ⟨c',hc',by rw [← ec]; exact z.keeps old⟩
  · obtain ⟨v,q⟩:=I3.cell x c (K.sub x c e)
    exact ⟨v,q.keeps old⟩
  · exact I.hok.fresh (Nat.le_succ _)
  · rcases List.mem_append.mp hp with z | z
    · obtain ⟨e,n,ne,nf,d⟩:=I3.pin p z
      exact ⟨old _ _ e,n,Nat.ne_of_lt (up _ _ e),stk _ ne nf,d⟩
    · have e:p = (s.heap.objs.size,accObj [] 0):=by simpa using z
      subst e
      refine ⟨old _ _ (Heap.get?_push_size _ rfl),I.hok.fresh (Nat.le_refl _),Nat.ne_of_lt (Nat.lt_succ_self _),stk _ (Nat.ne_of_gt I.lt) (I.nofs (Nat.le_refl _)),fun v q=>?_⟩
      have q':Data.seq _ _ = Data.cell v:=q
      cases q'
  · show (cp.map _).length = N.length
    rw [List.length_map]
    exact S.len
theorem comp_end {X:Cx} {sc:Scope} {N:List Str} {pins pins':List (Addr × Obj)} {σ σ':St} {H H5:Hp} {s s5:Shared} {fp:List Addr} {cl:List (Str × Addr)} {ys:List V} {its:List Value} {n:Nat}
    (I:Inv X pins σ H s) (hf:∀ b ∈ fp,FpOk X pins H b)
    (I5:Inv (cxC X sc N ⟨cl,s.heap.objs.size + 1,s.heap.objs.size,{ s with heap:=s.heap.push (accObj [] 0) },H,fp,pins⟩) pins' σ' H5 s5)
    (hD:s5.heap.get? s.heap.objs.size = some (accObj its n)) (hn:H5 s.heap.objs.size = none) (rv:Vals ys its) (hz:ys.length ≤ sizeLine) :
    Inv X pins σ (upd H5 s.heap.objs.size (.lst ys)) s5 ∧ FpOk X pins (upd H5 s.heap.objs.size (.lst ys)) (s.heap.objs.size + 1):=by
  have hH:H s.heap.objs.size = none:=I.hok.fresh (Nat.le_refl _)
  have lt:∀ b o,s.heap.get? b = some o → b ≠ s.heap.objs.size:=fun b o e=>Nat.ne_of_lt (Heap.lt_size e)
  have psh:∀ b o,s.heap.get? b = some o → (s.heap.push (accObj [] 0)).get? b = some o:=fun b o e=>Heap.get?_push_of_some _ e
  have nx:∀ b o,s.heap.get? b = some o → b ∉ fp → b ∉ s.heap.objs.size :: fp:=fun b o e h1 h2=>by
    rcases List.mem_cons.mp h2 with z | z
    · exact lt b o e z
    · exact h1 z
  have hU:Un (frs X.stack) fp H (upd H5 s.heap.objs.size (.lst ys)) s.heap s5.heap:=by
    have U:=I5.base
    refine ⟨fun b o e n1 hb hx=>U.keep b o (psh b o e) n1 hb (nx b o e hx),fun b o e n1 hb hx=>U.slot b o (psh b o e) n1 hb (nx b o e hx),fun b o e n1 hx=>?_,fun b o e hx=>U.there b o (psh b o e) (nx b o e hx),
      fun b xs e=>?_,fun b o u e=>?_,fun b ps e=>?_⟩
    · rw [upd_ne (lt b o e)]; exact U.free b o (psh b o e) n1 (nx b o e hx)
    · rw [upd_ne (ne_of_none e hH)]; exact U.tups b xs e
    · rw [upd_ne (ne_of_none e hH)]; exact U.frzs b o u e
    · rw [upd_ne (ne_of_none e hH)]; exact U.tbls b ps e
  have hok:HOk X.prog X.w (upd H5 s.heap.objs.size (.lst ys)) s5.heap:=fun b u q=>by
    by_cases hb:b = s.heap.objs.size
    · subst hb
      rw [upd_same] at q
      cases q
      exact ⟨hz,its,n,rv,hD⟩
    · rw [upd_ne hb] at q
      refine ObjOk.stay (I5.hok b u q) (fun c v _ q=>q) (fun c q=>?_) fun c xs q=>?_
      · rw [upd_ne (ne_of_none q hn)]; exact q
      · rw [upd_ne (ne_of_none q hn)]; exact q
  refine ⟨I.call' (ch:=fp) (show s5.os = s.os from I5.os) hU hok I5.bare fun b hb=>?_,I.fpOk (Nat.le_succ _) ?_⟩
  · obtain ⟨_,f1,_,f3,f4,f5⟩:=hf b hb
    exact ⟨f3,f1,f4,f5⟩
  · rw [upd_ne (Nat.ne_of_gt (Nat.lt_succ_self _))]
    exact I5.free
theorem comp_run {X:Cx} {sc:Scope} {N:List Str} {cp:List (Option Nat)} {tg iter elt:Expr} {ifs:List Expr} {pos:Pos} {g:TG} {tif:TT} {te:TE} {Sg:List Nat}
    (S:CompSc X.env.scope sc X.N N cp) (hc:X.calm = true) (hg:∀ z,PG (cxC X sc N z) tg g) (hset:Sets g Sg) (hloc:∀ k ∈ Sg,cp[k]? = some none)
    (hif:∀ z,PIf (cxC X sc N z) ifs tif) (he:∀ z,PE (cxC X sc N z) elt te)
    {pins:List (Addr × Obj)} {σ:St} {H:Hp} {s:Shared} {it:Addr} {fp:List Addr} {tn:Nat → Heap → Prop} {J:It} {cl:List (Str × Addr)} (I:Inv X pins σ H s) (T:Turn X.prog X.w X.K tg J fp it tn) (st:tn 0 s.heap) (hf:∀ b ∈ fp,FpOk X pins H b)
    (K:ClOk X.env sc cl) {W:Nat → Nat → List V → Hp → Prop} {F:List V → Hp → Prop} {m0:Nat} (w0:W 0 m0 [] H)
    (turn:∀ i m ys H,W i m ys H → (J.stop i H ∧ ys.length ≤ sizeLine ∧ F ys H) ∨ (J.go i H ∧ ys.length ≤ sizeLine ∧ ∃ (N1:V → Hp → Prop) (N0:Hp → Prop),(∀ y H',N1 y H' → ∃ m',m' < m ∧ W (i + 1) m' (ys ++ [y]) H') ∧ (∀ H',N0 H' → ∃ m',m' < m ∧ W (i + 1) m' ys H') ∧ ∀ x H',J.yld i H x H' → g x (captS cp σ) H' fun σ2 H2=>tif σ2 H2 fun b H3=>if b = true then te σ2 H3 N1 else N0 H3))
    {RR:Value → Addr → Result → Shared → Prop} {E:Value → Shared → Prop}
    (fin:∀ D C s5 ys H5,H5 D = none → F ys H5 → Inv X pins σ (upd H5 D (.lst ys)) s5 → (∃ m,s5.heap.Ns C m) → FpOk X pins (upd H5 D (.lst ys)) C → RR (.ref D) C (.ok .next) s5) :
    wpAny (model X.prog X.w) X.A (newList []) (fun acc s₃=>wpAny (model X.prog X.w) X.A (newFunctionEnv sc X.env.globals cl [] X.env.qual none .none (some X.env)) (fun cenv s₄ =>
      codeAny (model X.prog X.w) X.A (.compStart (.ListComp elt [⟨tg,iter,ifs,0⟩] sc pos) 0 (.ref it) acc { cenv with scope:=relabel sc X.env }) (RR acc cenv.locals) s₄) E s₃) E s:=by
  have hfo:∀ b ∈ fp,∃ o,s.heap.get? b = some o:=fun b hb=>by obtain ⟨o,e,_⟩:=T.obj 0 _ st b hb; exact ⟨o,e⟩
  refine wpAny_newObj_type (wpAny_newFunctionEnv S.nocell (by intro y hy; simp at hy) (fun h4 hns hsb=>?_) S.kind)
  have hns':h4.Ns (s.heap.objs.size + 1) (fun x=>([]:List (Str × Value)).reverse.lookup x):=by
    have z:=hns
    rw [show (s.heap.push { cls:=.type "list", dict:=none,data:=.seq ([]:List Value).toArray }).objs.size = s.heap.objs.size + 1 from Heap.size_push ..] at z
    exact z
  have hC:(s.heap.push (accObj [] 0)).objs.size = s.heap.objs.size + 1:=Heap.size_push ..
  have hsb':∀ b o,b ≠ s.heap.objs.size + 1 → (s.heap.push (accObj [] 0)).get? b = some o → h4.get? b = some o:=fun b o hb e =>
    hsb.extBut b o (by show b ≠ (s.heap.push (accObj [] 0)).objs.size; rw [hC]; exact hb) (Heap.get?_push_of_some _ e)
  have I4:=comp_start (tk:=s.toks + ([]:List (Str × Value)).length) S I hf hfo K hns' hsb'
  have loop:∀ it',it' = Value.ref it →
      codeAny (model X.prog X.w) X.A (.compLoop (.ListComp elt [⟨tg,iter,ifs,0⟩] sc pos) 0 it' (.ref s.heap.objs.size) (compEnvC sc cl (s.heap.objs.size + 1) X.env)) (RR (.ref s.heap.objs.size) (s.heap.objs.size + 1))
        { s with heap:=h4,toks:=s.toks + ([]:List (Str × Value)).length }:=by
    rintro _ rfl
    refine codeAny_compLoop_own (fun k s'=>∃ i ys its n H',Inv (cxC X sc N ⟨cl,s.heap.objs.size + 1,s.heap.objs.size,{ s with heap:=s.heap.push (accObj [] 0) },H,fp,pins⟩) [(s.heap.objs.size,accObj its n)] (captS cp σ) H' s' ∧
      Vals ys its ∧ tn i s'.heap ∧ (∀ b ∈ fp,H' b = none) ∧ W i k ys H') ?_ m0 ⟨0,[],[],0,H,I4,.nil,T.keep _ _ _ st fun b hb o e=>?_,fun b hb=>(hf b hb).1,w0⟩
    · rintro k s1 ⟨i,ys,its,n,H1,I1,rv,st1,fr1,w1⟩
      have fpY:∀ {H':Hp} {p:List (Addr × Obj)},(∀ b ∈ fp,H' b = none) → (∀ q ∈ p,q.1 = s.heap.objs.size) → ∀ b ∈ fp,FpOk (cxC X sc N ⟨cl,s.heap.objs.size + 1,s.heap.objs.size,{ s with heap:=s.heap.push (accObj [] 0) },H,fp,pins⟩) p H' b:=fun {H' p} hn hp b hb=>by
        obtain ⟨f0,f1,f2,f3,f4,f5⟩:=hf b hb
        obtain ⟨o,e⟩:=hfo b hb
        have hlt:=Heap.lt_size e
        refine ⟨hn b hb,Nat.ne_of_lt (Nat.lt_succ_of_lt hlt),fun z=>?_,.inl (List.mem_cons_of_mem _ hb),fun x c ec=>f4 x c (K.sub x c ec),fun q hq z=>?_⟩
        · rcases List.mem_cons.mp (I.stkSub b z) with z | z
          · exact f1 z
          · exact f2 z
        · rcases List.mem_append.mp hq with hq | hq
          · exact f5 q hq z
          · rw [hp q hq] at z
            rw [z] at hlt
            exact absurd hlt (Nat.lt_irrefl _)
      have pD:∀ {its':List Value} {n':Nat},∀ q ∈ [(s.heap.objs.size,accObj its' n')],q.1 = s.heap.objs.size:=fun {its' n'} q hq=>by
        have e:q = (s.heap.objs.size,accObj its' n'):=by simpa using hq
        rw [e]
      rcases turn i k ys H1 w1 with ⟨stop,hz,f⟩ | ⟨go,hz,N1,N0,hN1,hN0,step⟩
      · refine wpAny_mono (T.done (cxC X sc N ⟨cl,s.heap.objs.size + 1,s.heap.objs.size,{ s with heap:=s.heap.push (accObj [] 0) },H,fp,pins⟩) rfl rfl rfl hc i _ s1 _ H1 (fun _ _=>False) I1 (fpY fr1 pD) st1 stop) (fun r s2 ⟨hr,I2⟩=>?_) fun _ _ z=>z
        subst hr
        obtain ⟨e,nn,_⟩:=I2.pin (s.heap.objs.size,accObj its n) (List.mem_append_right _ (by simp))
        obtain ⟨IX,fC⟩:=comp_end I hf I2 e nn rv hz
        obtain ⟨mC,hC2,_⟩:=I2.loc
        exact fin _ _ s2 ys H1 nn f IX ⟨mC,hC2⟩ fC
      · refine wpAny_mono (T.item (cxC X sc N ⟨cl,s.heap.objs.size + 1,s.heap.objs.size,{ s with heap:=s.heap.push (accObj [] 0) },H,fp,pins⟩) rfl rfl rfl hc i _ s1 _ H1 (fun _ _=>False) I1 (fpY fr1 pD) st1 go) (fun r s2 ⟨u,hr,h2⟩=>?_) fun _ _ z=>z
        subst hr
        refine wpAny_mono h2 (fun _ s3 ⟨x,H3,I3,rx,y3,st3,fr3⟩=>?_) fun _ _ z=>z
        have I3':=I3.pinned (fpY fr3 pD) (T.obj _ _ st3)
        refine wpAny_mono (hg _ _ s3 _ H3 x u _ I3' rx (hset _ _ _ _ (step x H3 y3))) (fun _ s4 ⟨σ4,H4,I4',q4,len4,sm4⟩=>?_) fun _ _ z=>z
        refine wpAny_mono (hif _ _ s4 σ4 H4 _ I4' q4) (fun ok s5 ⟨H5,I5,q5⟩=>?_) fun _ _ z=>z
        have weak:∀ (j:Nat) v,(captS cp σ)[j]? = some (some v) → σ4[j]? = some (some v):=fun j v e=>by
          rw [sm4 j ?_]
          · exact e
          · intro hj
            obtain ⟨l,e1,_⟩:=captS_get e
            rw [hloc j hj] at e1
            cases e1
        cases ok with
        | false =>
          obtain ⟨m',hm,w5⟩:=hN0 _ q5
          show ∃ m,m < k ∧ _
          refine ⟨m',hm,i + 1,ys,its,n,H5,?_,rv,?_,fun b hb=>?_,w5⟩
          · exact (I5.unpinned).weak len4.symm weak
          · exact T.keep _ _ _ st3 fun b hb o e=>(I5.pin (b,o) (List.mem_append_right _ (List.mem_append_right _ (mem_pinsAt hb e)))).1
          · obtain ⟨o,e,d⟩:=T.obj _ _ st3 b hb
            exact (I5.pin (b,o) (List.mem_append_right _ (List.mem_append_right _ (mem_pinsAt hb e)))).2.1
        | true =>
          show wpAny _ _ (eval elt _) _ _ s5
          refine wpAny_mono (he _ _ s5 σ4 H5 _ I5 q5) (fun v s6 ⟨y,H6,I6,r6,q6⟩=>?_) fun _ _ z=>z
          obtain ⟨m',hm,w6⟩:=hN1 _ _ q6
          obtain ⟨eD,nD,_⟩:=I6.pin (s.heap.objs.size,accObj its n) (List.mem_append_right _ (List.mem_append_left _ (by simp)))
          refine wpAny_list_append_plain (items:=its.toArray) ⟨n,eD⟩ (fun h7 pl sb=>?_) (by rw [List.size_toArray,← rv.length]; exact hz)
          obtain ⟨n7,e7⟩:=pl
          have e7':h7.get? s.heap.objs.size = some (accObj (its ++ [v]) n7):=by
            rw [e7]
            show some _ = some _
            unfold accObj
            rw [show its.toArray.push v = (its ++ [v]).toArray by simp]
          have J0:Inv (cxC X sc N ⟨cl,s.heap.objs.size + 1,s.heap.objs.size,{ s with heap:=s.heap.push (accObj [] 0) },H,fp,pins⟩) [] σ4 H6 s6:=I6.pins_of fun p hp=>by cases hp
          have dY:s.heap.objs.size ≠ s.heap.objs.size + 1:=Nat.ne_of_lt (Nat.lt_succ_self _)
          have J1:Inv (cxC X sc N ⟨cl,s.heap.objs.size + 1,s.heap.objs.size,{ s with heap:=s.heap.push (accObj [] 0) },H,fp,pins⟩) [] σ4 H6 { s6 with heap:=h7 }:=by
            refine J0.turned (it:=s.heap.objs.size) (t':=s6.toks) (fun b o hb e=>(sb.2 b hb).trans e) nD dY (.inl List.mem_cons_self) (fun x c ec=>?_) (fun p hp=>?_)
            · obtain ⟨v',q⟩:=I.cell x c (K.sub x c ec)
              exact Nat.ne_of_lt q.lt
            · have hp':p ∈ X.pn ++ pins:=by simpa using hp
              exact Nat.ne_of_lt (Heap.lt_size (I.pin p hp').1)
          have J2:=J1.weak (σ':=captS cp σ) len4.symm weak
          refine ⟨m',hm,i + 1,ys ++ [y],its ++ [v],n7,H6,?_,rv.append (.cons r6 .nil),?_,fun b hb=>?_,w6⟩
          · refine J2.pins_of fun p hp=>?_
            have ep:p = (s.heap.objs.size,accObj (its ++ [v]) n7):=by simpa using hp
            subst ep
            obtain ⟨_,_,d1,d2,_⟩:=I6.pin (s.heap.objs.size,accObj its n) (List.mem_append_right _ (List.mem_append_left _ (by simp)))
            refine ⟨e7',nD,d1,d2,fun v' q=>?_⟩
            have q':Data.seq _ _ = Data.cell v':=q
            cases q'
          · refine T.keep _ _ _ st3 fun b hb o e=>?_
            have e6:=(I6.pin (b,o) (List.mem_append_right _ (List.mem_append_right _ (mem_pinsAt hb e)))).1
            obtain ⟨o',eo⟩:=hfo b hb
            exact (sb.2 b (Nat.ne_of_lt (Heap.lt_size eo))).trans e6
          · obtain ⟨o,e,d⟩:=T.obj _ _ st3 b hb
            exact (I6.pin (b,o) (List.mem_append_right _ (List.mem_append_right _ (mem_pinsAt hb e)))).2.1
    · obtain ⟨o',eo⟩:=hfo b hb
      exact hsb' b o (Nat.ne_of_lt (Nat.lt_succ_of_lt (Heap.lt_size eo))) (Heap.get?_push_of_some _ e)
  have st4:tn 0 h4:=T.keep _ _ _ st fun b hb o e=>hsb' b o (Nat.ne_of_lt (Nat.lt_succ_of_lt (Heap.lt_size e))) (Heap.get?_push_of_some _ e)
  have hCC:(s.heap.push { cls:=.type "list", dict:=none,data:=.seq ([]:List Value).toArray }).objs.size = s.heap.objs.size + 1:=Heap.size_push ..
  have goal:codeAny (model X.prog X.w) X.A (.compStart (.ListComp elt [⟨tg,iter,ifs,0⟩] sc pos) 0 (.ref it) (.ref s.heap.objs.size) (compEnvC sc cl (s.heap.objs.size + 1) X.env)) (RR (.ref s.heap.objs.size) (s.heap.objs.size + 1))
      { s with heap:=h4,toks:=s.toks + ([]:List (Str × Value)).length } :=
    codeAny_compStart_list (loop _ rfl) (T.self X.A 0 { s with heap:=h4,toks:=s.toks + ([]:List (Str × Value)).length } _ _ st4 (loop _ rfl))
  rw [← hCC] at goal
  exact goal
def tComp (wi:TI) (cp:List (Option Nat)) (g:TG) (tif:TT) (te:TE):TE:=fun σ H Q=>wi σ H fun J H1=>∃ W:Nat → Nat → List V → Hp → Prop,(∃ m,W 0 m [] H1) ∧ ∀ i m ys H,W i m ys H →
  (J.stop i H ∧ ys.length ≤ sizeLine ∧ ∀ p,H p = none → Q (.ref p) (upd H p (.lst ys))) ∨
  (J.go i H ∧ ys.length ≤ sizeLine ∧ ∃ (N1:V → Hp → Prop) (N0:Hp → Prop),(∀ y H',N1 y H' → ∃ m',m' < m ∧ W (i + 1) m' (ys ++ [y]) H') ∧ (∀ H',N0 H' → ∃ m',m' < m ∧ W (i + 1) m' ys H') ∧ ∀ x H',J.yld i H x H' → g x (captS cp σ) H' fun σ2 H2=>tif σ2 H2 fun b H3=>if b = true then te σ2 H3 N1 else N0 H3)
section
variable {X:Cx} {sc:Scope} {N:List Str} {cp:List (Option Nat)} {tg iter elt:Expr} {ifs:List Expr} {pos:Pos} {g:TG} {tif:TT} {te:TE} {wi:TI} {Sg:List Nat}
theorem Inv.clOk {pins:List (Addr × Obj)} {σ:St} {H:Hp} {s:Shared} (I:Inv X pins σ H s) (S:CompSc X.env.scope sc X.N N cp):∃ cl,ClOk X.env sc cl :=
  closure_ok fun y hy hf=>I.ok.has y.1 (S.free y hy hf)
theorem Inv.letGo {pins:List (Addr × Obj)} {σ:St} {H:Hp} {s:Shared} {C:Addr} {h':Heap} (I:Inv X pins σ H s) (f:FpOk X pins H C) (sb:Heap.SameBut C s.heap h'):Inv X pins σ H { s with heap:=h' }:=by
  obtain ⟨f0,f1,f2,f3,f4,f5⟩:=f
  exact I.turned (t':=s.toks) (fun b o hb e=>(sb.2 b hb).trans e) f0 f1 f3 f4 f5
theorem ps_setComp {i:Nat} {x:Str} {px spos:Pos} (hN:X.N.Nodup) (hx:X.N[i]? = some x) (hl:X.env.scope.names.lookup x = some .local) (S:CompSc X.env.scope sc X.N N cp) (hc:X.calm = true) (hi:PI X tg iter wi) (hg:∀ z,PG (cxC X sc N z) tg g) (hset:Sets g Sg) (hloc:∀ k ∈ Sg,cp[k]? = some none)
    (hif:∀ z,PIf (cxC X sc N z) ifs tif) (he:∀ z,PE (cxC X sc N z) elt te)
    (hsw:swapsWith (.ListComp elt [⟨tg,iter,ifs,0⟩] sc pos) (some (.Name x px)) spos.line X.env = pure true:=by rfl) (hs:∀ x,foldedSetIterable iter X.env x = pure x:=by intro _; rfl) :
    PS X (.Assign [.Name x px] (.ListComp elt [⟨tg,iter,ifs,0⟩] sc pos) spos) (tAsg (tComp wi cp g tif te) (gName i)):=by
  intro pins s σ H D0 I h
  obtain ⟨cl,K⟩:=I.clOk S
  rw [exec_Assign_Name_used _ _ _ _ hsw]
  refine wpAny_bind (wpAny_standAt (wpAny_bind ?_))
  show wpAny _ _ (do let _ ← comprehension (.ListComp elt [⟨tg,iter,ifs,0⟩] sc pos) sc X.env _ (newList []) false (eval iter X.env) (some (assign (.Name x px) X.env))) _ _ s
  refine wpAny_bind (wpAny_mono (wpAny_comprehension_free (use:=some (assign (.Name x px) X.env)) (Q:=fun _ s'=>SP X pins D0 .next s') rfl hs K.clos S.kind S.names
    (thn (hi pins s σ H _ I h) fun xv s1 h1=>thn h1 fun itv s2 h2=>?_)) (fun _ s' hq=>wpAny_pure (wpAny_pure hq)) fun _ _ e=>e)
  obtain ⟨it,fp,tn,J,H2,e,I2,T,st2,f2,W,⟨m0,w0⟩,turn⟩:=h2
  subst e
  refine comp_run (RR:=fun acc C=>compPost (model X.prog X.w) X.A X.xe (some (assign (.Name x px) X.env)) (fun _ s'=>SP X pins D0 .next s') acc C) (F:=fun ys H5=>∀ p,H5 p = none → gName i (.ref p) σ (upd H5 p (.lst ys)) D0.nx) S hc hg hset hloc hif he I2 T st2 f2 K w0 turn ?_
  intro D C s5 ys H5 hD f I5 ⟨m,hn⟩ fC
  show wpAny _ _ (assign (.Name x px) X.env (.ref D)) _ _ _
  refine wpAny_assign_Name (store_ok2 I5 hN hx (.inl hl) (v:=.ref D) rfl (fun s6 I6 ⟨a,sa,ha⟩=>?_) (.inr hl))
  have hCa:C ≠ a:=by
    rcases ha with z | z
    · rw [z]; exact fC.2.1
    · exact fun q=>fC.2.2.2.2.1 x a z q.symm
  exact ⟨m,hn.sameBut sa hCa,fun h' sb=>⟨_,_,I6.letGo fC sb,f D hD⟩⟩
end
def tComp0 (wi:TI) (cp:List (Option Nat)) (g:TG) (te:TE):TE:=fun σ H Q=>wi σ H fun J H1=>∃ W:Nat → Nat → List V → Hp → Prop,(∃ m,W 0 m [] H1) ∧ ∀ i m ys H,W i m ys H →
  (J.stop i H ∧ ys.length ≤ sizeLine ∧ ∀ p,H p = none → Q (.ref p) (upd H p (.lst ys))) ∨
  (J.go i H ∧ ys.length ≤ sizeLine ∧ ∃ N1:V → Hp → Prop,(∀ y H',N1 y H' → ∃ m',m' < m ∧ W (i + 1) m' (ys ++ [y]) H') ∧ ∀ x H',J.yld i H x H' → g x (captS cp σ) H' fun σ2 H2=>te σ2 H2 N1)
theorem comp0_turn {J:It} {cp:List (Option Nat)} {g:TG} {te:TE} {σ:St} {F:List V → Hp → Prop} {W:Nat → Nat → List V → Hp → Prop}
    (turn:∀ i m ys H,W i m ys H → (J.stop i H ∧ ys.length ≤ sizeLine ∧ F ys H) ∨ (J.go i H ∧ ys.length ≤ sizeLine ∧ ∃ N1:V → Hp → Prop,(∀ y H',N1 y H' → ∃ m',m' < m ∧ W (i + 1) m' (ys ++ [y]) H') ∧ ∀ x H',J.yld i H x H' → g x (captS cp σ) H' fun σ2 H2=>te σ2 H2 N1)) :
    ∀ i m ys H,W i m ys H → (J.stop i H ∧ ys.length ≤ sizeLine ∧ F ys H) ∨ (J.go i H ∧ ys.length ≤ sizeLine ∧ ∃ (N1:V → Hp → Prop) (N0:Hp → Prop),(∀ y H',N1 y H' → ∃ m',m' < m ∧ W (i + 1) m' (ys ++ [y]) H') ∧ (∀ H',N0 H' → ∃ m',m' < m ∧ W (i + 1) m' ys H') ∧
      ∀ x H',J.yld i H x H' → g x (captS cp σ) H' fun σ2 H2=>tYes σ2 H2 fun b H3=>if b = true then te σ2 H3 N1 else N0 H3):=fun i m ys H w=>by
  rcases turn i m ys H w with z | ⟨go,hz,N1,h1,h2⟩
  · exact .inl z
  · refine .inr ⟨go,hz,N1,fun _=>False,h1,fun _ z=>z.elim,fun x H' y=>?_⟩
    have e:(fun (σ2:St) (H2:Hp)=>tYes σ2 H2 fun b H3=>if b = true then te σ2 H3 N1 else False) = fun σ2 H2=>te σ2 H2 N1:=by
      funext σ2 H2
      show (if true = true then te σ2 H2 N1 else False) = te σ2 H2 N1
      rw [if_pos rfl]
    rw [e]
    exact h2 x H' y
section
variable {X:Cx} {sc:Scope} {N:List Str} {cp:List (Option Nat)} {tg iter elt:Expr} {pos:Pos} {g:TG} {te:TE} {wi:TI} {Sg:List Nat}
theorem pe_comp0 (S:CompSc X.env.scope sc X.N N cp) (hc:X.calm = true) (hi:PI X tg iter wi) (hg:∀ z,PG (cxC X sc N z) tg g) (hset:Sets g Sg) (hloc:∀ k ∈ Sg,cp[k]? = some none)
    (he:∀ z,PE (cxC X sc N z) elt te) (hs:∀ x,foldedSetIterable iter X.env x = pure x:=by intro _; rfl) :
    PE X (.ListComp elt [⟨tg,iter,[],0⟩] sc pos) (tComp0 wi cp g te):=by
  intro pins s σ H Q I h
  obtain ⟨cl,K⟩:=I.clOk S
  rw [eval_ListComp]
  refine wpAny_comprehension_free (use:=none) rfl hs K.clos S.kind S.names (thn (hi pins s σ H _ I h) fun xv s1 h1=>thn h1 fun itv s2 h2=>?_)
  obtain ⟨it,fp,tn,J,H2,e,I2,T,st2,f2,W,⟨m0,w0⟩,turn⟩:=h2
  subst e
  refine comp_run (RR:=fun acc C=>compPost (model X.prog X.w) X.A X.xe none (EP X pins σ Q) acc C) (F:=fun ys H5=>∀ p,H5 p = none → Q (.ref p) (upd H5 p (.lst ys))) S hc hg hset hloc (fun z=>pif_nil) he I2 T st2 f2 K w0 (comp0_turn turn) ?_
  intro D C s5 ys H5 hD f I5 ⟨m,hn⟩ fC
  exact ⟨m,hn,fun h' sb=>⟨.ref D,_,I5.letGo fC sb,rfl,f D hD⟩⟩
theorem ps_setComp0 {i:Nat} {x:Str} {px spos:Pos} (hN:X.N.Nodup) (hx:X.N[i]? = some x) (hl:X.env.scope.names.lookup x = some .local) (S:CompSc X.env.scope sc X.N N cp) (hc:X.calm = true) (hi:PI X tg iter wi) (hg:∀ z,PG (cxC X sc N z) tg g) (hset:Sets g Sg) (hloc:∀ k ∈ Sg,cp[k]? = some none)
    (he:∀ z,PE (cxC X sc N z) elt te)
    (hsw:swapsWith (.ListComp elt [⟨tg,iter,[],0⟩] sc pos) (some (.Name x px)) spos.line X.env = pure true:=by rfl) (hs:∀ x,foldedSetIterable iter X.env x = pure x:=by intro _; rfl) :
    PS X (.Assign [.Name x px] (.ListComp elt [⟨tg,iter,[],0⟩] sc pos) spos) (tAsg (tComp0 wi cp g te) (gName i)):=by
  intro pins s σ H D0 I h
  obtain ⟨cl,K⟩:=I.clOk S
  rw [exec_Assign_Name_used _ _ _ _ hsw]
  refine wpAny_bind (wpAny_standAt (wpAny_bind ?_))
  show wpAny _ _ (do let _ ← comprehension (.ListComp elt [⟨tg,iter,[],0⟩] sc pos) sc X.env _ (newList []) false (eval iter X.env) (some (assign (.Name x px) X.env))) _ _ s
  refine wpAny_bind (wpAny_mono (wpAny_comprehension_free (use:=some (assign (.Name x px) X.env)) (Q:=fun _ s'=>SP X pins D0 .next s') rfl hs K.clos S.kind S.names
    (thn (hi pins s σ H _ I h) fun xv s1 h1=>thn h1 fun itv s2 h2=>?_)) (fun _ s' hq=>wpAny_pure (wpAny_pure hq)) fun _ _ e=>e)
  obtain ⟨it,fp,tn,J,H2,e,I2,T,st2,f2,W,⟨m0,w0⟩,turn⟩:=h2
  subst e
  refine comp_run (RR:=fun acc C=>compPost (model X.prog X.w) X.A X.xe (some (assign (.Name x px) X.env)) (fun _ s'=>SP X pins D0 .next s') acc C) (F:=fun ys H5=>∀ p,H5 p = none → gName i (.ref p) σ (upd H5 p (.lst ys)) D0.nx) S hc hg hset hloc (fun z=>pif_nil) he I2 T st2 f2 K w0 (comp0_turn turn) ?_
  intro D C s5 ys H5 hD f I5 ⟨m,hn⟩ fC
  show wpAny _ _ (assign (.Name x px) X.env (.ref D)) _ _ _
  refine wpAny_assign_Name (store_ok2 I5 hN hx (.inl hl) (v:=.ref D) rfl (fun s6 I6 ⟨a,sa,ha⟩=>?_) (.inr hl))
  have hCa:C ≠ a:=by
    rcases ha with z | z
    · rw [z]; exact fC.2.1
    · exact fun q=>fC.2.2.2.2.1 x a z q.symm
  exact ⟨m,hn.sameBut sa hCa,fun h' sb=>⟨_,_,I6.letGo fC sb,f D hD⟩⟩
end
theorem comp_list {K:PySem.W.Frag} {a:Addr} {xs:List V} {B:V → Hp → (V → Hp → Prop) → Prop} {F:List V → Hp → Prop} {H:Hp} (Pv:Nat → List V → Hp → Prop) (h0:Pv 0 [] H) (hz:xs.length ≤ sizeLine)
    (hl:∀ i ys H,i ≤ xs.length → Pv i ys H → SqL K H a xs ∧ ys.length = i)
    (hs:∀ i x ys H,xs[i]? = some x → Pv i ys H → B x H fun y H4=>Pv (i + 1) (ys ++ [y]) H4)
    (hd:∀ ys H,Pv xs.length ys H → F ys H) :
    ∃ W:Nat → Nat → List V → Hp → Prop,(∃ m,W 0 m [] H) ∧ ∀ i m ys H,W i m ys H →
      ((Itl K a).stop i H ∧ ys.length ≤ sizeLine ∧ F ys H) ∨
      ((Itl K a).go i H ∧ ys.length ≤ sizeLine ∧ ∃ N1:V → Hp → Prop,(∀ y H',N1 y H' → ∃ m',m' < m ∧ W (i + 1) m' (ys ++ [y]) H') ∧ ∀ x H',(Itl K a).yld i H x H' → B x H' N1):=by
  refine ⟨fun i m ys H=>m = xs.length - i ∧ i ≤ xs.length ∧ Pv i ys H,⟨xs.length,by simp,Nat.zero_le _,h0⟩,?_⟩
  rintro i m ys H ⟨rfl,hi,p⟩
  obtain ⟨q,el⟩:=hl i ys H hi p
  have hzz:ys.length ≤ sizeLine:=by rw [el]; exact Nat.le_trans hi hz
  by_cases hlt:i < xs.length
  · refine .inr ⟨⟨xs,xs[i],q,by simp [hlt]⟩,hzz,fun y H4=>Pv (i + 1) (ys ++ [y]) H4,fun y H' q4=>⟨xs.length - (i + 1),by omega,rfl,hlt,q4⟩,fun x H' y=>?_⟩
    obtain ⟨e,y⟩:=y
    subst e
    exact hs i x ys _ (y xs q) p
  · have e:i = xs.length:=by omega
    subst e
    exact .inl ⟨⟨xs,q,Nat.le_refl _⟩,hzz,hd ys H p⟩
theorem comp_range {lo:Int} {n:Nat} {B:V → Hp → (V → Hp → Prop) → Prop} {F:List V → Hp → Prop} {H:Hp} (Pv:Nat → List V → Hp → Prop) (h0:Pv 0 [] H) (hz:n ≤ sizeLine)
    (hl:∀ i ys H,i ≤ n → Pv i ys H → ys.length = i)
    (hs:∀ i ys H,i < n → Pv i ys H → B (.int (lo + i)) H fun y H4=>Pv (i + 1) (ys ++ [y]) H4)
    (hd:∀ ys H,Pv n ys H → F ys H) :
    ∃ W:Nat → Nat → List V → Hp → Prop,(∃ m,W 0 m [] H) ∧ ∀ i m ys H,W i m ys H →
      ((Itr lo n).stop i H ∧ ys.length ≤ sizeLine ∧ F ys H) ∨
      ((Itr lo n).go i H ∧ ys.length ≤ sizeLine ∧ ∃ N1:V → Hp → Prop,(∀ y H',N1 y H' → ∃ m',m' < m ∧ W (i + 1) m' (ys ++ [y]) H') ∧ ∀ x H',(Itr lo n).yld i H x H' → B x H' N1):=by
  refine ⟨fun i m ys H=>m = n - i ∧ i ≤ n ∧ Pv i ys H,⟨n,by simp,Nat.zero_le _,h0⟩,?_⟩
  rintro i m ys H ⟨rfl,hi,p⟩
  have el:=hl i ys H hi p
  have hzz:ys.length ≤ sizeLine:=by rw [el]; exact Nat.le_trans hi hz
  by_cases hlt:i < n
  · refine .inr ⟨hlt,hzz,fun y H4=>Pv (i + 1) (ys ++ [y]) H4,fun y H' q4=>⟨n - (i + 1),by omega,rfl,hlt,q4⟩,fun x H' y=>?_⟩
    obtain ⟨e,y⟩:=y
    subst e y
    exact hs i ys _ hlt p
  · have e:i = n:=by omega
    subst e
    exact .inl ⟨Nat.le_refl _,hzz,hd ys H p⟩
end L2
set_option Elab.async false
set_option linter.all false
set_option maxRecDepth 100000
namespace L2
open PySem PySem.Spec PyProof.Rows
section
variable {X:Cx}
theorem call_sum (hc:X.calm = true):CallR X (.builtin "sum") (fun xs H Q=>∃ (p:Addr) (ns:List Int),xs = [.ref p] ∧ SqL X.K H p (ns.map V.int) ∧ Q (.int ns.sum) H):=by
  intro pins s σ H xs us Q I r h
  obtain ⟨p,ns,e,hq,q⟩:=h
  subst e
  obtain ⟨u,rfl,ru⟩:=vals1 r
  cases ru
  obtain ⟨its,rv,pl,hz⟩:=I.list hq
  have hi:=intsAre_of rv
  have hl:s.heap.IsList p its.toArray:=pl.isList
  obtain ⟨zs,ez⟩:=hi.allInts.items
  rw [ez] at hl
  refine sum_intListG (I.ok.hd hc) hl fun h' tk t' hk=>?_
  refine ⟨.int ns.sum,H,I.kept hk,⟨t',?_⟩,q⟩
  have e2:numsOf its = ns:=hi.numsOf
  rw [preSum_eq,List.take_of_length_le (by simp),← nums_intItems,← ez,List.toList_toArray,e2]
theorem call_all (hc:X.calm = true):CallR X (.builtin "all") (fun xs H Q=>∃ (p:Addr) (bs:List Bool),xs = [.ref p] ∧ SqL X.K H p (bs.map V.bl) ∧ Q (.bl (bs.all id)) H):=by
  intro pins s σ H xs us Q I r h
  obtain ⟨p,bs,e,hq,q⟩:=h
  subst e
  obtain ⟨u,rfl,ru⟩:=vals1 r
  cases ru
  obtain ⟨its,rv,pl,hz⟩:=I.list hq
  have hl:s.heap.IsList p its.toArray:=pl.isList
  have hlt:p < s.heap.objs.size:=by obtain ⟨o,ho,_⟩:=hl; exact Heap.lt_size ho
  have hlen:bs.length = its.length:=by have:=rv.length; rwa [List.length_map] at this
  refine call_all_walk (wpAny_pyIter_list hl ?_)
  refine ⟨s.heap.objs.size,_,_,_,_,_,fun i=>bs.getD i true,rfl,Walks.list (A:=X.A.in1) (I.ok.hd hc) _ p (Nat.ne_of_lt hlt) its.toArray,⟨⟨_,Heap.get?_push_size _ rfl,rfl,rfl⟩,hl.push _⟩,?_,fun h' tk hk=>?_⟩
  · intro i v s' Q' E' hP hQ
    have hv:its[i]? = some v:=by simpa using hP
    have hib:i < its.length:=(List.getElem?_eq_some_iff.mp hv).1
    have hb:(bs.map V.bl)[i]? = some (V.bl (bs[i]'(by omega))):=by rw [List.getElem?_map,List.getElem?_eq_getElem (by omega)]; rfl
    obtain ⟨v',hv',rb⟩:=rv.get hb
    rw [hv] at hv'
    cases hv'
    cases rb
    refine wpAny_truthy_bool ?_
    have e:bs.getD i true = bs[i]'(by omega):=by rw [List.getD_eq_getElem?_getD,List.getElem?_eq_getElem (by omega)]; rfl
    have hQ':Q' (bs.getD i true) s':=hQ
    rw [e] at hQ'
    exact hQ'
  · have I2:Inv X pins σ H { s with heap:=h',toks:=tk }:=I.kept fun b o e=>hk b o (by
      intro z
      have z':b = s.heap.objs.size:=by simpa using z
      rw [z'] at e
      exact absurd (Heap.lt_size e) (Nat.lt_irrefl _)) (Heap.get?_push_of_some _ e)
    refine ⟨.bl (bs.all id),H,I2,?_,q⟩
    show Value.bool _ = Value.bool _
    congr 1
    have e1:its.toArray.size = bs.length:=by rw [List.size_toArray,hlen]
    rw [e1]
    apply Bool.eq_iff_iff.mpr
    simp only [List.all_eq_true,List.mem_range,id]
    constructor
    · intro hh x hx
      obtain ⟨n,hn,rfl⟩:=List.mem_iff_getElem.mp hx
      have:=hh n hn
      rw [List.getD_eq_getElem?_getD,List.getElem?_eq_getElem hn] at this
      exact this
    · intro hh n hn
      rw [List.getD_eq_getElem?_getD,List.getElem?_eq_getElem hn]
      exact hh _ (List.getElem_mem hn)
theorem Inv.turnedNew {pins:List (Addr × Obj)} {σ:St} {H:Hp} {s:Shared} {h':Heap} {ch:List Addr} {p:Addr} {o:HO} {t':Nat} (I:Inv X pins σ H s) (hch:∀ b ∈ ch,FpOk X pins H b)
    (k:∀ b ob,b ∉ ch → s.heap.get? b = some ob → h'.get? b = some ob) (hp:s.heap.objs.size ≤ p) (new:ObjOk X.prog X.w (upd H p o) h' p o):Inv X pins σ (upd H p o) { s with heap:=h',toks:=t' }:=by
  have hn:H p = none:=I.hok.fresh hp
  have nch:∀ b u,H b = some u → b ∉ ch:=fun b u e z=>by rw [(hch b z).1] at e; cases e
  have lt:∀ b ob,s.heap.get? b = some ob → b ≠ p:=fun b ob e=>Nat.ne_of_lt (Nat.lt_of_lt_of_le (Heap.lt_size e) hp)
  refine I.step (g':=s.gens) (d':=s.drawn) (ch:=ch) (fun b hb=>?_) (fun b ob _ _ hc e _=>k b ob hc e) (fun b ob _ _ hc e _=>⟨ob.slots,k b ob hc e⟩) (fun b ob _ e n=>by rw [upd_ne (lt b ob e)]; exact n)
    (fun b ob hc e=>⟨ob,k b ob hc e⟩) (fun b xs e=>by rw [upd_ne (ne_of_none e hn)]; exact e) (fun b u xs e=>by rw [upd_ne (ne_of_none e hn)]; exact e) (fun b ps e=>⟨#[],by rw [upd_ne (ne_of_none e hn),e]; simp⟩)
    (fun m hm=>?_) (fun b u e=>?_) I.bare
  · obtain ⟨_,f1,_,f3,f4,f5⟩:=hch b hb
    exact ⟨f3,f1,f4,f5⟩
  · obtain ⟨ob,es,ep,ho,r⟩:=hm
    exact ⟨ob,es,ep,k _ ob (fun z=>(hch _ z).2.1 rfl) ho,r⟩
  · by_cases hb:b = p
    · subst hb; rw [upd_same] at e; cases e; exact new
    · rw [upd_ne hb] at e
      refine (I.hok b u e).stay (fun c v hc q=>k c v ?_ q) (fun c q=>by rw [upd_ne (ne_of_none q hn)]; exact q) fun c xs q=>by rw [upd_ne (ne_of_none q hn)]; exact q
      rcases hc with z | z
      · rw [z]; exact nch b u e
      · exact nch c _ z
theorem Inv.turnedL {pins:List (Addr × Obj)} {σ:St} {H:Hp} {s:Shared} {h':Heap} {ch:List Addr} {t':Nat} (I:Inv X pins σ H s) (hch:∀ b ∈ ch,FpOk X pins H b)
    (k:∀ b ob,b ∉ ch → s.heap.get? b = some ob → h'.get? b = some ob):Inv X pins σ H { s with heap:=h',toks:=t' }:=by
  have nch:∀ b u,H b = some u → b ∉ ch:=fun b u e z=>by rw [(hch b z).1] at e; cases e
  refine I.step (g':=s.gens) (d':=s.drawn) (ch:=ch) (fun b hb=>?_) (fun b ob _ _ hc e _=>k b ob hc e) (fun b ob _ _ hc e _=>⟨ob.slots,k b ob hc e⟩) (fun b ob _ e n=>n)
    (fun b ob hc e=>⟨ob,k b ob hc e⟩) (fun b xs e=>e) (fun b u xs e=>e) (fun b ps e=>⟨#[],by rw [e]; simp⟩)
    (fun m hm=>?_) (fun b u e=>?_) I.bare
  · obtain ⟨_,f1,_,f3,f4,f5⟩:=hch b hb
    exact ⟨f3,f1,f4,f5⟩
  · obtain ⟨ob,es,ep,ho,r⟩:=hm
    exact ⟨ob,es,ep,k _ ob (fun z=>(hch _ z).2.1 rfl) ho,r⟩
  · refine (I.hok b u e).stay (fun c v hc q=>k c v ?_ q) (fun c q=>q) fun c xs q=>q
    rcases hc with z | z
    · rw [z]; exact nch b u e
    · exact nch c _ z
end
theorem zap (n a b:Nat) (h1:a < n) (h2:b < n):ZipApart (n + 4) (n + 2) (n + 3) n (n + 1) a b:=by
  constructor <;> first | exact Nat.ne_of_lt (by omega) | exact Nat.ne_of_gt (by omega)
def Itz (K:PySem.W.Frag) (a b:Addr):It :=
  ⟨fun i H=>∃ xs ys x y,SqL K H a xs ∧ SqL K H b ys ∧ xs[i]? = some x ∧ ys[i]? = some y,
   fun i H v H'=>∃ p x y,v = .ref p ∧ H p = none ∧ H' = upd H p (.tup [x,y]) ∧ (∀ xs,SqL K H a xs → xs[i]? = some x) ∧ ∀ ys,SqL K H b ys → ys[i]? = some y,
   fun i H=>∃ xs ys,SqL K H a xs ∧ SqL K H b ys ∧ (xs.length ≤ i ∨ ys.length ≤ i)⟩
def Ite (K:PySem.W.Frag) (a:Addr):It :=
  ⟨fun i H=>∃ xs x,SqL K H a xs ∧ xs[i]? = some x,
   fun i H v H'=>∃ p x,v = .ref p ∧ H p = none ∧ H' = upd H p (.tup [.int (i:Nat),x]) ∧ ∀ xs,SqL K H a xs → xs[i]? = some x,
   fun i H=>∃ xs,SqL K H a xs ∧ xs.length ≤ i⟩
theorem turn_zip {P:Program} {w:World} {K:PySem.W.Frag} {elts:List Expr} {k0:Nat} {tp:Pos} {z TI TO i1 i2 a b:Addr} (D:ZipApart z TI TO i1 i2 a b) :
    Turn P w K (.Tuple elts k0 tp) (Itz K a b) [z,TI,TO,i1,i2] z (fun i h=>IsZip h z TI TO .none ∧ IsPair h TI (.ref i1) (.ref i2) ∧ (∃ u v,IsPair h TO u v) ∧ h.IsListIter i1 a i ∧ h.IsListIter i2 b i) where
  mem:=by simp
  obj:=fun i h st c hc=>by
    obtain ⟨hz,hTI,⟨u,v,hTO⟩,⟨o1,e1,_,d1⟩,⟨o2,e2,_,d2⟩⟩:=st
    have hc':c = z ∨ c = TI ∨ c = TO ∨ c = i1 ∨ c = i2:=by simpa using hc
    rcases hc' with rfl | rfl | rfl | rfl | rfl
    · exact ⟨_,hz,fun v q=>nomatch (show Data.fields _ = Data.cell v from q)⟩
    · exact ⟨_,hTI,fun v q=>nomatch (show Data.seq _ _ = Data.cell v from q)⟩
    · exact ⟨_,hTO,fun v q=>nomatch (show Data.seq _ _ = Data.cell v from q)⟩
    · exact ⟨o1,e1,fun v q=>by rw [d1] at q; cases q⟩
    · exact ⟨o2,e2,fun v q=>by rw [d2] at q; cases q⟩
  keep:=fun i h h' st k=>by
    obtain ⟨hz,hTI,⟨u,v,hTO⟩,h1,h2⟩:=st
    exact ⟨k z (by simp) _ hz,k TI (by simp) _ hTI,⟨u,v,k TO (by simp) _ hTO⟩,h1.at fun o e=>k i1 (by simp) o e,h2.at fun o e=>k i2 (by simp) o e⟩
  item:=by
    intro X hP hw hK hc i pins s σ H E I hf st hg
    subst hP hw hK
    obtain ⟨xs,ys,x,y,hqa,hqb,hx,hy⟩:=hg
    obtain ⟨hz,hTI,⟨u0,v0,hTO⟩,h1,h2⟩:=st
    obtain ⟨ita,rva,pa,_⟩:=I.list hqa
    obtain ⟨itb,rvb,pb,_⟩:=I.list hqb
    obtain ⟨u,hu,ru⟩:=rva.get hx
    obtain ⟨v,hv,rv⟩:=rvb.get hy
    refine wpAny_pyNext_zip_item D hz hTI hTO h1 h2 pa.isList pb.isList (x:=u) (y:=v) (by simpa using hu) (by simpa using hv) fun h' a1 a2 a3 a4 a5 a6 a7=>?_
    refine ⟨_,rfl,?_⟩
    refine wpAny_letOwnedTupleGo_zip a1 fun h'' hz'' hs''=>?_
    have lt:∀ {c o},s.heap.get? c = some o → s.heap.objs.size ≠ c:=fun e=>Nat.ne_of_gt (Heap.lt_size e)
    have nz:s.heap.objs.size ≠ z:=lt hz
    have kk:∀ c o,c ∉ [z,TI,TO,i1,i2] → s.heap.get? c = some o → h''.get? c = some o:=fun c o hcn e=>by
      have hcn':¬ (c = z ∨ c = TI ∨ c = TO ∨ c = i1 ∨ c = i2):=by simpa using hcn
      exact hs''.extBut c o (fun q=>hcn' (.inl q)) (a7 c o (fun q=>hcn' (.inl q)) (fun q=>hcn' (.inr (.inr (.inl q)))) (fun q=>hcn' (.inr (.inr (.inr (.inl q))))) (fun q=>hcn' (.inr (.inr (.inr (.inr q))))) e)
    have hn:H s.heap.objs.size = none:=I.hok.fresh (Nat.le_refl _)
    refine ⟨.ref s.heap.objs.size,upd H s.heap.objs.size (.tup [x,y]),I.turnedNew (ch:=[z,TI,TO,i1,i2]) (t':=s.toks) hf kk (Nat.le_refl _) ?_,rfl,
      ⟨_,x,y,rfl,hn,rfl,fun zs hq=>by rw [I.list_inj hq hqa]; exact hx,fun zs hq=>by rw [I.list_inj hq hqb]; exact hy⟩,
      ⟨hz'',hs''.extBut _ _ D.TIz (a7 _ _ D.TIz D.TITO D.TIi1 D.TIi2 hTI),⟨u,v,hs''.extBut _ _ D.TOz a2⟩,a3.extBut hs''.extBut D.i1z,a4.extBut hs''.extBut D.i2z⟩,fun c hcm=>?_⟩
    · exact ⟨by show 2 ≤ sizeLine; decide,[u,v],.cons ru (.cons rv .nil),⟨_,hs''.extBut _ _ nz a5,rfl,_,rfl⟩⟩
    · obtain ⟨o,e,_⟩:∃ o,s.heap.get? c = some o ∧ True:=by
        have hc':c = z ∨ c = TI ∨ c = TO ∨ c = i1 ∨ c = i2:=by simpa using hcm
        obtain ⟨o1,e1,_⟩:=h1
        obtain ⟨o2,e2,_⟩:=h2
        rcases hc' with rfl | rfl | rfl | rfl | rfl
        · exact ⟨_,hz,trivial⟩
        · exact ⟨_,hTI,trivial⟩
        · exact ⟨_,hTO,trivial⟩
        · exact ⟨_,e1,trivial⟩
        · exact ⟨_,e2,trivial⟩
      rw [upd_ne (Nat.ne_of_lt (Heap.lt_size e))]
      exact (hf c hcm).1
  done:=by
    intro X hP hw hK hc i pins s σ H E I hf st hg
    subst hP hw hK
    obtain ⟨xs,ys,hqa,hqb,hend⟩:=hg
    obtain ⟨hz,hTI,⟨u0,v0,hTO⟩,h1,h2⟩:=st
    obtain ⟨ita,rva,pa,_⟩:=I.list hqa
    obtain ⟨itb,rvb,pb,_⟩:=I.list hqb
    have la:=rva.length
    have lb:=rvb.length
    refine wpAny_pyNext_zip_end (I.ok.hd hc) D hz hTI hTO h1 h2 pa.isList pb.isList (by rcases hend with q | q; exact .inl (by simp; omega); exact .inr (by simp; omega)) fun h' k=>⟨rfl,?_⟩
    refine I.turnedL (ch:=[z,TI,TO,i1,i2]) (t':=s.toks) hf fun c o hcn e=>?_
    have hcn':¬ (c = z ∨ c = TI ∨ c = TO ∨ c = i1 ∨ c = i2):=by simpa using hcn
    exact k c o (fun q=>hcn' (.inl q)) (fun q=>hcn' (.inr (.inr (.inl q)))) (fun q=>hcn' (.inr (.inr (.inr (.inl q))))) (fun q=>hcn' (.inr (.inr (.inr (.inr q))))) e
  self:=fun _ _ _ _ _ st h=>wpAny_pyIter_zip st.1 h
theorem turn_enum {P:Program} {w:World} {K:PySem.W.Frag} {elts:List Expr} {k0:Nat} {tp:Pos} {e it a:Addr} (hne:e ≠ it) :
    Turn P w K (.Tuple elts k0 tp) (Ite K a) [e,it] e (fun i h=>(∃ old,IsEnum h e it i old) ∧ h.IsListIter it a i) where
  mem:=by simp
  obj:=fun i h st c hc=>by
    obtain ⟨⟨old,he⟩,⟨o1,e1,_,d1⟩⟩:=st
    have hc':c = e ∨ c = it:=by simpa using hc
    rcases hc' with rfl | rfl
    · exact ⟨_,he,fun v q=>nomatch (show Data.fields _ = Data.cell v from q)⟩
    · exact ⟨o1,e1,fun v q=>by rw [d1] at q; cases q⟩
  keep:=fun i h h' st k=>by
    obtain ⟨⟨old,he⟩,h1⟩:=st
    exact ⟨⟨old,k e (by simp) _ he⟩,h1.at fun o q=>k it (by simp) o q⟩
  item:=by
    intro X hP hw hK hc i pins s σ H E I hf st hg
    subst hP hw hK
    obtain ⟨xs,x,hqa,hx⟩:=hg
    obtain ⟨⟨old,he⟩,h1⟩:=st
    obtain ⟨ita,rva,pa,_⟩:=I.list hqa
    obtain ⟨u,hu,ru⟩:=rva.get hx
    refine wpAny_pyNext_enum_item he h1 pa.isList (x:=u) (by simpa using hu) hne fun h' a1 a2 a3 a4 a5=>?_
    refine ⟨_,rfl,?_⟩
    refine wpAny_letOwnedTupleGo_enum a1 fun h'' he'' hs''=>?_
    have ne:s.heap.objs.size ≠ e:=Nat.ne_of_gt (Heap.lt_size he)
    have kk:∀ c o,c ∉ [e,it] → s.heap.get? c = some o → h''.get? c = some o:=fun c o hcn q=>by
      have hcn':¬ (c = e ∨ c = it):=by simpa using hcn
      exact hs''.extBut c o (fun z=>hcn' (.inl z)) (a5 c o (fun z=>hcn' (.inl z)) (fun z=>hcn' (.inr z)) q)
    have hn:H s.heap.objs.size = none:=I.hok.fresh (Nat.le_refl _)
    refine ⟨.ref s.heap.objs.size,upd H s.heap.objs.size (.tup [.int (i:Nat),x]),I.turnedNew (ch:=[e,it]) (t':=s.toks + 1) hf kk (Nat.le_refl _) ?_,rfl,
      ⟨_,x,rfl,hn,rfl,fun zs hq=>by rw [I.list_inj hq hqa]; exact hx⟩,⟨⟨u,?_⟩,a2.extBut hs''.extBut (Ne.symm hne)⟩,fun c hcm=>?_⟩
    · exact ⟨by show 2 ≤ sizeLine; decide,[.int i s.toks,u],.cons ⟨_,rfl⟩ (.cons ru .nil),⟨_,hs''.extBut _ _ ne a3,rfl,_,rfl⟩⟩
    · have q:((i:Int) + 1) = (((i + 1:Nat)):Int):=by omega
      rw [← q]
      exact he''
    · obtain ⟨o,q,_⟩:∃ o,s.heap.get? c = some o ∧ True:=by
        have hc':c = e ∨ c = it:=by simpa using hcm
        obtain ⟨o1,e1,_⟩:=h1
        rcases hc' with rfl | rfl
        · exact ⟨_,he,trivial⟩
        · exact ⟨_,e1,trivial⟩
      rw [upd_ne (Nat.ne_of_lt (Heap.lt_size q))]
      exact (hf c hcm).1
  done:=by
    intro X hP hw hK hc i pins s σ H E I hf st hg
    subst hP hw hK
    obtain ⟨xs,hqa,hend⟩:=hg
    obtain ⟨⟨old,he⟩,h1⟩:=st
    obtain ⟨ita,rva,pa,_⟩:=I.list hqa
    have la:=rva.length
    refine wpAny_pyNext_enum_end (I.ok.hd hc) he h1 pa.isList (by simp; omega) fun h' k=>⟨rfl,?_⟩
    refine I.turnedL (ch:=[e,it]) (t':=s.toks) hf fun c o hcn q=>?_
    have hcn':¬ (c = e ∨ c = it):=by simpa using hcn
    exact k c o (fun z=>hcn' (.inr z)) q
  self:=fun _ _ _ _ _ st h=>wpAny_pyIter_enum st.1.choose_spec h
section
variable {X:Cx} {elts:List Expr} {k0:Nat} {tp p pos:Pos}
def iZip (K:PySem.W.Frag) (ta:TA):TI:=fun σ H R=>ta σ H fun vs H1=>∃ a b,vs = [.ref a,.ref b] ∧ (∃ xs,SqL K H1 a xs) ∧ (∃ ys,SqL K H1 b ys) ∧ R (Itz K a b) H1
theorem pi_zip {a b:Expr} {ta:TA} (hg:Gl X "zip") (hm:X.mg "zip" = none) (ha:PA X [a,b] ta) (hs:starEach [a,b] X.env = [(false,eval a X.env),(false,eval b X.env)]:=by rfl) (hs2:starEach [b] X.env = [(false,eval b X.env)]:=by rfl) :
    PI X (.Tuple elts k0 tp) (.Call (.Name "zip" p) [a,b] [] pos) (iZip X.K ta):=by
  intro pins s σ H R I h
  refine Call_ (ld_blt I hg hm boot_zip (PyProof.Rows.callWith_type1 (thn (ha pos pins s σ H _ I h) fun us s1 ⟨vs,H1,I1,r1,q1⟩=>?_) (by rw [hs,hs2]) (by rw [hs2]; rfl)))
  obtain ⟨l1,l2,e,⟨xs,hqa⟩,⟨ys,hqb⟩,q⟩:=q1
  subst e
  obtain ⟨u,v,rfl,ru,rv⟩:=vals2 r1
  cases ru
  cases rv
  obtain ⟨ita,rva,pa,_⟩:=I1.list hqa
  obtain ⟨itb,rvb,pb,_⟩:=I1.list hqb
  have la:l1 < s1.heap.objs.size:=by obtain ⟨o,ho,_⟩:=pa.isList; exact Heap.lt_size ho
  have lb:l2 < s1.heap.objs.size:=by obtain ⟨o,ho,_⟩:=pb.isList; exact Heap.lt_size ho
  refine call_zip_2 pa.isList pb.isList fun h' a1 a2 a3 a4 a5 a6 a7=>wpAny_pyIter_zip a1 ?_
  have D:ZipApart (s1.heap.objs.size + 4) (s1.heap.objs.size + 2) (s1.heap.objs.size + 3) s1.heap.objs.size (s1.heap.objs.size + 1) l1 l2:=zap _ _ _ la lb
  refine ⟨s1.heap.objs.size + 4,_,_,_,H1,rfl,I1.kept (t':=s1.toks) a7,turn_zip D,⟨a1,a2,⟨_,_,a3⟩,a4,a5⟩,fun c hc=>?_,q⟩
  have hc':c = s1.heap.objs.size + 4 ∨ c = s1.heap.objs.size + 2 ∨ c = s1.heap.objs.size + 3 ∨ c = s1.heap.objs.size ∨ c = s1.heap.objs.size + 1:=by simpa using hc
  have hge:s1.heap.objs.size ≤ c:=by rcases hc' with z | z | z | z | z <;> (rw [z]; first | exact Nat.le_refl _ | exact Nat.le_add_right _ _)
  exact I1.fpOk hge (I1.hok.fresh hge)
end
end L2
set_option Elab.async false
set_option linter.all false
set_option maxRecDepth 100000
namespace L2
open PySem PySem.Spec PyProof.Rows
section
variable {X:Cx}
theorem op_eqI:OpR X (compareOp .Eq) (rI0 fun i j=>.bl (decide (i = j))):=opB0 fun i j _ _ _ _ _ q=>eq_int (by rw [Bool.beq_eq_decide_eq]; exact q)
theorem op_neI:OpR X (compareOp .NotEq) (rI0 fun i j=>.bl (!decide (i = j))):=opB0 fun i j _ _ _ _ _ q=>ne_int (by rw [bne,Bool.beq_eq_decide_eq]; exact q)
theorem op_eqB:OpR X (compareOp .Eq) (fun x y H Q=>∃ i j,x = .bl i ∧ y = .bl j ∧ Q (.bl (i == j)) H):=by
  intro pins s σ H x y v u Q I rx ry h
  obtain ⟨i,j,e1,e2,q⟩:=h
  subst e1; subst e2
  exact op_eq pins s σ H _ _ v u Q I rx ry ⟨rfl,by rw [dec_bl]; exact q⟩
def EqTy (X:Cx) {α:Type} [DecidableEq α] (rep:Hp → V → α → Prop):Prop :=
  ∀ (pins:List (Addr × Obj)) (s:Shared) (σ:St) (H:Hp) (x y:V) (u v:Value) (a b:α),Inv X pins σ H s → RelV x u → RelV y v → rep H x a → rep H y b → SeqAt.EqAt X.A.in1 s u v (decide (a = b))
def repI:Hp → V → Int → Prop:=fun _ x i=>x = .int i
def repP (K:PySem.W.Frag):Hp → V → Int × Int → Prop:=fun H x p=>∃ a,x = .ref a ∧ SqT K H a [.int p.1,.int p.2]
theorem eqty_int:EqTy X repI:=by
  intro pins s σ H x y u v a b I rx ry ea eb
  have ea':x = .int a:=ea
  have eb':y = .int b:=eb
  subst ea'; subst eb'
  have z:=eqAt_V (A:=X.A.in1) (s:=s) rx ry rfl rfl
  have e:eqV (.int a) (.int b) = decide (a = b):=by
    show (a == b) = _
    exact Bool.beq_eq_decide_eq a b
  rw [e] at z
  exact z
def RepL (K:PySem.W.Frag) {α:Type} (rep:Hp → V → α → Prop) (H:Hp) (a:Addr) (ds:List α):Prop:=∃ xs,SqL K H a xs ∧ Paired (rep H) xs ds
theorem Paired.get' {α β:Type} {F:α → β → Prop}:∀ {l₁:List α} {l₂:List β},Paired F l₁ l₂ → ∀ (i:Nat) (b:β),l₂[i]? = some b → ∃ a,l₁[i]? = some a ∧ F a b
  | _,_,.nil,_,_,h=>by simp at h
  | _,_,.cons r t,0,b,h=>by simp at h; subst h; exact ⟨_,rfl,r⟩
  | _,_,.cons r t,i + 1,b,h=>by simpa using Paired.get' t i b (by simpa using h)
theorem all_range_eq {α:Type} [DecidableEq α] (ds es:List α) (h:ds.length = es.length) (e:Nat → Bool) (he:∀ i a b,ds[i]? = some a → es[i]? = some b → e i = decide (a = b)):(List.range ds.length).all e = decide (ds = es):=by
  apply Bool.eq_iff_iff.mpr
  simp only [List.all_eq_true,List.mem_range,decide_eq_true_eq]
  constructor
  · intro hh
    apply List.ext_getElem?
    intro i
    by_cases hi:i < ds.length
    · have q:=hh i hi
      rw [he i _ _ (List.getElem?_eq_getElem hi) (List.getElem?_eq_getElem (by omega))] at q
      rw [List.getElem?_eq_getElem hi,List.getElem?_eq_getElem (by omega),of_decide_eq_true q]
    · rw [List.getElem?_eq_none (by omega),List.getElem?_eq_none (by omega)]
  · intro hh i hi
    subst hh
    rw [he i _ _ (List.getElem?_eq_getElem hi) (List.getElem?_eq_getElem hi)]
    exact decide_eq_true rfl
theorem lists_items {α:Type} [DecidableEq α] {rep:Hp → V → α → Prop} (E:EqTy X rep) {pins:List (Addr × Obj)} {s:Shared} {σ:St} {H:Hp} {xs ys:List V} {us vs:List Value} {ds es:List α}
    (I:Inv X pins σ H s) (ru:Vals xs us) (rv:Vals ys vs) (pd:Paired (rep H) xs ds) (pe:Paired (rep H) ys es) :
    ∃ e:Nat → Bool,(∀ i a b,ds[i]? = some a → es[i]? = some b → e i = decide (a = b)) ∧ ∀ j (h1:j < us.toArray.size) (h2:j < vs.toArray.size),SeqAt.EqAt X.A.in1 s us.toArray[j] vs.toArray[j] (e j):=by
  refine ⟨fun i=>match ds[i]?,es[i]? with | some a,some b=>decide (a = b) | _,_=>true,fun i a b h1 h2=>by simp only [h1,h2],fun j h1 h2=>?_⟩
  have lu:us.length = ds.length:=by rw [← ru.length,pd.length]
  have lv:vs.length = es.length:=by rw [← rv.length,pe.length]
  have j1:j < us.length:=by simpa using h1
  have j2:j < vs.length:=by simpa using h2
  have d1:ds[j]? = some (ds[j]'(by omega)):=List.getElem?_eq_getElem (by omega)
  have d2:es[j]? = some (es[j]'(by omega)):=List.getElem?_eq_getElem (by omega)
  obtain ⟨x,hx,rx⟩:=Paired.get' pd j _ d1
  obtain ⟨y,hy,ry⟩:=Paired.get' pe j _ d2
  obtain ⟨u,hu,rxu⟩:=ru.get hx
  obtain ⟨v,hv,ryv⟩:=rv.get hy
  have e1:us.toArray[j] = u:=by
    have:=List.getElem?_eq_getElem j1
    rw [hu] at this
    simpa using (Option.some.inj this).symm
  have e2:vs.toArray[j] = v:=by
    have:=List.getElem?_eq_getElem j2
    rw [hv] at this
    simpa using (Option.some.inj this).symm
  rw [e1,e2]
  simp only [d1,d2]
  exact E pins s σ H x y u v _ _ I rxu ryv rx ry
theorem op_neL {α:Type} [DecidableEq α] {rep:Hp → V → α → Prop} (E:EqTy X rep) (hu:X.A.units < cLine):OpR X (compareOp .NotEq) (fun x y H Q=>∃ a b ds es,x = .ref a ∧ y = .ref b ∧ RepL X.K rep H a ds ∧ RepL X.K rep H b es ∧ Q (.bl (!decide (ds = es))) H):=by
  intro pins s σ H x y v u Q I rx ry h
  obtain ⟨a,b,ds,es,e1,e2,⟨xs,hxs,pd⟩,⟨ys,hys,pe⟩,q⟩:=h
  subst e1; subst e2
  cases rx; cases ry
  obtain ⟨us,ru,pu,_⟩:=I.list hxs
  obtain ⟨vs,rv,pv,_⟩:=I.list hys
  have lu:us.length = ds.length:=by rw [← ru.length,pd.length]
  have lv:vs.length = es.length:=by rw [← rv.length,pe.length]
  by_cases hl:ds.length = es.length
  · obtain ⟨e,he,hq⟩:=lists_items E I ru rv pd pe
    refine SeqAt.RcNeAt.lists (e:=e) pu.isList pv.isList (by simp; omega) hu hq X.prog X.w X.xe _ ⟨.bl (!decide (ds = es)),H,I,?_,q⟩
    show Value.bool _ = Value.bool _
    rw [show us.toArray.size = ds.length by simp [lu],all_range_eq ds es hl e he]
  · refine SeqAt.RcNeAt.lists_lengths pu.isList pv.isList (by simp; omega) hu X.prog X.w X.xe _ ⟨.bl (!decide (ds = es)),H,I,?_,q⟩
    show Value.bool _ = Value.bool _
    rw [decide_eq_false fun z=>hl (by rw [z])]
    rfl
theorem eqty_pair (hu:X.A.units + 1 < cLine):EqTy X (repP X.K):=by
  intro pins s σ H x y u v a b I rx ry ea eb
  obtain ⟨p,ex,hp⟩:=ea
  obtain ⟨q,ey,hq⟩:=eb
  subst ex; subst ey
  cases rx; cases ry
  by_cases hpq:p = q
  · subst hpq
    have e:a = b:=by
      have z:=I.tuple_inj hp hq
      obtain ⟨a1,a2⟩:=a
      obtain ⟨b1,b2⟩:=b
      injection z with z1 z2
      injection z1 with z1
      injection z2 with z2 _
      injection z2 with z2
      subst z1; subst z2; rfl
    subst e
    rw [decide_eq_true rfl]
    exact SeqAt.EqAt.same _
  · obtain ⟨us,ru,tu,_⟩:=I.tuple hp
    obtain ⟨vs,rv,tv,_⟩:=I.tuple hq
    obtain ⟨u1,u2,rfl,ru1,ru2⟩:=vals2 ru
    obtain ⟨v1,v2,rfl,rv1,rv2⟩:=vals2 rv
    have e1:=eqAt_V (A:=X.A.in1.in1) (s:=s) ru1 rv1 rfl rfl
    have e2:=eqAt_V (A:=X.A.in1.in1) (s:=s) ru2 rv2 rfl rfl
    have z:=SeqAt.RcAt.tuples (A:=X.A.in1) (s:=s) (e:=fun j=>if j = 0 then eqV (.int a.1) (.int b.1) else eqV (.int a.2) (.int b.2)) (show s.heap.IsTuple p #[u1,u2] from tu) (show s.heap.IsTuple q #[v1,v2] from tv) hu (fun j h1 h2=>by
      have h1':j < 2:=h1
      match j,h1' with
      | 0,_=>exact e1
      | 1,_=>exact e2)
    have w:=SeqAt.EqAt.of_refs hpq z
    have ek:((List.range (min (#[u1,u2]:Array Value).size (#[v1,v2]:Array Value).size)).all (fun j=>if j = 0 then eqV (.int a.1) (.int b.1) else eqV (.int a.2) (.int b.2)) && (#[u1,u2]:Array Value).size == (#[v1,v2]:Array Value).size) = decide (a = b):=by
      show ((if 0 = 0 then (a.1 == b.1) else (a.2 == b.2)) && ((if 1 = 0 then (a.1 == b.1) else (a.2 == b.2)) && true) && true) = _
      obtain ⟨a1,a2⟩:=a
      obtain ⟨b1,b2⟩:=b
      by_cases h1:a1 = b1
      · by_cases h2:a2 = b2
        · subst h1; subst h2; simp
        · rw [decide_eq_false (fun z=>h2 (Prod.mk.inj z).2)]; simp [h2]
      · rw [decide_eq_false (fun z=>h1 (Prod.mk.inj z).1)]; simp [h1]
    rw [ek] at w
    exact w
end
end L2
set_option Elab.async false
set_option linter.all false
set_option maxRecDepth 100000
namespace L2
open PySem PySem.Spec PyProof.Rows
section
variable {X:Cx} {a b c d:Expr} {ta tb tc td:TE} {pos:Pos}
def tChain3 (r r' r'':R2) (ta tb tc td:TE):TE:=fun σ H Q=>ta σ H fun x H1=>tb σ H1 fun y H2=>r x y H2 fun z H3=>∃ k,z = .bl k ∧
  (if k = true then tc σ H3 fun w' H4=>r' y w' H4 fun z2 H5=>∃ k2,z2 = .bl k2 ∧ (if k2 = true then td σ H5 fun w2 H6=>r'' w' w2 H6 Q else Q (.bl false) H5) else Q (.bl false) H3)
theorem pe_chain3 {op op' op'':CmpOp} {r r' r'':R2} (ho:OpR X (compareOp op) r) (ho':OpR X (compareOp op') r') (ho'':OpR X (compareOp op'') r'') (ha:PE X a ta) (hb:PE X b tb) (hc:PE X c tc) (hd:PE X d td)
    (hm:lastMarks [op,op',op''] [b,c,d] = false:=by with_unfolding_all rfl):PE X (.Compare a [op,op',op''] [b,c,d] pos) (tChain3 r r' r'' ta tb tc td):=by
  intro pins s σ H Q I h
  refine Compare_chain (thn (ha pins s σ H _ I h) fun v s1 ⟨x,H1,I1,r1,q1⟩=>chain_link (thn (hb pins s1 σ H1 _ I1 q1) fun u s2 ⟨y,H2,I2,r2,q2⟩ =>
    thn (ho pins s2 σ H2 x y v u _ I2 r1 r2 q2) fun d s3 ⟨z,H3,I3,r3,k,e,q3⟩=>?_)) hm
  subst e
  cases r3
  refine wpAny_truthy_bool ?_
  cases k with
  | false=>exact ite_ff ⟨.bl false,H3,I3,rfl,q3⟩
  | true =>
    refine ite_tt (chain_link (thn (hc pins s3 σ H3 _ I3 q3) fun w' s4 ⟨z',H4,I4,r4,q4⟩=>thn (ho' pins s4 σ H4 y z' u w' _ I4 r2 r4 q4) fun d' s5 ⟨z2,H5,I5,r5,k2,e2,q5⟩=>?_))
    subst e2
    cases r5
    refine wpAny_truthy_bool ?_
    cases k2 with
    | false=>exact ite_ff ⟨.bl false,H5,I5,rfl,q5⟩
    | true=>exact ite_tt (chain_last (thn (hd pins s5 σ H5 _ I5 q5) fun w2 s6 ⟨z3,H6,I6,r6,q6⟩=>ho'' pins s6 σ H6 z' z3 w' w2 Q I6 r4 r6 q6))
theorem pt_chain3 {op op' op'':CmpOp} {r r' r'':R2} (ho:OpR X (compareOp op) r) (ho':OpR X (compareOp op') r') (ho'':OpR X (compareOp op'') r'') (ha:PE X a ta) (hb:PE X b tb) (hc:PE X c tc) (hd:PE X d td)
    (hm:lastMarks [op,op',op''] [b,c,d] = false:=by with_unfolding_all rfl):PT X (.Compare a [op,op',op''] [b,c,d] pos) (tTest (tChain3 r r' r'' ta tb tc td)):=by
  intro pins s σ H Q I h
  refine isTrue_chain (thn (ha pins s σ H _ I h) fun v s1 ⟨x,H1,I1,r1,q1⟩=>test_link (thn (hb pins s1 σ H1 _ I1 q1) fun u s2 ⟨y,H2,I2,r2,q2⟩ =>
    thn (ho pins s2 σ H2 x y v u _ I2 r1 r2 q2) fun d s3 ⟨z,H3,I3,r3,k,e,q3⟩=>?_)) hm
  subst e
  cases r3
  refine wpAny_truthy_bool ?_
  cases k with
  | false =>
    obtain ⟨k',e',q'⟩:=q3
    cases e'
    exact ite_ff ⟨H3,I3,q'⟩
  | true =>
    refine ite_tt (test_link (thn (hc pins s3 σ H3 _ I3 q3) fun w' s4 ⟨z',H4,I4,r4,q4⟩=>thn (ho' pins s4 σ H4 y z' u w' _ I4 r2 r4 q4) fun d' s5 ⟨z2,H5,I5,r5,k2,e2,q5⟩=>?_))
    subst e2
    cases r5
    refine wpAny_truthy_bool ?_
    cases k2 with
    | false =>
      obtain ⟨k',e',q'⟩:=q5
      cases e'
      exact ite_ff ⟨H5,I5,q'⟩
    | true =>
      refine ite_tt (test_last (thn (hd pins s5 σ H5 _ I5 q5) fun w2 s6 ⟨z3,H6,I6,r6,q6⟩=>thn (ho'' pins s6 σ H6 z' z3 w' w2 _ I6 r4 r6 q6) fun d2 s7 ⟨z4,H7,I7,r7,k4,e4,q7⟩=>?_))
      subst e4
      cases r7
      exact wpAny_truthy_bool ⟨H7,I7,q7⟩
end
end L2
set_option Elab.async false
set_option linter.all false
set_option maxRecDepth 100000
namespace L2
open PySem PySem.Spec PyProof.Rows
section
variable {X:Cx}
def clsV:V → Option Value
  | .ref a=>some (.ref a)
  | .ty n=>some (.type n)
  | _=>none
theorem call_isinst:CallR X (.builtin "isinstance") (fun xs H Q=>∃ x c t k b,xs = [x,c] ∧ TyOf X.K H x t ∧ clsV c = some k ∧ PySem.W.kitOne X.K t k = some b ∧ Q (.bl b) H):=by
  intro pins s σ H xs us Q I r h
  obtain ⟨x,c,t,k,b,e,ty,hk,e2,q⟩:=h
  subst e
  obtain ⟨u,v,rfl,ru,rv⟩:=vals2 r
  have ev:v = k:=by
    cases c with
    | ref a=>cases rv; cases hk; rfl
    | ty n=>cases rv; cases hk; rfl
    | _=>cases hk
  subst ev
  exact isinst_ok I ru ty e2 fun tk=>⟨.bl b,H,I.tok tk,rfl,q⟩
theorem pe_fldK {K:PySem.W.Frag} {e:Expr} {f:Str} {pos:Pos} {ta:TE} (he:PE X e ta) (hb:attributeBase e f X.env (eval e X.env) = eval e X.env) (hK:X.K = K):PE X (.Attribute e f pos) (tFld K ta f):=hK ▸ pe_fld he hb
theorem ix_listK {K:PySem.W.Frag} (hK:X.K = K):IxR X (rIxL K):=hK ▸ ix_list
end
end L2
set_option Elab.async false
set_option linter.all false
set_option maxRecDepth 100000
namespace L2
open PySem
theorem Same.tup {K:PySem.W.Frag} {H H':Hp} {a:Addr} {xs:List V} (e:Same H H') (h:SqT K H a xs):SqT K H' a xs:=by
  rcases h with (h | ⟨o,h⟩) | h
  · exact .inl (.inl (e _ _ h))
  · exact .inl (.inr ⟨o,e _ _ h⟩)
  · exact .inr h
theorem same_new {H:Hp} {p:Addr} (h:H p = none) (o:HO):Same H (upd H p o):=fun b u q=>by rw [upd_ne (ne_of_none q h)]; exact q
def IntsAt (K:PySem.W.Frag) (H:Hp) (a:Addr) (ns:List Int):Prop:=SqL K H a (ns.map V.int)
theorem Same.ints {K:PySem.W.Frag} {H H':Hp} {a:Addr} {ns:List Int} (e:Same H H') (h:IntsAt K H a ns):IntsAt K H' a ns:=e.seq h
def PairsAt (K:PySem.W.Frag) (H:Hp) (a:Addr) (rs:List (Int × Int)):Prop:=∃ as:List Addr,SqL K H a (as.map V.ref) ∧ Paired (fun b (p:Int × Int)=>SqT K H b [.int p.1,.int p.2]) as rs
theorem Same.pairs {K:PySem.W.Frag} {H H':Hp} {a:Addr} {rs:List (Int × Int)} (e:Same H H') (h:PairsAt K H a rs):PairsAt K H' a rs:=by
  obtain ⟨as,h1,h2⟩:=h
  exact ⟨as,e.seq h1,Paired.mapP h2 fun b p q=>e.tup q⟩
theorem ints_get {ns:List Int} {i:Nat} {x:V} (h:(ns.map V.int)[i]? = some x):∃ n,ns[i]? = some n ∧ x = .int n:=by
  rw [List.getElem?_map] at h
  cases e:ns[i]? with
  | none=>rw [e] at h; cases h
  | some n=>rw [e] at h; exact ⟨n,rfl,(Option.some.inj h).symm⟩
theorem pairs_get {K:PySem.W.Frag} {H:Hp} {as:List Addr} {rs:List (Int × Int)} (h:Paired (fun b (p:Int × Int)=>SqT K H b [.int p.1,.int p.2]) as rs) {i:Nat} {x:V} (hx:(as.map V.ref)[i]? = some x) :
    ∃ b p,x = .ref b ∧ as[i]? = some b ∧ rs[i]? = some p ∧ SqT K H b [.int p.1,.int p.2]:=by
  rw [List.getElem?_map] at hx
  cases e:as[i]? with
  | none=>rw [e] at hx; cases hx
  | some b =>
    rw [e] at hx
    have hi:i < rs.length:=by
      have:=h.length
      have:=(List.getElem?_eq_some_iff.mp e).1
      omega
    obtain ⟨b',eb,hq⟩:=Paired.get' h i _ (List.getElem?_eq_getElem hi)
    rw [e] at eb
    cases eb
    exact ⟨b,_,(Option.some.inj hx).symm,rfl,List.getElem?_eq_getElem hi,hq⟩
theorem take_snoc {α:Type} {xs:List α} {i:Nat} {x:α} (h:xs[i]? = some x):xs.take (i + 1) = xs.take i ++ [x]:=by
  rw [List.take_add_one,h]; rfl
theorem small100 {n:Nat} (h:n ≤ 1000):n ≤ sizeLine:=Nat.le_of_lt (small1000 h)
theorem decT {p:Prop} [Decidable p] (h:p):decide p = true:=decide_eq_true h
theorem decF {p:Prop} [Decidable p] (h:¬ p):decide p = false:=decide_eq_false h
def gcdL (ns:List Int):Nat:=ns.foldl (fun g n=>Nat.gcd g n.natAbs) 0
def lcmL (ts:List Int):Int:=ts.foldl (fun w t=>w / (Int.gcd w t:Int) * t) 1
end L2
namespace L2
open PySem
theorem comp_zip {K:PySem.W.Frag} {a b:Addr} {xs ys:List V} {B:V → Hp → (V → Hp → Prop) → Prop} {F:List V → Hp → Prop} {H:Hp} (Pv:Nat → List V → Hp → Prop) (h0:Pv 0 [] H) (hz:min xs.length ys.length ≤ sizeLine)
    (hl:∀ i zs H,i ≤ min xs.length ys.length → Pv i zs H → SqL K H a xs ∧ SqL K H b ys ∧ zs.length = i)
    (hs:∀ i x y zs H p,xs[i]? = some x → ys[i]? = some y → Pv i zs H → H p = none → B (.ref p) (upd H p (.tup [x,y])) fun z H4=>Pv (i + 1) (zs ++ [z]) H4)
    (hd:∀ zs H,Pv (min xs.length ys.length) zs H → F zs H) :
    ∃ W:Nat → Nat → List V → Hp → Prop,(∃ m,W 0 m [] H) ∧ ∀ i m zs H,W i m zs H →
      ((Itz K a b).stop i H ∧ zs.length ≤ sizeLine ∧ F zs H) ∨
      ((Itz K a b).go i H ∧ zs.length ≤ sizeLine ∧ ∃ N1:V → Hp → Prop,(∀ y H',N1 y H' → ∃ m',m' < m ∧ W (i + 1) m' (zs ++ [y]) H') ∧ ∀ x H',(Itz K a b).yld i H x H' → B x H' N1):=by
  refine ⟨fun i m zs H=>m = min xs.length ys.length - i ∧ i ≤ min xs.length ys.length ∧ Pv i zs H,⟨min xs.length ys.length,by simp,Nat.zero_le _,h0⟩,?_⟩
  rintro i m zs H ⟨rfl,hi,p⟩
  obtain ⟨q1,q2,el⟩:=hl i zs H hi p
  have hzz:zs.length ≤ sizeLine:=by rw [el]; exact Nat.le_trans hi hz
  by_cases hlt:i < min xs.length ys.length
  · have hx:i < xs.length:=by omega
    have hy:i < ys.length:=by omega
    refine .inr ⟨⟨xs,ys,xs[i],ys[i],q1,q2,by simp [hx],by simp [hy]⟩,hzz,fun y H4=>Pv (i + 1) (zs ++ [y]) H4,fun y H' q4=>⟨min xs.length ys.length - (i + 1),by omega,rfl,hlt,q4⟩,fun x H' y=>?_⟩
    obtain ⟨r,u,v,rfl,hr,rfl,hu,hv⟩:=y
    exact hs i u v zs H r (hu xs q1) (hv ys q2) p hr
  · have e:i = min xs.length ys.length:=by omega
    refine .inl ⟨⟨xs,ys,q1,q2,by omega⟩,hzz,hd zs H (e ▸ p)⟩
theorem comp_enum {K:PySem.W.Frag} {a:Addr} {xs:List V} {B:V → Hp → (V → Hp → Prop) → Prop} {F:List V → Hp → Prop} {H:Hp} (Pv:Nat → List V → Hp → Prop) (h0:Pv 0 [] H) (hz:xs.length ≤ sizeLine)
    (hl:∀ i zs H,i ≤ xs.length → Pv i zs H → SqL K H a xs ∧ zs.length = i)
    (hs:∀ i x zs H p,xs[i]? = some x → Pv i zs H → H p = none → B (.ref p) (upd H p (.tup [.int (i:Nat),x])) fun z H4=>Pv (i + 1) (zs ++ [z]) H4)
    (hd:∀ zs H,Pv xs.length zs H → F zs H) :
    ∃ W:Nat → Nat → List V → Hp → Prop,(∃ m,W 0 m [] H) ∧ ∀ i m zs H,W i m zs H →
      ((Ite K a).stop i H ∧ zs.length ≤ sizeLine ∧ F zs H) ∨
      ((Ite K a).go i H ∧ zs.length ≤ sizeLine ∧ ∃ N1:V → Hp → Prop,(∀ y H',N1 y H' → ∃ m',m' < m ∧ W (i + 1) m' (zs ++ [y]) H') ∧ ∀ x H',(Ite K a).yld i H x H' → B x H' N1):=by
  refine ⟨fun i m zs H=>m = xs.length - i ∧ i ≤ xs.length ∧ Pv i zs H,⟨xs.length,by simp,Nat.zero_le _,h0⟩,?_⟩
  rintro i m zs H ⟨rfl,hi,p⟩
  obtain ⟨q1,el⟩:=hl i zs H hi p
  have hzz:zs.length ≤ sizeLine:=by rw [el]; exact Nat.le_trans hi hz
  by_cases hlt:i < xs.length
  · refine .inr ⟨⟨xs,xs[i],q1,by simp [hlt]⟩,hzz,fun y H4=>Pv (i + 1) (zs ++ [y]) H4,fun y H' q4=>⟨xs.length - (i + 1),by omega,rfl,hlt,q4⟩,fun x H' y=>?_⟩
    obtain ⟨r,u,rfl,hr,rfl,hu⟩:=y
    exact hs i u zs H r (hu xs q1) p hr
  · have e:i = xs.length:=by omega
    exact .inl ⟨⟨xs,q1,by omega⟩,hzz,hd zs H (e ▸ p)⟩
end L2
set_option Elab.async false
set_option linter.all false
set_option maxRecDepth 100000
namespace L2
open PySem PySem.Spec PyProof.Rows
def notStar:Expr → Bool
  | .Starred _ _=>false
  | _=>true
theorem starEach_ns {e:Expr} {es:List Expr} {env:Env} (h:notStar e = true):starEach (e :: es) env = (false,eval e env) :: starEach es env:=by
  cases e <;> first | rfl | cases h
theorem pa_consN {X:Cx} {e:Expr} {es:List Expr} {te:TE} {t:TA} (ha:PE X e te) (hr:PA X es t) (hn:notStar e = true:=by rfl):PA X (e :: es) (tCons te t):=pa_cons ha hr (starEach_ns hn)
def intsOf:List Expr → Option (List Int)
  | []=>some []
  | .Constant (.int i) _ _ :: es=>(intsOf es).map (i :: ·)
  | _=>none
def tInts (ns:List Int):TA:=fun _ H Q=>Q (ns.map V.int) H
theorem pa_ints {X:Cx}:∀ {es:List Expr} {ns:List Int},intsOf es = some ns → PA X es (tInts ns)
  | [],ns,h=>by
    cases h
    exact fun pos pins s σ H Q I hq=>pa_nil pos pins s σ H Q I hq
  | e :: es,ns,h=>by
    cases e with
    | Constant c k p =>
      cases c with
      | int i =>
        have h':(intsOf es).map (i :: ·) = some ns:=h
        cases e2:intsOf es with
        | none=>rw [e2] at h'; cases h'
        | some ms =>
          rw [e2] at h'
          cases h'
          have ih:=pa_ints (X:=X) e2
          exact fun pos pins s σ H Q I hq=>pa_cons (X:=X) (pe_int (i:=i)) ih (starEach_ns rfl) pos pins s σ H Q I hq
      | _=>cases h
    | _=>cases h
theorem pe_tupI {X:Cx} {es:List Expr} {k:Nat} {pos:Pos} {ns:List Int} (h:intsOf es = some ns):PE X (.Tuple es k pos) (tTup (tInts ns)):=pe_tup (pa_ints h)
end L2
set_option Elab.async false
set_option linter.all false
set_option maxRecDepth 100000
namespace L2
open PySem PySem.Spec PyProof.Rows
theorem lri_no_len:typeLookup (.type "list_reverseiterator") "__len__" = pure none:=by rw [typeLookup_type,builtinLookup_eq_fast]; kernel_rfl
theorem lri_hint:typeLookup (.type "list_reverseiterator") "__length_hint__" = pure (some (.builtin "list_reverseiterator.__length_hint__")):=by rw [typeLookup_type,builtinLookup_eq_fast]; kernel_rfl
section
variable {prog:Program} {w:World} {A:Around} {E:Value → Shared → Prop} {s:Shared}
theorem hint_rev {it l:Addr} {i:Int} {Q:Bool → Shared → Prop} (hit:s.heap.IsRevIter it l i) (h:Q false s):wpAny (model prog w) A (Builtin.List.listLengthHint (.ref it)) Q E s:=by
  unfold Builtin.List.listLengthHint
  refine wpAny_bind (wpAny_specialOf hit.typeIs lri_no_len ?_)
  show wpAny _ A (specialOf (Value.ref it) (Str.ofString "__length_hint__") >>= _) _ _ _
  refine wpAny_bind (wpAny_specialOf hit.typeIs lri_hint ?_)
  generalize hid:("list_reverseiterator.__length_hint__" : String) = id0
  wp_delta
  rw [show splitId id0 = some ("list_reverseiterator", "__length_hint__") from by subst hid; decide +kernel]
  subst hid
  refine wpAny_bind (wpAny_isInstance (T := "list_reverseiterator") (b:=true) hit.typeIs (by rw [isSubtype_type]; kernel_rfl) ?_)
  refine wpAny_ite_split (fun hab=>absurd hab (by decide)) (fun _=>?_)
  refine wpAny_ite_split (fun _=>?_) (fun hab=>absurd (by decide +kernel) hab)
  refine wpAny_ite_split (fun hab=>absurd hab (by decide +kernel)) (fun _=>?_)
  exact wpAny_pure h
theorem extend_rev {R:Result → Shared → Prop} {it l:Addr} {items:Array Value} (hh:A.handled = none) (hit:s.heap.IsRevIter it l ((items.size:Int) - 1)) (hl:s.heap.IsList l items) (hne:l ≠ it) (hz:items.size ≤ sizeLine)
    (S:Addr) (res:Value) (c₀:Nat) (hS:s.heap.get? S = some { cls:=.type "list", data:=.seq #[] c₀ }) (hSit:S ≠ it) (hSl:S ≠ l)
    (hR:∀ h' tk acc' c',(∀ b o,b ≠ S → b ≠ it → s.heap.get? b = some o → h'.get? b = some o) → h'.get? S = some { cls:=.type "list", dict:=none,data:=.seq acc' c',slots:=#[] } →
      ItemsOf (fun i v=>items[items.size - 1 - i]? = some v) acc' items.size → R (.ok (.ret res)) { s with heap:=h',toks:=tk }) :
    wpAny (model prog w) A.in1 (Builtin.List.listExtendWith (.ref S) (.ref it) res)
      (fun fin s'=>match fin with | .done f=>R (.ok f) s' | .again c'=>c'.quiet = true ∧ codeAny (model prog w) A c' R s') (fun e s'=>R (.error e) s') s:=by
  have W:=(Walks.listRev (prog:=prog) (w:=w) (A:=A.in1) hh it l hne items).toS
  unfold Builtin.List.listExtendWith
  refine wpAny_bind (wpAny_typeOf (T := "list_reverseiterator") hit.typeIs ?_)
  have h1:Builtin.List.listSameRef (.ref S) (.ref it) = false:=by simp [Builtin.List.listSameRef,hSit]
  have h2:(Value.type "list_reverseiterator" == Value.type "list") = false:=by decide
  have h3:(Value.type "list_reverseiterator" == Value.type "tuple") = false:=by decide
  simp only [h1,h2,h3,Bool.or_false,Bool.false_eq_true,if_false]
  refine wpAny_bind (wpAny_pyIter_revIter hit ?_)
  refine wpAny_bind (wpAny_holding (hint_rev hit ?_))
  refine wpAny_ite_split (fun hab=>absurd hab (by decide +kernel)) (fun _=>?_)
  refine wpAny_pure ⟨plainId_quiet F.plain_extend_loop _,?_⟩
  refine codeAny_extend_loopS W hz S (by simp [hSit,hSl]) res items.size 0 _ #[] c₀ rfl (Nat.zero_le _) ⟨Nat.zero_le _,by simpa using hit,hl⟩ hS (ItemsOf.nil _) fun s' acc' c' hm hS' hacc=>?_
  rw [Moved.eq_with hm]
  refine hR s'.heap s'.toks acc' c' (fun b o hb hb2 e=>hm.heap b o (fun hmem=>?_) e) hS' hacc
  rcases List.mem_cons.mp hmem with e' | hmem
  · exact hb e'
  · exact hb2 (List.mem_singleton.mp hmem)
theorem call_list_rev {Q:Value → Shared → Prop} {it l:Addr} {items:Array Value} (hh:A.handled = none) (hit:s.heap.IsRevIter it l ((items.size:Int) - 1)) (hl:s.heap.IsList l items) (hne:l ≠ it) (hz:items.size ≤ sizeLine)
    (hQ:∀ h' tk acc' c',(∀ b o,b ≠ it → s.heap.get? b = some o → h'.get? b = some o) →
      h'.get? s.heap.objs.size = some { cls:=.type "list", dict:=none,data:=.seq acc' c',slots:=#[] } → ItemsOf (fun i v=>items[items.size - 1 - i]? = some v) acc' items.size → Q (.ref s.heap.objs.size) { s with heap:=h',toks:=tk }) :
    wpAny (model prog w) A (call (.type "list") [.ref it]) Q E s:=by
  refine callType_codes (Q₁:=fun obj s₁=>obj = .ref s.heap.objs.size ∧ s₁ = { s with heap:=s.heap.push { cls:=.type "list", data:=.seq #[] } }) F.called_list (F.typeCall_list_1 _) F.entry_list_init
    (code_list_new _ ⟨rfl,rfl⟩) fun obj s₁ h₁=>?_
  obtain ⟨rfl,rfl⟩:=h₁
  have hS:(s.heap.push { cls:=.type "list", data:=.seq #[] }).get? s.heap.objs.size = some { cls:=.type "list", data:=.seq #[] }:=Heap.get?_push_size _ rfl
  have hitl:it < s.heap.objs.size:=by obtain ⟨o,ho,_⟩:=hit; exact Heap.lt_size ho
  have hll:l < s.heap.objs.size:=by obtain ⟨o,ho,_⟩:=hl; exact Heap.lt_size ho
  have n1:s.heap.objs.size ≠ it:=Nat.ne_of_gt hitl
  have n2:s.heap.objs.size ≠ l:=Nat.ne_of_gt hll
  refine ⟨⟨_,hS,rfl⟩,F.args_list_init_2 _ _,?_⟩
  show wpAny _ A.in1.in1 (do let old ← Builtin.List.listItems (.ref s.heap.objs.size); Builtin.List.listUpdate (.ref s.heap.objs.size) (fun _=>#[]); letGo old.toList.reverse; Builtin.List.listExtendWith (.ref s.heap.objs.size) (.ref it) .none) _ _ _
  refine wpAny_bind ?_
  unfold Builtin.List.listItems
  refine wpAny_bind (wpAny_seqItems hS rfl (wpAny_pure ?_))
  show wpAny _ A.in1.in1 (updateSeq s.heap.objs.size (fun _=>#[]) >>= fun _=>letGo (#[]:Array Value).toList.reverse >>= fun _=>Builtin.List.listExtendWith (.ref s.heap.objs.size) (.ref it) .none) _ _ _
  refine wpAny_bind (wpAny_updateSeq hS rfl ?_)
  have hS₂:=Heap.get?_update_self (Obj.mapSeq (fun _=>(#[]:Array Value))) hS rfl
  have oth:∀ b o,b ≠ s.heap.objs.size → s.heap.get? b = some o → ((s.heap.push { cls:=.type "list", data:=.seq #[] }).update s.heap.objs.size (Obj.mapSeq (fun _=>(#[]:Array Value)))).get? b = some o :=
    fun b o hb e=>(Heap.get?_update_other _ _ (Ne.symm hb)).trans (Heap.get?_push_of_some _ e)
  refine wpAny_bind (wpAny_letGo ?_)
  refine extend_rev (items:=items) (A:=A.in1) hh (hit.at fun o e=>oth it o n1.symm e) (hl.at fun o e=>oth l o n2.symm e) hne hz _ .none _ hS₂ n1 n2 fun h' tk acc' c' hk hS' hacc=>?_
  exact ⟨rfl,hQ h' tk acc' c' (fun b o hb e=>hk b o (Nat.ne_of_lt (Heap.lt_size e)) hb (oth b o (Nat.ne_of_lt (Heap.lt_size e)) e)) hS' hacc⟩
end
def Itv (K:PySem.W.Frag) (a:Addr) (n:Nat):It :=
  ⟨fun i H=>i < n ∧ ∃ xs,SqL K H a xs ∧ xs.length = n,fun i H x H'=>H' = H ∧ ∀ xs,SqL K H a xs → xs[n - 1 - i]? = some x,fun i H=>i = n⟩
theorem turn_rev {P:Program} {w:World} {K:PySem.W.Frag} {tg:Expr} (a it:Addr) (n:Nat):Turn P w K tg (Itv K a n) [it] it (fun i h=>i ≤ n ∧ h.IsRevIter it a ((n:Int) - 1 - (i:Nat))) where
  mem:=by simp
  obj:=fun i h st b hb=>by
    have e:b = it:=by simpa using hb
    subst e
    obtain ⟨_,o,e,c,d⟩:=st
    exact ⟨o,e,fun v z=>by rw [d] at z; cases z⟩
  keep:=fun i h h' st k=>⟨st.1,st.2.at fun o e=>k it (by simp) o e⟩
  item:=by
    intro X hP hw hK hc i pins s σ H E I hf st hg
    subst hP hw hK
    obtain ⟨hin,xs,hq,hxn⟩:=hg
    obtain ⟨its,rv,p,hz⟩:=I.list hq
    have hlt:n - 1 - i < xs.length:=by omega
    obtain ⟨u,hu,ru⟩:=rv.get (List.getElem?_eq_getElem hlt)
    obtain ⟨f0,f1,f2,f3,f4,f5⟩:=hf it (by simp)
    have e1:(n:Int) - 1 - (i:Nat) = ((n - 1 - i:Nat):Int):=by omega
    have st2:=st.2
    rw [e1] at st2
    refine wpAny_pyNext_rev_item st2 p.isList (x:=u) (by simpa using hu) fun h' st' sb=>?_
    have I1:Inv X pins σ H { s with heap:=h' }:=I.turned (t':=s.toks) (fun b o hb e=>(sb.2 b hb).trans e) f0 f1 f3 f4 f5
    have e2:((n - 1 - i:Nat):Int) - 1 = (n:Int) - 1 - ((i + 1:Nat):Int):=by omega
    rw [e2] at st'
    obtain ⟨o,e,c,d⟩:=id st'
    exact ⟨u,rfl,go_of (s:={ s with heap:=h' }) e c d (by decide) ⟨_,H,I1,ru,⟨rfl,fun ys hy=>by rw [I.list_inj hy hq]; exact List.getElem?_eq_getElem hlt⟩,⟨hin,st'⟩,fun b hb=>(hf b hb).1⟩⟩
  done:=by
    intro X hP hw hK hc i pins s σ H E I hf st hg
    subst hP hw hK
    have hin:i = n:=hg
    subst hin
    obtain ⟨f0,f1,f2,f3,f4,f5⟩:=hf it (by simp)
    have e:(i:Int) - 1 - (i:Nat) = -1:=by omega
    have st2:=st.2
    rw [e] at st2
    exact wpAny_pyNext_rev_end (I.ok.hd hc) st2 fun h' eb=>⟨rfl,I.turned (t':=s.toks) (fun b o hb e=>eb b o hb e) f0 f1 f3 f4 f5⟩
  self:=fun _ _ _ _ _ st h=>wpAny_pyIter_revIter st.2 h
def iRev (K:PySem.W.Frag) (ta:TA):TI:=fun σ H R=>ta σ H fun vs H1=>∃ a xs,vs = [.ref a] ∧ SqL K H1 a xs ∧ R (Itv K a xs.length) H1
section
variable {X:Cx} {tg:Expr}
theorem pi_rev {a:Expr} {ta:TA} {p pos:Pos} (hg:Gl X "reversed") (hm:X.mg "reversed" = none) (hv:bootBuiltins "reversed" = some (.type "reversed")) (ha:PA X [a] ta) (hs:starEach [a] X.env = [(false,eval a X.env)]:=by rfl):PI X tg (.Call (.Name "reversed" p) [a] [] pos) (iRev X.K ta):=by
  intro pins s σ H R I h
  refine Call_ (ld_blt I hg hm hv (PyProof.Rows.callWith_type1 (thn (ha pos pins s σ H _ I h) fun us s1 ⟨vs,H1,I1,r1,q1⟩=>?_) hs rfl))
  obtain ⟨l,xs,e,hq,q⟩:=q1
  subst e
  obtain ⟨u,rfl,ru⟩:=vals1 r1
  cases ru
  obtain ⟨its,rv,pl,hz⟩:=I1.list hq
  have hlen:=rv.length
  refine call_reversed_list pl.isList ?_
  have I2:Inv X pins σ H1 { s1 with heap:=s1.heap.push (revObj l ((its.toArray.size:Int) - 1)) }:=I1.kept (t':=s1.toks) fun b o e=>Heap.get?_push_of_some _ e
  have hit:(s1.heap.push (revObj l ((its.toArray.size:Int) - 1))).IsRevIter s1.heap.objs.size l ((xs.length:Int) - 1 - ((0:Nat):Int)):=by
    have e:((its.toArray.size:Nat):Int) - 1 = (xs.length:Int) - 1 - ((0:Nat):Int):=by simp [hlen]
    rw [← e]
    exact ⟨_,Heap.get?_push_size _ rfl,rfl,rfl⟩
  refine wpAny_pyIter_revIter hit ?_
  refine ⟨s1.heap.objs.size,[s1.heap.objs.size],_,_,H1,rfl,I2,turn_rev l _ xs.length,⟨Nat.zero_le _,hit⟩,fun b hb=>?_,q⟩
  have e:b = s1.heap.objs.size:=by simpa using hb
  subst e
  exact I1.fpOk (Nat.le_refl _) (I1.hok.fresh (Nat.le_refl _))
def tListRev (K:PySem.W.Frag) (ta:TA):TE:=fun σ H Q=>ta σ H fun vs H1=>∃ a xs,vs = [.ref a] ∧ SqL K H1 a xs ∧ ∀ l,H1 l = none → Q (.ref l) (upd H1 l (.lst xs.reverse))
theorem rev_items {xs:List V} {its:List Value} {acc:Array Value} (rv:Vals xs its) (h:ItemsOf (fun i v=>its.toArray[its.toArray.size - 1 - i]? = some v) acc its.toArray.size):Vals xs.reverse acc.toList:=by
  have e:acc.toList = its.reverse:=by
    apply List.ext_getElem?
    intro i
    have hsz:acc.size = its.length:=by rw [h.1]; simp
    by_cases hi:i < its.length
    · have hi2:i < acc.size:=by omega
      have h1:=h.2 i acc[i] (Array.getElem?_eq_getElem hi2)
      rw [List.getElem?_reverse hi,Array.getElem?_toList,Array.getElem?_eq_getElem hi2]
      simpa using h1.symm
    · rw [List.getElem?_eq_none (by simp; omega),List.getElem?_eq_none (by simp; omega)]
  rw [e]
  exact rv.reverse
theorem pe_listRev {a:Expr} {ta:TA} {p pos p2 pos2:Pos} (hc:X.calm = true) (hg:Gl X "reversed") (hm:X.mg "reversed" = none) (hv:bootBuiltins "reversed" = some (.type "reversed")) (hg2:Gl X "list") (hm2:X.mg "list" = none) (hv2:bootBuiltins "list" = some (.type "list")) (ha:PA X [a] ta)
    (hs:starEach [a] X.env = [(false,eval a X.env)]:=by rfl):PE X (.Call (.Name "list" p2) [.Call (.Name "reversed" p) [a] [] pos] [] pos2) (tListRev X.K ta):=by
  intro pins s σ H Q I h
  refine Call_ (ld_blt I hg2 hm2 hv2 (PyProof.Rows.callWith_type1 (Calls.spliced_cons ?_) (starEach_ns rfl) rfl))
  refine Call_ (ld_blt I hg hm hv (PyProof.Rows.callWith_type1 (thn (ha pos pins s σ H _ I h) fun us s1 ⟨vs,H1,I1,r1,q1⟩=>?_) hs rfl))
  obtain ⟨l,xs,e,hq,q⟩:=q1
  subst e
  obtain ⟨u,rfl,ru⟩:=vals1 r1
  cases ru
  obtain ⟨its,rv,pl,hz⟩:=I1.list hq
  have hlen:=rv.length
  refine call_reversed_list pl.isList ?_
  refine Calls.spliced_nil ?_
  have hll:l < s1.heap.objs.size:=by obtain ⟨o,ho,_⟩:=pl.isList; exact Heap.lt_size ho
  have hl2:(s1.heap.push (revObj l ((its.toArray.size:Int) - 1))).IsList l its.toArray:=pl.isList.push _
  refine call_list_rev (items:=its.toArray) (I1.ok.hd hc) ⟨_,Heap.get?_push_size _ rfl,rfl,rfl⟩ hl2 (Nat.ne_of_lt hll) (by simp; omega) fun h' tk acc' c' kp e hacc=>?_
  have I2:Inv X pins σ H1 { s1 with heap:=s1.heap.push (revObj l ((its.toArray.size:Int) - 1)) }:=I1.kept (t':=s1.toks) fun b o e=>Heap.get?_push_of_some _ e
  have hsz:(s1.heap.push (revObj l ((its.toArray.size:Int) - 1))).objs.size = s1.heap.objs.size + 1:=Heap.size_push ..
  have fp:FpOk X pins H1 s1.heap.objs.size:=I1.fpOk (Nat.le_refl _) (I1.hok.fresh (Nat.le_refl _))
  refine ⟨.ref (s1.heap.objs.size + 1),upd H1 (s1.heap.objs.size + 1) (.lst xs.reverse),?_,?_,q _ (I1.hok.fresh (Nat.le_succ _))⟩
  · refine I2.turnedNew (ch:=[s1.heap.objs.size]) (p:=s1.heap.objs.size + 1) (fun b hb=>by rw [List.mem_singleton.mp hb]; exact fp) (fun b o hb e=>kp b o (fun z=>hb (by simp [z])) e) (by show (s1.heap.push _).objs.size ≤ _; rw [hsz]; exact Nat.le_refl _) ?_
    refine ⟨by rw [List.length_reverse]; exact hz,acc'.toList,c',rev_items rv hacc,?_⟩
    have e':=e
    rw [show ({ s1 with heap:=s1.heap.push (revObj l ((its.toArray.size:Int) - 1)) }:Shared).heap.objs.size = s1.heap.objs.size + 1 from hsz] at e'
    exact e'
  · show Value.ref _ = Value.ref _
    rw [show ({ s1 with heap:=s1.heap.push (revObj l ((its.toArray.size:Int) - 1)) }:Shared).heap.objs.size = s1.heap.objs.size + 1 from hsz]
end
theorem for_rev {K:PySem.W.Frag} {a:Addr} {xs:List V} {g:TG} {tb:TS} {D:Ends} {σ:St} {H:Hp} (Pv:Nat → St → Hp → Prop) (h0:Pv 0 σ H) (hl:∀ i σ H,i ≤ xs.length → Pv i σ H → SqL K H a xs)
    (hs:∀ i x σ H,xs.reverse[i]? = some x → Pv i σ H → g x σ H fun σ2 H2=>tb { D with nx:=Pv (i + 1),ct:=Pv (i + 1),bk:=D.nx } σ2 H2) (hd:∀ σ H,Pv xs.length σ H → D.nx σ H) :
    ∃ W:Nat → Nat → St → Hp → Prop,(∃ m,W 0 m σ H) ∧ ∀ i m σ H,W i m σ H →
      ((Itv K a xs.length).stop i H ∧ D.nx σ H) ∨ ((Itv K a xs.length).go i H ∧ ∃ N:St → Hp → Prop,(∀ σ' H',N σ' H' → ∃ m',m' < m ∧ W (i + 1) m' σ' H') ∧ ∀ x H',(Itv K a xs.length).yld i H x H' → g x σ H' fun σ2 H2=>tb { D with nx:=N,ct:=N,bk:=D.nx } σ2 H2):=by
  refine ⟨fun i m σ H=>m = xs.length - i ∧ i ≤ xs.length ∧ Pv i σ H,⟨xs.length,by simp,Nat.zero_le _,h0⟩,?_⟩
  rintro i m σ H ⟨rfl,hi,p⟩
  have q:=hl i σ H hi p
  by_cases hlt:i < xs.length
  · refine .inr ⟨⟨hlt,xs,q,rfl⟩,Pv (i + 1),fun σ' H' p'=>⟨xs.length - (i + 1),by omega,rfl,hlt,p'⟩,fun x H' y=>?_⟩
    obtain ⟨e,y⟩:=y
    subst e
    exact hs i x σ _ (by rw [List.getElem?_reverse hlt]; exact y xs q) p
  · have e:i = xs.length:=by omega
    exact .inl ⟨e,hd σ H (e ▸ p)⟩
end L2
set_option Elab.async false
set_option linter.all false
set_option maxRecDepth 100000
namespace L2
open PySem PySem.Spec PyProof.Rows
theorem pe_alt {X:Cx} {e:Expr} {t u:TE} (h1:PE X e t) (h2:PE X e u):PE X e (fun σ H Q=>t σ H Q ∨ u σ H Q):=fun pins s σ H Q I h=>by
  rcases h with h | h
  · exact h1 pins s σ H Q I h
  · exact h2 pins s σ H Q I h
theorem cut_front (xs:List V):cutV xs none (some (-1)) = xs.dropLast:=by
  unfold cutV
  rw [HT.sIx_none,List.drop_zero,List.dropLast_eq_take]
  congr 1
  show ((-1:Int) + (xs.length:Int)).toNat - 0 = _
  omega
end L2
set_option Elab.async false
set_option linter.all false
set_option maxRecDepth 100000
namespace L2
open PySem PySem.Spec PyProof.Rows
def SqX (K:PySem.W.Frag) (H:Hp) (a:Addr) (xs:List V):Prop :=
  Rd H a (.lst xs) ∨ ∃ (its:Array Value) (n:Nat),K.lookup a = some { cls:=.type "list", dict:=none,data:=.seq its n,slots:=#[] } ∧ its.size ≤ sizeLine ∧ Vals xs its.toList
theorem SqX.sq {K:PySem.W.Frag} {H:Hp} {a:Addr} {xs:List V} (h:SqX K H a xs):SqL K H a xs:=by
  rcases h with h | ⟨its,n,hk,hz,r⟩
  · exact .inl h
  · exact .inr ⟨_,its,n,hk,rfl,rfl,rfl,hz,r⟩
theorem SqX.same {K:PySem.W.Frag} {H H':Hp} {a:Addr} {xs:List V} (e:Same H H') (h:SqX K H a xs):SqX K H' a xs:=by
  rcases h with (h | ⟨o,h⟩) | h
  · exact .inl (.inl (e _ _ h))
  · exact .inl (.inr ⟨o,e _ _ h⟩)
  · exact .inr h
theorem SqX.of {K:PySem.W.Frag} {H:Hp} {a:Addr} {xs:List V} (h:H a = some (.lst xs)):SqX K H a xs:=.inl (.inl h)
theorem SqX.obj {X:Cx} {pins:List (Addr × Obj)} {σ:St} {H:Hp} {s:Shared} {a:Addr} {xs:List V} (h:SqX X.K H a xs) (I:Inv X pins σ H s):∃ (its:Array Value) (n:Nat),s.heap.get? a = some { cls:=.type "list", dict:=none,data:=.seq its n,slots:=#[] }:=by
  rcases h with h | ⟨its,n,hk,_,_⟩
  · obtain ⟨_,its,n,_,eo⟩:=h.ok I.hok
    exact ⟨_,_,eo⟩
  · exact ⟨its,n,I.kIn a _ hk⟩
section
variable {X:Cx} {elts:List Expr} {k0:Nat} {tp p pos:Pos}
def iEnumX (K:PySem.W.Frag) (ta:TA):TI:=fun σ H R=>ta σ H fun vs H1=>∃ a,vs = [.ref a] ∧ (∃ xs,SqX K H1 a xs) ∧ R (Ite K a) H1
theorem pi_enumX {a:Expr} {ta:TA} (hg:Gl X "enumerate") (hm:X.mg "enumerate" = none) (ha:PA X [a] ta) (hs:starEach [a] X.env = [(false,eval a X.env)]:=by rfl) :
    PI X (.Tuple elts k0 tp) (.Call (.Name "enumerate" p) [a] [] pos) (iEnumX X.K ta):=by
  intro pins s σ H R I h
  refine Call_ (ld_blt I hg hm boot_enumerate (PyProof.Rows.callWith_type1 (thn (ha pos pins s σ H _ I h) fun us s1 ⟨vs,H1,I1,r1,q1⟩=>?_) hs rfl))
  obtain ⟨l1,e,⟨xs,hqa⟩,q⟩:=q1
  subst e
  obtain ⟨u,rfl,ru⟩:=vals1 r1
  cases ru
  obtain ⟨its,n,eo⟩:=hqa.obj I1
  refine call_enumerate_1 eo fun h' a1 a2 a3 a4=>wpAny_pyIter_enum a1 ?_
  refine ⟨s1.heap.objs.size + 1,_,_,_,H1,rfl,I1.kept (t':=s1.toks) a4,turn_enum (Nat.ne_of_gt (Nat.lt_succ_self _)),⟨⟨_,a1⟩,a2⟩,fun c hc=>?_,q⟩
  have hc':c = s1.heap.objs.size + 1 ∨ c = s1.heap.objs.size:=by simpa using hc
  have hge:s1.heap.objs.size ≤ c:=by rcases hc' with z | z <;> (rw [z]; first | exact Nat.le_refl _ | exact Nat.le_add_right _ _)
  exact I1.fpOk hge (I1.hok.fresh hge)
end
theorem law_callX {P:Program} {w:World} {K:PySem.W.Frag} {mg mb:Str → Option Value} {CX:CXT} {k:Nat} {fa a:Addr} {fd:FuncData} {x:Str} {sp:Sp} {s₁:Shared} {vs:List Value} {ns:List Int}
    (KX:K.In s₁.heap) (hns:s₁.heap.Ns mainGlobals mg) (hb:s₁.heap.Ns builtinsNs mb) (hbb:∀ x:Str,x ≠ "__name__" → mb x = bootBuiltins x) (hlim:s₁.heap.NoLimit) (hg:s₁.gens = #[])
    (ha:s₁.heap.get? a = some { cls:=.type "list", data:=.seq vs.toArray }) (hi:IntsAre vs ns) (hl:ns.length ≤ sizeLine) (hr:Room k callerA)
    (F:∀ base:Heap,K.In base → base.Ns mainGlobals mg → FnOk P w K mg base CX k fa fd [x] sp) (hbind:∀ (s:Shared) (u:Value),BindsTo s fd ⟨[u],[]⟩ [(x,u)])
    (hsp:∀ H:Hp,Only H → SqX K H a (ns.map V.int) → sp [.ref a] H (fun v _=>v = .bl true) fun _ _ _=>False)
    (hCX:∀ H e s',CX [] H s₁ (fun _ _ _=>False) e s' → False) :
    codeAny (model P w) callerA (.call (.ref fa) ⟨[.ref a],[]⟩) (fun r s'=>r = .ok (.ret (.bool true)) ∧ OldK s₁.heap s'.heap ∧ s'.os = s₁.os ∧ AllBare s'.gens) s₁:=by
  have rv:=vals_ints hi
  have lenV:=hi.length
  have core:∀ H:Hp,Only H → SqX K H a (ns.map V.int) → HOk P w H s₁.heap → (∀ b,H b ≠ none → b = a) → (H a ≠ none → K.lookup a = none) →
      codeAny (model P w) callerA (.call (.ref fa) ⟨[.ref a],[]⟩) (fun r s'=>r = .ok (.ret (.bool true)) ∧ OldK s₁.heap s'.heap ∧ s'.os = s₁.os ∧ AllBare s'.gens) s₁:=by
    intro H hO hS hok hA hK
    have base_of:∀ {b:Addr} {o:Obj},s₁.heap.get? b = some o → H b = none → (hidT s₁.heap H).get? b = some o:=fun e n=>hidT_get e n
    have noA:∀ {b:Addr} {o:Obj} {es:Array DictEntry} {ep:Nat},s₁.heap.get? b = some o → o.data = .dict es ep → H b = none:=fun {b o es ep} e d=>by
      cases q:H b with
      | none=>rfl
      | some u =>
        have e':b = a:=hA b (by rw [q]; simp)
        subst e'
        rw [ha] at e; cases e
        have d':Data.seq vs.toArray _ = Data.dict es ep:=d
        cases d'
    have nsK:∀ {b:Addr} {m:Str → Option Value},s₁.heap.Ns b m → (hidT s₁.heap H).Ns b m:=fun {b m} ⟨o,es,ep,e,d,r⟩=>⟨o,es,ep,base_of e (noA e d),d,r⟩
    have hKb:K.In (hidT s₁.heap H):=fun b o e=>base_of (KX b o e) (by
      cases q:H b with
      | none=>rfl
      | some u =>
        have e':b = a:=hA b (by rw [q]; simp)
        subst e'
        rw [hK (by rw [q]; simp)] at e; cases e)
    have hM:Mod K mg (hidT s₁.heap H):=⟨hKb,nsK hns,⟨mb,nsK hb,hbb⟩,let ⟨mc,h1,h2⟩:=hlim; ⟨mc,nsK h1,h2⟩⟩
    have e0:Env0 P w K mg (hidT s₁.heap H) callerA [] s₁ H:=⟨rfl,hM,fun b o e=>of_hidT e,Nat.le_of_eq (hidT_size _ _),trivial,fun b hb=>absurd (show b ∈ ([]:List Addr) from hb) (by simp),hok,.of_eq hg⟩
    refine codeAny_mono ((F _ hKb (nsK hns)).run callerA [] s₁ H ⟨[.ref a],[]⟩ [.ref a] [.ref a] _ _ hr e0 (hbind s₁ (.ref a)) (.cons rfl .nil) (hsp H hO hS)) fun r s' h=>?_
    cases r with
    | error e=>exact (hCX H e s' h).elim
    | ok fl =>
      cases fl with
      | next=>exact False.elim h
      | brk=>exact False.elim h
      | cont=>exact False.elim h
      | ret u =>
        obtain ⟨v,H',os,bare,un,hok',r',q⟩:=h
        have q':v = .bl true:=q
        subst q'
        obtain rfl:u = Value.bool true:=r'
        refine ⟨rfl,OldK.of_keep fun b o e=>?_,os,bare⟩
        cases q:H b with
        | none=>exact un.keep b o e q (by intro z; exact absurd (show b ∈ ([]:List Addr) from z) (by simp)) (by simp)
        | some u =>
          rcases hO b with z | ⟨ob,xs,z⟩
          · rw [q] at z; cases z
          · have z2:=un.frzs b ob _ z
            obtain ⟨e1,_⟩:=hok b _ z
            obtain ⟨e2,_⟩:=hok' b _ z2
            rw [e] at e1; cases e1
            exact e2
  cases hk:K.lookup a with
  | some o =>
    have e:=KX a o hk
    rw [ha] at e
    cases e
    refine core (fun _=>none) (fun _=>.inl rfl) (.inr ⟨vs.toArray,_,hk,by rw [List.size_toArray,lenV]; exact hl,by simpa using rv⟩) (fun b u z=>by have z':(none:Option HO) = some u:=z; cases z') (fun b z=>absurd rfl z) fun z=>absurd rfl z
  | none =>
    refine core (fun b=>if b = a then some (.frz { cls:=.type "list", data:=.seq vs.toArray } (.lst (ns.map V.int))) else none) (fun b=>?_) (.inl (.inr ⟨{ cls:=.type "list", data:=.seq vs.toArray },if_pos rfl⟩)) (fun b u z=>?_) (fun b z=>?_) fun _=>hk
    · by_cases hb:b = a
      · exact .inr ⟨_,_,if_pos hb⟩
      · exact .inl (if_neg hb)
    · by_cases hb:b = a
      · have z':=(if_pos hb).symm.trans z
        cases z'
        subst hb
        exact ⟨ha,by rw [List.length_map]; exact hl,vs,_,rv,ha⟩
      · have z':=(if_neg hb).symm.trans z
        cases z'
    · by_cases hb:b = a
      · exact hb
      · exact absurd (if_neg hb) z
theorem walk_ofX {l:PySem.W.OpenLaw} {n k:Nat} {q:Program} {loose:List Str} {XP:(Str → Option Value) → Heap → Prop} {YP:World → Heap → Prop} {d:DefRec} {K:Params → PySem.W.Frag} {CX:World → CXT} {sp:World → Sp} {x:Str}
    (hn:l.most = some n) (hn2:n ≤ sizeLine) (hdf:d.params.defaults = []) (hr:Room k callerA)
    (hY:∀ (w:World) (h:Heap),YP w h → (K w.params).In h)
    (F:∀ (w:World) (mg:Str → Option Value) (fa:Addr) (h:Heap),(K w.params).In h → h.Ns mainGlobals mg → mg d.name = some (.ref fa) →
      ∃ fd:FuncData,(∀ (s:Shared) (u:Value),BindsTo s fd ⟨[u],[]⟩ [(x,u)]) ∧
        ∀ base:Heap,(K w.params).In base → base.Ns mainGlobals mg → FnOk l.prog w (K w.params) mg base (CX w) k fa fd [x] (sp w))
    (hsp:∀ (w:World) (H:Hp) (a:Addr) (ns:List Int),ns.length ≤ n → Only H → SqX (K w.params) H a (ns.map V.int) → sp w [.ref a] H (fun v _=>v = .bl true) fun _ _ _=>False)
    (hCX:∀ (w:World) (H:Hp) (s:Shared) (e:Value) (s':Shared),CX w [] H s (fun _ _ _=>False) e s' → False) :
    PySem.W.WalkO q loose XP YP l.row.toRowW d [] (fun f vs=>PySem.call f vs):=by
  refine Att.attach_call hn hdf fun w s₀ s₁ mg mb fa o pm cd doc a vs ns G Y ho hd hcd hmg hobj hints hlen hg=>?_
  have KX:=hY w _ Y
  obtain ⟨fd,hb,hF⟩:=F w mg fa _ KX G.T.g hmg
  exact law_callX KX G.T.g G.T.b G.T.builtins G.T.nolimit hg hobj hints (Nat.le_trans hlen hn2) hr hF hb (fun H hO hS=>hsp w H a ns hlen hO hS) fun H e s'=>hCX w H s₁ e s'
theorem for_enum {K:PySem.W.Frag} {a:Addr} {xs:List V} {g:TG} {tb:TS} {D:Ends} {σ:St} {H:Hp} (Pv:Nat → St → Hp → Prop) (h0:Pv 0 σ H) (hl:∀ i σ H,i ≤ xs.length → Pv i σ H → SqL K H a xs)
    (hs:∀ i x σ H p,xs[i]? = some x → Pv i σ H → H p = none → g (.ref p) σ (upd H p (.tup [.int (i:Nat),x])) fun σ2 H2=>tb { D with nx:=Pv (i + 1),ct:=Pv (i + 1),bk:=D.nx } σ2 H2) (hd:∀ σ H,Pv xs.length σ H → D.nx σ H) :
    ∃ W:Nat → Nat → St → Hp → Prop,(∃ m,W 0 m σ H) ∧ ∀ i m σ H,W i m σ H →
      ((Ite K a).stop i H ∧ D.nx σ H) ∨ ((Ite K a).go i H ∧ ∃ N:St → Hp → Prop,(∀ σ' H',N σ' H' → ∃ m',m' < m ∧ W (i + 1) m' σ' H') ∧ ∀ x H',(Ite K a).yld i H x H' → g x σ H' fun σ2 H2=>tb { D with nx:=N,ct:=N,bk:=D.nx } σ2 H2):=by
  refine ⟨fun i m σ H=>m = xs.length - i ∧ i ≤ xs.length ∧ Pv i σ H,⟨xs.length,by simp,Nat.zero_le _,h0⟩,?_⟩
  rintro i m σ H ⟨rfl,hi,p⟩
  have q:=hl i σ H hi p
  by_cases hlt:i < xs.length
  · refine .inr ⟨⟨xs,xs[i],q,by simp [hlt]⟩,Pv (i + 1),fun σ' H' p'=>⟨xs.length - (i + 1),by omega,rfl,hlt,p'⟩,fun x H' y=>?_⟩
    obtain ⟨r,u,rfl,hr,rfl,hu⟩:=y
    exact hs i u σ H r (hu xs q) p hr
  · have e:i = xs.length:=by omega
    subst e
    exact .inl ⟨⟨xs,q,Nat.le_refl _⟩,hd σ H p⟩
theorem comp_rangeF {lo:Int} {n:Nat} {B:V → Hp → (V → Hp → Prop) → (Hp → Prop) → Prop} {F:List V → Hp → Prop} {H:Hp} (Pv:Nat → List V → Hp → Prop) (h0:Pv 0 [] H) (hz:n ≤ sizeLine)
    (hl:∀ i ys H,i ≤ n → Pv i ys H → ys.length ≤ i)
    (hs:∀ i ys H,i < n → Pv i ys H → B (.int (lo + i)) H (fun y H4=>Pv (i + 1) (ys ++ [y]) H4) (fun H4=>Pv (i + 1) ys H4))
    (hd:∀ ys H,Pv n ys H → F ys H) :
    ∃ W:Nat → Nat → List V → Hp → Prop,(∃ m,W 0 m [] H) ∧ ∀ i m ys H,W i m ys H →
      ((Itr lo n).stop i H ∧ ys.length ≤ sizeLine ∧ F ys H) ∨
      ((Itr lo n).go i H ∧ ys.length ≤ sizeLine ∧ ∃ (N1:V → Hp → Prop) (N0:Hp → Prop),(∀ y H',N1 y H' → ∃ m',m' < m ∧ W (i + 1) m' (ys ++ [y]) H') ∧ (∀ H',N0 H' → ∃ m',m' < m ∧ W (i + 1) m' ys H') ∧ ∀ x H',(Itr lo n).yld i H x H' → B x H' N1 N0):=by
  refine ⟨fun i m ys H=>m = n - i ∧ i ≤ n ∧ Pv i ys H,⟨n,by simp,Nat.zero_le _,h0⟩,?_⟩
  rintro i m ys H ⟨rfl,hi,p⟩
  have el:=hl i ys H hi p
  have hzz:ys.length ≤ sizeLine:=Nat.le_trans (Nat.le_trans el hi) hz
  by_cases hlt:i < n
  · refine .inr ⟨hlt,hzz,fun y H4=>Pv (i + 1) (ys ++ [y]) H4,fun H4=>Pv (i + 1) ys H4,fun y H' q4=>⟨n - (i + 1),by omega,rfl,hlt,q4⟩,fun H' q4=>⟨n - (i + 1),by omega,rfl,hlt,q4⟩,fun x H' y=>?_⟩
    obtain ⟨e,y⟩:=y
    subst e y
    exact hs i ys _ hlt p
  · have e:i = n:=by omega
    subst e
    exact .inl ⟨Nat.le_refl _,hzz,hd ys H p⟩
end L2
set_option linter.all false
namespace Wr
theorem bez (a b:Nat):∃ x y:Int,(Nat.gcd a b:Int) = a * x + b * y:=by
  induction a,b using Nat.gcd.induction with
  | H0 n=>exact ⟨0,1,by simp⟩
  | H1 m n hm ih =>
    obtain ⟨x,y,h⟩:=ih
    refine ⟨y - (n / m:Nat) * x,x,?_⟩
    rw [Nat.gcd_rec,h]
    have e:(n:Int) = m * (n / m:Nat) + (n % m:Nat):=by
      have:=Nat.div_add_mod n m
      exact_mod_cast this.symm
    have e2:((n % m:Nat):Int) = n - m * (n / m:Nat):=by omega
    rw [e2]
    generalize ((n / m:Nat):Int) = q
    rw [Int.sub_mul,Int.mul_sub,Int.mul_assoc]
    omega
theorem gcd_lcm_dvd {a b c:Nat} {x:Int} (ha:0 < a) (hb:0 < b) (hc:0 < c) (h1:(Nat.gcd a c:Int) ∣ x) (h2:(Nat.gcd b c:Int) ∣ x):(Nat.gcd (Nat.lcm a b) c:Int) ∣ x:=by
  have key:Nat.gcd (Nat.lcm a b) c ∣ Nat.lcm (Nat.gcd a c) (Nat.gcd b c):=by
    have hepos:0 < Nat.gcd (Nat.gcd a c) (Nat.gcd b c):=Nat.gcd_pos_of_pos_left _ (Nat.gcd_pos_of_pos_left _ ha)
    have hm:Nat.gcd (Nat.gcd a c) (Nat.gcd b c) * Nat.lcm (Nat.gcd a c) (Nat.gcd b c) = Nat.gcd a c * Nat.gcd b c:=Nat.gcd_mul_lcm _ _
    have hge:Nat.gcd (Nat.gcd a c) (Nat.gcd b c) * Nat.gcd (Nat.lcm a b) c ∣ Nat.gcd a c * Nat.gcd b c:=by
      have ea:Nat.gcd (Nat.gcd a c) (Nat.gcd b c) ∣ a:=Nat.dvd_trans (Nat.gcd_dvd_left _ _) (Nat.gcd_dvd_left _ _)
      have eb:Nat.gcd (Nat.gcd a c) (Nat.gcd b c) ∣ b:=Nat.dvd_trans (Nat.gcd_dvd_right _ _) (Nat.gcd_dvd_left _ _)
      have ec:Nat.gcd (Nat.gcd a c) (Nat.gcd b c) ∣ c:=Nat.dvd_trans (Nat.gcd_dvd_left _ _) (Nat.gcd_dvd_right _ _)
      have gl:Nat.gcd (Nat.lcm a b) c ∣ Nat.lcm a b:=Nat.gcd_dvd_left _ _
      have gc:Nat.gcd (Nat.lcm a b) c ∣ c:=Nat.gcd_dvd_right _ _
      generalize hE:Nat.gcd (Nat.gcd a c) (Nat.gcd b c) = e at *
      generalize hG:Nat.gcd (Nat.lcm a b) c = g at *
      have hab:e * g ∣ a * b:=by
        rw [← Nat.gcd_mul_lcm a b]
        exact Nat.mul_dvd_mul (Nat.dvd_gcd ea eb) gl
      obtain ⟨x1,y1,e1⟩:=bez a c
      obtain ⟨x2,y2,e2⟩:=bez b c
      have z:((e * g:Nat):Int) ∣ ((Nat.gcd a c * Nat.gcd b c:Nat):Int):=by
        have d1:((e * g:Nat):Int) ∣ ((a * b:Nat):Int):=Int.ofNat_dvd.mpr hab
        have d2:((e * g:Nat):Int) ∣ ((a * c:Nat):Int):=Int.ofNat_dvd.mpr (Nat.mul_dvd_mul ea gc)
        have d3:((e * g:Nat):Int) ∣ ((b * c:Nat):Int):=Int.ofNat_dvd.mpr (Nat.mul_dvd_mul eb gc)
        have d4:((e * g:Nat):Int) ∣ ((c * c:Nat):Int):=Int.ofNat_dvd.mpr (Nat.mul_dvd_mul ec gc)
        rw [show ((Nat.gcd a c * Nat.gcd b c:Nat):Int) = (Nat.gcd a c:Int) * (Nat.gcd b c:Int) from Int.natCast_mul _ _,e1,e2]
        have ex:((a:Int) * x1 + c * y1) * (b * x2 + c * y2) = ((a * b:Nat):Int) * (x1 * x2) + ((a * c:Nat):Int) * (x1 * y2) + ((b * c:Nat):Int) * (y1 * x2) + ((c * c:Nat):Int) * (y1 * y2):=by
          simp only [Int.natCast_mul,Int.add_mul,Int.mul_add]
          have r1:(a:Int) * x1 * (b * x2) = a * b * (x1 * x2):=by ac_rfl
          have r2:(c:Int) * y1 * (b * x2) = b * c * (y1 * x2):=by ac_rfl
          have r3:(a:Int) * x1 * (c * y2) = a * c * (x1 * y2):=by ac_rfl
          have r4:(c:Int) * y1 * (c * y2) = c * c * (y1 * y2):=by ac_rfl
          rw [r1,r2,r3,r4]
          omega
        rw [ex]
        exact Int.dvd_add (Int.dvd_add (Int.dvd_add (Int.dvd_mul_of_dvd_left d1) (Int.dvd_mul_of_dvd_left d2)) (Int.dvd_mul_of_dvd_left d3)) (Int.dvd_mul_of_dvd_left d4)
      exact Int.ofNat_dvd.mp z
    rw [← hm] at hge
    exact Nat.dvd_of_mul_dvd_mul_left hepos hge
  have hl:((Nat.lcm (Nat.gcd a c) (Nat.gcd b c):Nat):Int) ∣ x:=by
    have q1:Nat.gcd a c ∣ x.natAbs:=Int.ofNat_dvd_left.mp h1
    have q2:Nat.gcd b c ∣ x.natAbs:=Int.ofNat_dvd_left.mp h2
    exact Int.ofNat_dvd_left.mpr (Nat.lcm_dvd q1 q2)
  exact Int.dvd_trans (Int.ofNat_dvd.mpr key) hl
end Wr
set_option linter.all false
namespace Wr
structure EI (A B p o l lo:Int):Prop where
  p0:0 ≤ p
  l0:0 ≤ l
  lM:l ≤ 1000000
  oM : -1000000 ≤ o ∧ o ≤ 1000000
  loM : -1000000 ≤ lo ∧ lo ≤ 1000000
  g:Int.gcd p l = Int.gcd A B
  dp:B ∣ p - o * A
  dl:B ∣ l - lo * A
  sg:(0 ≤ o ∧ lo ≤ 0 ∧ o * l - lo * p = B) ∨ (o ≤ 0 ∧ 0 ≤ lo ∧ lo * p - o * l = B)
theorem EI.start {A B:Int} (hA:0 ≤ A) (hB:0 ≤ B) (hB2:B ≤ 1000000):EI A B A 1 B 0 :=
  ⟨hA,hB,hB2,⟨by decide,by decide⟩,⟨by decide,by decide⟩,rfl,by simp,by simp,.inl ⟨by decide,by decide,by simp⟩⟩
theorem le_mul_pos {a b:Int} (ha:0 ≤ a) (hb:1 ≤ b):a ≤ a * b:=by
  have:=Int.mul_le_mul_of_nonneg_left hb ha
  simpa using this
theorem EI.turn {A B p o l lo:Int} (hB2:B ≤ 1000000) (h:EI A B p o l lo) (hl:l ≠ 0):EI A B l lo (p - p / l * l) (o - p / l * lo):=by
  obtain ⟨p0,l0,lM,oM,loM,g,dp,dl,sg⟩:=h
  have hl1:1 ≤ l:=by omega
  have e:p - p / l * l = p % l:=by
    have:=Int.emod_add_mul_ediv p l
    rw [Int.mul_comm] at this
    omega
  have r0:=Int.emod_nonneg p hl
  have r1:=Int.emod_lt_of_pos p (show 0 < l by omega)
  have w0:0 ≤ p / l:=Int.ediv_nonneg p0 l0
  have hg:Int.gcd l (p % l) = Int.gcd A B:=by
    rw [← g]
    show Nat.gcd l.natAbs (p % l).natAbs = Nat.gcd p.natAbs l.natAbs
    rw [Int.natAbs_emod_of_nonneg p0,Nat.gcd_comm l.natAbs,← Nat.gcd_rec,Nat.gcd_comm]
  have hd:B ∣ (p - p / l * l) - (o - p / l * lo) * A:=by
    have:(p - p / l * l) - (o - p / l * lo) * A = (p - o * A) - p / l * (l - lo * A):=by
      rw [Int.sub_mul,Int.mul_sub,Int.mul_assoc]; omega
    rw [this]
    exact Int.dvd_sub dp (Int.dvd_mul_of_dvd_right dl)
  have hs:(0 ≤ lo ∧ (o - p / l * lo) ≤ 0 ∧ lo * (p - p / l * l) - (o - p / l * lo) * l = B) ∨ (lo ≤ 0 ∧ 0 ≤ (o - p / l * lo) ∧ (o - p / l * lo) * l - lo * (p - p / l * l) = B):=by
    rcases sg with ⟨s1,s2,s3⟩ | ⟨s1,s2,s3⟩
    · right
      refine ⟨s2,?_,?_⟩
      · have:p / l * lo ≤ 0:=Int.mul_nonpos_of_nonneg_of_nonpos w0 s2
        omega
      · rw [← s3,Int.sub_mul,Int.mul_sub]
        have:p / l * lo * l = lo * (p / l * l):=by ac_rfl
        omega
    · left
      refine ⟨s2,?_,?_⟩
      · have:0 ≤ p / l * lo:=Int.mul_nonneg w0 s2
        omega
      · rw [← s3,Int.sub_mul,Int.mul_sub]
        have:p / l * lo * l = lo * (p / l * l):=by ac_rfl
        omega
  rw [e] at hd hs ⊢
  generalize o - p / l * lo = n at *
  refine ⟨l0,r0,by omega,loM,?_,hg,dl,hd,hs⟩
  rcases hs with ⟨s1,s2,s3⟩ | ⟨s1,s2,s3⟩
  · have h1:0 ≤ lo * (p % l):=Int.mul_nonneg s1 r0
    have h2:=le_mul_pos (show 0 ≤ -n by omega) hl1
    rw [Int.neg_mul] at h2
    omega
  · have h1:lo * (p % l) ≤ 0:=Int.mul_nonpos_of_nonpos_of_nonneg s1 r0
    have h2:=le_mul_pos s2 hl1
    omega
structure Pwt (a b g x y:Int):Prop where
  g_:g = (Int.gcd a b:Int)
  s:a * x + b * y = g
  xM : -1000000 ≤ x ∧ x ≤ 1000000
  yM : -1000001000000 ≤ y ∧ y ≤ 1000001000000
theorem abs_small {a:Int} (h : -1000000 ≤ a ∧ a ≤ 1000000):0 ≤ (a.natAbs:Int) ∧ (a.natAbs:Int) ≤ 1000000:=by omega
theorem mul_small {x a M N:Int} (hx : -M ≤ x ∧ x ≤ M) (ha : -N ≤ a ∧ a ≤ N) (hM:0 ≤ M) (hN:0 ≤ N) : -(M * N) ≤ x * a ∧ x * a ≤ M * N:=by
  have h1:(x * a).natAbs ≤ M.natAbs * N.natAbs:=by
    rw [Int.natAbs_mul]
    exact Nat.mul_le_mul (by omega) (by omega)
  have h2:((M.natAbs * N.natAbs:Nat):Int) = M * N:=by
    rw [Int.natCast_mul]
    rw [show (M.natAbs:Int) = M by omega,show (N.natAbs:Int) = N by omega]
  omega
theorem EI.done {a b p o lo:Int} (ha : -1000000 ≤ a ∧ a ≤ 1000000) (hb : -1000000 ≤ b ∧ b ≤ 1000000) (h:EI (a.natAbs:Int) (b.natAbs:Int) p o 0 lo) :
    Pwt a b p (if a < 0 then -o else o) (if b = 0 then 0 else Int.fdiv (p - (if a < 0 then -o else o) * a) b) ∧ -1000001000000 ≤ p - (if a < 0 then -o else o) * a ∧ p - (if a < 0 then -o else o) * a ≤ 1000001000000:=by
  obtain ⟨p0,l0,lM,oM,loM,g,dp,dl,sg⟩:=h
  have hp:p = (Int.gcd a b:Int):=by
    have e:Int.gcd (a.natAbs:Int) (b.natAbs:Int) = Int.gcd a b:=by simp [Int.gcd]
    rw [e,Int.gcd_zero_right] at g
    omega
  have hx:(if a < 0 then -o else o) * a = o * (a.natAbs:Int):=by
    split
    · rw [show (a.natAbs:Int) = -a by omega,Int.neg_mul,Int.mul_neg]
    · rw [show (a.natAbs:Int) = a by omega]
  have hxM : -1000000 ≤ (if a < 0 then -o else o) ∧ (if a < 0 then -o else o) ≤ 1000000:=by split <;> omega
  have hb2:b ∣ p - (if a < 0 then -o else o) * a:=by
    rw [hx]
    exact Int.natAbs_dvd.mp dp
  have hpM:p ≤ 1000000:=by
    rw [hp]
    by_cases hz:a = 0
    · subst hz
      rw [Int.gcd_zero_left]; omega
    · have:(Int.gcd a b) ≤ a.natAbs:=Nat.le_of_dvd (by omega) (Nat.gcd_dvd_left _ _)
      omega
  have hm:=mul_small (M:=1000000) (N:=1000000) hxM ha (by decide) (by decide)
  rw [show (1000000:Int) * 1000000 = 1000000000000 by decide] at hm
  generalize (if a < 0 then -o else o) = x at *
  refine ⟨?_,by omega,by omega⟩
  by_cases hb0:b = 0
  · rw [if_pos hb0]
    subst hb0
    refine ⟨hp,?_,hxM,by omega⟩
    obtain ⟨c,hc⟩:=hb2
    rw [Int.zero_mul] at hc
    rw [Int.mul_comm a x]
    omega
  · rw [if_neg hb0]
    obtain ⟨c,hc⟩:=hb2
    have ec:Int.fdiv (p - x * a) b = c:=by rw [hc]; exact Int.mul_fdiv_cancel_left c hb0
    rw [ec]
    refine ⟨hp,?_,hxM,?_⟩
    · rw [Int.mul_comm a x]; omega
    · have h1:(b * c).natAbs = b.natAbs * c.natAbs:=Int.natAbs_mul b c
      have h2:c.natAbs ≤ b.natAbs * c.natAbs:=Nat.le_mul_of_pos_left _ (by omega)
      omega
end Wr
set_option Elab.async false
set_option linter.all false
set_option maxRecDepth 100000
namespace B
theorem abs:PySem.bootBuiltins "abs" = some (.builtin "abs"):=by decide +kernel
theorem all:PySem.bootBuiltins "all" = some (.builtin "all"):=by decide +kernel
theorem bool:PySem.bootBuiltins "bool" = some (.type "bool"):=by decide +kernel
theorem enumerate:PySem.bootBuiltins "enumerate" = some (.type "enumerate"):=by decide +kernel
theorem int:PySem.bootBuiltins "int" = some (.type "int"):=by decide +kernel
theorem isinstance:PySem.bootBuiltins "isinstance" = some (.builtin "isinstance"):=by decide +kernel
theorem len:PySem.bootBuiltins "len" = some (.builtin "len"):=by decide +kernel
theorem list:PySem.bootBuiltins "list" = some (.type "list"):=by decide +kernel
theorem range:PySem.bootBuiltins "range" = some (.type "range"):=by decide +kernel
theorem reversed:PySem.bootBuiltins "reversed" = some (.type "reversed"):=by decide +kernel
theorem sum:PySem.bootBuiltins "sum" = some (.builtin "sum"):=by decide +kernel
theorem tuple:PySem.bootBuiltins "tuple" = some (.type "tuple"):=by decide +kernel
theorem zip:PySem.bootBuiltins "zip" = some (.type "zip"):=by decide +kernel
end B
namespace W06
open PySem L2
def top (i:Nat):Stmt:=PySem.Challenge.pw_wheelrow_k06_answers_by_hand.main.body.getD i (.Pass ⟨0,0,0,0⟩)
abbrev xp8:Stmt:=top 3
theorem xo0:FnScope ["value"] ["value"] (defScope xp8):=⟨rfl,rfl,rfl,by decide +kernel,rfl,by decide +kernel,by decide +kernel⟩
abbrev xoW:Stmt:=top 4
theorem xml:FnScope ["value"] ["value"] (defScope xoW):=⟨rfl,rfl,rfl,by decide +kernel,rfl,by decide +kernel,by decide +kernel⟩
abbrev xj2:Stmt:=top 5
theorem xij:FnScope ["value"] ["value"] (defScope xj2):=⟨rfl,rfl,rfl,by decide +kernel,rfl,by decide +kernel,by decide +kernel⟩
theorem xdU:CompSc (defScope xj2) { kind:=PySem.ScopeKind.function,names:=[ (PySem.Str.ofString ".0", PySem.NameKind.local),(PySem.Str.ofString "number", PySem.NameKind.local),(PySem.Str.ofString "is_number", PySem.NameKind.globalImplicit)],isGenerator:=false,isCoroutine:=false,more:=[]:PySem.Scope } ["value"] ["number"] [none]:=⟨rfl,by decide +kernel,by decide +kernel,by decide +kernel,rfl,by decide +kernel,by decide +kernel⟩
abbrev xp7:Stmt:=top 6
theorem xoZ:FnScope ["value"] ["value"] (defScope xp7):=⟨rfl,rfl,rfl,by decide +kernel,rfl,by decide +kernel,by decide +kernel⟩
abbrev xrb:Stmt:=top 7
theorem xqb:FnScope ["value", "turn"] ["value", "turn"] (defScope xrb):=⟨rfl,rfl,rfl,by decide +kernel,rfl,by decide +kernel,by decide +kernel⟩
abbrev xif:Stmt:=top 8
theorem xfV:FnScope ["value"] ["value"] (defScope xif):=⟨rfl,rfl,rfl,by decide +kernel,rfl,by decide +kernel,by decide +kernel⟩
abbrev xoT:Stmt:=top 9
theorem xmi:FnScope ["value"] ["value"] (defScope xoT):=⟨rfl,rfl,rfl,by decide +kernel,rfl,by decide +kernel,by decide +kernel⟩
theorem xfU:CompSc (defScope xoT) { kind:=PySem.ScopeKind.function,names:=[ (PySem.Str.ofString ".0", PySem.NameKind.local),(PySem.Str.ofString "pair", PySem.NameKind.local),(PySem.Str.ofString "is_rest_pair", PySem.NameKind.globalImplicit)],isGenerator:=false,isCoroutine:=false,more:=[]:PySem.Scope } ["value"] ["pair"] [none]:=⟨rfl,by decide +kernel,by decide +kernel,by decide +kernel,rfl,by decide +kernel,by decide +kernel⟩
abbrev xoV:Stmt:=top 10
theorem xmk:FnScope ["part", "number"] ["part", "number"] (defScope xoV):=⟨rfl,rfl,rfl,by decide +kernel,rfl,by decide +kernel,by decide +kernel⟩
abbrev xsj:Stmt:=top 11
theorem xrg:FnScope ["number", "rest", "turn"] ["number", "rest", "turn"] (defScope xsj):=⟨rfl,rfl,rfl,by decide +kernel,rfl,by decide +kernel,by decide +kernel⟩
abbrev xaZ:Stmt:=top 12
theorem xaB:FnScope ["one", "other", "part", "left", "following"] ["one", "other"] (defScope xaZ):=⟨rfl,rfl,rfl,by decide +kernel,rfl,by decide +kernel,by decide +kernel⟩
abbrev xdQ:Stmt:=top 13
theorem xcY:FnScope ["one", "other", "part", "often", "left", "left_often", "whole", "following", "following_often", "other_often"] ["one", "other"] (defScope xdQ):=⟨rfl,rfl,rfl,by decide +kernel,rfl,by decide +kernel,by decide +kernel⟩
abbrev xj5:Stmt:=top 14
theorem xim:FnScope ["number", "turn"] ["number", "turn"] (defScope xj5):=⟨rfl,rfl,rfl,by decide +kernel,rfl,by decide +kernel,by decide +kernel⟩
abbrev xj3:Stmt:=top 15
theorem xik:FnScope ["numbers", "part", "number"] ["numbers"] (defScope xj3):=⟨rfl,rfl,rfl,by decide +kernel,rfl,by decide +kernel,by decide +kernel⟩
abbrev xj4:Stmt:=top 16
theorem xil:FnScope ["turns", "whole", "turn"] ["turns"] (defScope xj4):=⟨rfl,rfl,rfl,by decide +kernel,rfl,by decide +kernel,by decide +kernel⟩
abbrev xie:Stmt:=top 18
theorem xfT:FnScope ["numbers", "times"] ["numbers", "times"] (defScope xie):=⟨rfl,rfl,rfl,by decide +kernel,rfl,by decide +kernel,by decide +kernel⟩
theorem xcX:CompSc (defScope xie) { kind:=PySem.ScopeKind.function,names:=[ (PySem.Str.ofString ".0", PySem.NameKind.local),(PySem.Str.ofString "number", PySem.NameKind.local),(PySem.Str.ofString "often", PySem.NameKind.local)],isGenerator:=false,isCoroutine:=false,more:=[]:PySem.Scope } ["numbers", "times"] ["number", "often"] [none,none]:=⟨rfl,by decide +kernel,by decide +kernel,by decide +kernel,rfl,by decide +kernel,by decide +kernel⟩
abbrev xdP:Stmt:=inClass (top 20) 0
theorem xcU:FnScope ["self", "number", "turn"] ["self", "number", "turn"] (defScope xdP):=⟨rfl,rfl,rfl,by decide +kernel,rfl,by decide +kernel,by decide +kernel⟩
abbrev xic:Stmt:=inClass (top 20) 1
theorem xfQ:FnScope ["self", "rests"] ["self", "rests"] (defScope xic):=⟨rfl,rfl,rfl,by decide +kernel,rfl,by decide +kernel,by decide +kernel⟩
theorem xcV:CompSc (defScope xic) { kind:=PySem.ScopeKind.function,names:=[ (PySem.Str.ofString ".0", PySem.NameKind.local),(PySem.Str.ofString "rest", PySem.NameKind.local),(PySem.Str.ofString "turn", PySem.NameKind.local),(PySem.Str.ofString "leaves", PySem.NameKind.globalImplicit),(PySem.Str.ofString "self", PySem.NameKind.free)],isGenerator:=false,isCoroutine:=false,more:=[]:PySem.Scope } ["self", "rests"] ["self", "rest", "turn"] [some 0,none,none]:=⟨rfl,by decide +kernel,by decide +kernel,by decide +kernel,rfl,by decide +kernel,by decide +kernel⟩
theorem xcW:CompSc (defScope xic) { kind:=PySem.ScopeKind.function,names:=[ (PySem.Str.ofString ".0", PySem.NameKind.local),(PySem.Str.ofString "rest", PySem.NameKind.local),(PySem.Str.ofString "turn", PySem.NameKind.local)],isGenerator:=false,isCoroutine:=false,more:=[]:PySem.Scope } ["self", "rests"] ["rest", "turn"] [none,none]:=⟨rfl,by decide +kernel,by decide +kernel,by decide +kernel,rfl,by decide +kernel,by decide +kernel⟩
abbrev xet:Stmt:=inClass (top 21) 0
theorem xdR:FnScope ["self", "one", "other"] ["self", "one", "other"] (defScope xet):=⟨rfl,rfl,rfl,by decide +kernel,rfl,by decide +kernel,by decide +kernel⟩
abbrev xj0:Stmt:=inClass (top 21) 1
theorem xig:FnScope ["self", "rests", "first", "second"] ["self", "rests"] (defScope xj0):=⟨rfl,rfl,rfl,by decide +kernel,rfl,by decide +kernel,by decide +kernel⟩
abbrev xdO:Stmt:=inClass (top 22) 0
theorem xcT:FnScope ["self", "part", "times"] ["self", "part", "times"] (defScope xdO):=⟨rfl,rfl,rfl,by decide +kernel,rfl,by decide +kernel,by decide +kernel⟩
abbrev xib:Stmt:=inClass (top 22) 1
theorem xfP:FnScope ["self", "numbers"] ["self", "numbers"] (defScope xib):=⟨rfl,rfl,rfl,by decide +kernel,rfl,by decide +kernel,by decide +kernel⟩
abbrev xeu:Stmt:=inClass (top 23) 0
theorem xdS:FnScope ["self", "times"] ["self", "times"] (defScope xeu):=⟨rfl,rfl,rfl,by decide +kernel,rfl,by decide +kernel,by decide +kernel⟩
abbrev xj1:Stmt:=inClass (top 23) 1
theorem xih:FnScope ["self", "numbers", "turn", "rest"] ["self", "numbers", "turn", "rest"] (defScope xj1):=⟨rfl,rfl,rfl,by decide +kernel,rfl,by decide +kernel,by decide +kernel⟩
theorem xdT:CompSc (defScope xj1) { kind:=PySem.ScopeKind.function,names:=[ (PySem.Str.ofString ".0", PySem.NameKind.local),(PySem.Str.ofString "often", PySem.NameKind.local),(PySem.Str.ofString "turn", PySem.NameKind.free)],isGenerator:=false,isCoroutine:=false,more:=[]:PySem.Scope } ["self", "numbers", "turn", "rest"] ["turn", "often"] [some 2,none]:=⟨rfl,by decide +kernel,by decide +kernel,by decide +kernel,rfl,by decide +kernel,by decide +kernel⟩
abbrev xia:Stmt:=inClass (top 24) 0
theorem xfN:FnScope ["self", "part"] ["self", "part"] (defScope xia):=⟨rfl,rfl,rfl,by decide +kernel,rfl,by decide +kernel,by decide +kernel⟩
abbrev xoO:Stmt:=inClass (top 24) 1
theorem xmd:FnScope ["self", "numbers", "turn", "rest"] ["self", "numbers", "turn", "rest"] (defScope xoO):=⟨rfl,rfl,rfl,by decide +kernel,rfl,by decide +kernel,by decide +kernel⟩
theorem xfO:CompSc (defScope xoO) { kind:=PySem.ScopeKind.function,names:=[ (PySem.Str.ofString ".0", PySem.NameKind.local),(PySem.Str.ofString "number", PySem.NameKind.local),(PySem.Str.ofString "goes_into", PySem.NameKind.globalImplicit),(PySem.Str.ofString "self", PySem.NameKind.free)],isGenerator:=false,isCoroutine:=false,more:=[]:PySem.Scope } ["self", "numbers", "turn", "rest"] ["self", "number"] [some 0,none]:=⟨rfl,by decide +kernel,by decide +kernel,by decide +kernel,rfl,by decide +kernel,by decide +kernel⟩
abbrev xp5:Stmt:=inClass (top 24) 2
theorem xoX:FnScope ["self", "number", "turn"] ["self", "number", "turn"] (defScope xp5):=⟨rfl,rfl,rfl,by decide +kernel,rfl,by decide +kernel,by decide +kernel⟩
abbrev xfM:Stmt:=inClass (top 25) 0
theorem xev:FnScope ["self", "rest"] ["self", "rest"] (defScope xfM):=⟨rfl,rfl,rfl,by decide +kernel,rfl,by decide +kernel,by decide +kernel⟩
abbrev xma:Stmt:=inClass (top 25) 1
theorem xj6:FnScope ["self", "number", "turn"] ["self", "number", "turn"] (defScope xma):=⟨rfl,rfl,rfl,by decide +kernel,rfl,by decide +kernel,by decide +kernel⟩
abbrev xsh:Stmt:=top 33
theorem xre:FnScope ["numbers"] ["numbers"] (defScope xsh):=⟨rfl,rfl,rfl,by decide +kernel,rfl,by decide +kernel,by decide +kernel⟩
abbrev xoU:Stmt:=top 34
theorem xmj:FnScope ["numbers", "steps", "part", "number", "step"] ["numbers"] (defScope xoU):=⟨rfl,rfl,rfl,by decide +kernel,rfl,by decide +kernel,by decide +kernel⟩
abbrev xp9:Stmt:=top 35
theorem xo1:FnScope ["steps", "times", "due", "step"] ["steps"] (defScope xp9):=⟨rfl,rfl,rfl,by decide +kernel,rfl,by decide +kernel,by decide +kernel⟩
abbrev xub:Stmt:=top 36
theorem xtc:FnScope ["numbers", "turn", "rest", "made", "parts"] ["numbers", "turn", "rest"] (defScope xub):=⟨rfl,rfl,rfl,by decide +kernel,rfl,by decide +kernel,by decide +kernel⟩
theorem xqa:CompSc (defScope xub) { kind:=PySem.ScopeKind.function,names:=[ (PySem.Str.ofString ".0", PySem.NameKind.local),(PySem.Str.ofString "often", PySem.NameKind.local),(PySem.Str.ofString "parts", PySem.NameKind.free),(PySem.Str.ofString "turn", PySem.NameKind.free)],isGenerator:=false,isCoroutine:=false,more:=[]:PySem.Scope } ["numbers", "turn", "rest", "made", "parts"] ["turn", "parts", "often"] [some 1,some 4,none]:=⟨rfl,by decide +kernel,by decide +kernel,by decide +kernel,rfl,by decide +kernel,by decide +kernel⟩
abbrev xua:Stmt:=top 37
theorem xtb:FnScope ["number", "turn", "part"] ["number", "turn"] (defScope xua):=⟨rfl,rfl,rfl,by decide +kernel,rfl,by decide +kernel,by decide +kernel⟩
abbrev xuc:Stmt:=top 39
theorem xtd:FnScope ["rests", "so_far", "place", "pair", "following"] ["rests"] (defScope xuc):=⟨rfl,rfl,rfl,by decide +kernel,rfl,by decide +kernel,by decide +kernel⟩
abbrev xsi:Stmt:=top 40
theorem xrf:FnScope ["so_far", "rest", "turn", "made", "part", "missing", "fresh", "steps"] ["so_far", "rest", "turn"] (defScope xsi):=⟨rfl,rfl,rfl,by decide +kernel,rfl,by decide +kernel,by decide +kernel⟩
abbrev xaY:Stmt:=top 41
theorem xaA:FnScope ["rests", "place", "clashes"] ["rests", "place"] (defScope xaY):=⟨rfl,rfl,rfl,by decide +kernel,rfl,by decide +kernel,by decide +kernel⟩
theorem xaa:CompSc (defScope xaY) { kind:=PySem.ScopeKind.function,names:=[ (PySem.Str.ofString ".0", PySem.NameKind.local),(PySem.Str.ofString "earlier", PySem.NameKind.local),(PySem.Str.ofString "Clash", PySem.NameKind.globalImplicit),(PySem.Str.ofString "place", PySem.NameKind.free),(PySem.Str.ofString "rests", PySem.NameKind.free)],isGenerator:=false,isCoroutine:=false,more:=[]:PySem.Scope } ["rests", "place", "clashes"] ["rests", "place", "earlier"] [some 0,some 1,none]:=⟨rfl,by decide +kernel,by decide +kernel,by decide +kernel,rfl,by decide +kernel,by decide +kernel⟩
abbrev xid:Stmt:=top 43
theorem xfS:FnScope ["_law_script", "_law_k"] ["_law_script", "_law_k"] (defScope xid):=⟨rfl,rfl,rfl,by decide +kernel,rfl,by decide +kernel,by decide +kernel⟩
abbrev xoQ:Stmt:=top 44
theorem xmf:FnScope ["_law_cell", "_law_k", "_law_many", "_law_primes"] ["_law_cell", "_law_k", "_law_many"] (defScope xoQ):=⟨rfl,rfl,rfl,by decide +kernel,rfl,by decide +kernel,by decide +kernel⟩
abbrev xmc:Stmt:=top 45
theorem xj8:FnScope ["_law_script", "_law_kind", "_law_found", "_law_k", "_law_turn"] ["_law_script"] (defScope xmc):=⟨rfl,rfl,rfl,by decide +kernel,rfl,by decide +kernel,by decide +kernel⟩
abbrev xmb:Stmt:=top 46
theorem xj7:FnScope ["_law_script", "_law_far", "_law_found", "_law_at"] ["_law_script"] (defScope xmb):=⟨rfl,rfl,rfl,by decide +kernel,rfl,by decide +kernel,by decide +kernel⟩
theorem xew:CompSc (defScope xmb) { kind:=PySem.ScopeKind.function,names:=[ (PySem.Str.ofString ".0", PySem.NameKind.local),(PySem.Str.ofString "_law_k", PySem.NameKind.local),(PySem.Str.ofString "_law_cell", PySem.NameKind.local),(PySem.Str.ofString "abs", PySem.NameKind.globalImplicit)],isGenerator:=false,isCoroutine:=false,more:=[]:PySem.Scope } ["_law_script", "_law_far", "_law_found", "_law_at"] ["_law_k", "_law_cell"] [none,none]:=⟨rfl,by decide +kernel,by decide +kernel,by decide +kernel,rfl,by decide +kernel,by decide +kernel⟩
theorem xex:CompSc (defScope xmb) { kind:=PySem.ScopeKind.function,names:=[ (PySem.Str.ofString ".0", PySem.NameKind.local),(PySem.Str.ofString "_law_turn", PySem.NameKind.local),(PySem.Str.ofString "_law_far", PySem.NameKind.free)],isGenerator:=false,isCoroutine:=false,more:=[]:PySem.Scope } ["_law_script", "_law_far", "_law_found", "_law_at"] ["_law_far", "_law_turn"] [some 1,none]:=⟨rfl,by decide +kernel,by decide +kernel,by decide +kernel,rfl,by decide +kernel,by decide +kernel⟩
abbrev xoR:Stmt:=top 47
theorem xmg:FnScope ["_law_one", "_law_other"] ["_law_one", "_law_other"] (defScope xoR):=⟨rfl,rfl,rfl,by decide +kernel,rfl,by decide +kernel,by decide +kernel⟩
abbrev xoS:Stmt:=top 50
theorem xmh:FnScope ["_law_said", "_law_due"] ["_law_said", "_law_due"] (defScope xoS):=⟨rfl,rfl,rfl,by decide +kernel,rfl,by decide +kernel,by decide +kernel⟩
abbrev xp6:Stmt:=top 51
theorem xoY:FnScope ["_law_script", "_law_by"] ["_law_script"] (defScope xp6):=⟨rfl,rfl,rfl,by decide +kernel,rfl,by decide +kernel,by decide +kernel⟩
theorem xii:CompSc (defScope xp6) { kind:=PySem.ScopeKind.function,names:=[ (PySem.Str.ofString ".0", PySem.NameKind.local),(PySem.Str.ofString "_law_k", PySem.NameKind.local),(PySem.Str.ofString "_law_draw", PySem.NameKind.globalImplicit),(PySem.Str.ofString "_law_by", PySem.NameKind.free),(PySem.Str.ofString "_law_script", PySem.NameKind.free)],isGenerator:=false,isCoroutine:=false,more:=[]:PySem.Scope } ["_law_script", "_law_by"] ["_law_script", "_law_by", "_law_k"] [some 0,some 1,none]:=⟨rfl,by decide +kernel,by decide +kernel,by decide +kernel,rfl,by decide +kernel,by decide +kernel⟩
abbrev xcS:Stmt:=top 52
theorem xbD:FnScope ["_law_rests_here", "_law_cell", "_law_found", "_law_whole_here", "_law_rest", "_law_turn", "_law_number", "_law_some", "_law_more", "_law_due", "_law_answer", "_law_many", "_law_k", "_law_one", "_law_other", "_law_apart"] ["_law_rests_here", "_law_cell"] (defScope xcS):=⟨rfl,rfl,rfl,by decide +kernel,rfl,by decide +kernel,by decide +kernel⟩
theorem xaf:CompSc (defScope xcS) { kind:=PySem.ScopeKind.function,names:=[ (PySem.Str.ofString ".0", PySem.NameKind.local),(PySem.Str.ofString "_law_rest", PySem.NameKind.local),(PySem.Str.ofString "_law_other", PySem.NameKind.local),(PySem.Str.ofString "_law_more", PySem.NameKind.free),(PySem.Str.ofString "_law_some", PySem.NameKind.free)],isGenerator:=false,isCoroutine:=false,more:=[]:PySem.Scope } ["_law_rests_here", "_law_cell", "_law_found", "_law_whole_here", "_law_rest", "_law_turn", "_law_number", "_law_some", "_law_more", "_law_due", "_law_answer", "_law_many", "_law_k", "_law_one", "_law_other", "_law_apart"] ["_law_some", "_law_more", "_law_rest", "_law_other"] [some 7,some 8,none,none]:=⟨rfl,by decide +kernel,by decide +kernel,by decide +kernel,rfl,by decide +kernel,by decide +kernel⟩
abbrev xoP:Stmt:=top 53
theorem xme:FnScope ["_law_some", "_law_cell", "_law_kind", "_law_many", "_law_at"] ["_law_some", "_law_cell"] (defScope xoP):=⟨rfl,rfl,rfl,by decide +kernel,rfl,by decide +kernel,by decide +kernel⟩
theorem xfR:CompSc (defScope xoP) { kind:=PySem.ScopeKind.function,names:=[(PySem.Str.ofString ".0", PySem.NameKind.local),(PySem.Str.ofString "_law_one", PySem.NameKind.local)],isGenerator:=false,isCoroutine:=false,more:=[]:PySem.Scope } ["_law_some", "_law_cell", "_law_kind", "_law_many", "_law_at"] ["_law_one"] [none]:=⟨rfl,by decide +kernel,by decide +kernel,by decide +kernel,rfl,by decide +kernel,by decide +kernel⟩
abbrev xcR:Stmt:=top 54
theorem xbC:FnScope ["_law_numbers_here", "_law_cell", "_law_found", "_law_times", "_law_part_here", "_law_handed", "_law_answer", "_law_due", "_law_number"] ["_law_numbers_here", "_law_cell"] (defScope xcR):=⟨rfl,rfl,rfl,by decide +kernel,rfl,by decide +kernel,by decide +kernel⟩
theorem xae:CompSc (defScope xcR) { kind:=PySem.ScopeKind.function,names:=[ (PySem.Str.ofString ".0", PySem.NameKind.local),(PySem.Str.ofString "_law_number", PySem.NameKind.local),(PySem.Str.ofString "_law_often", PySem.NameKind.local)],isGenerator:=false,isCoroutine:=false,more:=[]:PySem.Scope } ["_law_numbers_here", "_law_cell", "_law_found", "_law_times", "_law_part_here", "_law_handed", "_law_answer", "_law_due", "_law_number"] ["_law_number", "_law_often"] [none,none]:=⟨rfl,by decide +kernel,by decide +kernel,by decide +kernel,rfl,by decide +kernel,by decide +kernel⟩
abbrev xcQ:Stmt:=top 55
theorem xbB:FnScope ["_law_numbers_here", "_law_cell", "_law_turn", "_law_rest", "_law_found", "_law_times", "_law_handed", "_law_answer", "_law_due", "_law_whole_here", "_law_part_here"] ["_law_numbers_here", "_law_cell"] (defScope xcQ):=⟨rfl,rfl,rfl,by decide +kernel,rfl,by decide +kernel,by decide +kernel⟩
theorem xab:CompSc (defScope xcQ) { kind:=PySem.ScopeKind.function,names:=[ (PySem.Str.ofString ".0", PySem.NameKind.local),(PySem.Str.ofString "_law_often", PySem.NameKind.local),(PySem.Str.ofString "_law_turn", PySem.NameKind.free)],isGenerator:=false,isCoroutine:=false,more:=[]:PySem.Scope } ["_law_numbers_here", "_law_cell", "_law_turn", "_law_rest", "_law_found", "_law_times", "_law_handed", "_law_answer", "_law_due", "_law_whole_here", "_law_part_here"] ["_law_turn", "_law_often"] [some 2,none]:=⟨rfl,by decide +kernel,by decide +kernel,by decide +kernel,rfl,by decide +kernel,by decide +kernel⟩
theorem xac:CompSc (defScope xcQ) { kind:=PySem.ScopeKind.function,names:=[ (PySem.Str.ofString ".0", PySem.NameKind.local),(PySem.Str.ofString "_law_number", PySem.NameKind.local),(PySem.Str.ofString "_law_often", PySem.NameKind.local)],isGenerator:=false,isCoroutine:=false,more:=[]:PySem.Scope } ["_law_numbers_here", "_law_cell", "_law_turn", "_law_rest", "_law_found", "_law_times", "_law_handed", "_law_answer", "_law_due", "_law_whole_here", "_law_part_here"] ["_law_number", "_law_often"] [none,none]:=⟨rfl,by decide +kernel,by decide +kernel,by decide +kernel,rfl,by decide +kernel,by decide +kernel⟩
theorem xad:CompSc (defScope xcQ) { kind:=PySem.ScopeKind.function,names:=[ (PySem.Str.ofString ".0", PySem.NameKind.local),(PySem.Str.ofString "_law_number", PySem.NameKind.local),(PySem.Str.ofString "_law_part_here", PySem.NameKind.free)],isGenerator:=false,isCoroutine:=false,more:=[]:PySem.Scope } ["_law_numbers_here", "_law_cell", "_law_turn", "_law_rest", "_law_found", "_law_times", "_law_handed", "_law_answer", "_law_due", "_law_whole_here", "_law_part_here"] ["_law_part_here", "_law_number"] [some 10,none]:=⟨rfl,by decide +kernel,by decide +kernel,by decide +kernel,rfl,by decide +kernel,by decide +kernel⟩
abbrev xcP:Stmt:=top 56
theorem xbA:FnScope ["_law_number", "_law_turn", "_law_cell", "_law_found", "_law_rest", "_law_some", "_law_due", "_law_answer", "_law_part_here"] ["_law_number", "_law_turn", "_law_cell"] (defScope xcP):=⟨rfl,rfl,rfl,by decide +kernel,rfl,by decide +kernel,by decide +kernel⟩
abbrev s_law:Stmt:=top 57
theorem xue:FnScope ["_law_script", "_law_rests_here", "_law_numbers_here", "_law_k", "_law_cell", "_law_turn"] ["_law_script"] (defScope s_law):=⟨rfl,rfl,rfl,by decide +kernel,rfl,by decide +kernel,by decide +kernel⟩
structure Adr where
  xpo:Addr
  xpC:FuncData
  xm0:Addr
  xnC:FuncData
  xiN:Addr
  xjb:FuncData
  xpn:Addr
  xpB:FuncData
  xqg:Addr
  xqw:FuncData
  xgn:Addr
  xgX:FuncData
  xmX:Addr
  xnz:FuncData
  xmZ:Addr
  xnB:FuncData
  xry:Addr
  xrI:FuncData
  xaL:Addr
  xaP:FuncData
  xdb:Addr
  xdp:FuncData
  xiQ:Addr
  xje:FuncData
  xiO:Addr
  xjc:FuncData
  xiP:Addr
  xjd:FuncData
  xgm:Addr
  xgW:FuncData
  xda:Addr
  xdo:FuncData
  xgk:Addr
  xgU:FuncData
  xd2:Addr
  xea:FuncData
  xiL:Addr
  xi9:FuncData
  xc9:Addr
  xdn:FuncData
  xgj:Addr
  xgT:FuncData
  xd3:Addr
  xeb:FuncData
  xiM:Addr
  xja:FuncData
  xgi:Addr
  xgS:FuncData
  xmS:Addr
  xnu:FuncData
  xpl:Addr
  xpz:FuncData
  xeC:Addr
  xe2:FuncData
  xkj:Addr
  xkZ:FuncData
  xrw:Addr
  xrG:FuncData
  xmY:Addr
  xnA:FuncData
  xpp:Addr
  xpD:FuncData
  xtt:Addr
  xtF:FuncData
  xts:Addr
  xtE:FuncData
  xtu:Addr
  xtG:FuncData
  xrx:Addr
  xrH:FuncData
  xaK:Addr
  xaO:FuncData
  xgl:Addr
  xgV:FuncData
  xmU:Addr
  xnw:FuncData
  xkl:Addr
  xk1:FuncData
  xkk:Addr
  xk0:FuncData
  xmV:Addr
  xnx:FuncData
  xmW:Addr
  xny:FuncData
  xpm:Addr
  xpA:FuncData
  xbT:Addr
  xcd:FuncData
  xmT:Addr
  xnv:FuncData
  xbS:Addr
  xcc:FuncData
  xbR:Addr
  xcb:FuncData
  xbQ:Addr
  xca:FuncData
  a_law:Addr
  d_law:FuncData
  xrA:Addr
  xsw:Addr
  xrz:Addr
  xsx:Addr
  c_Bar:Addr
  xtx:Addr
  xez:Tok
  xdX:Tok
structure Txt (K:PySem.W.Frag) (mg:Str → Option Value) (A:Adr):Prop where
  xpe:Fun K "is_whole" "is_whole" xp8 A.xpo A.xpC
  xm9:Binds K A.xpC ["value"] []
  xpY:mg "is_whole" = some (.ref A.xpo)
  xpP:PySem.W.keepIn K (.ref A.xpo) = true
  xmI:Fun K "is_number" "is_number" xoW A.xm0 A.xnC
  xkD:Binds K A.xnC ["value"] []
  xon:mg "is_number" = some (.ref A.xm0)
  xn6:PySem.W.keepIn K (.ref A.xm0) = true
  xiB:Fun K "are_numbers" "are_numbers" xj2 A.xiN A.xjb
  xgw:Binds K A.xjb ["value"] []
  xjJ:mg "are_numbers" = some (.ref A.xiN)
  xjz:PySem.W.keepIn K (.ref A.xiN) = true
  xpd:Fun K "is_round" "is_round" xp7 A.xpn A.xpB
  xm8:Binds K A.xpB ["value"] []
  xpX:mg "is_round" = some (.ref A.xpn)
  xpO:PySem.W.keepIn K (.ref A.xpn) = true
  xqe:Fun K "is_rest" "is_rest" xrb A.xqg A.xqw
  xpr:Binds K A.xqw ["value", "turn"] []
  xqS:mg "is_rest" = some (.ref A.xqg)
  xqG:PySem.W.keepIn K (.ref A.xqg) = true
  xgb:Fun K "is_rest_pair" "is_rest_pair" xif A.xgn A.xgX
  xeO:Binds K A.xgX ["value"] []
  xhC:mg "is_rest_pair" = some (.ref A.xgn)
  xht:PySem.W.keepIn K (.ref A.xgn) = true
  xmF:Fun K "are_rests" "are_rests" xoT A.xmX A.xnz
  xkA:Binds K A.xnz ["value"] []
  xok:mg "are_rests" = some (.ref A.xmX)
  xn3:PySem.W.keepIn K (.ref A.xmX) = true
  xmH:Fun K "goes_into" "goes_into" xoV A.xmZ A.xnB
  xkC:Binds K A.xnB ["part", "number"] []
  xom:mg "goes_into" = some (.ref A.xmZ)
  xn5:PySem.W.keepIn K (.ref A.xmZ) = true
  xrs:Fun K "leaves" "leaves" xsj A.xry A.xrI
  xqm:Binds K A.xrI ["number", "rest", "turn"] []
  xsa:mg "leaves" = some (.ref A.xry)
  xrS:PySem.W.keepIn K (.ref A.xry) = true
  xaH:Fun K "common_part_of_two" "common_part_of_two" xaZ A.xaL A.xaP
  xaj:Binds K A.xaP ["one", "other"] []
  xaX:mg "common_part_of_two" = some (.ref A.xaL)
  xaT:PySem.W.keepIn K (.ref A.xaL) = true
  xc5:Fun K "part_with_times" "part_with_times" xdQ A.xdb A.xdp
  xbZ:Binds K A.xdp ["one", "other"] []
  xdH:mg "part_with_times" = some (.ref A.xdb)
  xdD:PySem.W.keepIn K (.ref A.xdb) = true
  xiE:Fun K "turned_back" "turned_back" xj5 A.xiQ A.xje
  xgz:Binds K A.xje ["number", "turn"] []
  xjM:mg "turned_back" = some (.ref A.xiQ)
  xjC:PySem.W.keepIn K (.ref A.xiQ) = true
  xiC:Fun K "common_part" "common_part" xj3 A.xiO A.xjc
  xgx:Binds K A.xjc ["numbers"] []
  xjK:mg "common_part" = some (.ref A.xiO)
  xjA:PySem.W.keepIn K (.ref A.xiO) = true
  xiD:Fun K "common_turn" "common_turn" xj4 A.xiP A.xjd
  xgy:Binds K A.xjd ["turns"] []
  xjL:mg "common_turn" = some (.ref A.xiP)
  xjB:PySem.W.keepIn K (.ref A.xiP) = true
  xga:Fun K "all_together" "all_together" xie A.xgm A.xgW
  xeN:Binds K A.xgW ["numbers", "times"] []
  xhB:mg "all_together" = some (.ref A.xgm)
  xhs:PySem.W.keepIn K (.ref A.xgm) = true
  xc4:Fun K "__init__" "Number.__init__" xdP A.xda A.xdo
  xbY:Binds K A.xdo ["self", "number", "turn"] []
  xqU:Mk K A.xrA A.xda
  xf8:Fun K "shows" "Number.shows" xic A.xgk A.xgU
  xeL:Binds K A.xgU ["self", "rests"] []
  xfo:Meth K A.xrA "shows" A.xgk
  xdY:Fun K "__init__" "Clash.__init__" xet A.xd2 A.xea
  xde:Binds K A.xea ["self", "one", "other"] []
  xsb:Mk K A.xsw A.xd2
  xiz:Fun K "shows" "Clash.shows" xj0 A.xiL A.xi9
  xgu:Binds K A.xi9 ["self", "rests"] []
  xhD:Meth K A.xsw "shows" A.xiL
  xc3:Fun K "__init__" "Common.__init__" xdO A.xc9 A.xdn
  xbX:Binds K A.xdn ["self", "part", "times"] []
  xqT:Mk K A.xrz A.xc9
  xf7:Fun K "shows" "Common.shows" xib A.xgj A.xgT
  xeK:Binds K A.xgT ["self", "numbers"] []
  xfn:Meth K A.xrz "shows" A.xgj
  xdZ:Fun K "__init__" "Times.__init__" xeu A.xd3 A.xeb
  xdf:Binds K A.xeb ["self", "times"] []
  xsc:Mk K A.xsx A.xd3
  xiA:Fun K "shows" "Times.shows" xj1 A.xiM A.xja
  xgv:Binds K A.xja ["self", "numbers", "turn", "rest"] []
  xhE:Meth K A.xsx "shows" A.xiM
  xf6:Fun K "__init__" "Bar.__init__" xia A.xgi A.xgS
  xeJ:Binds K A.xgS ["self", "part"] []
  xt3:Mk K A.c_Bar A.xgi
  xmA:Fun K "shows" "Bar.shows" xoO A.xmS A.xnu
  xkv:Binds K A.xnu ["self", "numbers", "turn", "rest"] []
  xly:Meth K A.c_Bar "shows" A.xmS
  xpb:Fun K "bars" "Bar.bars" xp5 A.xpl A.xpz
  xm6:Binds K A.xpz ["self", "number", "turn"] []
  xoo:Meth K A.c_Bar "bars" A.xpl
  xeA:Fun K "__init__" "Back.__init__" xfM A.xeC A.xe2
  xd5:Binds K A.xe2 ["self", "rest"] []
  xsV:Mk K A.xtx A.xeC
  xkd:Fun K "shows" "Back.shows" xma A.xkj A.xkZ
  xiU:Binds K A.xkZ ["self", "number", "turn"] []
  xjN:Meth K A.xtx "shows" A.xkj
  xrq:Fun K "common" "common" xsh A.xrw A.xrG
  xqk:Binds K A.xrG ["numbers"] []
  xr8:mg "common" = some (.ref A.xrw)
  xrQ:PySem.W.keepIn K (.ref A.xrw) = true
  xmG:Fun K "common_of" "common_of" xoU A.xmY A.xnA
  xkB:Binds K A.xnA ["numbers"] []
  xol:mg "common_of" = some (.ref A.xmY)
  xn4:PySem.W.keepIn K (.ref A.xmY) = true
  xpf:Fun K "times_of" "times_of" xp9 A.xpp A.xpD
  xna:Binds K A.xpD ["steps"] []
  xpZ:mg "times_of" = some (.ref A.xpp)
  xpQ:PySem.W.keepIn K (.ref A.xpp) = true
  xtn:Fun K "come" "come" xub A.xtt A.xtF
  xsu:Binds K A.xtF ["numbers", "turn", "rest"] []
  xt1:mg "come" = some (.ref A.xtt)
  xtP:PySem.W.keepIn K (.ref A.xtt) = true
  xtm:Fun K "back" "back" xua A.xts A.xtE
  xst:Binds K A.xtE ["number", "turn"] []
  xt0:mg "back" = some (.ref A.xts)
  xtO:PySem.W.keepIn K (.ref A.xts) = true
  xto:Fun K "told" "told" xuc A.xtu A.xtG
  xsv:Binds K A.xtG ["rests"] []
  xt2:mg "told" = some (.ref A.xtu)
  xtQ:PySem.W.keepIn K (.ref A.xtu) = true
  xrr:Fun K "joined" "joined" xsi A.xrx A.xrH
  xql:Binds K A.xrH ["so_far", "rest", "turn"] []
  xr9:mg "joined" = some (.ref A.xrx)
  xrR:PySem.W.keepIn K (.ref A.xrx) = true
  xaG:Fun K "clash_with_earlier" "clash_with_earlier" xaY A.xaK A.xaO
  xai:Binds K A.xaO ["rests", "place"] []
  xaW:mg "clash_with_earlier" = some (.ref A.xaK)
  xaS:PySem.W.keepIn K (.ref A.xaK) = true
  xf9:Fun K "_law_cell_at" "_law_cell_at" xid A.xgl A.xgV
  xeM:Binds K A.xgV ["_law_script", "_law_k"] []
  xhA:mg "_law_cell_at" = some (.ref A.xgl)
  xhr:PySem.W.keepIn K (.ref A.xgl) = true
  xmC:Fun K "_law_draw" "_law_draw" xoQ A.xmU A.xnw
  xkx:Binds K A.xnw ["_law_cell", "_law_k", "_law_many"] []
  xoh:mg "_law_draw" = some (.ref A.xmU)
  xn0:PySem.W.keepIn K (.ref A.xmU) = true
  xkf:Fun K "_law_turns" "_law_turns" xmc A.xkl A.xk1
  xiW:Binds K A.xk1 ["_law_script"] []
  xlx:mg "_law_turns" = some (.ref A.xkl)
  xls:PySem.W.keepIn K (.ref A.xkl) = true
  xke:Fun K "_law_rests" "_law_rests" xmb A.xkk A.xk0
  xiV:Binds K A.xk0 ["_law_script"] []
  xlw:mg "_law_rests" = some (.ref A.xkk)
  xlr:PySem.W.keepIn K (.ref A.xkk) = true
  xmD:Fun K "_law_part" "_law_part" xoR A.xmV A.xnx
  xky:Binds K A.xnx ["_law_one", "_law_other"] []
  xoi:mg "_law_part" = some (.ref A.xmV)
  xn1:PySem.W.keepIn K (.ref A.xmV) = true
  xmE:Fun K "_law_says" "_law_says" xoS A.xmW A.xny
  xkz:Binds K A.xny ["_law_said", "_law_due"] []
  xoj:mg "_law_says" = some (.ref A.xmW)
  xn2:PySem.W.keepIn K (.ref A.xmW) = true
  xpc:Fun K "_law_row" "_law_row" xp6 A.xpm A.xpA
  xm7:Binds K A.xpA ["_law_script"] []
  xpW:mg "_law_row" = some (.ref A.xpm)
  xpN:PySem.W.keepIn K (.ref A.xpm) = true
  xbL:Fun K "_law_rests_right" "_law_rests_right" xcS A.xbT A.xcd
  xa7:Binds K A.xcd ["_law_rests_here", "_law_cell"] []
  xcA:mg "_law_rests_right" = some (.ref A.xbT)
  xcs:PySem.W.keepIn K (.ref A.xbT) = true
  xmB:Fun K "_law_bent" "_law_bent" xoP A.xmT A.xnv
  xkw:Binds K A.xnv ["_law_some", "_law_cell"] []
  xog:mg "_law_bent" = some (.ref A.xmT)
  xnZ:PySem.W.keepIn K (.ref A.xmT) = true
  xbK:Fun K "_law_parts_right" "_law_parts_right" xcR A.xbS A.xcc
  xa6:Binds K A.xcc ["_law_numbers_here", "_law_cell"] []
  xcz:mg "_law_parts_right" = some (.ref A.xbS)
  xcr:PySem.W.keepIn K (.ref A.xbS) = true
  xbJ:Fun K "_law_comes_right" "_law_comes_right" xcQ A.xbR A.xcb
  xa5:Binds K A.xcb ["_law_numbers_here", "_law_cell"] []
  xcy:mg "_law_comes_right" = some (.ref A.xbR)
  xcq:PySem.W.keepIn K (.ref A.xbR) = true
  xbI:Fun K "_law_backs_right" "_law_backs_right" xcP A.xbQ A.xca
  xa4:Binds K A.xca ["_law_number", "_law_turn", "_law_cell"] []
  xcx:mg "_law_backs_right" = some (.ref A.xbQ)
  xcp:PySem.W.keepIn K (.ref A.xbQ) = true
  F_law:Fun K "law" "law" s_law A.a_law A.d_law
  xtw:Binds K A.d_law ["_law_script"] []
  m_law:mg "law" = some (.ref A.a_law)
  k_law:PySem.W.keepIn K (.ref A.a_law) = true
  xr7:mg "Number" = some (.ref A.xrA)
  xqs:Cls K A.xrA
  xep:NoAttr K A.xrA "number"
  xhH:NoAttr K A.xrA "turn"
  xrn:∀ (H:Hp) (a dx:Addr) (fs:List (Str × V)),H a = some (.ins A.xrA dx fs) → TyOf K H (.ref a) (.ref A.xrA)
  xej:PySem.W.kitOne K (.ref A.xrA) (.ref A.xrA) = some true
  xfd:PySem.W.kitOne K (.ref A.xrA) (.ref A.xsx) = some false
  xhg:PySem.W.kitOne K (.ref A.xrA) (.ref A.xtx) = some false
  xsT:mg "Clash" = some (.ref A.xsw)
  xrE:Cls K A.xsw
  xlA:NoAttr K A.xsw "one"
  xhF:NoAttr K A.xsw "other"
  xsm:∀ (H:Hp) (a dx:Addr) (fs:List (Str × V)),H a = some (.ins A.xsw dx fs) → TyOf K H (.ref a) (.ref A.xsw)
  xfb:PySem.W.kitOne K (.ref A.xsw) (.ref A.xrA) = some false
  xhe:PySem.W.kitOne K (.ref A.xsw) (.ref A.xsx) = some false
  xjs:PySem.W.kitOne K (.ref A.xsw) (.ref A.xtx) = some false
  xr6:mg "Common" = some (.ref A.xrz)
  xqr:Cls K A.xrz
  xhG:NoAttr K A.xrz "part"
  xfp:NoAttr K A.xrz "times"
  xrm:∀ (H:Hp) (a dx:Addr) (fs:List (Str × V)),H a = some (.ins A.xrz dx fs) → TyOf K H (.ref a) (.ref A.xrz)
  xei:PySem.W.kitOne K (.ref A.xrz) (.ref A.xrA) = some false
  xfc:PySem.W.kitOne K (.ref A.xrz) (.ref A.xsx) = some false
  xhf:PySem.W.kitOne K (.ref A.xrz) (.ref A.xtx) = some false
  xsU:mg "Times" = some (.ref A.xsx)
  xrF:Cls K A.xsx
  xhI:NoAttr K A.xsx "times"
  xsn:∀ (H:Hp) (a dx:Addr) (fs:List (Str × V)),H a = some (.ins A.xsx dx fs) → TyOf K H (.ref a) (.ref A.xsx)
  xfe:PySem.W.kitOne K (.ref A.xsx) (.ref A.xrA) = some false
  xhh:PySem.W.kitOne K (.ref A.xsx) (.ref A.xsx) = some true
  xjt:PySem.W.kitOne K (.ref A.xsx) (.ref A.xtx) = some false
  m_Bar:mg "Bar" = some (.ref A.c_Bar)
  xtC:Cls K A.c_Bar
  xop:NoAttr K A.c_Bar "part"
  xuh:∀ (H:Hp) (a dx:Addr) (fs:List (Str × V)),H a = some (.ins A.c_Bar dx fs) → TyOf K H (.ref a) (.ref A.c_Bar)
  xjr:PySem.W.kitOne K (.ref A.c_Bar) (.ref A.xrA) = some false
  xlg:PySem.W.kitOne K (.ref A.c_Bar) (.ref A.xsx) = some false
  xnS:PySem.W.kitOne K (.ref A.c_Bar) (.ref A.xtx) = some false
  xtZ:mg "Back" = some (.ref A.xtx)
  xsB:Cls K A.xtx
  xlz:NoAttr K A.xtx "rest"
  xtk:∀ (H:Hp) (a dx:Addr) (fs:List (Str × V)),H a = some (.ins A.xtx dx fs) → TyOf K H (.ref a) (.ref A.xtx)
  xhd:PySem.W.kitOne K (.ref A.xtx) (.ref A.xrA) = some false
  xjq:PySem.W.kitOne K (.ref A.xtx) (.ref A.xsx) = some false
  xlf:PySem.W.kitOne K (.ref A.xtx) (.ref A.xtx) = some true
  xef:mg "GREATEST_ROUND" = some (.int 1000000 A.xez)
  xdv:mg "GREATEST_NUMBER" = some (.int 1000000 A.xdX)
  b_abs:mg "abs" = none
  b_all:mg "all" = none
  b_bool:mg "bool" = none
  b_enumerate:mg "enumerate" = none
  b_int:mg "int" = none
  b_isinstance:mg "isinstance" = none
  b_len:mg "len" = none
  b_list:mg "list" = none
  b_range:mg "range" = none
  b_reversed:mg "reversed" = none
  b_sum:mg "sum" = none
  b_tuple:mg "tuple" = none
  b_zip:mg "zip" = none
  is_int_int:PySem.W.kitOne K (.type "int") (.type "int") = some true
  is_int_bool:PySem.W.kitOne K (.type "int") (.type "bool") = some false
  is_list_list:PySem.W.kitOne K (.type "list") (.type "list") = some true
  is_tuple_tuple:PySem.W.kitOne K (.type "tuple") (.type "tuple") = some true
  is_bool_bool:PySem.W.kitOne K (.type "bool") (.type "bool") = some true
end W06
set_option Elab.async false
set_option linter.all false
set_option maxRecDepth 100000
namespace W06
open PySem L2
section
variable {P:Program} {w:World} {K:PySem.W.Frag} {mg:Str → Option Value} {base:Heap} {A:Adr}
def sp_whole_int:Sp:=fun vs H Q _=>∃ i:Int,vs = [.int i] ∧ Q (.bl true) H
theorem xoD (T:Txt K mg A):FnOk P w K mg base CX0 1 A.xpo A.xpC ["value"] sp_whole_int:=by
  refine T.xpe.ok xo0 (fun vs H Q E h=>?_) (fun cdv Ar outer s H vs Q E hr h=>?_)
  · obtain ⟨i,rfl,_⟩:=h
    rfl
  obtain ⟨i,rfl,q⟩:=h
  refine ⟨_,(@pss_one _ _ _ (@ps_ret _ _ _ _ (@pe_and _ _ _ _ _ _ _ (@pe_callB _ _ _ _ _ _ _ _ _ call_isinst rfl T.b_isinstance B.isinstance (@pa_consN _ _ _ _ _ (@pv _ 0 _ _ (by rfl) (Or.inl rfl) (by decide) (by decide)) (@pa_consN _ _ _ _ _ (@pe_bltn _ _ (.ty "int") _ _ rfl T.b_int B.int rfl (by decide) (by decide)) (@pa_nil _) (by rfl)) (by rfl)) (by decide) (by decide) (by rfl) (by rfl)) (@pe_one _ _ _ _ _ (@pe_not _ _ _ _ (@pe_callB _ _ _ _ _ _ _ _ _ call_isinst rfl T.b_isinstance B.isinstance (@pa_consN _ _ _ _ _ (@pv _ 0 _ _ (by rfl) (Or.inl rfl) (by decide) (by decide)) (@pa_consN _ _ _ _ _ (@pe_bltn _ _ (.ty "bool") _ _ rfl T.b_bool B.bool rfl (by decide) (by decide)) (@pa_nil _) (by rfl)) (by rfl)) (by decide) (by decide) (by rfl) (by rfl))))))),?_⟩
  exact ⟨_,rfl,_,_,_,_,_,rfl,TyOf.int i,rfl,T.is_int_int,_,rfl,iteT ⟨_,rfl,_,_,_,_,_,rfl,TyOf.int i,rfl,T.is_int_bool,_,rfl,q⟩⟩
def xmz:Sp:=fun vs H Q _=>∃ i:Int,vs = [.int i] ∧ -1000000 ≤ i ∧ i ≤ 1000000 ∧ Q (.bl true) H
theorem xlY (T:Txt K mg A):FnOk P w K mg base CX0 2 A.xm0 A.xnC ["value"] xmz:=by
  have xpj:=xoD (P:=P) (w:=w) (base:=base) T
  refine T.xmI.ok xml (fun vs H Q E h=>?_) (fun cdv Ar outer s H vs Q E hr h=>?_)
  · obtain ⟨i,rfl,_⟩:=h
    rfl
  obtain ⟨i,rfl,h1,h2,q⟩:=h
  refine ⟨_,(@pss_one _ _ _ (@ps_ret _ _ _ _ (@pe_and _ _ _ _ _ _ _ (@pe_call _ _ _ _ _ _ _ _ _ _ _ _ _ _ _ _ xpj (hr.mono (by decide)) rfl T.xpY T.xpP T.xm9 .nil pass0 (@pa_consN _ _ _ _ _ (@pv _ 0 _ _ (by rfl) (Or.inl rfl) (by decide) (by decide)) (@pa_nil _) (by rfl)) (by decide) (by rfl) (by rfl)) (@pe_one _ _ _ _ _ (@pe_chain _ _ _ _ _ _ _ _ _ _ _ _ op_le op_le (@pe_un _ _ _ _ _ _ un_neg (@pe_glob _ _ (.int 1000000) _ _ rfl T.xdv ⟨_,rfl⟩ (by decide))) (@pv _ 0 _ _ (by rfl) (Or.inl rfl) (by decide) (by decide)) (@pe_glob _ _ (.int 1000000) _ _ rfl T.xdv ⟨_,rfl⟩ (by decide)) (by with_unfolding_all rfl)))))),?_⟩
  refine ⟨_,rfl,i,rfl,_,rfl,iteT ⟨_,rfl,_,rfl,_,_,rfl,rfl,_,rfl,?_⟩⟩
  rw [decT h1]
  refine iteT ⟨_,_,rfl,rfl,?_⟩
  show Q (.bl (decide (i ≤ 1000000))) H
  rw [decT h2]
  exact q
def xo8:Sp:=fun vs H Q _=>∃ i:Int,vs = [.int i] ∧ 1 ≤ i ∧ i ≤ 1000000 ∧ Q (.bl true) H
theorem xoC (T:Txt K mg A):FnOk P w K mg base CX0 2 A.xpn A.xpB ["value"] xo8:=by
  have xpj:=xoD (P:=P) (w:=w) (base:=base) T
  refine T.xpd.ok xoZ (fun vs H Q E h=>?_) (fun cdv Ar outer s H vs Q E hr h=>?_)
  · obtain ⟨i,rfl,_⟩:=h
    rfl
  obtain ⟨i,rfl,h1,h2,q⟩:=h
  refine ⟨_,(@pss_one _ _ _ (@ps_ret _ _ _ _ (@pe_and _ _ _ _ _ _ _ (@pe_call _ _ _ _ _ _ _ _ _ _ _ _ _ _ _ _ xpj (hr.mono (by decide)) rfl T.xpY T.xpP T.xm9 .nil pass0 (@pa_consN _ _ _ _ _ (@pv _ 0 _ _ (by rfl) (Or.inl rfl) (by decide) (by decide)) (@pa_nil _) (by rfl)) (by decide) (by rfl) (by rfl)) (@pe_one _ _ _ _ _ (@pe_chain _ _ _ _ _ _ _ _ _ _ _ _ op_le op_le (@pe_int _ _ _ _) (@pv _ 0 _ _ (by rfl) (Or.inl rfl) (by decide) (by decide)) (@pe_glob _ _ (.int 1000000) _ _ rfl T.xef ⟨_,rfl⟩ (by decide)) (by with_unfolding_all rfl)))))),?_⟩
  refine ⟨_,rfl,i,rfl,_,rfl,iteT ⟨_,rfl,_,_,rfl,rfl,_,rfl,?_⟩⟩
  rw [decT h1]
  refine iteT ⟨_,_,rfl,rfl,?_⟩
  show Q (.bl (decide (i ≤ 1000000))) H
  rw [decT h2]
  exact q
def xmy:Sp:=fun vs H Q _=>∃ p n:Int,vs = [.int p,.int n] ∧ 0 < p ∧ Q (.bl (decide (n % p = 0))) H
theorem xlX (T:Txt K mg A):FnOk P w K mg base CX0 1 A.xmZ A.xnB ["part", "number"] xmy:=by
  refine T.xmH.ok xmk (fun vs H Q E h=>?_) (fun cdv Ar outer s H vs Q E hr h=>?_)
  · obtain ⟨p,n,rfl,_⟩:=h
    rfl
  obtain ⟨p,n,rfl,hp,q⟩:=h
  refine ⟨_,(@pss_one _ _ _ (@ps_ret _ _ _ _ (@pe_cmpR _ _ _ _ _ _ _ _ op_eqI (@pe_op _ _ _ _ _ _ _ _ op_mod (@pv _ 1 _ _ (by rfl) (Or.inl rfl) (by decide) (by decide)) (@pv _ 0 _ _ (by rfl) (Or.inl rfl) (by decide) (by decide))) (@pe_int _ _ _ _) (nomark _)))),?_⟩
  exact ⟨_,rfl,_,rfl,_,_,rfl,rfl,hp,_,_,rfl,rfl,q⟩
def xrl:Sp:=fun vs H Q _=>∃ n r t:Int,vs = [.int n,.int r,.int t] ∧ 0 < t ∧ Q (.bl (decide ((n - r) % t = 0))) H
theorem xq3 (T:Txt K mg A):FnOk P w K mg base CX0 2 A.xry A.xrI ["number", "rest", "turn"] xrl:=by
  have xmQ:=xlX (P:=P) (w:=w) (base:=base) T
  refine T.xrs.ok xrg (fun vs H Q E h=>?_) (fun cdv Ar outer s H vs Q E hr h=>?_)
  · obtain ⟨n,r,t,rfl,_⟩:=h
    rfl
  obtain ⟨n,r,t,rfl,hp,q⟩:=h
  refine ⟨_,(@pss_one _ _ _ (@ps_ret _ _ _ _ (@pe_call _ _ _ _ _ _ _ _ _ _ _ _ _ _ _ _ xmQ (hr.mono (by decide)) rfl T.xom T.xn5 T.xkC .nil pass0 (@pa_consN _ _ _ _ _ (@pv _ 2 _ _ (by rfl) (Or.inl rfl) (by decide) (by decide)) (@pa_consN _ _ _ _ _ (@pe_op _ _ _ _ _ _ _ _ op_sub (@pv _ 0 _ _ (by rfl) (Or.inl rfl) (by decide) (by decide)) (@pv _ 1 _ _ (by rfl) (Or.inl rfl) (by decide) (by decide))) (@pa_nil _) (by rfl)) (by rfl)) (by decide) (by rfl) (by rfl)))),?_⟩
  exact ⟨_,rfl,_,rfl,_,rfl,_,_,rfl,rfl,_,_,rfl,hp,q⟩
def xqd:Sp:=fun vs H Q _=>∃ r t:Int,vs = [.int r,.int t] ∧ (1 ≤ t ∧ t ≤ 1000000) ∧ 0 ≤ r ∧ r < t ∧ Q (.bl true) H
theorem xp2 (T:Txt K mg A):FnOk P w K mg base CX0 3 A.xqg A.xqw ["value", "turn"] xqd:=by
  have xpj:=xoD (P:=P) (w:=w) (base:=base) T
  have xpi:=xoC (P:=P) (w:=w) (base:=base) T
  refine T.xqe.ok xqb (fun vs H Q E h=>?_) (fun cdv Ar outer s H vs Q E hr h=>?_)
  · obtain ⟨r,t,rfl,_⟩:=h
    rfl
  obtain ⟨r,t,rfl,ht,h1,h2,q⟩:=h
  refine ⟨_,(@pss_one _ _ _ (@ps_ret _ _ _ _ (@pe_and _ _ _ _ _ _ _ (@pe_call _ _ _ _ _ _ _ _ _ _ _ _ _ _ _ _ xpi (hr.mono (by decide)) rfl T.xpX T.xpO T.xm8 .nil pass0 (@pa_consN _ _ _ _ _ (@pv _ 1 _ _ (by rfl) (Or.inl rfl) (by decide) (by decide)) (@pa_nil _) (by rfl)) (by decide) (by rfl) (by rfl)) (@pe_and _ _ _ _ _ _ _ (@pe_call _ _ _ _ _ _ _ _ _ _ _ _ _ _ _ _ xpj (hr.mono (by decide)) rfl T.xpY T.xpP T.xm9 .nil pass0 (@pa_consN _ _ _ _ _ (@pv _ 0 _ _ (by rfl) (Or.inl rfl) (by decide) (by decide)) (@pa_nil _) (by rfl)) (by decide) (by rfl) (by rfl)) (@pe_one _ _ _ _ _ (@pe_chain _ _ _ _ _ _ _ _ _ _ _ _ op_le op_lt (@pe_int _ _ _ _) (@pv _ 0 _ _ (by rfl) (Or.inl rfl) (by decide) (by decide)) (@pv _ 1 _ _ (by rfl) (Or.inl rfl) (by decide) (by decide)) (by with_unfolding_all rfl))))))),?_⟩
  refine ⟨_,rfl,t,rfl,ht.1,ht.2,_,rfl,iteT ⟨_,rfl,r,rfl,_,rfl,iteT ⟨_,rfl,_,_,rfl,rfl,_,rfl,?_⟩⟩⟩
  rw [decT h1]
  refine iteT ⟨_,rfl,_,_,rfl,rfl,?_⟩
  show Q (.bl (decide (r < t))) H
  rw [decT h2]
  exact q
theorem abs_if (i:Int):(if i < 0 then -i else i) = (i.natAbs:Int):=by split <;> omega
def xc2:Sp:=fun vs H Q _=>∃ a b:Int,vs = [.int a,.int b] ∧ (-1000000 ≤ a ∧ a ≤ 1000000) ∧ (-1000000 ≤ b ∧ b ≤ 1000000) ∧
  ∀ (g x y:Int) (t:Addr),Wr.Pwt a b g x y → H t = none → Q (.ref t) (upd H t (.tup [.int g,.int x,.int y]))
set_option maxHeartbeats 1000000 in
theorem xcL (T:Txt K mg A):FnOk P w K mg base CX0 1 A.xdb A.xdp ["one", "other"] xc2:=by
  refine T.xc5.ok xcY (fun vs H Q E h=>?_) (fun cdv Ar outer s H vs Q E hr h=>?_)
  · obtain ⟨a,b,rfl,_⟩:=h
    rfl
  obtain ⟨a,b,rfl,ha,hb,q⟩:=h
  refine ⟨_,(@pss_cons _ _ _ _ _ (@ps_set _ _ (2) _ _ _ _ xcY.nd rfl (Or.inl rfl) (@pe_callB _ _ _ _ _ _ _ _ _ call_abs rfl T.b_abs B.abs (@pa_consN _ _ _ _ _ (@pv _ 0 _ _ (by rfl) (Or.inl rfl) (by decide) (by decide)) (@pa_nil _) (by rfl)) (by decide) (by decide) (by rfl) (by rfl)) (by rfl) (Or.inl rfl)) (@pss_cons _ _ _ _ _ (@ps_set _ _ (3) _ _ _ _ xcY.nd rfl (Or.inl rfl) (@pe_int _ _ _ _) (by rfl) (Or.inl rfl)) (@pss_cons _ _ _ _ _ (@ps_set _ _ (4) _ _ _ _ xcY.nd rfl (Or.inl rfl) (@pe_callB _ _ _ _ _ _ _ _ _ call_abs rfl T.b_abs B.abs (@pa_consN _ _ _ _ _ (@pv _ 1 _ _ (by rfl) (Or.inl rfl) (by decide) (by decide)) (@pa_nil _) (by rfl)) (by decide) (by decide) (by rfl) (by rfl)) (by rfl) (Or.inl rfl)) (@pss_cons _ _ _ _ _ (@ps_set _ _ (5) _ _ _ _ xcY.nd rfl (Or.inl rfl) (@pe_int _ _ _ _) (by rfl) (Or.inl rfl)) (@pss_cons _ _ _ _ _ (@ps_while _ _ _ _ _ _ PassesOwn.never (@pt_cmpR _ _ _ _ _ _ _ _ op_neI (@pv _ 4 _ _ (by rfl) (Or.inl rfl) (by decide) (by decide)) (@pe_int _ _ _ _) (nomark _)) (@pss_cons _ _ _ _ _ (@ps_set _ _ (6) _ _ _ _ xcY.nd rfl (Or.inl rfl) (@pe_op _ _ _ _ _ _ _ _ op_fdiv (@pv _ 2 _ _ (by rfl) (Or.inl rfl) (by decide) (by decide)) (@pv _ 4 _ _ (by rfl) (Or.inl rfl) (by decide) (by decide))) (by rfl) (Or.inl rfl)) (@pss_cons _ _ _ _ _ (@ps_set _ _ (7) _ _ _ _ xcY.nd rfl (Or.inl rfl) (@pe_op _ _ _ _ _ _ _ _ op_sub (@pv _ 2 _ _ (by rfl) (Or.inl rfl) (by decide) (by decide)) (@pe_op _ _ _ _ _ _ _ _ op_mul (@pv _ 6 _ _ (by rfl) (Or.inl rfl) (by decide) (by decide)) (@pv _ 4 _ _ (by rfl) (Or.inl rfl) (by decide) (by decide)))) (by rfl) (Or.inl rfl)) (@pss_cons _ _ _ _ _ (@ps_set _ _ (8) _ _ _ _ xcY.nd rfl (Or.inl rfl) (@pe_op _ _ _ _ _ _ _ _ op_sub (@pv _ 3 _ _ (by rfl) (Or.inl rfl) (by decide) (by decide)) (@pe_op _ _ _ _ _ _ _ _ op_mul (@pv _ 6 _ _ (by rfl) (Or.inl rfl) (by decide) (by decide)) (@pv _ 5 _ _ (by rfl) (Or.inl rfl) (by decide) (by decide)))) (by rfl) (Or.inl rfl)) (@pss_cons _ _ _ _ _ (@ps_set _ _ (2) _ _ _ _ xcY.nd rfl (Or.inl rfl) (@pv _ 4 _ _ (by rfl) (Or.inl rfl) (by decide) (by decide)) (by rfl) (Or.inl rfl)) (@pss_cons _ _ _ _ _ (@ps_set _ _ (3) _ _ _ _ xcY.nd rfl (Or.inl rfl) (@pv _ 5 _ _ (by rfl) (Or.inl rfl) (by decide) (by decide)) (by rfl) (Or.inl rfl)) (@pss_cons _ _ _ _ _ (@ps_set _ _ (4) _ _ _ _ xcY.nd rfl (Or.inl rfl) (@pv _ 7 _ _ (by rfl) (Or.inl rfl) (by decide) (by decide)) (by rfl) (Or.inl rfl)) (@pss_one _ _ _ (@ps_set _ _ (5) _ _ _ _ xcY.nd rfl (Or.inl rfl) (@pv _ 8 _ _ (by rfl) (Or.inl rfl) (by decide) (by decide)) (by rfl) (Or.inl rfl)))))))))) (@pss_cons _ _ _ _ _ (@ps_if _ _ _ _ _ _ _ _ (@pt_cmpR _ _ _ _ _ _ _ _ op_lt (@pv _ 0 _ _ (by rfl) (Or.inl rfl) (by decide) (by decide)) (@pe_int _ _ _ _) (nomark _)) (@pss_one _ _ _ (@ps_set _ _ (3) _ _ _ _ xcY.nd rfl (Or.inl rfl) (@pe_un _ _ _ _ _ _ un_neg (@pv _ 3 _ _ (by rfl) (Or.inl rfl) (by decide) (by decide))) (by rfl) (Or.inl rfl))) (@pss_nil _)) (@pss_cons _ _ _ _ _ (@ps_set _ _ (9) _ _ _ _ xcY.nd rfl (Or.inl rfl) (@pe_ifExp _ _ _ _ _ _ _ _ (@pt_cmpR _ _ _ _ _ _ _ _ op_eqI (@pv _ 1 _ _ (by rfl) (Or.inl rfl) (by decide) (by decide)) (@pe_int _ _ _ _) (nomark _)) (@pe_int _ _ _ _) (@pe_op _ _ _ _ _ _ _ _ op_fdivN (@pe_op _ _ _ _ _ _ _ _ op_sub (@pv _ 2 _ _ (by rfl) (Or.inl rfl) (by decide) (by decide)) (@pe_op _ _ _ _ _ _ _ _ op_mul (@pv _ 3 _ _ (by rfl) (Or.inl rfl) (by decide) (by decide)) (@pv _ 0 _ _ (by rfl) (Or.inl rfl) (by decide) (by decide)))) (@pv _ 1 _ _ (by rfl) (Or.inl rfl) (by decide) (by decide)))) (by rfl) (Or.inl rfl)) (@pss_one _ _ _ (@ps_ret _ _ _ _ (@pe_tup _ _ _ _ _ (@pa_consN _ _ _ _ _ (@pv _ 2 _ _ (by rfl) (Or.inl rfl) (by decide) (by decide)) (@pa_consN _ _ _ _ _ (@pv _ 3 _ _ (by rfl) (Or.inl rfl) (by decide) (by decide)) (@pa_consN _ _ _ _ _ (@pv _ 9 _ _ (by rfl) (Or.inl rfl) (by decide) (by decide)) (@pa_nil _) (by rfl)) (by rfl)) (by rfl)))))))))))),?_⟩
  have hA:=Wr.abs_small ha
  have hB:=Wr.abs_small hb
  refine ⟨_,rfl,_,rfl,?_⟩
  rw [abs_if]
  refine ⟨_,rfl,_,rfl,?_⟩
  rw [abs_if]
  refine while_by (fun σ H'=>H' = H ∧ ∃ (p o l lo:Int) (f1 f2 f3 f4:Option V),σ = [some (.int a),some (.int b),some (.int p),some (.int o),some (.int l),some (.int lo),f1,f2,f3,f4] ∧ Wr.EI (a.natAbs:Int) (b.natAbs:Int) p o l lo)
    (fun (σ:St) _=>match σ[4]? with | some (some (V.int l))=>l.toNat | _=>0) ⟨rfl,_,_,_,_,_,_,_,_,rfl,Wr.EI.start hA.1 hB.1 hB.2⟩ ?_ ?_
  · rintro σ H' ⟨rfl,p,o,l,lo,f1,f2,f3,f4,rfl,hI⟩
    refine ⟨_,rfl,_,_,rfl,rfl,_,rfl,?_⟩
    by_cases h0:l = 0
    · subst h0
      refine iteF ?_
      obtain ⟨hP,hn1,hn2⟩:=hI.done ha hb
      refine ⟨_,rfl,_,_,rfl,rfl,_,rfl,?_⟩
      have fin:∀ x:Int,x = (if a < 0 then -o else o) → (∃ v,some (some (V.int b)) = some (some v) ∧ ∃ i j,v = V.int i ∧ V.int 0 = V.int j ∧ ∃ c,V.bl (decide (i = j)) = V.bl c ∧ if c = true then True else True):=fun _ _=>⟨_,rfl,_,_,rfl,rfl,_,rfl,by split <;> trivial⟩
      have oM:=hI.oM
      by_cases h1:a < 0
      · rw [if_pos h1] at hP hn1 hn2
        rw [decT h1]
        refine iteT ⟨_,rfl,_,rfl,?_⟩
        refine ⟨_,rfl,_,_,rfl,rfl,_,rfl,?_⟩
        by_cases h2:b = 0
        · rw [if_pos h2] at hP
          rw [decT h2]
          refine iteT ?_
          exact ⟨_,rfl,_,rfl,_,rfl,(by show 3 ≤ sizeLine; decide),fun t ht=>q _ _ _ t hP ht⟩
        · rw [if_neg h2] at hP
          rw [decF h2]
          refine iteF ?_
          refine ⟨_,rfl,_,rfl,_,rfl,_,_,rfl,rfl,.inl ⟨by omega,by omega⟩,_,_,rfl,rfl,_,rfl,_,_,rfl,rfl,⟨h2,by omega⟩,?_⟩
          exact ⟨_,rfl,_,rfl,_,rfl,(by show 3 ≤ sizeLine; decide),fun t ht=>q _ _ _ t hP ht⟩
      · rw [if_neg h1] at hP hn1 hn2
        rw [decF h1]
        refine iteF ?_
        refine ⟨_,rfl,_,_,rfl,rfl,_,rfl,?_⟩
        by_cases h2:b = 0
        · rw [if_pos h2] at hP
          rw [decT h2]
          refine iteT ?_
          exact ⟨_,rfl,_,rfl,_,rfl,(by show 3 ≤ sizeLine; decide),fun t ht=>q _ _ _ t hP ht⟩
        · rw [if_neg h2] at hP
          rw [decF h2]
          refine iteF ?_
          refine ⟨_,rfl,_,rfl,_,rfl,_,_,rfl,rfl,.inl ⟨by omega,by omega⟩,_,_,rfl,rfl,_,rfl,_,_,rfl,rfl,⟨h2,by omega⟩,?_⟩
          exact ⟨_,rfl,_,rfl,_,rfl,(by show 3 ≤ sizeLine; decide),fun t ht=>q _ _ _ t hP ht⟩
    · rw [decF h0]
      refine iteT ?_
      have l0:=hI.l0
      have lM:=hI.lM
      have loM:=hI.loM
      refine ⟨_,rfl,_,rfl,_,_,rfl,rfl,⟨by omega,by omega⟩,?_⟩
      refine ⟨_,rfl,_,rfl,_,rfl,_,_,rfl,rfl,.inr ⟨by omega,by omega⟩,_,_,rfl,rfl,?_⟩
      refine ⟨_,rfl,_,rfl,_,rfl,_,_,rfl,rfl,.inr ⟨by omega,by omega⟩,_,_,rfl,rfl,?_⟩
      refine ⟨_,rfl,_,rfl,_,rfl,_,rfl,⟨rfl,_,_,_,_,_,_,_,_,rfl,hI.turn hB.2 h0⟩,?_⟩
      show (p - p / l * l).toNat < l.toNat
      have e:p - p / l * l = p % l:=by
        have:=Int.emod_add_mul_ediv p l
        rw [Int.mul_comm] at this
        omega
      rw [e]
      have h1:=Int.emod_nonneg p h0
      have h2:=Int.emod_lt_of_pos p (show 0 < l by omega)
      omega
  · rintro σ H' Q1 Q2 hm ⟨v,e,i,j,e1,e2,k,e3,q⟩
    exact ⟨v,e,i,j,e1,e2,k,e3,hm _ _ q⟩
def xiy:Sp:=fun vs H Q _=>∃ a t:Int,vs = [.int a,.int t] ∧ (-1000000 ≤ a ∧ a ≤ 1000000) ∧ (1 ≤ t ∧ t ≤ 1000000) ∧
  ∀ (x y:Int) (H':Hp),Wr.Pwt a t (Int.gcd a t:Int) x y → Same H H' → Q (.int (x % t)) H'
theorem xh3 (T:Txt K mg A):FnOk P w K mg base CX0 2 A.xiQ A.xje ["number", "turn"] xiy:=by
  have xc8:=xcL (P:=P) (w:=w) (base:=base) T
  refine T.xiE.ok xim (fun vs H Q E h=>?_) (fun cdv Ar outer s H vs Q E hr h=>?_)
  · obtain ⟨a,b,rfl,_⟩:=h
    rfl
  obtain ⟨a,b,rfl,ha,hb,q⟩:=h
  refine ⟨_,(@pss_one _ _ _ (@ps_ret _ _ _ _ (@pe_op _ _ _ _ _ _ _ _ op_mod (@pe_ix _ _ _ _ _ _ _ ix_tup (@pe_call _ _ _ _ _ _ _ _ _ _ _ _ _ _ _ _ xc8 (hr.mono (by decide)) rfl T.xdH T.xdD T.xbZ .nil pass0 (@pa_consN _ _ _ _ _ (@pv _ 0 _ _ (by rfl) (Or.inl rfl) (by decide) (by decide)) (@pa_consN _ _ _ _ _ (@pv _ 1 _ _ (by rfl) (Or.inl rfl) (by decide) (by decide)) (@pa_nil _) (by rfl)) (by rfl)) (by decide) (by rfl) (by rfl)) (@pe_int _ _ _ _) (fun _ _=>rfl)) (@pv _ 1 _ _ (by rfl) (Or.inl rfl) (by decide) (by decide))))),?_⟩
  refine ⟨_,rfl,_,rfl,a,b,rfl,ha,⟨by omega,by omega⟩,fun g x y t hP ht=>?_⟩
  refine ⟨t,_,_,_,rfl,rfl,SqT.of upd_same,rfl,_,rfl,_,_,rfl,rfl,(by omega),?_⟩
  have e:=hP.g_
  subst e
  exact q x y _ hP (same_new ht _)
end
end W06
set_option Elab.async false
set_option linter.all false
set_option maxRecDepth 100000
namespace W06
open PySem L2
section
variable {P:Program} {w:World} {K:PySem.W.Frag} {mg:Str → Option Value} {base:Heap} {A:Adr}
def xaF:Sp:=fun vs H Q _=>∃ a b:Int,vs = [.int a,.int b] ∧ Q (.int (Int.gcd a b)) H
theorem xax (T:Txt K mg A):FnOk P w K mg base CX0 1 A.xaL A.xaP ["one", "other"] xaF:=by
  refine T.xaH.ok xaB (fun vs H Q E h=>?_) (fun cdv Ar outer s H vs Q E hr h=>?_)
  · obtain ⟨a,b,rfl,_⟩:=h
    rfl
  obtain ⟨a,b,rfl,q⟩:=h
  refine ⟨_,(@pss_cons _ _ _ _ _ (@ps_set _ _ (2) _ _ _ _ xaB.nd rfl (Or.inl rfl) (@pe_callB _ _ _ _ _ _ _ _ _ call_abs rfl T.b_abs B.abs (@pa_consN _ _ _ _ _ (@pv _ 0 _ _ (by rfl) (Or.inl rfl) (by decide) (by decide)) (@pa_nil _) (by rfl)) (by decide) (by decide) (by rfl) (by rfl)) (by rfl) (Or.inl rfl)) (@pss_cons _ _ _ _ _ (@ps_set _ _ (3) _ _ _ _ xaB.nd rfl (Or.inl rfl) (@pe_callB _ _ _ _ _ _ _ _ _ call_abs rfl T.b_abs B.abs (@pa_consN _ _ _ _ _ (@pv _ 1 _ _ (by rfl) (Or.inl rfl) (by decide) (by decide)) (@pa_nil _) (by rfl)) (by decide) (by decide) (by rfl) (by rfl)) (by rfl) (Or.inl rfl)) (@pss_cons _ _ _ _ _ (@ps_while _ _ _ _ _ _ PassesOwn.never (@pt_cmpR _ _ _ _ _ _ _ _ op_neI (@pv _ 3 _ _ (by rfl) (Or.inl rfl) (by decide) (by decide)) (@pe_int _ _ _ _) (nomark _)) (@pss_cons _ _ _ _ _ (@ps_set _ _ (4) _ _ _ _ xaB.nd rfl (Or.inl rfl) (@pe_op _ _ _ _ _ _ _ _ op_mod (@pv _ 2 _ _ (by rfl) (Or.inl rfl) (by decide) (by decide)) (@pv _ 3 _ _ (by rfl) (Or.inl rfl) (by decide) (by decide))) (by rfl) (Or.inl rfl)) (@pss_cons _ _ _ _ _ (@ps_set _ _ (2) _ _ _ _ xaB.nd rfl (Or.inl rfl) (@pv _ 3 _ _ (by rfl) (Or.inl rfl) (by decide) (by decide)) (by rfl) (Or.inl rfl)) (@pss_one _ _ _ (@ps_set _ _ (3) _ _ _ _ xaB.nd rfl (Or.inl rfl) (@pv _ 4 _ _ (by rfl) (Or.inl rfl) (by decide) (by decide)) (by rfl) (Or.inl rfl)))))) (@pss_one _ _ _ (@ps_ret _ _ _ _ (@pv _ 2 _ _ (by rfl) (Or.inl rfl) (by decide) (by decide))))))),?_⟩
  refine ⟨_,rfl,_,rfl,_,rfl,_,rfl,?_⟩
  refine while_by (fun σ H'=>H' = H ∧ ∃ (p l:Int) (f:Option V),σ = [some (.int a),some (.int b),some (.int p),some (.int l),f] ∧ 0 ≤ p ∧ 0 ≤ l ∧ Int.gcd p l = Int.gcd a b)
    (fun (σ:St) _=>match σ[3]? with | some (some (V.int l))=>l.toNat | _=>0) ⟨rfl,_,_,_,rfl,?_,?_,?_⟩ ?_ ?_
  · split <;> omega
  · split <;> omega
  · rw [abs_if,abs_if]; simp [Int.gcd]
  · rintro σ H' ⟨rfl,p,l,f,rfl,hp,hl,hg⟩
    refine ⟨_,rfl,_,_,rfl,rfl,_,rfl,?_⟩
    by_cases h0:l = 0
    · subst h0
      refine iteF ?_
      refine ⟨_,rfl,?_⟩
      have e:p = (Int.gcd a b:Int):=by
        rw [← hg,Int.gcd_zero_right]; omega
      rw [e]; exact q
    · rw [decF h0]
      refine iteT ?_
      refine ⟨_,rfl,_,rfl,_,_,rfl,rfl,(by omega),_,rfl,_,rfl,⟨rfl,_,_,_,rfl,hl,Int.emod_nonneg _ h0,?_⟩,?_⟩
      · rw [← hg]
        show Nat.gcd l.natAbs (p % l).natAbs = Nat.gcd p.natAbs l.natAbs
        rw [Int.natAbs_emod_of_nonneg hp]
        rw [Nat.gcd_comm l.natAbs,← Nat.gcd_rec,Nat.gcd_comm]
      · show (p % l).toNat < l.toNat
        have h1:=Int.emod_nonneg p h0
        have h2:=Int.emod_lt_of_pos p (show 0 < l by omega)
        omega
  · rintro σ H' Q1 Q2 hm ⟨v,e,i,j,e1,e2,k,e3,q⟩
    exact ⟨v,e,i,j,e1,e2,k,e3,hm _ _ q⟩
theorem gcdL_snoc (ns:List Int) (n:Int):(Int.gcd (gcdL ns:Int) n:Int) = (gcdL (ns ++ [n]):Int):=by
  unfold gcdL
  rw [List.foldl_append]
  simp [Int.gcd]
def xiw (K:PySem.W.Frag):Sp:=fun vs H Q _=>∃ (a:Addr) (ns:List Int),vs = [.ref a] ∧ IntsAt K H a ns ∧ Q (.int (gcdL ns)) H
theorem xh0 (T:Txt K mg A):FnOk P w K mg base CX0 2 A.xiO A.xjc ["numbers"] (xiw K):=by
  have xaJ:=xax (P:=P) (w:=w) (base:=base) T
  refine T.xiC.ok xik (fun vs H Q E h=>?_) (fun cdv Ar outer s H vs Q E hr h=>?_)
  · obtain ⟨a,ns,rfl,_⟩:=h
    rfl
  obtain ⟨a,ns,rfl,hS,q⟩:=h
  refine ⟨_,(@pss_cons _ _ _ _ _ (@ps_set _ _ (1) _ _ _ _ xik.nd rfl (Or.inl rfl) (@pe_int _ _ _ _) (by rfl) (Or.inl rfl)) (@pss_cons _ _ _ _ _ (@ps_for _ _ _ _ _ _ _ _ PassesOwn.never rfl (@pi_list _ _ _ _ (@pv _ 0 _ _ (by rfl) (Or.inl rfl) (by decide) (by decide))) (@pg_name _ _ (2) _ xik.nd rfl (Or.inl rfl) (Or.inl rfl)) (@pss_one _ _ _ (@ps_set _ _ (1) _ _ _ _ xik.nd rfl (Or.inl rfl) (@pe_call _ _ _ _ _ _ _ _ _ _ _ _ _ _ _ _ xaJ (hr.mono (by decide)) rfl T.xaX T.xaT T.xaj .nil pass0 (@pa_consN _ _ _ _ _ (@pv _ 1 _ _ (by rfl) (Or.inl rfl) (by decide) (by decide)) (@pa_consN _ _ _ _ _ (@pv _ 2 _ _ (by rfl) (Or.inl rfl) (by decide) (by decide)) (@pa_nil _) (by rfl)) (by rfl)) (by decide) (by rfl) (by rfl)) (by rfl) (Or.inl rfl))) (by intro _; rfl)) (@pss_one _ _ _ (@ps_ret _ _ _ _ (@pv _ 1 _ _ (by rfl) (Or.inl rfl) (by decide) (by decide)))))),?_⟩
  refine ⟨_,rfl,a,rfl,⟨_,hS⟩,for_list (K:=K) (a:=a) (xs:=ns.map V.int) (fun i σ H'=>H' = H ∧ ∃ f,σ = [some (.ref a),some (.int (gcdL (ns.take i))),f]) ⟨rfl,_,rfl⟩ (fun i σ H' _ ⟨e,_⟩=>e ▸ hS) ?_ ?_⟩
  · rintro i x σ H' hi ⟨rfl,f,rfl⟩
    obtain ⟨n,hn,rfl⟩:=ints_get hi
    refine ⟨_,rfl,_,rfl,_,_,rfl,rfl,some (.int n),?_⟩
    rw [take_snoc hn,← gcdL_snoc]
    rfl
  · rintro σ H' ⟨rfl,f,rfl⟩
    refine ⟨_,rfl,?_⟩
    rw [List.length_map,List.take_length]
    exact q
theorem lcmL_snoc (ns:List Int) (t:Int):lcmL ns / (Int.gcd (lcmL ns) t:Int) * t = lcmL (ns ++ [t]):=by
  unfold lcmL
  rw [List.foldl_append]
  rfl
def xix (K:PySem.W.Frag):Sp:=fun vs H Q _=>∃ (a:Addr) (ts:List Int),vs = [.ref a] ∧ IntsAt K H a ts ∧ (∀ t ∈ ts,0 < t ∧ t ≤ 1000000) ∧ Q (.int (lcmL ts)) H
theorem gcd_small {w t:Int} (h:0 < t ∧ t ≤ 1000000):0 < (Int.gcd w t:Int) ∧ (Int.gcd w t:Int) ≤ 1000000:=by
  have h1:0 < Int.gcd w t:=Nat.pos_of_ne_zero fun z=>by
    have:=(Int.gcd_eq_zero_iff.mp z).2
    omega
  have h2:(Int.gcd w t:Int) ≤ t:=Int.le_of_dvd h.1 (Int.gcd_dvd_right w t)
  omega
theorem xh1 (T:Txt K mg A):FnOk P w K mg base CX0 2 A.xiP A.xjd ["turns"] (xix K):=by
  have xaJ:=xax (P:=P) (w:=w) (base:=base) T
  refine T.xiD.ok xil (fun vs H Q E h=>?_) (fun cdv Ar outer s H vs Q E hr h=>?_)
  · obtain ⟨a,ns,rfl,_⟩:=h
    rfl
  obtain ⟨a,ns,rfl,hS,hT,q⟩:=h
  refine ⟨_,(@pss_cons _ _ _ _ _ (@ps_set _ _ (1) _ _ _ _ xil.nd rfl (Or.inl rfl) (@pe_int _ _ _ _) (by rfl) (Or.inl rfl)) (@pss_cons _ _ _ _ _ (@ps_for _ _ _ _ _ _ _ _ PassesOwn.never rfl (@pi_list _ _ _ _ (@pv _ 0 _ _ (by rfl) (Or.inl rfl) (by decide) (by decide))) (@pg_name _ _ (2) _ xil.nd rfl (Or.inl rfl) (Or.inl rfl)) (@pss_one _ _ _ (@ps_set _ _ (1) _ _ _ _ xil.nd rfl (Or.inl rfl) (@pe_op _ _ _ _ _ _ _ _ op_mul (@pe_op _ _ _ _ _ _ _ _ op_fdiv (@pv _ 1 _ _ (by rfl) (Or.inl rfl) (by decide) (by decide)) (@pe_call _ _ _ _ _ _ _ _ _ _ _ _ _ _ _ _ xaJ (hr.mono (by decide)) rfl T.xaX T.xaT T.xaj .nil pass0 (@pa_consN _ _ _ _ _ (@pv _ 1 _ _ (by rfl) (Or.inl rfl) (by decide) (by decide)) (@pa_consN _ _ _ _ _ (@pv _ 2 _ _ (by rfl) (Or.inl rfl) (by decide) (by decide)) (@pa_nil _) (by rfl)) (by rfl)) (by decide) (by rfl) (by rfl))) (@pv _ 2 _ _ (by rfl) (Or.inl rfl) (by decide) (by decide))) (by rfl) (Or.inl rfl))) (by intro _; rfl)) (@pss_one _ _ _ (@ps_ret _ _ _ _ (@pv _ 1 _ _ (by rfl) (Or.inl rfl) (by decide) (by decide)))))),?_⟩
  refine ⟨_,rfl,a,rfl,⟨_,hS⟩,for_list (K:=K) (a:=a) (xs:=ns.map V.int) (fun i σ H'=>H' = H ∧ ∃ f,σ = [some (.ref a),some (.int (lcmL (ns.take i))),f]) ⟨rfl,_,rfl⟩ (fun i σ H' _ ⟨e,_⟩=>e ▸ hS) ?_ ?_⟩
  · rintro i x σ H' hi ⟨rfl,f,rfl⟩
    obtain ⟨n,hn,rfl⟩:=ints_get hi
    have ht:=hT n (List.mem_of_getElem? hn)
    have hg:=gcd_small (w:=lcmL (ns.take i)) ht
    refine ⟨_,rfl,_,rfl,_,rfl,_,_,rfl,_,_,rfl,rfl,⟨hg.1,by omega⟩,_,rfl,_,_,rfl,rfl,.inr ⟨by omega,by omega⟩,rfl,some (.int n),?_⟩
    rw [take_snoc hn,← lcmL_snoc]
    rfl
  · rintro σ H' ⟨rfl,f,rfl⟩
    refine ⟨_,rfl,?_⟩
    rw [List.length_map,List.take_length]
    exact q
def dot (ns ts:List Int):Int:=((ns.zip ts).map fun p=>p.1 * p.2).sum
def xf4 (K:PySem.W.Frag):Sp:=fun vs H Q _=>∃ (a b:Addr) (ns ts:List Int),vs = [.ref a,.ref b] ∧ IntsAt K H a ns ∧ IntsAt K H b ts ∧ (∀ n ∈ ns,-(2 ^ 64) < n ∧ n < 2 ^ 64) ∧ ns.length ≤ 1000 ∧ ∀ H',Same H H' → Q (.int (dot ns ts)) H'
theorem zip_get {α β:Type} {xs:List α} {ys:List β} {i:Nat} {x:α} {y:β} (h1:xs[i]? = some x) (h2:ys[i]? = some y):(xs.zip ys)[i]? = some (x,y):=by
  rw [List.getElem?_zip_eq_some]; exact ⟨h1,h2⟩
theorem xfE (T:Txt K mg A):FnOk P w K mg base CX0 1 A.xgm A.xgW ["numbers", "times"] (xf4 K):=by
  refine T.xga.ok xfT (fun vs H Q E h=>?_) (fun cdv Ar outer s H vs Q E hr h=>?_)
  · obtain ⟨a,b,ns,ts,rfl,_⟩:=h
    rfl
  obtain ⟨a,b,ns,ts,rfl,hS,hT,hB,hL,q⟩:=h
  refine ⟨_,(@pss_one _ _ _ (@ps_ret _ _ _ _ (@pe_callB _ _ _ _ _ _ _ _ _ (call_sum rfl) rfl T.b_sum B.sum (@pa_consN _ _ _ _ _ (@pe_comp0 _ _ (["number", "often"]) ([none,none]) _ _ _ _ _ _ _ _ xcX rfl (@pi_zip _ _ _ _ _ _ _ _ _ rfl T.b_zip (@pa_consN _ _ _ _ _ (@pv _ 0 _ _ (by rfl) (Or.inl rfl) (by decide) (by decide)) (@pa_consN _ _ _ _ _ (@pv _ 1 _ _ (by rfl) (Or.inl rfl) (by decide) (by decide)) (@pa_nil _) (by rfl)) (by rfl)) (by rfl) (by rfl)) (fun z=>(@pg_tup _ _ _ _ _ (2) rfl (@pgs_cons _ _ _ _ _ (@pg_name _ _ (0) _ xcX.nd rfl (Or.inl rfl) (by exact .inr rfl)) (@pgs_cons _ _ _ _ _ (@pg_name _ _ (1) _ xcX.nd rfl (Or.inl rfl) (by exact .inr rfl)) (@pgs_nil _) (by rfl)) (by rfl)) (by rfl) (by rfl))) (sets_two _ _ 0 1) (by decide) (fun z=>(@pe_op _ _ _ _ _ _ _ _ op_mul (@pv _ 0 _ _ (by rfl) (by exact .inl rfl) (by decide) (by decide)) (@pv _ 1 _ _ (by rfl) (by exact .inl rfl) (by decide) (by decide)))) (by intro _; rfl)) (@pa_nil _) (by rfl)) (by decide) (by decide) (by rfl) (by rfl)))),?_⟩
  refine ⟨_,rfl,_,rfl,a,b,rfl,⟨_,hS⟩,⟨_,hT⟩,comp_zip (K:=K) (a:=a) (b:=b) (xs:=ns.map V.int) (ys:=ts.map V.int) (fun i zs H'=>Same H H' ∧ zs = (((ns.zip ts).take i).map fun p=>p.1 * p.2).map V.int) ⟨Same.refl H,rfl⟩ (by rw [List.length_map]; exact Nat.le_trans (Nat.min_le_left _ _) (small100 hL)) ?_ ?_ ?_⟩
  · rintro i zs H' hi ⟨hs,rfl⟩
    refine ⟨hs.ints hS,hs.ints hT,?_⟩
    rw [List.length_map,List.length_map] at hi
    rw [List.length_map,List.length_map,List.length_take,List.length_zip]
    omega
  · rintro i x y zs H' p hx hy ⟨hs,rfl⟩ hp
    obtain ⟨n,hn,rfl⟩:=ints_get hx
    obtain ⟨t,ht,rfl⟩:=ints_get hy
    refine ⟨p,_,rfl,SqT.of upd_same,rfl,_,_,rfl,_,_,rfl,rfl,_,rfl,_,rfl,_,_,rfl,rfl,.inl (hB n (List.mem_of_getElem? hn)),hs.trans (same_new hp _),?_⟩
    rw [take_snoc (zip_get hn ht),List.map_append,List.map_append]
    rfl
  · rintro zs H' ⟨hs,rfl⟩ p hp
    refine ⟨p,((ns.zip ts).map fun (z:Int × Int)=>z.1 * z.2),rfl,SqL.of ?_,q _ (hs.trans (same_new hp _))⟩
    rw [upd_same,List.length_map,List.length_map,← List.length_zip,List.take_length]
end
end W06
set_option Elab.async false
set_option linter.all false
set_option maxRecDepth 100000
namespace W06
open PySem L2
section
variable {P:Program} {w:World} {K:PySem.W.Frag} {mg:Str → Option Value} {base:Heap} {A:Adr}
def ObjAt (H:Hp) (p C:Addr) (fs:List (Str × V)):Prop:=∃ dx,H p = some (.ins C dx fs)
theorem Same.obj {H H':Hp} {p C:Addr} {fs:List (Str × V)} (e:Same H H') (h:ObjAt H p C fs):ObjAt H' p C fs:=let ⟨dx,q⟩:=h; ⟨dx,e _ _ q⟩
def sp_init2 (C:Addr) (f g:Str):Sp:=fun vs H Q _=>∃ (p dx:Addr) (x y:V),vs = [.ref p,x,y] ∧ H p = some (.ins C dx []) ∧ ∀ H',ObjAt H' p C [(f,x),(g,y)] → (∀ b o,H b = some o → b ≠ p → H' b = some o) → Q .non H'
def sp_init1 (C:Addr) (f:Str):Sp:=fun vs H Q _=>∃ (p dx:Addr) (x:V),vs = [.ref p,x] ∧ H p = some (.ins C dx []) ∧ ∀ H',ObjAt H' p C [(f,x)] → (∀ b o,H b = some o → b ≠ p → H' b = some o) → Q .non H'
theorem make2 {C:Addr} {f g:Str} {x y:V} {H:Hp} {Q:VK} {E:XK} (h:∀ p H',Same H H' → H p = none → ObjAt H' p C [(f,x),(g,y)] → Q (.ref p) H') :
    ∀ p dx,H p = none → H dx = none → dx ≠ p → sp_init2 C f g (.ref p :: ([x,y] ++ [])) (upd (upd H dx (.own p)) p (.ins C dx [])) (fun v H2=>v = .non ∧ Q (.ref p) H2) E:=fun p dx hp hd hne =>
  ⟨p,dx,x,y,rfl,upd_same,fun H' ho kp=>⟨rfl,h p H' (fun b o e=>kp b o (by rw [upd_ne (ne_of_none e hp),upd_ne (ne_of_none e hd)]; exact e) (ne_of_none e hp)) hp ho⟩⟩
theorem make1 {C:Addr} {f:Str} {x:V} {H:Hp} {Q:VK} {E:XK} (h:∀ p H',Same H H' → H p = none → ObjAt H' p C [(f,x)] → Q (.ref p) H') :
    ∀ p dx,H p = none → H dx = none → dx ≠ p → sp_init1 C f (.ref p :: ([x] ++ [])) (upd (upd H dx (.own p)) p (.ins C dx [])) (fun v H2=>v = .non ∧ Q (.ref p) H2) E:=fun p dx hp hd hne =>
  ⟨p,dx,x,rfl,upd_same,fun H' ho kp=>⟨rfl,h p H' (fun b o e=>kp b o (by rw [upd_ne (ne_of_none e hp),upd_ne (ne_of_none e hd)]; exact e) (ne_of_none e hp)) hp ho⟩⟩
theorem xhX (T:Txt K mg A):FnOk P w K mg base CX0 1 A.xda A.xdo ["self", "number", "turn"] (sp_init2 A.xrA "number" "turn"):=by
  refine T.xc4.ok xcU (fun vs H Q E h=>?_) (fun cdv Ar outer s H vs Q E hr h=>?_)
  · obtain ⟨p,dx,x,y,rfl,_⟩:=h
    rfl
  obtain ⟨p,dx,x,y,rfl,hp,q⟩:=h
  refine ⟨_,(@pss_cons _ _ _ _ _ (@ps_fld _ _ _ _ _ _ _ _ (@pv _ 0 _ _ (by rfl) (Or.inl rfl) (by decide) (by decide)) (@pv _ 1 _ _ (by rfl) (Or.inl rfl) (by decide) (by decide)) (by rfl)) (@pss_one _ _ _ (@ps_fld _ _ _ _ _ _ _ _ (@pv _ 0 _ _ (by rfl) (Or.inl rfl) (by decide) (by decide)) (@pv _ 2 _ _ (by rfl) (Or.inl rfl) (by decide) (by decide)) (by rfl)))),?_⟩
  refine ⟨_,rfl,_,rfl,p,A.xrA,dx,_,rfl,hp,T.xqs,T.xep,(by show 0 < 1000; decide),_,rfl,_,rfl,p,A.xrA,dx,_,rfl,upd_same,T.xqs,T.xhH,(by show 1 < 1000; decide),?_⟩
  exact q _ ⟨dx,upd_same⟩ fun b o e hb=>by rw [upd_ne hb,upd_ne hb]; exact e
theorem xjV (T:Txt K mg A):FnOk P w K mg base CX0 1 A.xd2 A.xea ["self", "one", "other"] (sp_init2 A.xsw "one" "other"):=by
  refine T.xdY.ok xdR (fun vs H Q E h=>?_) (fun cdv Ar outer s H vs Q E hr h=>?_)
  · obtain ⟨p,dx,x,y,rfl,_⟩:=h
    rfl
  obtain ⟨p,dx,x,y,rfl,hp,q⟩:=h
  refine ⟨_,(@pss_cons _ _ _ _ _ (@ps_fld _ _ _ _ _ _ _ _ (@pv _ 0 _ _ (by rfl) (Or.inl rfl) (by decide) (by decide)) (@pv _ 1 _ _ (by rfl) (Or.inl rfl) (by decide) (by decide)) (by rfl)) (@pss_one _ _ _ (@ps_fld _ _ _ _ _ _ _ _ (@pv _ 0 _ _ (by rfl) (Or.inl rfl) (by decide) (by decide)) (@pv _ 2 _ _ (by rfl) (Or.inl rfl) (by decide) (by decide)) (by rfl)))),?_⟩
  refine ⟨_,rfl,_,rfl,p,A.xsw,dx,_,rfl,hp,T.xrE,T.xlA,(by show 0 < 1000; decide),_,rfl,_,rfl,p,A.xsw,dx,_,rfl,upd_same,T.xrE,T.xhF,(by show 1 < 1000; decide),?_⟩
  exact q _ ⟨dx,upd_same⟩ fun b o e hb=>by rw [upd_ne hb,upd_ne hb]; exact e
def sp_initC (K:PySem.W.Frag) (C:Addr):Sp:=fun vs H Q _=>∃ (p dx a:Addr) (x:V) (ts:List Int),vs = [.ref p,x,.ref a] ∧ H p = some (.ins C dx []) ∧ IntsAt K H a ts ∧
  ∀ l H',H l = none → H' l = some (.lst (ts.map V.int)) → ObjAt H' p C [("part", x),("times", .ref l)] → (∀ b o,H b = some o → b ≠ p → H' b = some o) → Q .non H'
theorem xhW (T:Txt K mg A):FnOk P w K mg base CX0 1 A.xc9 A.xdn ["self", "part", "times"] (sp_initC K A.xrz):=by
  refine T.xc3.ok xcT (fun vs H Q E h=>?_) (fun cdv Ar outer s H vs Q E hr h=>?_)
  · obtain ⟨p,dx,a,x,ts,rfl,_⟩:=h
    rfl
  obtain ⟨p,dx,a,x,ts,rfl,hp,ha,q⟩:=h
  refine ⟨_,(@pss_cons _ _ _ _ _ (@ps_fld _ _ _ _ _ _ _ _ (@pv _ 0 _ _ (by rfl) (Or.inl rfl) (by decide) (by decide)) (@pv _ 1 _ _ (by rfl) (Or.inl rfl) (by decide) (by decide)) (by rfl)) (@pss_one _ _ _ (@ps_fld _ _ _ _ _ _ _ _ (@pv _ 0 _ _ (by rfl) (Or.inl rfl) (by decide) (by decide)) (@pe_callTy _ _ _ _ _ _ _ _ _ call_list_of rfl T.b_list B.list (@pa_consN _ _ _ _ _ (@pv _ 2 _ _ (by rfl) (Or.inl rfl) (by decide) (by decide)) (@pa_nil _) (by rfl)) (by decide) (by decide) (by rfl) (by rfl)) (by rfl)))),?_⟩
  have n1:∀ o,Same H (upd H p o) → True:=fun _ _=>trivial
  have hap:∀ o,IntsAt K (upd H p o) a ts:=fun o=>by
    rcases ha with (h | ⟨ob,h⟩) | h
    · exact .inl (.inl (by rw [upd_ne (ne_of h hp (by intro z; cases z))]; exact h))
    · exact .inl (.inr ⟨ob,by rw [upd_ne (ne_of h hp (by intro z; cases z))]; exact h⟩)
    · exact .inr h
  refine ⟨_,rfl,_,rfl,p,A.xrz,dx,_,rfl,hp,T.xqr,T.xhG,(by show 0 < 1000; decide),_,rfl,a,_,rfl,.inl (hap _),fun l hl=>?_⟩
  have hlp:l ≠ p:=fun z=>by rw [z,upd_same] at hl; cases hl
  refine ⟨_,rfl,p,A.xrz,dx,_,rfl,(by rw [upd_ne (Ne.symm hlp)]; exact upd_same),T.xqr,T.xfp,(by show 1 < 1000; decide),?_⟩
  have hl0:H l = none:=by rw [upd_ne hlp] at hl; exact hl
  exact q l _ hl0 (by rw [upd_ne hlp,upd_same]) ⟨dx,upd_same⟩ fun b o e hb=>by rw [upd_ne hb,upd_ne (ne_of_none e hl0),upd_ne hb]; exact e
def sp_initT (K:PySem.W.Frag) (C:Addr):Sp:=fun vs H Q _=>∃ (p dx a:Addr) (ts:List Int),vs = [.ref p,.ref a] ∧ H p = some (.ins C dx []) ∧ IntsAt K H a ts ∧
  ∀ l H',H l = none → H' l = some (.lst (ts.map V.int)) → ObjAt H' p C [("times", .ref l)] → (∀ b o,H b = some o → b ≠ p → H' b = some o) → Q .non H'
theorem xjW (T:Txt K mg A):FnOk P w K mg base CX0 1 A.xd3 A.xeb ["self", "times"] (sp_initT K A.xsx):=by
  refine T.xdZ.ok xdS (fun vs H Q E h=>?_) (fun cdv Ar outer s H vs Q E hr h=>?_)
  · obtain ⟨p,dx,a,ts,rfl,_⟩:=h
    rfl
  obtain ⟨p,dx,a,ts,rfl,hp,ha,q⟩:=h
  refine ⟨_,(@pss_one _ _ _ (@ps_fld _ _ _ _ _ _ _ _ (@pv _ 0 _ _ (by rfl) (Or.inl rfl) (by decide) (by decide)) (@pe_callTy _ _ _ _ _ _ _ _ _ call_list_of rfl T.b_list B.list (@pa_consN _ _ _ _ _ (@pv _ 1 _ _ (by rfl) (Or.inl rfl) (by decide) (by decide)) (@pa_nil _) (by rfl)) (by decide) (by decide) (by rfl) (by rfl)) (by rfl))),?_⟩
  refine ⟨_,rfl,a,_,rfl,.inl ha,fun l hl=>?_⟩
  have hlp:l ≠ p:=(ne_of_none hp hl).symm
  refine ⟨_,rfl,p,A.xsx,dx,_,rfl,(by rw [upd_ne (Ne.symm hlp)]; exact hp),T.xrF,T.xhI,(by show 0 < 1000; decide),?_⟩
  exact q l _ hl (by rw [upd_ne hlp,upd_same]) ⟨dx,upd_same⟩ fun b o e hb=>by rw [upd_ne hb,upd_ne (ne_of_none e hl)]; exact e
theorem xoB (T:Txt K mg A):FnOk P w K mg base CX0 1 A.xgi A.xgS ["self", "part"] (sp_init1 A.c_Bar "part"):=by
  refine T.xf6.ok xfN (fun vs H Q E h=>?_) (fun cdv Ar outer s H vs Q E hr h=>?_)
  · obtain ⟨p,dx,x,rfl,_⟩:=h
    rfl
  obtain ⟨p,dx,x,rfl,hp,q⟩:=h
  refine ⟨_,(@pss_one _ _ _ (@ps_fld _ _ _ _ _ _ _ _ (@pv _ 0 _ _ (by rfl) (Or.inl rfl) (by decide) (by decide)) (@pv _ 1 _ _ (by rfl) (Or.inl rfl) (by decide) (by decide)) (by rfl))),?_⟩
  refine ⟨_,rfl,_,rfl,p,A.c_Bar,dx,_,rfl,hp,T.xtC,T.xop,(by show 0 < 1000; decide),?_⟩
  exact q _ ⟨dx,upd_same⟩ fun b o e hb=>by rw [upd_ne hb]; exact e
theorem xlT (T:Txt K mg A):FnOk P w K mg base CX0 1 A.xeC A.xe2 ["self", "rest"] (sp_init1 A.xtx "rest"):=by
  refine T.xeA.ok xev (fun vs H Q E h=>?_) (fun cdv Ar outer s H vs Q E hr h=>?_)
  · obtain ⟨p,dx,x,rfl,_⟩:=h
    rfl
  obtain ⟨p,dx,x,rfl,hp,q⟩:=h
  refine ⟨_,(@pss_one _ _ _ (@ps_fld _ _ _ _ _ _ _ _ (@pv _ 0 _ _ (by rfl) (Or.inl rfl) (by decide) (by decide)) (@pv _ 1 _ _ (by rfl) (Or.inl rfl) (by decide) (by decide)) (by rfl))),?_⟩
  refine ⟨_,rfl,_,rfl,p,A.xtx,dx,_,rfl,hp,T.xsB,T.xlz,(by show 0 < 1000; decide),?_⟩
  exact q _ ⟨dx,upd_same⟩ fun b o e hb=>by rw [upd_ne hb]; exact e
def barBars (g n t:Int):Bool:=decide (1 < g) && (decide (n % g = 0) && decide (t % g = 0))
def xo7 (C:Addr):Sp:=fun vs H Q _=>∃ (p:Addr) (g n t:Int),vs = [.ref p,.int n,.int t] ∧ ObjAt H p C [("part", .int g)] ∧ Q (.bl (barBars g n t)) H
theorem xoA (T:Txt K mg A):FnOk P w K mg base CX0 2 A.xpl A.xpz ["self", "number", "turn"] (xo7 A.c_Bar):=by
  have xmQ:=xlX (P:=P) (w:=w) (base:=base) T
  refine T.xpb.ok xoX (fun vs H Q E h=>?_) (fun cdv Ar outer s H vs Q E hr h=>?_)
  · obtain ⟨p,g,n,t,rfl,_⟩:=h
    rfl
  obtain ⟨p,g,n,t,rfl,⟨dx,hp⟩,q⟩:=h
  unfold barBars at q
  refine ⟨_,(@pss_one _ _ _ (@ps_ret _ _ _ _ (@pe_and _ _ _ _ _ _ _ (@pe_cmpR _ _ _ _ _ _ _ _ op_gt (@pe_fld _ _ _ _ _ (@pv _ 0 _ _ (by rfl) (Or.inl rfl) (by decide) (by decide)) (by rfl)) (@pe_int _ _ _ _) (nomark _)) (@pe_and _ _ _ _ _ _ _ (@pe_call _ _ _ _ _ _ _ _ _ _ _ _ _ _ _ _ xmQ (hr.mono (by decide)) rfl T.xom T.xn5 T.xkC .nil pass0 (@pa_consN _ _ _ _ _ (@pe_fld _ _ _ _ _ (@pv _ 0 _ _ (by rfl) (Or.inl rfl) (by decide) (by decide)) (by rfl)) (@pa_consN _ _ _ _ _ (@pv _ 1 _ _ (by rfl) (Or.inl rfl) (by decide) (by decide)) (@pa_nil _) (by rfl)) (by rfl)) (by decide) (by rfl) (by rfl)) (@pe_one _ _ _ _ _ (@pe_call _ _ _ _ _ _ _ _ _ _ _ _ _ _ _ _ xmQ (hr.mono (by decide)) rfl T.xom T.xn5 T.xkC .nil pass0 (@pa_consN _ _ _ _ _ (@pe_fld _ _ _ _ _ (@pv _ 0 _ _ (by rfl) (Or.inl rfl) (by decide) (by decide)) (by rfl)) (@pa_consN _ _ _ _ _ (@pv _ 2 _ _ (by rfl) (Or.inl rfl) (by decide) (by decide)) (@pa_nil _) (by rfl)) (by rfl)) (by decide) (by rfl) (by rfl))))))),?_⟩
  refine ⟨_,rfl,p,A.c_Bar,dx,_,_,rfl,hp,T.xtC,T.xop,rfl,_,_,rfl,rfl,_,rfl,?_⟩
  by_cases h1:1 < g
  case neg =>
    rw [decF h1] at q ⊢
    exact iteF q
  rw [decT h1] at q ⊢
  refine iteT ⟨_,rfl,p,A.c_Bar,dx,_,_,rfl,hp,T.xtC,T.xop,rfl,_,rfl,_,_,rfl,(by omega),_,rfl,?_⟩
  by_cases h2:n % g = 0
  case neg =>
    rw [decF h2] at q ⊢
    exact iteF q
  rw [decT h2] at q ⊢
  exact iteT ⟨_,rfl,p,A.c_Bar,dx,_,_,rfl,hp,T.xtC,T.xop,rfl,_,rfl,_,_,rfl,(by omega),q⟩
def backShows (r n t:Int):Bool:=decide (0 ≤ r) && (decide (r < t) && decide ((n * r - 1) % t = 0))
def xkc (C:Addr):Sp:=fun vs H Q _=>∃ (p:Addr) (r n t:Int),vs = [.ref p,.int n,.int t] ∧ ObjAt H p C [("rest", .int r)] ∧ (0 ≤ r → r < t → (0 < t ∧ CMul n r)) ∧ Q (.bl (backShows r n t)) H
theorem xjU (T:Txt K mg A):FnOk P w K mg base CX0 3 A.xkj A.xkZ ["self", "number", "turn"] (xkc A.xtx):=by
  have xrv:=xq3 (P:=P) (w:=w) (base:=base) T
  refine T.xkd.ok xj6 (fun vs H Q E h=>?_) (fun cdv Ar outer s H vs Q E hr h=>?_)
  · obtain ⟨p,g,n,t,rfl,_⟩:=h
    rfl
  obtain ⟨p,r,n,t,rfl,⟨dx,hp⟩,hm,q⟩:=h
  unfold backShows at q
  refine ⟨_,(@pss_one _ _ _ (@ps_ret _ _ _ _ (@pe_and _ _ _ _ _ _ _ (@pe_chain _ _ _ _ _ _ _ _ _ _ _ _ op_le op_lt (@pe_int _ _ _ _) (@pe_fld _ _ _ _ _ (@pv _ 0 _ _ (by rfl) (Or.inl rfl) (by decide) (by decide)) (by rfl)) (@pv _ 2 _ _ (by rfl) (Or.inl rfl) (by decide) (by decide)) (by with_unfolding_all rfl)) (@pe_one _ _ _ _ _ (@pe_call _ _ _ _ _ _ _ _ _ _ _ _ _ _ _ _ xrv (hr.mono (by decide)) rfl T.xsa T.xrS T.xqm .nil pass0 (@pa_consN _ _ _ _ _ (@pe_op _ _ _ _ _ _ _ _ op_mul (@pv _ 1 _ _ (by rfl) (Or.inl rfl) (by decide) (by decide)) (@pe_fld _ _ _ _ _ (@pv _ 0 _ _ (by rfl) (Or.inl rfl) (by decide) (by decide)) (by rfl))) (@pa_consN _ _ _ _ _ (@pe_int _ _ _ _) (@pa_consN _ _ _ _ _ (@pv _ 2 _ _ (by rfl) (Or.inl rfl) (by decide) (by decide)) (@pa_nil _) (by rfl)) (by rfl)) (by rfl)) (by decide) (by rfl) (by rfl)))))),?_⟩
  refine ⟨_,rfl,p,A.xtx,dx,_,_,rfl,hp,T.xsB,T.xlz,rfl,_,_,rfl,rfl,_,rfl,?_⟩
  by_cases h1:0 ≤ r
  case neg =>
    rw [decF h1] at q ⊢
    exact iteF ⟨_,rfl,iteF q⟩
  rw [decT h1] at q ⊢
  refine iteT ⟨_,rfl,_,_,rfl,rfl,_,rfl,?_⟩
  by_cases h2:r < t
  case neg =>
    rw [decF h2] at q ⊢
    exact iteF q
  rw [decT h2] at q ⊢
  obtain ⟨ht,hc⟩:=hm h1 h2
  exact iteT ⟨_,rfl,_,rfl,p,A.xtx,dx,_,_,rfl,hp,T.xsB,T.xlz,rfl,_,_,rfl,rfl,hc,_,rfl,_,_,_,rfl,ht,q⟩
def PrsAt (H:Hp) (a:Addr) (rs:List (Int × Int)):Prop:=∃ as:List Addr,H a = some (.lst (as.map V.ref)) ∧ Paired (fun b (p:Int × Int)=>H b = some (.tup [.int p.1,.int p.2])) as rs
theorem PrsAt.same {H H':Hp} {a:Addr} {rs:List (Int × Int)} (e:Same H H') (h:PrsAt H a rs):PrsAt H' a rs:=by
  obtain ⟨as,h1,h2⟩:=h
  exact ⟨as,e _ _ h1,Paired.mapP h2 fun b p q=>e _ _ q⟩
theorem PrsAt.pairs {H:Hp} {a:Addr} {rs:List (Int × Int)} (h:PrsAt H a rs):PairsAt K H a rs:=by
  obtain ⟨as,h1,h2⟩:=h
  exact ⟨as,SqL.of h1,Paired.mapP h2 fun b p q=>SqT.of q⟩
theorem prs_get {H:Hp} {as:List Addr} {rs:List (Int × Int)} (h:Paired (fun b (p:Int × Int)=>H b = some (.tup [.int p.1,.int p.2])) as rs) {i:Nat} {x:V} (hx:(as.map V.ref)[i]? = some x) :
    ∃ b p,x = .ref b ∧ as[i]? = some b ∧ rs[i]? = some p ∧ H b = some (.tup [.int p.1,.int p.2]):=by
  rw [List.getElem?_map] at hx
  cases e:as[i]? with
  | none=>rw [e] at hx; cases hx
  | some b =>
    rw [e] at hx
    have hi:i < rs.length:=by
      have:=h.length
      have:=(List.getElem?_eq_some_iff.mp e).1
      omega
    obtain ⟨b',eb,hq⟩:=Paired.get' h i _ (List.getElem?_eq_getElem hi)
    rw [e] at eb
    cases eb
    exact ⟨b,_,(Option.some.inj hx).symm,rfl,List.getElem?_eq_getElem hi,hq⟩
def xf5:Sp:=fun vs H Q _=>∃ (b:Addr) (p:Int × Int),vs = [.ref b] ∧ H b = some (.tup [.int p.1,.int p.2]) ∧ (0 ≤ p.1 ∧ p.1 < p.2 ∧ p.2 ≤ 1000000) ∧ Q (.bl true) H
theorem xfF (T:Txt K mg A):FnOk P w K mg base CX0 4 A.xgn A.xgX ["value"] xf5:=by
  have xqf:=xp2 (P:=P) (w:=w) (base:=base) T
  refine T.xgb.ok xfV (fun vs H Q E h=>?_) (fun cdv Ar outer s H vs Q E hr h=>?_)
  · obtain ⟨b,p,rfl,_⟩:=h
    rfl
  obtain ⟨b,p,rfl,hb,hp,q⟩:=h
  refine ⟨_,(@pss_one _ _ _ (@ps_ret _ _ _ _ (@pe_and _ _ _ _ _ _ _ (@pe_callB _ _ _ _ _ _ _ _ _ call_isinst rfl T.b_isinstance B.isinstance (@pa_consN _ _ _ _ _ (@pv _ 0 _ _ (by rfl) (Or.inl rfl) (by decide) (by decide)) (@pa_consN _ _ _ _ _ (@pe_bltn _ _ (.ty "tuple") _ _ rfl T.b_tuple B.tuple rfl (by decide) (by decide)) (@pa_nil _) (by rfl)) (by rfl)) (by decide) (by decide) (by rfl) (by rfl)) (@pe_and _ _ _ _ _ _ _ (@pe_cmpR _ _ _ _ _ _ _ _ op_eqI (@pe_callB _ _ _ _ _ _ _ _ _ call_len_seq rfl T.b_len B.len (@pa_consN _ _ _ _ _ (@pv _ 0 _ _ (by rfl) (Or.inl rfl) (by decide) (by decide)) (@pa_nil _) (by rfl)) (by decide) (by decide) (by rfl) (by rfl)) (@pe_int _ _ _ _) (nomark _)) (@pe_one _ _ _ _ _ (@pe_call _ _ _ _ _ _ _ _ _ _ _ _ _ _ _ _ xqf (hr.mono (by decide)) rfl T.xqS T.xqG T.xpr .nil pass0 (@pa_consN _ _ _ _ _ (@pe_ix _ _ _ _ _ _ _ ix_tup (@pv _ 0 _ _ (by rfl) (Or.inl rfl) (by decide) (by decide)) (@pe_int _ _ _ _) (fun _ _=>rfl)) (@pa_consN _ _ _ _ _ (@pe_ix _ _ _ _ _ _ _ ix_tup (@pv _ 0 _ _ (by rfl) (Or.inl rfl) (by decide) (by decide)) (@pe_int _ _ _ _) (fun _ _=>rfl)) (@pa_nil _) (by rfl)) (by rfl)) (by decide) (by rfl) (by rfl))))))),?_⟩
  refine ⟨_,rfl,_,_,_,_,_,rfl,TyOf.tup hb,rfl,T.is_tuple_tuple,_,rfl,iteT ?_⟩
  refine ⟨_,rfl,b,_,rfl,.inr (SqT.of hb),_,_,rfl,rfl,_,rfl,iteT ?_⟩
  exact ⟨_,rfl,b,_,_,_,rfl,rfl,SqT.of hb,rfl,_,rfl,b,_,_,_,rfl,rfl,SqT.of hb,rfl,p.1,p.2,rfl,⟨by omega,by omega⟩,hp.1,hp.2.1,q⟩
def RsOk (rs:List (Int × Int)):Prop:=∀ p ∈ rs,0 ≤ p.1 ∧ p.1 < p.2 ∧ p.2 ≤ 1000000
def xmw:Sp:=fun vs H Q _=>∃ (a:Addr) (rs:List (Int × Int)),vs = [.ref a] ∧ PrsAt H a rs ∧ RsOk rs ∧ rs.length ≤ 1000 ∧ ∀ H',Same H H' → Q (.bl true) H'
theorem xlV (T:Txt K mg A):FnOk P w K mg base CX0 5 A.xmX A.xnz ["value"] xmw:=by
  have xgh:=xfF (P:=P) (w:=w) (base:=base) T
  refine T.xmF.ok xmi (fun vs H Q E h=>?_) (fun cdv Ar outer s H vs Q E hr h=>?_)
  · obtain ⟨a,rs,rfl,_⟩:=h
    rfl
  obtain ⟨a,rs,rfl,⟨as,ha,hP⟩,hO,hlen,q⟩:=h
  have hal:=hP.length
  refine ⟨_,(@pss_one _ _ _ (@ps_ret _ _ _ _ (@pe_and _ _ _ _ _ _ _ (@pe_callB _ _ _ _ _ _ _ _ _ call_isinst rfl T.b_isinstance B.isinstance (@pa_consN _ _ _ _ _ (@pv _ 0 _ _ (by rfl) (Or.inl rfl) (by decide) (by decide)) (@pa_consN _ _ _ _ _ (@pe_bltn _ _ (.ty "list") _ _ rfl T.b_list B.list rfl (by decide) (by decide)) (@pa_nil _) (by rfl)) (by rfl)) (by decide) (by decide) (by rfl) (by rfl)) (@pe_one _ _ _ _ _ (@pe_callB _ _ _ _ _ _ _ _ _ (call_all rfl) rfl T.b_all B.all (@pa_consN _ _ _ _ _ (@pe_comp0 _ _ (["pair"]) ([none]) _ _ _ _ _ _ _ _ xfU rfl (@pi_list _ _ _ _ (@pv _ 0 _ _ (by rfl) (Or.inl rfl) (by decide) (by decide))) (fun z=>(@pg_name _ _ (0) _ xfU.nd rfl (Or.inl rfl) (by exact .inr rfl))) (sets_name 0) (by decide) (fun z=>(@pe_call _ _ _ _ _ _ _ _ _ _ _ _ _ _ _ _ xgh (hr.mono (by decide)) rfl T.xhC T.xht T.xeO .nil pass0 (@pa_consN _ _ _ _ _ (@pv _ 0 _ _ (by rfl) (by exact .inl rfl) (by decide) (by decide)) (@pa_nil _) (by rfl)) (by decide) (by rfl) (by rfl))) (by intro _; rfl)) (@pa_nil _) (by rfl)) (by decide) (by decide) (by rfl) (by rfl)))))),?_⟩
  refine ⟨_,rfl,_,_,_,_,_,rfl,TyOf.lst ha,rfl,T.is_list_list,_,rfl,iteT ?_⟩
  refine ⟨_,rfl,a,rfl,⟨_,SqL.of ha⟩,comp_list (K:=K) (a:=a) (xs:=as.map V.ref) (fun i ys H'=>Same H H' ∧ ys = ((rs.take i).map fun _=>true).map V.bl) ⟨Same.refl _,rfl⟩ (by rw [List.length_map]; exact small100 (by omega)) ?_ ?_ ?_⟩
  · rintro i ys H' hi ⟨hs,rfl⟩
    rw [List.length_map] at hi
    exact ⟨SqL.of (hs _ _ ha),by rw [List.length_map,List.length_map,List.length_take]; omega⟩
  · rintro i x ys H' hx ⟨hs,rfl⟩
    obtain ⟨b,p,rfl,_,hp,hb⟩:=prs_get hP hx
    refine ⟨_,rfl,b,p,rfl,hs _ _ hb,hO p (List.mem_of_getElem? hp),hs,?_⟩
    rw [take_snoc hp,List.map_append,List.map_append]
    rfl
  · rintro ys H' ⟨hs,rfl⟩ l hl
    refine ⟨l,(rs.map fun _=>true),rfl,SqL.of (by rw [upd_same,List.length_map,hal,List.take_length]),?_⟩
    have e:(rs.map fun _=>true).all id = true:=by simp
    rw [e]
    exact q _ (hs.trans (same_new hl _))
end
end W06
set_option Elab.async false
set_option linter.all false
set_option maxRecDepth 100000
namespace W06
open PySem L2
section
variable {P:Program} {w:World} {K:PySem.W.Frag} {mg:Str → Option Value} {base:Heap} {A:Adr}
def NsOk (ns:List Int):Prop:=∀ n ∈ ns,-1000000 ≤ n ∧ n ≤ 1000000
def LstAt (H:Hp) (a:Addr) (ns:List Int):Prop:=H a = some (.lst (ns.map V.int))
theorem LstAt.ints {H:Hp} {a:Addr} {ns:List Int} (h:LstAt H a ns):IntsAt K H a ns:=SqL.of h
theorem Same.lst {H H':Hp} {a:Addr} {ns:List Int} (e:Same H H') (h:LstAt H a ns):LstAt H' a ns:=e _ _ h
def xiv:Sp:=fun vs H Q _=>∃ (a:Addr) (ns:List Int),vs = [.ref a] ∧ LstAt H a ns ∧ NsOk ns ∧ ns.length ≤ 1000 ∧ ∀ H',Same H H' → Q (.bl true) H'
theorem xhZ (T:Txt K mg A):FnOk P w K mg base CX0 3 A.xiN A.xjb ["value"] xiv:=by
  have xmR:=xlY (P:=P) (w:=w) (base:=base) T
  refine T.xiB.ok xij (fun vs H Q E h=>?_) (fun cdv Ar outer s H vs Q E hr h=>?_)
  · obtain ⟨a,ns,rfl,_⟩:=h
    rfl
  obtain ⟨a,ns,rfl,ha,hO,hlen,q⟩:=h
  refine ⟨_,(@pss_one _ _ _ (@ps_ret _ _ _ _ (@pe_and _ _ _ _ _ _ _ (@pe_callB _ _ _ _ _ _ _ _ _ call_isinst rfl T.b_isinstance B.isinstance (@pa_consN _ _ _ _ _ (@pv _ 0 _ _ (by rfl) (Or.inl rfl) (by decide) (by decide)) (@pa_consN _ _ _ _ _ (@pe_bltn _ _ (.ty "list") _ _ rfl T.b_list B.list rfl (by decide) (by decide)) (@pa_nil _) (by rfl)) (by rfl)) (by decide) (by decide) (by rfl) (by rfl)) (@pe_one _ _ _ _ _ (@pe_callB _ _ _ _ _ _ _ _ _ (call_all rfl) rfl T.b_all B.all (@pa_consN _ _ _ _ _ (@pe_comp0 _ _ (["number"]) ([none]) _ _ _ _ _ _ _ _ xdU rfl (@pi_list _ _ _ _ (@pv _ 0 _ _ (by rfl) (Or.inl rfl) (by decide) (by decide))) (fun z=>(@pg_name _ _ (0) _ xdU.nd rfl (Or.inl rfl) (by exact .inr rfl))) (sets_name 0) (by decide) (fun z=>(@pe_call _ _ _ _ _ _ _ _ _ _ _ _ _ _ _ _ xmR (hr.mono (by decide)) rfl T.xon T.xn6 T.xkD .nil pass0 (@pa_consN _ _ _ _ _ (@pv _ 0 _ _ (by rfl) (by exact .inl rfl) (by decide) (by decide)) (@pa_nil _) (by rfl)) (by decide) (by rfl) (by rfl))) (by intro _; rfl)) (@pa_nil _) (by rfl)) (by decide) (by decide) (by rfl) (by rfl)))))),?_⟩
  refine ⟨_,rfl,_,_,_,_,_,rfl,TyOf.lst ha,rfl,T.is_list_list,_,rfl,iteT ?_⟩
  refine ⟨_,rfl,a,rfl,⟨_,ha.ints⟩,comp_list (K:=K) (a:=a) (xs:=ns.map V.int) (fun i ys H'=>Same H H' ∧ ys = ((ns.take i).map fun _=>true).map V.bl) ⟨Same.refl _,rfl⟩ (by rw [List.length_map]; exact small100 hlen) ?_ ?_ ?_⟩
  · rintro i ys H' hi ⟨hs,rfl⟩
    rw [List.length_map] at hi
    exact ⟨LstAt.ints (hs _ _ ha),by rw [List.length_map,List.length_map,List.length_take]; omega⟩
  · rintro i x ys H' hx ⟨hs,rfl⟩
    obtain ⟨n,hn,rfl⟩:=ints_get hx
    have hb:=hO n (List.mem_of_getElem? hn)
    refine ⟨_,rfl,n,rfl,hb.1,hb.2,hs,?_⟩
    rw [take_snoc hn,List.map_append,List.map_append]
    rfl
  · rintro ys H' ⟨hs,rfl⟩ l hl
    refine ⟨l,(ns.map fun _=>true),rfl,SqL.of (by rw [upd_same,List.length_map,List.take_length]),?_⟩
    have e:(ns.map fun _=>true).all id = true:=by simp
    rw [e]
    exact q _ (hs.trans (same_new hl _))
abbrev Stp:=Int × Int × Int
def Chain:Int → List Int → List Stp → Prop
  | _,[],[]=>True
  | p,n :: ns,s :: ss=>Wr.Pwt p n s.1 s.2.1 s.2.2 ∧ Chain s.1 ns ss
  | _,_,_=>False
def lastP (p:Int):List Stp → Int
  | []=>p
  | s :: ss=>lastP s.1 ss
def dueOf:List Stp → Int
  | []=>1
  | s :: ss=>dueOf ss * s.2.1
def tsOf:List Stp → List Int
  | []=>[]
  | s :: ss=>dueOf ss * s.2.2 :: tsOf ss
theorem chain_snoc:∀ {ns:List Int} {ss:List Stp} {p n:Int} {s:Stp},Chain p ns ss → Wr.Pwt (lastP p ss) n s.1 s.2.1 s.2.2 → Chain p (ns ++ [n]) (ss ++ [s])
  | [],[],_,_,_,_,h=>⟨h,trivial⟩
  | _ :: _,_ :: _,_,_,_,h1,h=>⟨h1.1,chain_snoc h1.2 h⟩
  | [],_ :: _,_,_,_,h1,_=>h1.elim
  | _ :: _,[],_,_,_,h1,_=>h1.elim
theorem chain_len:∀ {ns:List Int} {ss:List Stp} {p:Int},Chain p ns ss → ss.length = ns.length
  | [],[],_,_=>rfl
  | _ :: _,_ :: _,_,h=>by rw [List.length_cons,List.length_cons,chain_len h.2]
  | [],_ :: _,_,h=>h.elim
  | _ :: _,[],_,h=>h.elim
theorem tsOf_len:∀ ss:List Stp,(tsOf ss).length = ss.length
  | []=>rfl
  | _ :: ss=>by show (tsOf ss).length + 1 = _; rw [tsOf_len ss]; rfl
theorem dot_cons (n t:Int) (ns ts:List Int):dot (n :: ns) (t :: ts) = n * t + dot ns ts:=rfl
theorem chain_sum:∀ {ns:List Int} {ss:List Stp} {p:Int},Chain p ns ss → p * dueOf ss + dot ns (tsOf ss) = lastP p ss
  | [],[],p,_=>by show p * 1 + 0 = p; omega
  | n :: ns,s :: ss,p,h=>by
    have ih:=chain_sum h.2
    have e:=h.1.s
    show p * (dueOf ss * s.2.1) + dot (n :: ns) (dueOf ss * s.2.2 :: tsOf ss) = lastP s.1 ss
    rw [dot_cons,← ih,← e,Int.add_mul]
    have e1:p * (dueOf ss * s.2.1) = p * s.2.1 * dueOf ss:=by ac_rfl
    have e2:n * (dueOf ss * s.2.2) = n * s.2.2 * dueOf ss:=by ac_rfl
    omega
  | [],_ :: _,_,h=>h.elim
  | _ :: _,[],_,h=>h.elim
theorem chain_gcd:∀ {ns:List Int} {ss:List Stp} {g:Nat},Chain (g:Int) ns ss → lastP (g:Int) ss = ((ns.foldl (fun g n=>Nat.gcd g n.natAbs) g:Nat):Int)
  | [],[],_,_=>rfl
  | n :: ns,s :: ss,g,h=>by
    have e:=h.1.g_
    have h2:=h.2
    show lastP s.1 ss = _
    have e':s.1 = ((Nat.gcd g n.natAbs:Nat):Int):=by rw [e]; simp [Int.gcd]
    rw [e'] at h2 ⊢
    exact chain_gcd h2
  | [],_ :: _,_,h=>h.elim
  | _ :: _,[],_,h=>h.elim
def SsOk (ss:List Stp):Prop:=∀ s ∈ ss,(-1000000 ≤ s.2.1 ∧ s.2.1 ≤ 1000000) ∧ (-1000001000000 ≤ s.2.2 ∧ s.2.2 ≤ 1000001000000)
theorem gcdL_le:∀ {ns:List Int} {g:Nat},g ≤ 1000000 → NsOk ns → ns.foldl (fun g n=>Nat.gcd g n.natAbs) g ≤ 1000000
  | [],_,hg,_=>hg
  | n :: ns,g,hg,h=>by
    refine gcdL_le (g:=Nat.gcd g n.natAbs) ?_ (fun m hm=>h m (List.mem_cons_of_mem _ hm))
    have hn:=h n List.mem_cons_self
    by_cases hz:g = 0
    · subst hz
      rw [Nat.gcd_zero_left]; omega
    · exact Nat.le_trans (Nat.le_of_dvd (by omega) (Nat.gcd_dvd_left _ _)) hg
def StepsAt (K:PySem.W.Frag) (H:Hp) (a:Addr) (ss:List Stp):Prop:=∃ as:List Addr,SqL K H a (as.map V.ref) ∧ Paired (fun b (s:Stp)=>SqT K H b [.int s.1,.int s.2.1,.int s.2.2]) as ss
theorem steps_get {H:Hp} {as:List Addr} {ss:List Stp} (h:Paired (fun b (s:Stp)=>SqT K H b [.int s.1,.int s.2.1,.int s.2.2]) as ss) {i:Nat} {x:V} (hx:(as.map V.ref)[i]? = some x) :
    ∃ b s,x = .ref b ∧ as[i]? = some b ∧ ss[i]? = some s ∧ SqT K H b [.int s.1,.int s.2.1,.int s.2.2]:=by
  rw [List.getElem?_map] at hx
  cases e:as[i]? with
  | none=>rw [e] at hx; cases hx
  | some b =>
    rw [e] at hx
    have hi:i < ss.length:=by
      have:=h.length
      have:=(List.getElem?_eq_some_iff.mp e).1
      omega
    obtain ⟨b',eb,hq⟩:=Paired.get' h i _ (List.getElem?_eq_getElem hi)
    rw [e] at eb
    cases eb
    exact ⟨b,_,(Option.some.inj hx).symm,rfl,List.getElem?_eq_getElem hi,hq⟩
def xpa (K:PySem.W.Frag):Sp:=fun vs H Q _=>∃ (a:Addr) (ss:List Stp),vs = [.ref a] ∧ StepsAt K H a ss ∧ SsOk ss ∧ ss.length ≤ 1000 ∧ ∀ l H',H l = none → Same H H' → LstAt H' l (tsOf ss) → Q (.ref l) H'
theorem drop_one {α:Type} {xs:List α} {i:Nat} {x:α} (h:xs.reverse[i]? = some x):i < xs.length ∧ xs.drop (xs.length - (i + 1)) = x :: xs.drop (xs.length - i) ∧ x ∈ xs:=by
  have hi:i < xs.length:=by
    have:=(List.getElem?_eq_some_iff.mp h).1
    rwa [List.length_reverse] at this
  rw [List.getElem?_reverse hi] at h
  have hlt:xs.length - (i + 1) < xs.length:=by omega
  refine ⟨hi,?_,List.mem_of_getElem? h⟩
  rw [List.drop_eq_getElem_cons hlt]
  have e:xs.length - 1 - i = xs.length - (i + 1):=by omega
  rw [e,List.getElem?_eq_getElem hlt] at h
  rw [Option.some.inj h,show xs.length - (i + 1) + 1 = xs.length - i by omega]
set_option maxHeartbeats 1000000 in
theorem xoI (T:Txt K mg A):FnOk P w K mg base CX0 1 A.xpp A.xpD ["steps"] (xpa K):=by
  refine T.xpf.ok xo1 (fun vs H Q E h=>?_) (fun cdv Ar outer s H vs Q E hr h=>?_)
  · obtain ⟨a,ss,rfl,_⟩:=h
    rfl
  obtain ⟨a,ss,rfl,⟨as,hS,hP⟩,hO,hlen,q⟩:=h
  have hal:=hP.length
  refine ⟨_,(@pss_cons _ _ _ _ _ (@ps_set _ _ (1) _ _ _ _ xo1.nd rfl (Or.inl rfl) (@pe_lst _ _ _ _ (@pa_nil _)) (by rfl) (Or.inl rfl)) (@pss_cons _ _ _ _ _ (@ps_set _ _ (2) _ _ _ _ xo1.nd rfl (Or.inl rfl) (@pe_int _ _ _ _) (by rfl) (Or.inl rfl)) (@pss_cons _ _ _ _ _ (@ps_for _ _ _ _ _ _ _ _ PassesOwn.never rfl (@pi_rev _ _ _ _ _ _ rfl T.b_reversed B.reversed (@pa_consN _ _ _ _ _ (@pv _ 0 _ _ (by rfl) (Or.inl rfl) (by decide) (by decide)) (@pa_nil _) (by rfl)) (by rfl)) (@pg_name _ _ (3) _ xo1.nd rfl (Or.inl rfl) (Or.inl rfl)) (@pss_cons _ _ _ _ _ (@ps_expr _ _ _ _ (@pe_bm _ _ _ _ _ _ _ _ _ _ _ _ PySem.F.plainAttrs_list PySem.F.slot_list_append PySem.F.type_list_append mt_append (@pv _ 1 _ _ (by rfl) (Or.inl rfl) (by decide) (by decide)) (@pa_consN _ _ _ _ _ (@pe_op _ _ _ _ _ _ _ _ op_mul (@pv _ 2 _ _ (by rfl) (Or.inl rfl) (by decide) (by decide)) (@pe_ix _ _ _ _ _ _ _ ix_tup (@pv _ 3 _ _ (by rfl) (Or.inl rfl) (by decide) (by decide)) (@pe_int _ _ _ _) (fun _ _=>rfl))) (@pa_nil _) (by rfl)) (by rfl) (by rfl) (by rfl) (by rfl) (by rfl)) (by rfl)) (@pss_one _ _ _ (@ps_set _ _ (2) _ _ _ _ xo1.nd rfl (Or.inl rfl) (@pe_op _ _ _ _ _ _ _ _ op_mul (@pv _ 2 _ _ (by rfl) (Or.inl rfl) (by decide) (by decide)) (@pe_ix _ _ _ _ _ _ _ ix_tup (@pv _ 3 _ _ (by rfl) (Or.inl rfl) (by decide) (by decide)) (@pe_int _ _ _ _) (fun _ _=>rfl))) (by rfl) (Or.inl rfl)))) (by intro _; rfl)) (@pss_one _ _ _ (@ps_ret _ _ _ _ (@pe_listRev _ _ _ _ _ _ _ rfl rfl T.b_reversed B.reversed rfl T.b_list B.list (@pa_consN _ _ _ _ _ (@pv _ 1 _ _ (by rfl) (Or.inl rfl) (by decide) (by decide)) (@pa_nil _) (by rfl)) (by rfl))))))),?_⟩
  refine ⟨(by show 0 ≤ sizeLine; decide),fun l hl=>?_⟩
  have s1:=same_new hl (.lst [])
  refine ⟨_,rfl,a,_,rfl,s1.seq hS,?_⟩
  refine for_rev (K:=K) (a:=a) (xs:=as.map V.ref) (fun i σ H'=>∃ f,σ = [some (.ref a),some (.ref l),some (.int (dueOf (ss.drop (ss.length - i)))),f] ∧ Same H H' ∧ LstAt H' l (tsOf (ss.drop (ss.length - i))).reverse) ⟨none,?_,s1,?_⟩ (fun i σ H' _ ⟨_,_,e,_⟩=>e.seq hS) ?_ ?_
  · rw [Nat.sub_zero,List.drop_length]; rfl
  · rw [Nat.sub_zero,List.drop_length]; exact upd_same
  · rintro i x σ H' hx ⟨f,rfl,sH,hL⟩
    have hi:i < ss.length:=by
      have:=(List.getElem?_eq_some_iff.mp hx).1
      rw [List.length_reverse,List.length_map] at this
      omega
    have hx2:(as.map V.ref)[ss.length - 1 - i]? = some x:=by
      rw [List.getElem?_reverse (by rw [List.length_map]; omega),List.length_map,hal] at hx
      exact hx
    obtain ⟨b,st,rfl,hb,hst,hq⟩:=steps_get hP hx2
    have hst2:ss.reverse[i]? = some st:=by rw [List.getElem?_reverse hi]; exact hst
    obtain ⟨_,ed,hmem⟩:=drop_one hst2
    have ho:=hO st hmem
    have hlt:((tsOf (ss.drop (ss.length - i))).reverse.map V.int).length < sizeLine:=by
      rw [List.length_map,List.length_reverse,tsOf_len,List.length_drop]
      exact small1000 (by omega)
    refine ⟨_,rfl,.inl ⟨rfl,_,SqL.of hL⟩,_,rfl,_,rfl,b,_,_,_,rfl,rfl,sH.tup hq,rfl,_,_,rfl,rfl,.inr ⟨by omega,by omega⟩,l,_,_,rfl,rfl,hL,hlt,?_⟩
    have hnl:∀ o,Same H (upd H' l o):=fun o b' o' e=>by rw [upd_ne (ne_of_none e hl)]; exact sH b' o' e
    refine ⟨_,rfl,_,rfl,b,_,_,_,rfl,rfl,(hnl _).tup hq,rfl,_,_,rfl,rfl,.inr ⟨by omega,by omega⟩,some (.ref b),?_,hnl _,?_⟩
    · rw [ed]; rfl
    · rw [ed]
      show upd H' l _ l = _
      rw [upd_same]
      show some (HO.lst (List.map V.int (tsOf (ss.drop (ss.length - i))).reverse ++ [V.int (dueOf (ss.drop (ss.length - i)) * st.2.2)])) = some (HO.lst (List.map V.int (dueOf (ss.drop (ss.length - i)) * st.2.2 :: tsOf (ss.drop (ss.length - i))).reverse))
      rw [List.reverse_cons,List.map_append]
      rfl
  · rintro σ H' ⟨f,rfl,sH,hL⟩
    rw [List.length_map,hal,Nat.sub_self,List.drop_zero] at hL
    refine ⟨_,rfl,l,_,rfl,SqL.of hL,fun l2 hl2=>?_⟩
    refine q l2 _ (sH.free hl2) (sH.trans (same_new hl2 _)) ?_
    show upd H' l2 _ l2 = _
    rw [upd_same,← List.map_reverse,List.reverse_reverse]
theorem gcdL_dvd:∀ (ns:List Int) (g:Nat),((ns.foldl (fun g n=>Nat.gcd g n.natAbs) g:Nat)) ∣ g ∧ ∀ n ∈ ns,((ns.foldl (fun g n=>Nat.gcd g n.natAbs) g:Nat):Int) ∣ n
  | [],g=>⟨Nat.dvd_refl _,fun _ h=>nomatch h⟩
  | m :: ns,g=>by
    obtain ⟨h1,h2⟩:=gcdL_dvd ns (Nat.gcd g m.natAbs)
    refine ⟨Nat.dvd_trans h1 (Nat.gcd_dvd_left _ _),fun n hn=>?_⟩
    rcases List.mem_cons.mp hn with e | hn
    · rw [e]
      exact Int.ofNat_dvd_left.mpr (Nat.dvd_trans h1 (Nat.gcd_dvd_right _ _))
    · exact h2 n hn
theorem gcdL_great:∀ (ns:List Int) (g k:Nat),k ∣ g → (∀ n ∈ ns,(k:Int) ∣ n) → k ∣ ns.foldl (fun g n=>Nat.gcd g n.natAbs) g
  | [],_,_,h,_=>h
  | m :: ns,g,k,h,hn=>gcdL_great ns _ k (Nat.dvd_gcd h (Int.ofNat_dvd_left.mp (hn m List.mem_cons_self))) fun n hm=>hn n (List.mem_cons_of_mem _ hm)
theorem dot_dvd {k:Int}:∀ (ns ts:List Int),(∀ n ∈ ns,k ∣ n) → k ∣ dot ns ts
  | [],_,_=>by show k ∣ 0; exact Int.dvd_zero _
  | _ :: _,[],_=>by show k ∣ 0; exact Int.dvd_zero _
  | n :: ns,t :: ts,h=>by
    rw [dot_cons]
    exact Int.dvd_add (Int.dvd_mul_of_dvd_left (h n List.mem_cons_self)) (dot_dvd ns ts fun m hm=>h m (List.mem_cons_of_mem _ hm))
end
end W06
set_option Elab.async false
set_option linter.all false
set_option maxRecDepth 100000
namespace W06
open PySem L2
section
variable {P:Program} {w:World} {K:PySem.W.Frag} {mg:Str → Option Value} {base:Heap} {A:Adr}
def numShows (n t:Int) (rs:List (Int × Int)):Bool:=decide (0 ≤ n) && decide (n < t) && rs.all (fun p=>decide ((n - p.1) % p.2 = 0)) && decide (t = lcmL (rs.map (·.2)))
def xf3 (K:PySem.W.Frag) (C:Addr):Sp:=fun vs H Q _=>∃ (p a:Addr) (n t:Int) (rs:List (Int × Int)),vs = [.ref p,.ref a] ∧ ObjAt H p C [("number", .int n),("turn", .int t)] ∧ PairsAt K H a rs ∧ RsOk rs ∧ rs.length ≤ 1000 ∧ ∀ H',Same H H' → Q (.bl (numShows n t rs)) H'
theorem xfD (T:Txt K mg A):FnOk P w K mg base CX0 3 A.xgk A.xgU ["self", "rests"] (xf3 K A.xrA):=by
  have xrv:=xq3 (P:=P) (w:=w) (base:=base) T
  have xiJ:=xh1 (P:=P) (w:=w) (base:=base) T
  refine T.xf8.ok xfQ (fun vs H Q E h=>?_) (fun cdv Ar outer s H vs Q E hr h=>?_)
  · obtain ⟨p,a,n,t,rs,rfl,_⟩:=h
    rfl
  obtain ⟨p,a,n,t,rs,rfl,⟨dx,hp⟩,hR,hO,hL,q⟩:=h
  refine ⟨_,(@pss_cons _ _ _ _ _ (@ps_if _ _ _ _ _ _ _ _ (@pt_not _ _ _ _ (@pt_chain _ _ _ _ _ _ _ _ _ _ _ _ op_le op_lt (@pe_int _ _ _ _) (@pe_fld _ _ _ _ _ (@pv _ 0 _ _ (by rfl) (Or.inr (Or.inl rfl)) (by decide) (by decide)) (by rfl)) (@pe_fld _ _ _ _ _ (@pv _ 0 _ _ (by rfl) (Or.inr (Or.inl rfl)) (by decide) (by decide)) (by rfl)) (by with_unfolding_all rfl))) (@pss_one _ _ _ (@ps_ret _ _ _ _ (@pe_bl _ _ _ _))) (@pss_nil _)) (@pss_cons _ _ _ _ _ (@ps_if _ _ _ _ _ _ _ _ (@pt_not _ _ _ _ (@pt_val _ _ _ (@pe_callB _ _ _ _ _ _ _ _ _ (call_all rfl) rfl T.b_all B.all (@pa_consN _ _ _ _ _ (@pe_comp0 _ _ (["self", "rest", "turn"]) ([some 0,none,none]) _ _ _ _ _ _ _ _ xcV rfl (@pi_list _ _ _ _ (@pv _ 1 _ _ (by rfl) (Or.inl rfl) (by decide) (by decide))) (fun z=>(@pg_tup _ _ _ _ _ (2) rfl (@pgs_cons _ _ _ _ _ (@pg_name _ _ (1) _ xcV.nd rfl (Or.inl rfl) (by exact .inr rfl)) (@pgs_cons _ _ _ _ _ (@pg_name _ _ (2) _ xcV.nd rfl (Or.inl rfl) (by exact .inr rfl)) (@pgs_nil _) (by rfl)) (by rfl)) (by rfl) (by rfl))) (sets_two _ _ 1 2) (by decide) (fun z=>(@pe_call _ _ _ _ _ _ _ _ _ _ _ _ _ _ _ _ xrv (hr.mono (by decide)) rfl T.xsa T.xrS T.xqm .nil pass0 (@pa_consN _ _ _ _ _ (@pe_fldK _ (K) _ _ _ _ (@pv _ 0 _ _ (by rfl) (by exact .inr (.inl rfl)) (by decide) (by decide)) (by rfl) (by rfl)) (@pa_consN _ _ _ _ _ (@pv _ 1 _ _ (by rfl) (by exact .inl rfl) (by decide) (by decide)) (@pa_consN _ _ _ _ _ (@pv _ 2 _ _ (by rfl) (by exact .inl rfl) (by decide) (by decide)) (@pa_nil _) (by rfl)) (by rfl)) (by rfl)) (by decide) (by rfl) (by rfl))) (by intro _; rfl)) (@pa_nil _) (by rfl)) (by decide) (by decide) (by rfl) (by rfl)) (by intro _; rfl))) (@pss_one _ _ _ (@ps_ret _ _ _ _ (@pe_bl _ _ _ _))) (@pss_nil _)) (@pss_one _ _ _ (@ps_ret _ _ _ _ (@pe_cmpR _ _ _ _ _ _ _ _ op_eqI (@pe_fld _ _ _ _ _ (@pv _ 0 _ _ (by rfl) (Or.inr (Or.inl rfl)) (by decide) (by decide)) (by rfl)) (@pe_call _ _ _ _ _ _ _ _ _ _ _ _ _ _ _ _ xiJ (hr.mono (by decide)) rfl T.xjL T.xjB T.xgy .nil pass0 (@pa_consN _ _ _ _ _ (@pe_comp0 _ _ (["rest", "turn"]) ([none,none]) _ _ _ _ _ _ _ _ xcW rfl (@pi_list _ _ _ _ (@pv _ 1 _ _ (by rfl) (Or.inl rfl) (by decide) (by decide))) (fun z=>(@pg_tup _ _ _ _ _ (2) rfl (@pgs_cons _ _ _ _ _ (@pg_name _ _ (0) _ xcW.nd rfl (Or.inl rfl) (by exact .inr rfl)) (@pgs_cons _ _ _ _ _ (@pg_name _ _ (1) _ xcW.nd rfl (Or.inl rfl) (by exact .inr rfl)) (@pgs_nil _) (by rfl)) (by rfl)) (by rfl) (by rfl))) (sets_two _ _ 0 1) (by decide) (fun z=>(@pv _ 1 _ _ (by rfl) (by exact .inl rfl) (by decide) (by decide))) (by intro _; rfl)) (@pa_nil _) (by rfl)) (by decide) (by rfl) (by rfl)) (nomark _)))))),?_⟩
  refine ⟨_,rfl,p,A.xrA,dx,_,_,rfl,hp,T.xqs,T.xep,rfl,_,_,rfl,rfl,_,rfl,?_⟩
  by_cases h1:0 ≤ n
  case neg =>
    rw [decF h1]
    refine iteF ⟨_,rfl,iteT ?_⟩
    have e:numShows n t rs = false:=by unfold numShows; rw [decF h1]; rfl
    have z:=q H (Same.refl H)
    rw [e] at z
    exact z
  rw [decT h1]
  refine iteT ⟨_,rfl,p,A.xrA,dx,_,_,rfl,hp,T.xqs,T.xhH,rfl,_,_,rfl,rfl,_,rfl,?_⟩
  by_cases h2:n < t
  case neg =>
    rw [decF h2]
    refine iteT ?_
    have e:numShows n t rs = false:=by unfold numShows; rw [decF h2]; simp
    have z:=q H (Same.refl H)
    rw [e] at z
    exact z
  rw [decT h2]
  refine iteF ?_
  obtain ⟨as,hS,hPd⟩:=id hR
  have hlen:=hPd.length
  refine ⟨_,rfl,a,rfl,⟨_,hS⟩,comp_list (K:=K) (a:=a) (xs:=as.map V.ref) (fun i ys H'=>H' = H ∧ ys = ((rs.take i).map fun p=>decide ((n - p.1) % p.2 = 0)).map V.bl) ⟨rfl,rfl⟩ (by rw [List.length_map]; exact small100 (by omega)) ?_ ?_ ?_⟩
  · rintro i ys H' hi ⟨rfl,rfl⟩
    rw [List.length_map] at hi
    exact ⟨hS,by rw [List.length_map,List.length_map,List.length_take]; omega⟩
  · rintro i x ys H' hx ⟨rfl,rfl⟩
    obtain ⟨b,r,rfl,hb,hr',hq⟩:=pairs_get hPd hx
    have ho:=hO r (List.mem_of_getElem? hr')
    refine ⟨b,_,rfl,hq,rfl,_,_,rfl,_,_,rfl,rfl,_,rfl,p,A.xrA,dx,_,_,rfl,hp,T.xqs,T.xep,rfl,_,rfl,_,rfl,_,_,_,rfl,(by omega),rfl,?_⟩
    rw [take_snoc hr',List.map_append,List.map_append]
    rfl
  · rintro ys H' ⟨rfl,rfl⟩ l hl
    refine ⟨l,(rs.map fun p=>decide ((n - p.1) % p.2 = 0)),rfl,SqL.of (by rw [upd_same,List.length_map,hlen,List.take_length]),_,rfl,?_⟩
    have s1:Same H' (upd H' l (.lst ((((rs.take (as.map V.ref).length).map fun p=>decide ((n - p.1) % p.2 = 0))).map V.bl))):=same_new hl _
    by_cases h3:(rs.map fun p=>decide ((n - p.1) % p.2 = 0)).all id = true
    case neg =>
      have h3':(rs.map fun p=>decide ((n - p.1) % p.2 = 0)).all id = false:=Bool.eq_false_iff.mpr h3
      rw [h3']
      refine iteT ?_
      have e:numShows n t rs = false:=by
        unfold numShows
        rw [List.all_map] at h3'
        rw [show (rs.all fun p=>decide ((n - p.1) % p.2 = 0)) = false from h3']
        simp
      have z:=q _ s1
      rw [e] at z
      exact z
    rw [h3]
    refine iteF ?_
    refine ⟨_,rfl,p,A.xrA,dx,_,_,rfl,s1 _ _ hp,T.xqs,T.xhH,rfl,_,rfl,a,rfl,⟨_,s1.seq hS⟩,comp_list (K:=K) (a:=a) (xs:=as.map V.ref) (fun i ys H2=>Same H' H2 ∧ ys = ((rs.take i).map (·.2)).map V.int) ⟨s1,rfl⟩ (by rw [List.length_map]; exact small100 (by omega)) ?_ ?_ ?_⟩
    · rintro i ys H2 hi ⟨s2,rfl⟩
      rw [List.length_map] at hi
      exact ⟨s2.seq hS,by rw [List.length_map,List.length_map,List.length_take]; omega⟩
    · rintro i x ys H2 hx ⟨s2,rfl⟩
      obtain ⟨b,r,rfl,hb,hr',hq⟩:=pairs_get hPd hx
      refine ⟨b,_,rfl,s2.tup hq,rfl,_,_,rfl,_,_,rfl,rfl,_,rfl,s2,?_⟩
      rw [take_snoc hr',List.map_append,List.map_append]
      rfl
    · rintro ys H2 ⟨s2,rfl⟩ l2 hl2
      have s3:=s2.trans (same_new hl2 (.lst (((rs.take (as.map V.ref).length).map (·.2)).map V.int)))
      refine ⟨l2,rs.map (·.2),rfl,SqL.of (by rw [upd_same,List.length_map,hlen,List.take_length]),fun x hx=>?_,_,_,rfl,rfl,?_⟩
      · obtain ⟨r,hr',rfl⟩:=List.mem_map.mp hx
        have:=hO r hr'
        omega
      · have z:=q _ s3
        have e:numShows n t rs = decide (t = lcmL (rs.map (·.2))):=by
          unfold numShows
          rw [List.all_map] at h3
          rw [decT h1,decT h2,show (rs.all fun p=>decide ((n - p.1) % p.2 = 0)) = true from h3]
          rfl
        rw [e] at z
        exact z
def clashShows (one other:Int) (rs:List (Int × Int)):Bool:=decide (0 ≤ one) && decide (one < other) && decide (other < rs.length) &&
  (match rs[one.toNat]?,rs[other.toNat]? with
  | some p,some q=>!decide ((p.1 - q.1) % (Int.gcd p.2 q.2:Int) = 0)
  | _,_=>false)
def xit (K:PySem.W.Frag) (C:Addr):Sp:=fun vs H Q _=>∃ (p a:Addr) (n t:Int) (rs:List (Int × Int)),vs = [.ref p,.ref a] ∧ ObjAt H p C [("one", .int n),("other", .int t)] ∧ PairsAt K H a rs ∧ RsOk rs ∧ rs.length ≤ 1000 ∧ ∀ H',Same H H' → Q (.bl (clashShows n t rs)) H'
theorem gcdL_two (a b:Int):(gcdL [a,b]:Int) = (Int.gcd a b:Int):=by
  unfold gcdL
  simp [Int.gcd]
theorem pairs_at {H:Hp} {as:List Addr} {rs:List (Int × Int)} (h:Paired (fun b (p:Int × Int)=>SqT K H b [.int p.1,.int p.2]) as rs) {n:Int} (h0:0 ≤ n) (h1:n < rs.length) :
    ∃ b r,atI (as.map V.ref) n = some (.ref b) ∧ rs[n.toNat]? = some r ∧ SqT K H b [.int r.1,.int r.2]:=by
  have hl:=h.length
  have hx:(as.map V.ref)[n.toNat]? = some (.ref (as[n.toNat]'(by omega))):=by rw [List.getElem?_map,List.getElem?_eq_getElem (by omega)]; rfl
  obtain ⟨b,r,e,hb,hr,hq⟩:=pairs_get h hx
  refine ⟨b,r,?_,hr,hq⟩
  have z:=atI_nat hx
  rw [show ((n.toNat:Nat):Int) = n by omega] at z
  rw [z,e]
theorem xhV (T:Txt K mg A):FnOk P w K mg base CX0 3 A.xiL A.xi9 ["self", "rests"] (xit K A.xsw):=by
  have xrv:=xq3 (P:=P) (w:=w) (base:=base) T
  have xiI:=xh0 (P:=P) (w:=w) (base:=base) T
  refine T.xiz.ok xig (fun vs H Q E h=>?_) (fun cdv Ar outer s H vs Q E hr h=>?_)
  · obtain ⟨p,a,n,t,rs,rfl,_⟩:=h
    rfl
  obtain ⟨p,a,n,t,rs,rfl,⟨dx,hp⟩,hR,hO,hL,q⟩:=h
  obtain ⟨as,hS,hPd⟩:=id hR
  have hlen:=hPd.length
  have no:clashShows n t rs = false → Q (.bl false) H:=fun e=>by
    have z:=q H (Same.refl H)
    rw [e] at z
    exact z
  refine ⟨_,(@pss_cons _ _ _ _ _ (@ps_if _ _ _ _ _ _ _ _ (@pt_not _ _ _ _ (@pt_chain3 _ _ _ _ _ _ _ _ _ _ _ _ _ _ _ _ op_le op_lt op_lt (@pe_int _ _ _ _) (@pe_fld _ _ _ _ _ (@pv _ 0 _ _ (by rfl) (Or.inl rfl) (by decide) (by decide)) (by rfl)) (@pe_fld _ _ _ _ _ (@pv _ 0 _ _ (by rfl) (Or.inl rfl) (by decide) (by decide)) (by rfl)) (@pe_callB _ _ _ _ _ _ _ _ _ call_len_seq rfl T.b_len B.len (@pa_consN _ _ _ _ _ (@pv _ 1 _ _ (by rfl) (Or.inl rfl) (by decide) (by decide)) (@pa_nil _) (by rfl)) (by decide) (by decide) (by rfl) (by rfl)) (by with_unfolding_all rfl))) (@pss_one _ _ _ (@ps_ret _ _ _ _ (@pe_bl _ _ _ _))) (@pss_nil _)) (@pss_cons _ _ _ _ _ (@ps_set _ _ (2) _ _ _ _ xig.nd rfl (Or.inl rfl) (@pe_ix _ _ _ _ _ _ _ ix_list (@pv _ 1 _ _ (by rfl) (Or.inl rfl) (by decide) (by decide)) (@pe_fld _ _ _ _ _ (@pv _ 0 _ _ (by rfl) (Or.inl rfl) (by decide) (by decide)) (by rfl)) (fun _ _=>rfl)) (by rfl) (Or.inl rfl)) (@pss_cons _ _ _ _ _ (@ps_set _ _ (3) _ _ _ _ xig.nd rfl (Or.inl rfl) (@pe_ix _ _ _ _ _ _ _ ix_list (@pv _ 1 _ _ (by rfl) (Or.inl rfl) (by decide) (by decide)) (@pe_fld _ _ _ _ _ (@pv _ 0 _ _ (by rfl) (Or.inl rfl) (by decide) (by decide)) (by rfl)) (fun _ _=>rfl)) (by rfl) (Or.inl rfl)) (@pss_one _ _ _ (@ps_ret _ _ _ _ (@pe_not _ _ _ _ (@pe_call _ _ _ _ _ _ _ _ _ _ _ _ _ _ _ _ xrv (hr.mono (by decide)) rfl T.xsa T.xrS T.xqm .nil pass0 (@pa_consN _ _ _ _ _ (@pe_ix _ _ _ _ _ _ _ ix_tup (@pv _ 2 _ _ (by rfl) (Or.inl rfl) (by decide) (by decide)) (@pe_int _ _ _ _) (fun _ _=>rfl)) (@pa_consN _ _ _ _ _ (@pe_ix _ _ _ _ _ _ _ ix_tup (@pv _ 3 _ _ (by rfl) (Or.inl rfl) (by decide) (by decide)) (@pe_int _ _ _ _) (fun _ _=>rfl)) (@pa_consN _ _ _ _ _ (@pe_call _ _ _ _ _ _ _ _ _ _ _ _ _ _ _ _ xiI (hr.mono (by decide)) rfl T.xjK T.xjA T.xgx .nil pass0 (@pa_consN _ _ _ _ _ (@pe_lst _ _ _ _ (@pa_consN _ _ _ _ _ (@pe_ix _ _ _ _ _ _ _ ix_tup (@pv _ 2 _ _ (by rfl) (Or.inl rfl) (by decide) (by decide)) (@pe_int _ _ _ _) (fun _ _=>rfl)) (@pa_consN _ _ _ _ _ (@pe_ix _ _ _ _ _ _ _ ix_tup (@pv _ 3 _ _ (by rfl) (Or.inl rfl) (by decide) (by decide)) (@pe_int _ _ _ _) (fun _ _=>rfl)) (@pa_nil _) (by rfl)) (by rfl))) (@pa_nil _) (by rfl)) (by decide) (by rfl) (by rfl)) (@pa_nil _) (by rfl)) (by rfl)) (by rfl)) (by decide) (by rfl) (by rfl)))))))),?_⟩
  refine ⟨_,rfl,p,A.xsw,dx,_,_,rfl,hp,T.xrE,T.xlA,rfl,_,_,rfl,rfl,_,rfl,?_⟩
  by_cases h1:0 ≤ n
  case neg =>
    rw [decF h1]
    exact iteF ⟨_,rfl,iteT (no (by unfold clashShows; rw [decF h1]; rfl))⟩
  rw [decT h1]
  refine iteT ⟨_,rfl,p,A.xsw,dx,_,_,rfl,hp,T.xrE,T.xhF,rfl,_,_,rfl,rfl,_,rfl,?_⟩
  by_cases h2:n < t
  case neg =>
    rw [decF h2]
    exact iteF ⟨_,rfl,iteT (no (by unfold clashShows; rw [decF h2]; simp))⟩
  rw [decT h2]
  refine iteT ⟨_,rfl,a,_,rfl,.inl hS,_,_,rfl,rfl,_,rfl,?_⟩
  have hll:(((as.map V.ref).length:Nat):Int) = (rs.length:Int):=by rw [List.length_map,hlen]
  rw [hll]
  by_cases h3:t < (rs.length:Int)
  case neg =>
    rw [decF h3]
    exact iteT (no (by unfold clashShows; rw [decF h3]; simp))
  rw [decT h3]
  refine iteF ?_
  obtain ⟨b1,r1,e1,f1,t1⟩:=pairs_at hPd h1 (by omega)
  obtain ⟨b2,r2,e2,f2,t2⟩:=pairs_at hPd (show 0 ≤ t by omega) h3
  have o1:=hO r1 (List.mem_of_getElem? f1)
  have o2:=hO r2 (List.mem_of_getElem? f2)
  refine ⟨_,rfl,_,rfl,p,A.xsw,dx,_,_,rfl,hp,T.xrE,T.xlA,rfl,a,_,_,_,rfl,rfl,hS,e1,?_⟩
  refine ⟨_,rfl,_,rfl,p,A.xsw,dx,_,_,rfl,hp,T.xrE,T.xhF,rfl,a,_,_,_,rfl,rfl,hS,e2,?_⟩
  refine ⟨_,rfl,b1,_,_,_,rfl,rfl,t1,rfl,_,rfl,b2,_,_,_,rfl,rfl,t2,rfl,_,rfl,b1,_,_,_,rfl,rfl,t1,rfl,_,rfl,b2,_,_,_,rfl,rfl,t2,rfl,(by show 2 ≤ sizeLine; decide),fun l hl=>?_⟩
  refine ⟨l,[r1.2,r2.2],rfl,SqL.of upd_same,_,_,_,rfl,?_,_,rfl,?_⟩
  · rw [gcdL_two]
    exact (gcd_small (w:=r1.2) (t:=r2.2) (by omega)).1
  · have z:=q _ (same_new hl (.lst [.int r1.2,.int r2.2]))
    have e:clashShows n t rs = !decide ((r1.1 - r2.1) % (gcdL [r1.2,r2.2]:Int) = 0):=by
      unfold clashShows
      rw [decT h1,decT h2,decT h3,f1,f2,gcdL_two]
      rfl
    rw [e] at z
    exact z
def commonShows (part:Int) (ts ns:List Int):Bool:=decide (ts.length = ns.length) && decide (part = (gcdL ns:Int)) && decide (dot ns ts = part)
def xf2 (K:PySem.W.Frag) (C:Addr):Sp:=fun vs H Q _=>∃ (p a l:Addr) (part:Int) (ts ns:List Int),vs = [.ref p,.ref a] ∧ ObjAt H p C [("part", .int part),("times", .ref l)] ∧ IntsAt K H l ts ∧ IntsAt K H a ns ∧ (∀ n ∈ ns,-(2 ^ 64) < n ∧ n < 2 ^ 64) ∧ ns.length ≤ 1000 ∧ ∀ H',Same H H' → Q (.bl (commonShows part ts ns)) H'
theorem xfC (T:Txt K mg A):FnOk P w K mg base CX0 3 A.xgj A.xgT ["self", "numbers"] (xf2 K A.xrz):=by
  have xgg:=xfE (P:=P) (w:=w) (base:=base) T
  have xiI:=xh0 (P:=P) (w:=w) (base:=base) T
  refine T.xf7.ok xfP (fun vs H Q E h=>?_) (fun cdv Ar outer s H vs Q E hr h=>?_)
  · obtain ⟨p,a,l,part,ts,ns,rfl,_⟩:=h
    rfl
  obtain ⟨p,a,l,part,ts,ns,rfl,⟨dx,hp⟩,hl,ha,hB,hL,q⟩:=h
  have no:commonShows part ts ns = false → Q (.bl false) H:=fun e=>by
    have z:=q H (Same.refl H)
    rw [e] at z
    exact z
  refine ⟨_,(@pss_cons _ _ _ _ _ (@ps_if _ _ _ _ _ _ _ _ (@PW.pt _ _ _ (@pw_or _ _ _ _ _ _ _ (@pt_cmpR _ _ _ _ _ _ _ _ op_neI (@pe_callB _ _ _ _ _ _ _ _ _ call_len_seq rfl T.b_len B.len (@pa_consN _ _ _ _ _ (@pe_fld _ _ _ _ _ (@pv _ 0 _ _ (by rfl) (Or.inl rfl) (by decide) (by decide)) (by rfl)) (@pa_nil _) (by rfl)) (by decide) (by decide) (by rfl) (by rfl)) (@pe_callB _ _ _ _ _ _ _ _ _ call_len_seq rfl T.b_len B.len (@pa_consN _ _ _ _ _ (@pv _ 1 _ _ (by rfl) (Or.inl rfl) (by decide) (by decide)) (@pa_nil _) (by rfl)) (by decide) (by decide) (by rfl) (by rfl)) (nomark _)) (@pw_or1 _ _ _ _ (@pt_cmpR _ _ _ _ _ _ _ _ op_neI (@pe_fld _ _ _ _ _ (@pv _ 0 _ _ (by rfl) (Or.inl rfl) (by decide) (by decide)) (by rfl)) (@pe_call _ _ _ _ _ _ _ _ _ _ _ _ _ _ _ _ xiI (hr.mono (by decide)) rfl T.xjK T.xjA T.xgx .nil pass0 (@pa_consN _ _ _ _ _ (@pv _ 1 _ _ (by rfl) (Or.inl rfl) (by decide) (by decide)) (@pa_nil _) (by rfl)) (by decide) (by rfl) (by rfl)) (nomark _))))) (@pss_one _ _ _ (@ps_ret _ _ _ _ (@pe_bl _ _ _ _))) (@pss_nil _)) (@pss_one _ _ _ (@ps_ret _ _ _ _ (@pe_cmpR _ _ _ _ _ _ _ _ op_eqI (@pe_call _ _ _ _ _ _ _ _ _ _ _ _ _ _ _ _ xgg (hr.mono (by decide)) rfl T.xhB T.xhs T.xeN .nil pass0 (@pa_consN _ _ _ _ _ (@pv _ 1 _ _ (by rfl) (Or.inl rfl) (by decide) (by decide)) (@pa_consN _ _ _ _ _ (@pe_fld _ _ _ _ _ (@pv _ 0 _ _ (by rfl) (Or.inl rfl) (by decide) (by decide)) (by rfl)) (@pa_nil _) (by rfl)) (by rfl)) (by decide) (by rfl) (by rfl)) (@pe_fld _ _ _ _ _ (@pv _ 0 _ _ (by rfl) (Or.inl rfl) (by decide) (by decide)) (by rfl)) (nomark _))))),?_⟩
  refine ⟨_,rfl,p,A.xrz,dx,_,_,rfl,hp,T.xqr,T.xfp,rfl,l,_,rfl,.inl hl,_,rfl,a,_,rfl,.inl ha,_,_,rfl,rfl,_,rfl,?_⟩
  rw [List.length_map,List.length_map]
  by_cases h1:(ts.length:Int) = (ns.length:Int)
  case neg =>
    rw [decF h1]
    exact iteT (iteT (no (by unfold commonShows; rw [decF (show ¬ ts.length = ns.length by omega)]; rfl)))
  rw [decT h1]
  refine iteF ⟨_,rfl,p,A.xrz,dx,_,_,rfl,hp,T.xqr,T.xhG,rfl,_,rfl,a,ns,rfl,ha,_,_,rfl,rfl,_,rfl,?_⟩
  by_cases h2:part = (gcdL ns:Int)
  case neg =>
    rw [decF h2]
    exact iteT (no (by unfold commonShows; rw [decF h2]; simp))
  rw [decT h2]
  refine iteF ?_
  refine ⟨_,rfl,_,rfl,p,A.xrz,dx,_,_,rfl,hp,T.xqr,T.xfp,rfl,a,l,ns,ts,rfl,ha,hl,hB,hL,fun H' hs=>?_⟩
  refine ⟨_,rfl,p,A.xrz,dx,_,_,rfl,hs _ _ hp,T.xqr,T.xhG,rfl,_,_,rfl,rfl,?_⟩
  have z:=q H' hs
  have e:commonShows part ts ns = decide (dot ns ts = part):=by
    unfold commonShows
    rw [decT h2,decT (show ts.length = ns.length by omega)]
    rfl
  rw [e] at z
  exact z
def timesShows (ts ns:List Int) (turn rest:Int):Bool:=decide (ts.length = ns.length) && ts.all (fun o=>decide (0 ≤ o) && decide (o < turn)) && decide ((dot ns ts - rest) % turn = 0)
def xiu (K:PySem.W.Frag) (C:Addr):Sp:=fun vs H Q _=>∃ (p a l:Addr) (turn rest:Int) (ts ns:List Int),vs = [.ref p,.ref a,.int turn,.int rest] ∧ ObjAt H p C [("times", .ref l)] ∧ IntsAt K H l ts ∧ IntsAt K H a ns ∧ 0 < turn ∧ (∀ n ∈ ns,-(2 ^ 64) < n ∧ n < 2 ^ 64) ∧ ns.length ≤ 1000 ∧ ts.length ≤ 1000 ∧ ∀ H',Same H H' → Q (.bl (timesShows ts ns turn rest)) H'
theorem xhY (T:Txt K mg A):FnOk P w K mg base CX0 3 A.xiM A.xja ["self", "numbers", "turn", "rest"] (xiu K A.xsx):=by
  have xgg:=xfE (P:=P) (w:=w) (base:=base) T
  have xrv:=xq3 (P:=P) (w:=w) (base:=base) T
  refine T.xiA.ok xih (fun vs H Q E h=>?_) (fun cdv Ar outer s H vs Q E hr h=>?_)
  · obtain ⟨p,a,l,turn,rest,ts,ns,rfl,_⟩:=h
    rfl
  obtain ⟨p,a,l,turn,rest,ts,ns,rfl,⟨dx,hp⟩,hl,ha,ht,hB,hL,hLt,q⟩:=h
  have no:∀ H',Same H H' → timesShows ts ns turn rest = false → Q (.bl false) H':=fun H' hs e=>by
    have z:=q H' hs
    rw [e] at z
    exact z
  refine ⟨_,(@pss_cons _ _ _ _ _ (@ps_if _ _ _ _ _ _ _ _ (@pt_cmpR _ _ _ _ _ _ _ _ op_neI (@pe_callB _ _ _ _ _ _ _ _ _ call_len_seq rfl T.b_len B.len (@pa_consN _ _ _ _ _ (@pe_fld _ _ _ _ _ (@pv _ 0 _ _ (by rfl) (Or.inl rfl) (by decide) (by decide)) (by rfl)) (@pa_nil _) (by rfl)) (by decide) (by decide) (by rfl) (by rfl)) (@pe_callB _ _ _ _ _ _ _ _ _ call_len_seq rfl T.b_len B.len (@pa_consN _ _ _ _ _ (@pv _ 1 _ _ (by rfl) (Or.inl rfl) (by decide) (by decide)) (@pa_nil _) (by rfl)) (by decide) (by decide) (by rfl) (by rfl)) (nomark _)) (@pss_one _ _ _ (@ps_ret _ _ _ _ (@pe_bl _ _ _ _))) (@pss_nil _)) (@pss_cons _ _ _ _ _ (@ps_if _ _ _ _ _ _ _ _ (@pt_not _ _ _ _ (@pt_val _ _ _ (@pe_callB _ _ _ _ _ _ _ _ _ (call_all rfl) rfl T.b_all B.all (@pa_consN _ _ _ _ _ (@pe_comp0 _ _ (["turn", "often"]) ([some 2,none]) _ _ _ _ _ _ _ _ xdT rfl (@pi_list _ _ _ _ (@pe_fld _ _ _ _ _ (@pv _ 0 _ _ (by rfl) (Or.inl rfl) (by decide) (by decide)) (by rfl))) (fun z=>(@pg_name _ _ (1) _ xdT.nd rfl (Or.inl rfl) (by exact .inr rfl))) (sets_name 1) (by decide) (fun z=>(@pe_chain _ _ _ _ _ _ _ _ _ _ _ _ op_le op_lt (@pe_int _ _ _ _) (@pv _ 1 _ _ (by rfl) (by exact .inl rfl) (by decide) (by decide)) (@pv _ 0 _ _ (by rfl) (by exact .inr (.inl rfl)) (by decide) (by decide)) (by with_unfolding_all rfl))) (by intro _; rfl)) (@pa_nil _) (by rfl)) (by decide) (by decide) (by rfl) (by rfl)) (by intro _; rfl))) (@pss_one _ _ _ (@ps_ret _ _ _ _ (@pe_bl _ _ _ _))) (@pss_nil _)) (@pss_one _ _ _ (@ps_ret _ _ _ _ (@pe_call _ _ _ _ _ _ _ _ _ _ _ _ _ _ _ _ xrv (hr.mono (by decide)) rfl T.xsa T.xrS T.xqm .nil pass0 (@pa_consN _ _ _ _ _ (@pe_call _ _ _ _ _ _ _ _ _ _ _ _ _ _ _ _ xgg (hr.mono (by decide)) rfl T.xhB T.xhs T.xeN .nil pass0 (@pa_consN _ _ _ _ _ (@pv _ 1 _ _ (by rfl) (Or.inl rfl) (by decide) (by decide)) (@pa_consN _ _ _ _ _ (@pe_fld _ _ _ _ _ (@pv _ 0 _ _ (by rfl) (Or.inl rfl) (by decide) (by decide)) (by rfl)) (@pa_nil _) (by rfl)) (by rfl)) (by decide) (by rfl) (by rfl)) (@pa_consN _ _ _ _ _ (@pv _ 3 _ _ (by rfl) (Or.inl rfl) (by decide) (by decide)) (@pa_consN _ _ _ _ _ (@pv _ 2 _ _ (by rfl) (Or.inr (Or.inl rfl)) (by decide) (by decide)) (@pa_nil _) (by rfl)) (by rfl)) (by rfl)) (by decide) (by rfl) (by rfl)))))),?_⟩
  refine ⟨_,rfl,p,A.xsx,dx,_,_,rfl,hp,T.xrF,T.xhI,rfl,l,_,rfl,.inl hl,_,rfl,a,_,rfl,.inl ha,_,_,rfl,rfl,_,rfl,?_⟩
  rw [List.length_map,List.length_map]
  by_cases h1:(ts.length:Int) = (ns.length:Int)
  case neg =>
    rw [decF h1]
    exact iteT (no H (Same.refl H) (by unfold timesShows; rw [decF (show ¬ ts.length = ns.length by omega)]; rfl))
  rw [decT h1]
  refine iteF ?_
  refine ⟨_,rfl,p,A.xsx,dx,_,_,rfl,hp,T.xrF,T.xhI,rfl,l,rfl,⟨_,hl⟩,comp_list (K:=K) (a:=l) (xs:=ts.map V.int) (fun i ys H'=>H' = H ∧ ys = ((ts.take i).map fun o=>decide (0 ≤ o) && decide (o < turn)).map V.bl) ⟨rfl,rfl⟩ (by rw [List.length_map]; exact small100 hLt) ?_ ?_ ?_⟩
  · rintro i ys H' hi ⟨rfl,rfl⟩
    rw [List.length_map] at hi
    exact ⟨hl,by rw [List.length_map,List.length_map,List.length_take]; omega⟩
  · rintro i x ys H' hx ⟨rfl,rfl⟩
    obtain ⟨o,ho,rfl⟩:=ints_get hx
    refine ⟨_,rfl,_,_,rfl,rfl,_,rfl,?_⟩
    rw [take_snoc ho,List.map_append,List.map_append]
    by_cases h:0 ≤ o
    · rw [decT h]
      refine iteT ⟨_,rfl,_,_,rfl,rfl,rfl,?_⟩
      simp [h]
    · rw [decF h]
      refine iteF ⟨rfl,?_⟩
      simp [h]
  · rintro ys H' ⟨rfl,rfl⟩ m hm
    refine ⟨m,(ts.map fun o=>decide (0 ≤ o) && decide (o < turn)),rfl,SqL.of (by rw [upd_same,List.length_map,List.take_length]),_,rfl,?_⟩
    have s1:Same H' (upd H' m (.lst ((((ts.take (ts.map V.int).length).map fun o=>decide (0 ≤ o) && decide (o < turn))).map V.bl))):=same_new hm _
    by_cases h3:(ts.map fun o=>decide (0 ≤ o) && decide (o < turn)).all id = true
    case neg =>
      have h3':(ts.map fun o=>decide (0 ≤ o) && decide (o < turn)).all id = false:=Bool.eq_false_iff.mpr h3
      rw [h3']
      refine iteT (no _ s1 ?_)
      unfold timesShows
      rw [List.all_map] at h3'
      rw [show (ts.all fun o=>decide (0 ≤ o) && decide (o < turn)) = false from h3']
      simp
    rw [h3]
    refine iteF ?_
    refine ⟨_,rfl,_,rfl,p,A.xsx,dx,_,_,rfl,s1 _ _ hp,T.xrF,T.xhI,rfl,a,l,ns,ts,rfl,s1.ints ha,s1.ints hl,hB,hL,fun H2 hs=>?_⟩
    refine ⟨_,rfl,_,rfl,_,_,_,rfl,ht,?_⟩
    have z:=q H2 (s1.trans hs)
    have e:timesShows ts ns turn rest = decide ((dot ns ts - rest) % turn = 0):=by
      unfold timesShows
      rw [List.all_map] at h3
      rw [decT (show ts.length = ns.length by omega),show (ts.all fun o=>decide (0 ≤ o) && decide (o < turn)) = true from h3]
      rfl
    rw [e] at z
    exact z
def barShows (g:Int) (ns:List Int) (t r:Int):Bool:=decide (1 < g) && (!decide (r % g = 0) && (decide (t % g = 0) && ns.all (fun n=>decide (n % g = 0))))
def xmv (K:PySem.W.Frag) (C:Addr):Sp:=fun vs H Q _=>∃ (p a:Addr) (g t r:Int) (ns:List Int),vs = [.ref p,.ref a,.int t,.int r] ∧ ObjAt H p C [("part", .int g)] ∧ IntsAt K H a ns ∧ ns.length ≤ 1000 ∧ ∀ H',Same H H' → Q (.bl (barShows g ns t r)) H'
theorem xlU (T:Txt K mg A):FnOk P w K mg base CX0 3 A.xmS A.xnu ["self", "numbers", "turn", "rest"] (xmv K A.c_Bar):=by
  have xmQ:=xlX (P:=P) (w:=w) (base:=base) T
  refine T.xmA.ok xmd (fun vs H Q E h=>?_) (fun cdv Ar outer s H vs Q E hr h=>?_)
  · obtain ⟨p,a,g,t,r,ns,rfl,_⟩:=h
    rfl
  obtain ⟨p,a,g,t,r,ns,rfl,⟨dx,hp⟩,ha,hL,q⟩:=h
  have no:barShows g ns t r = false → Q (.bl false) H:=fun e=>by
    have z:=q H (Same.refl H)
    rw [e] at z
    exact z
  refine ⟨_,(@pss_cons _ _ _ _ _ (@ps_if _ _ _ _ _ _ _ _ (@PW.pt _ _ _ (@pw_or _ _ _ _ _ _ _ (@pt_cmpR _ _ _ _ _ _ _ _ op_le (@pe_fld _ _ _ _ _ (@pv _ 0 _ _ (by rfl) (Or.inr (Or.inl rfl)) (by decide) (by decide)) (by rfl)) (@pe_int _ _ _ _) (nomark _)) (@pw_or1 _ _ _ _ (@pt_val _ _ _ (@pe_call _ _ _ _ _ _ _ _ _ _ _ _ _ _ _ _ xmQ (hr.mono (by decide)) rfl T.xom T.xn5 T.xkC .nil pass0 (@pa_consN _ _ _ _ _ (@pe_fld _ _ _ _ _ (@pv _ 0 _ _ (by rfl) (Or.inr (Or.inl rfl)) (by decide) (by decide)) (by rfl)) (@pa_consN _ _ _ _ _ (@pv _ 3 _ _ (by rfl) (Or.inl rfl) (by decide) (by decide)) (@pa_nil _) (by rfl)) (by rfl)) (by decide) (by rfl) (by rfl)) (by intro _; rfl))))) (@pss_one _ _ _ (@ps_ret _ _ _ _ (@pe_bl _ _ _ _))) (@pss_nil _)) (@pss_one _ _ _ (@ps_ret _ _ _ _ (@pe_and _ _ _ _ _ _ _ (@pe_call _ _ _ _ _ _ _ _ _ _ _ _ _ _ _ _ xmQ (hr.mono (by decide)) rfl T.xom T.xn5 T.xkC .nil pass0 (@pa_consN _ _ _ _ _ (@pe_fld _ _ _ _ _ (@pv _ 0 _ _ (by rfl) (Or.inr (Or.inl rfl)) (by decide) (by decide)) (by rfl)) (@pa_consN _ _ _ _ _ (@pv _ 2 _ _ (by rfl) (Or.inl rfl) (by decide) (by decide)) (@pa_nil _) (by rfl)) (by rfl)) (by decide) (by rfl) (by rfl)) (@pe_one _ _ _ _ _ (@pe_callB _ _ _ _ _ _ _ _ _ (call_all rfl) rfl T.b_all B.all (@pa_consN _ _ _ _ _ (@pe_comp0 _ _ (["self", "number"]) ([some 0,none]) _ _ _ _ _ _ _ _ xfO rfl (@pi_list _ _ _ _ (@pv _ 1 _ _ (by rfl) (Or.inl rfl) (by decide) (by decide))) (fun z=>(@pg_name _ _ (1) _ xfO.nd rfl (Or.inl rfl) (by exact .inr rfl))) (sets_name 1) (by decide) (fun z=>(@pe_call _ _ _ _ _ _ _ _ _ _ _ _ _ _ _ _ xmQ (hr.mono (by decide)) rfl T.xom T.xn5 T.xkC .nil pass0 (@pa_consN _ _ _ _ _ (@pe_fldK _ (K) _ _ _ _ (@pv _ 0 _ _ (by rfl) (by exact .inr (.inl rfl)) (by decide) (by decide)) (by rfl) (by rfl)) (@pa_consN _ _ _ _ _ (@pv _ 1 _ _ (by rfl) (by exact .inl rfl) (by decide) (by decide)) (@pa_nil _) (by rfl)) (by rfl)) (by decide) (by rfl) (by rfl))) (by intro _; rfl)) (@pa_nil _) (by rfl)) (by decide) (by decide) (by rfl) (by rfl))))))),?_⟩
  refine ⟨_,rfl,p,A.c_Bar,dx,_,_,rfl,hp,T.xtC,T.xop,rfl,_,_,rfl,rfl,_,rfl,?_⟩
  by_cases h1:g ≤ 1
  · rw [decT h1]
    exact iteT (iteT (no (by unfold barShows; rw [decF (show ¬ 1 < g by omega)]; rfl)))
  rw [decF h1]
  refine iteF ⟨_,rfl,p,A.c_Bar,dx,_,_,rfl,hp,T.xtC,T.xop,rfl,_,rfl,_,_,rfl,(by omega),_,rfl,?_⟩
  by_cases h2:r % g = 0
  · rw [decT h2]
    exact iteT (no (by unfold barShows; rw [decT h2]; simp))
  rw [decF h2]
  refine iteF ⟨_,rfl,p,A.c_Bar,dx,_,_,rfl,hp,T.xtC,T.xop,rfl,_,rfl,_,_,rfl,(by omega),_,rfl,?_⟩
  by_cases h3:t % g = 0
  case neg =>
    rw [decF h3]
    exact iteF (no (by unfold barShows; rw [decF h3]; simp))
  rw [decT h3]
  refine iteT ?_
  refine ⟨_,rfl,a,rfl,⟨_,ha⟩,comp_list (K:=K) (a:=a) (xs:=ns.map V.int) (fun i ys H'=>H' = H ∧ ys = ((ns.take i).map fun n=>decide (n % g = 0)).map V.bl) ⟨rfl,rfl⟩ (by rw [List.length_map]; exact small100 hL) ?_ ?_ ?_⟩
  · rintro i ys H' hi ⟨rfl,rfl⟩
    rw [List.length_map] at hi
    exact ⟨ha,by rw [List.length_map,List.length_map,List.length_take]; omega⟩
  · rintro i x ys H' hx ⟨rfl,rfl⟩
    obtain ⟨n,hn,rfl⟩:=ints_get hx
    refine ⟨_,rfl,p,A.c_Bar,dx,_,_,rfl,hp,T.xtC,T.xop,rfl,_,rfl,_,_,rfl,(by omega),rfl,?_⟩
    rw [take_snoc hn,List.map_append,List.map_append]
    rfl
  · rintro ys H' ⟨rfl,rfl⟩ m hm
    refine ⟨m,(ns.map fun n=>decide (n % g = 0)),rfl,SqL.of (by rw [upd_same,List.length_map,List.take_length]),?_⟩
    have z:=q _ (same_new hm (.lst (((ns.take (ns.map V.int).length).map fun n=>decide (n % g = 0)).map V.bl)))
    have e:barShows g ns t r = (ns.map fun n=>decide (n % g = 0)).all id:=by
      unfold barShows
      rw [decT h3,decF h2,decT (show 1 < g by omega),List.all_map]
      rfl
    rw [e] at z
    exact z
end
end W06
set_option Elab.async false
set_option linter.all false
set_option maxRecDepth 100000
namespace W06
open PySem L2
section
variable {P:Program} {w:World} {K:PySem.W.Frag} {mg:Str → Option Value} {base:Heap} {A:Adr}
def ComOk (A:Adr) (H H':Hp) (p l:Addr) (ns:List Int) (ts:List Int):Prop:=Same H H' ∧ H p = none ∧ H l = none ∧ ObjAt H' p A.xrz [("part", .int (gcdL ns:Int)),("times", .ref l)] ∧ LstAt H' l ts ∧ ts.length = ns.length ∧ dot ns ts = (gcdL ns:Int)
def xmx (K:PySem.W.Frag) (A:Adr):Sp:=fun vs H Q _=>∃ (a:Addr) (ns:List Int),vs = [.ref a] ∧ LstAt H a ns ∧ NsOk ns ∧ ns.length ≤ 1000 ∧ ∀ p l ts H',ComOk A H H' p l ns ts → Q (.ref p) H'
theorem paired_snoc {α β:Type} {R:α → β → Prop} {xs:List α} {ys:List β} {x:α} {y:β} (h:Paired R xs ys) (h1:R x y):Paired R (xs ++ [x]) (ys ++ [y]):=by
  induction h with
  | nil=>exact .cons h1 .nil
  | cons a _ ih=>exact .cons a ih
theorem gcdL_nn (ns:List Int) (i:Nat) (hO:NsOk ns) : -1000000 ≤ (gcdL (ns.take i):Int) ∧ (gcdL (ns.take i):Int) ≤ 1000000:=by
  have:=gcdL_le (ns:=ns.take i) (g:=0) (by omega) (fun n hn=>hO n (List.mem_of_mem_take hn))
  have e:gcdL (ns.take i) = (ns.take i).foldl (fun g n=>Nat.gcd g n.natAbs) 0:=rfl
  omega
set_option maxHeartbeats 1000000 in
theorem xlW (T:Txt K mg A):FnOk P w K mg base CX0 3 A.xmY A.xnA ["numbers"] (xmx K A):=by
  have xc8:=xcL (P:=P) (w:=w) (base:=base) T
  have xpk:=xoI (P:=P) (w:=w) (base:=base) T
  have xc6:=xhW (P:=P) (w:=w) (base:=base) T
  refine T.xmG.ok xmj (fun vs H Q E h=>?_) (fun cdv Ar outer s H vs Q E hr h=>?_)
  · obtain ⟨a,ns,rfl,_⟩:=h
    rfl
  obtain ⟨a,ns,rfl,ha,hO,hlen,q⟩:=h
  refine ⟨_,(@pss_cons _ _ _ _ _ (@ps_set _ _ (1) _ _ _ _ xmj.nd rfl (Or.inl rfl) (@pe_lst _ _ _ _ (@pa_nil _)) (by rfl) (Or.inl rfl)) (@pss_cons _ _ _ _ _ (@ps_set _ _ (2) _ _ _ _ xmj.nd rfl (Or.inl rfl) (@pe_int _ _ _ _) (by rfl) (Or.inl rfl)) (@pss_cons _ _ _ _ _ (@ps_for _ _ _ _ _ _ _ _ PassesOwn.never rfl (@pi_list _ _ _ _ (@pv _ 0 _ _ (by rfl) (Or.inl rfl) (by decide) (by decide))) (@pg_name _ _ (3) _ xmj.nd rfl (Or.inl rfl) (Or.inl rfl)) (@pss_cons _ _ _ _ _ (@ps_set _ _ (4) _ _ _ _ xmj.nd rfl (Or.inl rfl) (@pe_call _ _ _ _ _ _ _ _ _ _ _ _ _ _ _ _ xc8 (hr.mono (by decide)) rfl T.xdH T.xdD T.xbZ .nil pass0 (@pa_consN _ _ _ _ _ (@pv _ 2 _ _ (by rfl) (Or.inl rfl) (by decide) (by decide)) (@pa_consN _ _ _ _ _ (@pv _ 3 _ _ (by rfl) (Or.inl rfl) (by decide) (by decide)) (@pa_nil _) (by rfl)) (by rfl)) (by decide) (by rfl) (by rfl)) (by rfl) (Or.inl rfl)) (@pss_cons _ _ _ _ _ (@ps_expr _ _ _ _ (@pe_bm _ _ _ _ _ _ _ _ _ _ _ _ PySem.F.plainAttrs_list PySem.F.slot_list_append PySem.F.type_list_append mt_append (@pv _ 1 _ _ (by rfl) (Or.inl rfl) (by decide) (by decide)) (@pa_consN _ _ _ _ _ (@pv _ 4 _ _ (by rfl) (Or.inl rfl) (by decide) (by decide)) (@pa_nil _) (by rfl)) (by rfl) (by rfl) (by rfl) (by rfl) (by rfl)) (by rfl)) (@pss_one _ _ _ (@ps_set _ _ (2) _ _ _ _ xmj.nd rfl (Or.inl rfl) (@pe_ix _ _ _ _ _ _ _ ix_tup (@pv _ 4 _ _ (by rfl) (Or.inl rfl) (by decide) (by decide)) (@pe_int _ _ _ _) (fun _ _=>rfl)) (by rfl) (Or.inl rfl))))) (by intro _; rfl)) (@pss_one _ _ _ (@ps_ret _ _ _ _ (@pe_make _ _ _ _ _ _ _ _ _ _ _ _ _ _ _ _ _ T.xqT xc6 (hr.mono (by decide)) rfl T.xr6 T.xbX .nil pass0 (@pa_consN _ _ _ _ _ (@pv _ 2 _ _ (by rfl) (Or.inl rfl) (by decide) (by decide)) (@pa_consN _ _ _ _ _ (@pe_call _ _ _ _ _ _ _ _ _ _ _ _ _ _ _ _ xpk (hr.mono (by decide)) rfl T.xpZ T.xpQ T.xna .nil pass0 (@pa_consN _ _ _ _ _ (@pv _ 1 _ _ (by rfl) (Or.inl rfl) (by decide) (by decide)) (@pa_nil _) (by rfl)) (by decide) (by rfl) (by rfl)) (@pa_nil _) (by rfl)) (by rfl)) (by decide) (by rfl) (by rfl))))))),?_⟩
  refine ⟨(by show 0 ≤ sizeLine; decide),fun l hl=>?_⟩
  have s1:=same_new hl (.lst [])
  refine ⟨_,rfl,a,rfl,⟨_,LstAt.ints (s1 _ _ ha)⟩,for_list (K:=K) (a:=a) (xs:=ns.map V.int) (fun i σ H'=>∃ (ss:List Stp) (as:List Addr) (f1 f2:Option V),σ = [some (.ref a),some (.ref l),some (.int (gcdL (ns.take i):Int)),f1,f2] ∧ Same H H' ∧ H' l = some (.lst (as.map V.ref)) ∧ Paired (fun b (s:Stp)=>SqT K H' b [.int s.1,.int s.2.1,.int s.2.2]) as ss ∧ Chain 0 (ns.take i) ss ∧ SsOk ss)
    ⟨[],[],none,none,rfl,s1,upd_same,.nil,trivial,fun _ z=>nomatch z⟩ (fun i σ H' _ ⟨_,_,_,_,_,e,_⟩=>LstAt.ints (e _ _ ha)) ?_ ?_⟩
  · rintro i x σ H' hi ⟨ss,as,f1,f2,rfl,sH,hL,hP,hC,hS⟩
    obtain ⟨n,hn,rfl⟩:=ints_get hi
    have hb:=hO n (List.mem_of_getElem? hn)
    have hil:i < ns.length:=(List.getElem?_eq_some_iff.mp hn).1
    refine ⟨_,rfl,_,rfl,_,n,rfl,gcdL_nn ns i hO,hb,fun g x y t hW ht=>?_⟩
    have s2:=same_new ht (.tup [.int g,.int x,.int y])
    have hL2:=s2 _ _ hL
    have hssl:=chain_len hC
    have hal:=hP.length
    have hlt:(as.map V.ref).length < sizeLine:=by
      rw [List.length_map,hal,hssl,List.length_take]
      exact small1000 (by omega)
    have htl:t ≠ l:=fun z=>by rw [z] at ht; rw [ht] at hL; cases hL
    refine ⟨_,rfl,.inl ⟨rfl,_,SqL.of hL2⟩,_,rfl,l,_,_,rfl,rfl,hL2,hlt,?_⟩
    have hkeep:∀ b xs,SqT K H' b xs → SqT K (upd (upd H' t (.tup [.int g,.int x,.int y])) l (.lst (as.map V.ref ++ [.ref t]))) b xs:=fun b xs hb=>by
      have hb2:=s2.tup hb
      rcases hb2 with (h | ⟨ob,h⟩) | h
      · exact .inl (.inl (by rw [upd_ne (ne_of h hL2 (by intro z; cases z))]; exact h))
      · exact .inl (.inr ⟨ob,by rw [upd_ne (ne_of h hL2 (by intro z; cases z))]; exact h⟩)
      · exact .inr h
    have ht2:SqT K (upd (upd H' t (.tup [.int g,.int x,.int y])) l (.lst (as.map V.ref ++ [.ref t]))) t [.int g,.int x,.int y]:=SqT.of (by rw [upd_ne htl,upd_same])
    have eg:g = (gcdL (ns.take (i + 1)):Int):=by rw [hW.g_,take_snoc hn,← gcdL_snoc]
    refine ⟨_,rfl,t,_,_,_,rfl,rfl,ht2,rfl,ss ++ [(g,x,y)],as ++ [t],some (.int n),some (.ref t),?_,?_,?_,?_,?_,?_⟩
    · rw [← eg]; rfl
    · intro b o e
      rw [upd_ne (ne_of_none e hl)]
      exact s2 _ _ (sH b o e)
    · rw [upd_same,List.map_append]; rfl
    · exact paired_snoc (Paired.mapP hP fun b s hq=>hkeep b _ hq) ht2
    · rw [take_snoc hn]
      refine chain_snoc hC ?_
      have e0:lastP 0 ss = (gcdL (ns.take i):Int):=chain_gcd (g:=0) hC
      rw [e0]
      exact hW
    · intro s hs
      rcases List.mem_append.mp hs with z | z
      · exact hS s z
      · rw [List.mem_singleton.mp z]; exact ⟨hW.xM,hW.yM⟩
  · rintro σ H' ⟨ss,as,f1,f2,rfl,sH,hL,hP,hC,hS⟩
    rw [List.length_map,List.take_length] at hC ⊢
    have hssl:=chain_len hC
    refine ⟨_,rfl,_,rfl,l,ss,rfl,⟨as,SqL.of hL,hP⟩,hS,by omega,fun l2 H2 hl2 s2 hL2=>?_⟩
    intro p dx hp hd hne
    have s3:Same H2 (upd (upd H2 dx (.own p)) p (.ins A.xrz dx [])):=fun b o e=>by
      rw [upd_ne (ne_of_none e hp),upd_ne (ne_of_none e hd)]; exact e
    refine ⟨p,dx,l2,_,tsOf ss,rfl,upd_same,LstAt.ints (s3 _ _ hL2),fun l3 H3 hl3 e3 ho kp=>⟨rfl,?_⟩⟩
    have hsum:=chain_sum hC
    have e0:lastP 0 ss = (gcdL ns:Int):=chain_gcd (g:=0) hC
    rw [Int.zero_mul,Int.zero_add,e0] at hsum
    refine q p l3 (tsOf ss) H3 ⟨?_,(sH.trans s2).free hp,((sH.trans s2).trans s3).free hl3,ho,e3,by rw [tsOf_len,hssl],hsum⟩
    intro b o e
    have e2:=(sH.trans s2) b o e
    exact kp b o (s3 b o e2) (ne_of_none e2 hp)
theorem xq1 (T:Txt K mg A):FnOk P w K mg base CX0 4 A.xrw A.xrG ["numbers"] (xmx K A):=by
  have xiH:=xhZ (P:=P) (w:=w) (base:=base) T
  have xmP:=xlW (P:=P) (w:=w) (base:=base) T
  refine T.xrq.ok xre (fun vs H Q E h=>?_) (fun cdv Ar outer s H vs Q E hr h=>?_)
  · obtain ⟨a,ns,rfl,_⟩:=h
    rfl
  obtain ⟨a,ns,rfl,ha,hO,hlen,q⟩:=h
  refine ⟨_,(@pss_cons _ _ _ _ _ (@ps_if _ _ _ _ _ _ _ _ (@pt_not _ _ _ _ (@pt_val _ _ _ (@pe_call _ _ _ _ _ _ _ _ _ _ _ _ _ _ _ _ xiH (hr.mono (by decide)) rfl T.xjJ T.xjz T.xgw .nil pass0 (@pa_consN _ _ _ _ _ (@pv _ 0 _ _ (by rfl) (Or.inl rfl) (by decide) (by decide)) (@pa_nil _) (by rfl)) (by decide) (by rfl) (by rfl)) (by intro _; rfl))) (@pss_one _ _ _ (@ps_never _ _)) (@pss_nil _)) (@pss_one _ _ _ (@ps_ret _ _ _ _ (@pe_call _ _ _ _ _ _ _ _ _ _ _ _ _ _ _ _ xmP (hr.mono (by decide)) rfl T.xol T.xn4 T.xkB .nil pass0 (@pa_consN _ _ _ _ _ (@pv _ 0 _ _ (by rfl) (Or.inl rfl) (by decide) (by decide)) (@pa_nil _) (by rfl)) (by decide) (by rfl) (by rfl))))),?_⟩
  refine ⟨_,rfl,a,ns,rfl,ha,hO,hlen,fun H1 s1=>⟨_,rfl,iteF ?_⟩⟩
  exact ⟨_,rfl,a,ns,rfl,s1 _ _ ha,hO,hlen,fun p l ts H' hc=>q p l ts H' ⟨s1.trans hc.1,s1.free hc.2.1,s1.free hc.2.2.1,hc.2.2.2⟩⟩
end
end W06
set_option Elab.async false
set_option linter.all false
set_option maxRecDepth 100000
namespace W06
open PySem L2
section
variable {P:Program} {w:World} {K:PySem.W.Frag} {mg:Str → Option Value} {base:Heap} {A:Adr}
theorem dot_snoc:∀ {ns ts:List Int} {t:Int},ts.length = ns.length + 1 → ∃ y,dot (ns ++ [t]) ts = dot ns ts.dropLast + t * y
  | [],[y],t,_=>⟨y,by show t * y + 0 = 0 + t * y; omega⟩
  | [],[],_,h=>by cases h
  | [],_ :: _ :: _,_,h=>by simp at h
  | _ :: _,[],_,h=>by cases h
  | n :: ns,z :: ts,t,h=>by
    have hl:ts.length = ns.length + 1:=by simpa using h
    obtain ⟨y,e⟩:=dot_snoc (ns:=ns) (ts:=ts) (t:=t) hl
    refine ⟨y,?_⟩
    have hne:ts ≠ []:=by intro z; rw [z] at hl; cases hl
    rw [List.dropLast_cons_of_ne_nil hne,dot_cons]
    show dot (n :: (ns ++ [t])) (z :: ts) = _
    rw [dot_cons,e]
    omega
theorem dot_mod {t q:Int}:∀ (ns ts:List Int),t ∣ dot ns (ts.map fun o=>o * q % t) - dot ns ts * q
  | [],_=>by show t ∣ 0 - 0 * q; simp
  | _ :: _,[]=>by show t ∣ 0 - 0 * q; simp
  | n :: ns,o :: ts=>by
    have ih:=dot_mod (t:=t) (q:=q) ns ts
    rw [List.map_cons,dot_cons,dot_cons]
    have e:n * (o * q % t) + dot ns (ts.map fun o=>o * q % t) - (n * o + dot ns ts) * q = (dot ns (ts.map fun o=>o * q % t) - dot ns ts * q) + t * (-(n * (o * q / t))):=by
      have e1:=Int.emod_add_mul_ediv (o * q) t
      have e2:n * (o * q % t) = n * (o * q) - t * (n * (o * q / t)):=by
        have:o * q % t = o * q - t * (o * q / t):=by omega
        rw [this,Int.mul_sub]
        have:n * (t * (o * q / t)) = t * (n * (o * q / t)):=by ac_rfl
        omega
      rw [e2,Int.add_mul,Int.mul_neg,Int.mul_assoc]
      omega
    rw [e]
    exact Int.dvd_add ih (Int.dvd_mul_right ..)
theorem come_math {ns ts:List Int} {t r g:Int} (hl:ts.length = ns.length + 1) (hd:dot (ns ++ [t]) ts = g) (hg:r % g = 0):(dot ns (ts.dropLast.map fun o=>o * (r / g) % t) - r) % t = 0:=by
  apply Int.emod_eq_zero_of_dvd
  obtain ⟨y,e⟩:=dot_snoc (t:=t) hl
  have h1:=dot_mod (t:=t) (q:=r / g) ns ts.dropLast
  have e1:dot ns ts.dropLast * (r / g) = r - t * (y * (r / g)):=by
    have:dot ns ts.dropLast = g - t * y:=by omega
    rw [this,Int.sub_mul,Int.mul_assoc]
    have:g * (r / g) = r:=Int.mul_ediv_cancel' (Int.dvd_of_emod_eq_zero hg)
    omega
  rw [e1] at h1
  have e2:dot ns (ts.dropLast.map fun o=>o * (r / g) % t) - r = (dot ns (ts.dropLast.map fun o=>o * (r / g) % t) - (r - t * (y * (r / g)))) + t * (-(y * (r / g))):=by
    rw [Int.mul_neg]; omega
  rw [e2]
  exact Int.dvd_add h1 (Int.dvd_mul_right ..)
def TmOk (ts:List Int) (t:Int):Prop:=∀ o ∈ ts,0 ≤ o ∧ o < t
def CameAt (A:Adr) (H:Hp) (p l:Addr) (gt:Int ⊕ List Int):Prop:=match gt with
  | .inl g=>ObjAt H p A.c_Bar [("part", .int g)]
  | .inr ts=>ObjAt H p A.xsx [("times", .ref l)] ∧ LstAt H l ts
def cameShows (gt:Int ⊕ List Int) (ns:List Int) (t r:Int):Bool:=match gt with
  | .inl g=>barShows g ns t r
  | .inr ts=>timesShows ts ns t r
def xti (A:Adr):Sp:=fun vs H Q _=>∃ (a:Addr) (ns:List Int) (t r:Int),vs = [.ref a,.int t,.int r] ∧ LstAt H a ns ∧ NsOk ns ∧ ns.length ≤ 900 ∧ (1 ≤ t ∧ t ≤ 1000000) ∧ 0 ≤ r ∧ r < t ∧
  ∀ p l gt H',Same H H' → H p = none → H l = none → CameAt A H' p l gt → (∀ ts,gt = .inr ts → ts.length = ns.length ∧ TmOk ts t) → cameShows gt ns t r = true → Q (.ref p) H'
set_option maxHeartbeats 1000000 in
theorem xs3 (T:Txt K mg A):FnOk P w K mg base CX0 4 A.xtt A.xtF ["numbers", "turn", "rest"] (xti A):=by
  have xiH:=xhZ (P:=P) (w:=w) (base:=base) T
  have xpi:=xoC (P:=P) (w:=w) (base:=base) T
  have xqf:=xp2 (P:=P) (w:=w) (base:=base) T
  have xmQ:=xlX (P:=P) (w:=w) (base:=base) T
  have xmP:=xlW (P:=P) (w:=w) (base:=base) T
  have xgc:=xoB (P:=P) (w:=w) (base:=base) T
  have xd1:=xjW (P:=P) (w:=w) (base:=base) T
  refine T.xtn.ok xtc (fun vs H Q E h=>?_) (fun cdv Ar outer s H vs Q E hr h=>?_)
  · obtain ⟨a,ns,t,r,rfl,_⟩:=h
    rfl
  obtain ⟨a,ns,t,r,rfl,ha,hO,hlen,ht,hr0,hr1,q⟩:=h
  refine ⟨_,(@pss_cons _ _ _ _ _ (@ps_if _ _ _ _ _ _ _ _ (@pt_not _ _ _ _ (@pt_val _ _ _ (@pe_call _ _ _ _ _ _ _ _ _ _ _ _ _ _ _ _ xiH (hr.mono (by decide)) rfl T.xjJ T.xjz T.xgw .nil pass0 (@pa_consN _ _ _ _ _ (@pv _ 0 _ _ (by rfl) (Or.inl rfl) (by decide) (by decide)) (@pa_nil _) (by rfl)) (by decide) (by rfl) (by rfl)) (by intro _; rfl))) (@pss_one _ _ _ (@ps_never _ _)) (@pss_nil _)) (@pss_cons _ _ _ _ _ (@ps_if _ _ _ _ _ _ _ _ (@pt_not _ _ _ _ (@pt_val _ _ _ (@pe_call _ _ _ _ _ _ _ _ _ _ _ _ _ _ _ _ xpi (hr.mono (by decide)) rfl T.xpX T.xpO T.xm8 .nil pass0 (@pa_consN _ _ _ _ _ (@pv _ 1 _ _ (by rfl) (Or.inr (Or.inl rfl)) (by decide) (by decide)) (@pa_nil _) (by rfl)) (by decide) (by rfl) (by rfl)) (by intro _; rfl))) (@pss_one _ _ _ (@ps_never _ _)) (@pss_nil _)) (@pss_cons _ _ _ _ _ (@ps_if _ _ _ _ _ _ _ _ (@pt_not _ _ _ _ (@pt_val _ _ _ (@pe_call _ _ _ _ _ _ _ _ _ _ _ _ _ _ _ _ xqf (hr.mono (by decide)) rfl T.xqS T.xqG T.xpr .nil pass0 (@pa_consN _ _ _ _ _ (@pv _ 2 _ _ (by rfl) (Or.inl rfl) (by decide) (by decide)) (@pa_consN _ _ _ _ _ (@pv _ 1 _ _ (by rfl) (Or.inr (Or.inl rfl)) (by decide) (by decide)) (@pa_nil _) (by rfl)) (by rfl)) (by decide) (by rfl) (by rfl)) (by intro _; rfl))) (@pss_one _ _ _ (@ps_never _ _)) (@pss_nil _)) (@pss_cons _ _ _ _ _ (@ps_set _ _ (3) _ _ _ _ xtc.nd rfl (Or.inl rfl) (@pe_call _ _ _ _ _ _ _ _ _ _ _ _ _ _ _ _ xmP (hr.mono (by decide)) rfl T.xol T.xn4 T.xkB .nil pass0 (@pa_consN _ _ _ _ _ (@pe_op _ _ _ _ _ _ _ _ op_cat (@pv _ 0 _ _ (by rfl) (Or.inl rfl) (by decide) (by decide)) (@pe_lst _ _ _ _ (@pa_consN _ _ _ _ _ (@pv _ 1 _ _ (by rfl) (Or.inr (Or.inl rfl)) (by decide) (by decide)) (@pa_nil _) (by rfl)))) (@pa_nil _) (by rfl)) (by decide) (by rfl) (by rfl)) (by rfl) (Or.inl rfl)) (@pss_cons _ _ _ _ _ (@ps_if _ _ _ _ _ _ _ _ (@pt_not _ _ _ _ (@pt_val _ _ _ (@pe_call _ _ _ _ _ _ _ _ _ _ _ _ _ _ _ _ xmQ (hr.mono (by decide)) rfl T.xom T.xn5 T.xkC .nil pass0 (@pa_consN _ _ _ _ _ (@pe_fld _ _ _ _ _ (@pv _ 3 _ _ (by rfl) (Or.inl rfl) (by decide) (by decide)) (by rfl)) (@pa_consN _ _ _ _ _ (@pv _ 2 _ _ (by rfl) (Or.inl rfl) (by decide) (by decide)) (@pa_nil _) (by rfl)) (by rfl)) (by decide) (by rfl) (by rfl)) (by intro _; rfl))) (@pss_one _ _ _ (@ps_ret _ _ _ _ (@pe_make _ _ _ _ _ _ _ _ _ _ _ _ _ _ _ _ _ T.xt3 xgc (hr.mono (by decide)) rfl T.m_Bar T.xeJ .nil pass0 (@pa_consN _ _ _ _ _ (@pe_fld _ _ _ _ _ (@pv _ 3 _ _ (by rfl) (Or.inl rfl) (by decide) (by decide)) (by rfl)) (@pa_nil _) (by rfl)) (by decide) (by rfl) (by rfl)))) (@pss_nil _)) (@pss_cons _ _ _ _ _ (@ps_set _ _ (4) _ _ _ _ xtc.nd rfl (Or.inr rfl) (@pe_op _ _ _ _ _ _ _ _ op_fdiv (@pv _ 2 _ _ (by rfl) (Or.inl rfl) (by decide) (by decide)) (@pe_fld _ _ _ _ _ (@pv _ 3 _ _ (by rfl) (Or.inl rfl) (by decide) (by decide)) (by rfl))) (by rfl) (Or.inl rfl)) (@pss_one _ _ _ (@ps_ret _ _ _ _ (@pe_make _ _ _ _ _ _ _ _ _ _ _ _ _ _ _ _ _ T.xsc xd1 (hr.mono (by decide)) rfl T.xsU T.xdf .nil pass0 (@pa_consN _ _ _ _ _ (@pe_comp0 _ _ (["turn", "parts", "often"]) ([some 1,some 4,none]) _ _ _ _ _ _ _ _ xqa rfl (@pi_list _ _ _ _ (@pe_slice _ _ _ _ _ _ _ _ _ _ sl_list (@pe_fld _ _ _ _ _ (@pv _ 3 _ _ (by rfl) (Or.inl rfl) (by decide) (by decide)) (by rfl)) (@po_none _) (@po_some _ _ _ (@pe_un _ _ _ _ _ _ un_neg (@pe_int _ _ _ _))))) (fun z=>(@pg_name _ _ (2) _ xqa.nd rfl (Or.inl rfl) (by exact .inr rfl))) (sets_name 2) (by decide) (fun z=>(@pe_op _ _ _ _ _ _ _ _ op_mod (@pe_op _ _ _ _ _ _ _ _ op_mul (@pv _ 2 _ _ (by rfl) (by exact .inl rfl) (by decide) (by decide)) (@pv _ 1 _ _ (by rfl) (by exact .inr (.inl rfl)) (by decide) (by decide))) (@pv _ 0 _ _ (by rfl) (by exact .inr (.inl rfl)) (by decide) (by decide)))) (by intro _; rfl)) (@pa_nil _) (by rfl)) (by decide) (by rfl) (by rfl)))))))))),?_⟩
  refine ⟨_,rfl,a,ns,rfl,ha,hO,by omega,fun H1 s1=>⟨_,rfl,iteF ?_⟩⟩
  refine ⟨_,rfl,t,rfl,ht.1,ht.2,_,rfl,iteF ?_⟩
  refine ⟨_,rfl,_,rfl,r,t,rfl,ht,hr0,hr1,_,rfl,iteF ?_⟩
  refine ⟨_,rfl,_,rfl,(by show 1 ≤ sizeLine; decide),fun l1 hl1=>⟨a,l1,_,_,rfl,rfl,(same_new hl1 _) _ _ (s1 _ _ ha),upd_same,?_,fun l2 hl2=>?_⟩⟩
  · rw [List.length_map]; exact small100 (by show ns.length + 1 ≤ 1000; omega)
  have s2:=s1.trans ((same_new hl1 (.lst [.int t])).trans (same_new hl2 (.lst (ns.map V.int ++ [.int t]))))
  have hNs:NsOk (ns ++ [t]):=fun n hn=>by
    rcases List.mem_append.mp hn with z | z
    · exact hO n z
    · rw [List.mem_singleton.mp z]; omega
  refine ⟨l2,ns ++ [t],rfl,?_,hNs,by rw [List.length_append]; show ns.length + 1 ≤ 1000; omega,fun p l ts H3 hC=>?_⟩
  · show upd _ l2 _ l2 = _
    rw [upd_same,List.map_append]; rfl
  obtain ⟨s3,hp0,hl0,⟨dx,hop⟩,hT,htl,hsum⟩:=hC
  rw [List.length_append] at htl
  have htl:ts.length = ns.length + 1:=htl
  have s4:=s2.trans s3
  have hgd:=gcdL_dvd (ns ++ [t]) 0
  have hgt:(gcdL (ns ++ [t]):Int) ∣ t:=hgd.2 t (by simp)
  have hg0:0 < (gcdL (ns ++ [t]):Int):=by
    have:(gcdL (ns ++ [t]):Int) ≠ 0:=fun z=>by
      rw [z] at hgt
      have:=Int.zero_dvd.mp hgt
      omega
    omega
  have hg1:(gcdL (ns ++ [t]):Int) ≤ 1000000:=by
    have:=Int.le_of_dvd (by omega) hgt
    omega
  generalize hG:(gcdL (ns ++ [t]):Int) = g at *
  refine ⟨_,rfl,p,A.xrz,dx,_,_,rfl,hop,T.xqr,T.xhG,rfl,_,rfl,_,_,rfl,hg0,_,rfl,?_⟩
  by_cases h1:r % g = 0
  case neg =>
    rw [decF h1]
    refine iteT ⟨_,rfl,p,A.xrz,dx,_,_,rfl,hop,T.xqr,T.xhG,rfl,?_⟩
    refine make1 fun p2 H' s5 hp2 ho=>?_
    have s6:=s4.trans s5
    refine q p2 p2 (.inl g) H' s6 (s4.free hp2) (s4.free hp2) ho (fun ts z=>by cases z) ?_
    show barShows g ns t r = true
    unfold barShows
    have hg2:1 < g:=by
      have:g ≠ 1:=fun z=>h1 (by rw [z]; exact Int.emod_one r)
      omega
    have hall:(ns.all fun n=>decide (n % g = 0)) = true:=by
      rw [List.all_eq_true]
      intro n hn
      exact decide_eq_true (Int.emod_eq_zero_of_dvd (by rw [← hG]; exact hgd.2 n (List.mem_append_left _ hn)))
    rw [decT hg2,decF h1,decT (Int.emod_eq_zero_of_dvd hgt),hall]
    rfl
  rw [decT h1]
  refine iteF ?_
  refine ⟨_,rfl,_,rfl,p,A.xrz,dx,_,_,rfl,hop,T.xqr,T.xhG,rfl,_,_,rfl,rfl,⟨hg0,by omega⟩,?_⟩
  have hq0:0 ≤ r / g:=Int.ediv_nonneg hr0 (by omega)
  have hq1:r / g ≤ r:=Int.ediv_le_self g hr0
  refine ⟨_,rfl,p,A.xrz,dx,_,_,rfl,hop,T.xqr,T.xfp,rfl,_,rfl,_,rfl,l,_,rfl,SqL.of hT,fun m hm=>?_⟩
  rw [cut_front,← List.map_dropLast]
  have s5:=same_new hm (.lst (ts.dropLast.map V.int))
  have hdl:ts.dropLast.length = ns.length:=by rw [List.length_dropLast,htl]; omega
  refine ⟨m,rfl,⟨_,SqL.of upd_same⟩,comp_list (K:=K) (a:=m) (xs:=ts.dropLast.map V.int) (fun i ys H'=>Same (upd H3 m (.lst (ts.dropLast.map V.int))) H' ∧ ys = ((ts.dropLast.take i).map fun o=>o * (r / g) % t).map V.int) ⟨Same.refl _,rfl⟩ (by rw [List.length_map]; exact small100 (by omega)) ?_ ?_ ?_⟩
  · rintro i ys H' hi ⟨hs,rfl⟩
    rw [List.length_map] at hi
    exact ⟨SqL.of (hs _ _ upd_same),by rw [List.length_map,List.length_map,List.length_take]; omega⟩
  · rintro i x ys H' hx ⟨hs,rfl⟩
    obtain ⟨o,ho,rfl⟩:=ints_get hx
    refine ⟨_,rfl,_,rfl,_,_,rfl,rfl,.inr ⟨by omega,by omega⟩,_,rfl,_,_,rfl,rfl,(by omega),hs,?_⟩
    rw [take_snoc ho,List.map_append,List.map_append]
    rfl
  · rintro ys H' ⟨hs,rfl⟩ m2 hm2
    have e2:(ts.dropLast.take (ts.dropLast.map V.int).length).map (fun o=>o * (r / g) % t) = ts.dropLast.map (fun o=>o * (r / g) % t):=by rw [List.length_map,List.take_length]
    rw [e2]
    have s6:=(s5.trans hs).trans (same_new hm2 (.lst ((ts.dropLast.map (fun o=>o * (r / g) % t)).map V.int)))
    intro p2 dx2 hp2 hd2 hne2
    have s7:Same (upd H' m2 (.lst ((ts.dropLast.map (fun o=>o * (r / g) % t)).map V.int))) (upd (upd (upd H' m2 (.lst ((ts.dropLast.map (fun o=>o * (r / g) % t)).map V.int))) dx2 (.own p2)) p2 (.ins A.xsx dx2 [])):=fun b o e=>by
      rw [upd_ne (ne_of_none e hp2),upd_ne (ne_of_none e hd2)]; exact e
    refine ⟨p2,dx2,m2,ts.dropLast.map (fun o=>o * (r / g) % t),rfl,upd_same,LstAt.ints (s7 _ _ upd_same),fun l3 H4 hl3 e3 ho kp=>⟨rfl,?_⟩⟩
    have s46:=s4.trans s6
    refine q p2 l3 (.inr (ts.dropLast.map (fun o=>o * (r / g) % t))) H4 (fun b o e=>?_) (s46.free hp2) ((s46.trans s7).free hl3) ⟨ho,e3⟩ (fun ts' z=>?_) ?_
    · have e2:=s46 b o e
      exact kp b o (s7 b o e2) (ne_of_none e2 hp2)
    · cases z
      refine ⟨by rw [List.length_map,hdl],fun o ho=>?_⟩
      obtain ⟨y,_,rfl⟩:=List.mem_map.mp ho
      exact ⟨Int.emod_nonneg _ (by omega),Int.emod_lt_of_pos _ (by omega)⟩
    · show timesShows _ ns t r = true
      unfold timesShows
      have hall:((ts.dropLast.map (fun o=>o * (r / g) % t)).all fun o=>decide (0 ≤ o) && decide (o < t)) = true:=by
        rw [List.all_eq_true]
        intro o ho
        obtain ⟨y,_,rfl⟩:=List.mem_map.mp ho
        rw [decT (Int.emod_nonneg _ (show t ≠ 0 by omega)),decT (Int.emod_lt_of_pos _ (show 0 < t by omega))]
        rfl
      rw [decT (show (ts.dropLast.map (fun o=>o * (r / g) % t)).length = ns.length by rw [List.length_map,hdl]),hall,decT (come_math htl hsum h1)]
      rfl
end
end W06
set_option Elab.async false
set_option linter.all false
set_option maxRecDepth 100000
namespace W06
open PySem L2
section
variable {P:Program} {w:World} {K:PySem.W.Frag} {mg:Str → Option Value} {base:Heap} {A:Adr}
theorem back_math {a t x y:Int} (ht:1 ≤ t) (h:a * x + t * y = 1):(a * (x % t) - 1) % t = 0:=by
  have e:a * (x % t) - 1 = t * (-(y + a * (x / t))):=by
    have e1:=Int.emod_add_mul_ediv x t
    have e2:a * (x % t) = a * x - t * (a * (x / t)):=by
      have:x % t = x - t * (x / t):=by omega
      rw [this,Int.mul_sub]
      have:a * (t * (x / t)) = t * (a * (x / t)):=by ac_rfl
      omega
    rw [e2,Int.mul_neg,Int.mul_add]
    omega
  rw [e]
  exact Int.mul_emod_right _ _
def BackOk (A:Adr) (H:Hp) (p:Addr) (n t:Int):Prop :=
  (∃ g,ObjAt H p A.c_Bar [("part", .int g)] ∧ 1 < g ∧ n % g = 0 ∧ t % g = 0) ∨ (∃ r,ObjAt H p A.xtx [("rest", .int r)] ∧ 0 ≤ r ∧ r < t ∧ (n * r - 1) % t = 0)
def xth (A:Adr):Sp:=fun vs H Q _=>∃ n t:Int,vs = [.int n,.int t] ∧ (-1000000 ≤ n ∧ n ≤ 1000000) ∧ (1 ≤ t ∧ t ≤ 1000000) ∧
  ∀ p H',Same H H' → H p = none → BackOk A H' p n t → Q (.ref p) H'
set_option maxHeartbeats 1000000 in
theorem xs2 (T:Txt K mg A):FnOk P w K mg base CX0 4 A.xts A.xtE ["number", "turn"] (xth A):=by
  have xmR:=xlY (P:=P) (w:=w) (base:=base) T
  have xpi:=xoC (P:=P) (w:=w) (base:=base) T
  have xc8:=xcL (P:=P) (w:=w) (base:=base) T
  have xiK:=xh3 (P:=P) (w:=w) (base:=base) T
  have xgc:=xoB (P:=P) (w:=w) (base:=base) T
  have xeB:=xlT (P:=P) (w:=w) (base:=base) T
  refine T.xtm.ok xtb (fun vs H Q E h=>?_) (fun cdv Ar outer s H vs Q E hr h=>?_)
  · obtain ⟨a,b,rfl,_⟩:=h
    rfl
  obtain ⟨n,t,rfl,hn,ht,q⟩:=h
  refine ⟨_,(@pss_cons _ _ _ _ _ (@ps_if _ _ _ _ _ _ _ _ (@pt_not _ _ _ _ (@pt_val _ _ _ (@pe_call _ _ _ _ _ _ _ _ _ _ _ _ _ _ _ _ xmR (hr.mono (by decide)) rfl T.xon T.xn6 T.xkD .nil pass0 (@pa_consN _ _ _ _ _ (@pv _ 0 _ _ (by rfl) (Or.inl rfl) (by decide) (by decide)) (@pa_nil _) (by rfl)) (by decide) (by rfl) (by rfl)) (by intro _; rfl))) (@pss_one _ _ _ (@ps_never _ _)) (@pss_nil _)) (@pss_cons _ _ _ _ _ (@ps_if _ _ _ _ _ _ _ _ (@pt_not _ _ _ _ (@pt_val _ _ _ (@pe_call _ _ _ _ _ _ _ _ _ _ _ _ _ _ _ _ xpi (hr.mono (by decide)) rfl T.xpX T.xpO T.xm8 .nil pass0 (@pa_consN _ _ _ _ _ (@pv _ 1 _ _ (by rfl) (Or.inl rfl) (by decide) (by decide)) (@pa_nil _) (by rfl)) (by decide) (by rfl) (by rfl)) (by intro _; rfl))) (@pss_one _ _ _ (@ps_never _ _)) (@pss_nil _)) (@pss_cons _ _ _ _ _ (@ps_set _ _ (2) _ _ _ _ xtb.nd rfl (Or.inl rfl) (@pe_ix _ _ _ _ _ _ _ ix_tup (@pe_call _ _ _ _ _ _ _ _ _ _ _ _ _ _ _ _ xc8 (hr.mono (by decide)) rfl T.xdH T.xdD T.xbZ .nil pass0 (@pa_consN _ _ _ _ _ (@pv _ 0 _ _ (by rfl) (Or.inl rfl) (by decide) (by decide)) (@pa_consN _ _ _ _ _ (@pv _ 1 _ _ (by rfl) (Or.inl rfl) (by decide) (by decide)) (@pa_nil _) (by rfl)) (by rfl)) (by decide) (by rfl) (by rfl)) (@pe_int _ _ _ _) (fun _ _=>rfl)) (by rfl) (Or.inl rfl)) (@pss_cons _ _ _ _ _ (@ps_if _ _ _ _ _ _ _ _ (@pt_cmpR _ _ _ _ _ _ _ _ op_gt (@pv _ 2 _ _ (by rfl) (Or.inl rfl) (by decide) (by decide)) (@pe_int _ _ _ _) (nomark _)) (@pss_one _ _ _ (@ps_ret _ _ _ _ (@pe_make _ _ _ _ _ _ _ _ _ _ _ _ _ _ _ _ _ T.xt3 xgc (hr.mono (by decide)) rfl T.m_Bar T.xeJ .nil pass0 (@pa_consN _ _ _ _ _ (@pv _ 2 _ _ (by rfl) (Or.inl rfl) (by decide) (by decide)) (@pa_nil _) (by rfl)) (by decide) (by rfl) (by rfl)))) (@pss_nil _)) (@pss_one _ _ _ (@ps_ret _ _ _ _ (@pe_make _ _ _ _ _ _ _ _ _ _ _ _ _ _ _ _ _ T.xsV xeB (hr.mono (by decide)) rfl T.xtZ T.xd5 .nil pass0 (@pa_consN _ _ _ _ _ (@pe_call _ _ _ _ _ _ _ _ _ _ _ _ _ _ _ _ xiK (hr.mono (by decide)) rfl T.xjM T.xjC T.xgz .nil pass0 (@pa_consN _ _ _ _ _ (@pv _ 0 _ _ (by rfl) (Or.inl rfl) (by decide) (by decide)) (@pa_consN _ _ _ _ _ (@pv _ 1 _ _ (by rfl) (Or.inl rfl) (by decide) (by decide)) (@pa_nil _) (by rfl)) (by rfl)) (by decide) (by rfl) (by rfl)) (@pa_nil _) (by rfl)) (by decide) (by rfl) (by rfl)))))))),?_⟩
  refine ⟨_,rfl,n,rfl,hn.1,hn.2,_,rfl,iteF ?_⟩
  refine ⟨_,rfl,t,rfl,ht.1,ht.2,_,rfl,iteF ?_⟩
  refine ⟨_,rfl,_,rfl,n,t,rfl,hn,⟨by omega,by omega⟩,fun g x y u hP hu=>?_⟩
  refine ⟨u,_,_,_,rfl,rfl,SqT.of upd_same,rfl,?_⟩
  have s1:=same_new hu (.tup [.int g,.int x,.int y])
  refine ⟨_,rfl,_,_,rfl,rfl,_,rfl,?_⟩
  by_cases h1:1 < g
  · rw [decT h1]
    refine iteT ⟨_,rfl,?_⟩
    refine make1 fun p H' s2 hp ho=>?_
    refine q p H' (s1.trans s2) (s1.free hp) (.inl ⟨g,ho,h1,?_,?_⟩)
    · rw [hP.g_]; exact Int.emod_eq_zero_of_dvd (Int.gcd_dvd_left ..)
    · rw [hP.g_]; exact Int.emod_eq_zero_of_dvd (Int.gcd_dvd_right ..)
  · rw [decF h1]
    refine iteF ?_
    refine ⟨_,rfl,_,rfl,n,t,rfl,hn,ht,fun x y H2 hP2 s2=>?_⟩
    refine make1 fun p H' s3 hp ho=>?_
    have hg:(Int.gcd n t:Int) = 1:=by
      have e:=hP.g_
      have:0 < Int.gcd n t:=Nat.pos_of_ne_zero fun z=>by
        have:=(Int.gcd_eq_zero_iff.mp z).2
        omega
      omega
    have hs:=hP2.s
    rw [hg] at hs
    exact q p H' ((s1.trans s2).trans s3) (s1.free (s2.free hp)) (.inr ⟨_,ho,Int.emod_nonneg _ (by omega),Int.emod_lt_of_pos _ (by omega),back_math ht.1 hs⟩)
end
end W06
set_option Elab.async false
set_option linter.all false
set_option maxRecDepth 100000
namespace W06
open PySem L2
section
variable {P:Program} {w:World} {K:PySem.W.Frag} {mg:Str → Option Value} {base:Heap} {A:Adr}
theorem gcd_mod {W t:Int} (hW:0 ≤ W):Int.gcd (W % t) t = Int.gcd W t:=by
  show Nat.gcd (W % t).natAbs t.natAbs = Nat.gcd W.natAbs t.natAbs
  rw [Int.natAbs_emod_of_nonneg hW,← Nat.gcd_rec,Nat.gcd_comm]
theorem miss_dvd {N r t g:Int} (hg:g ∣ t):((r - N) % t) % g = 0 ↔ (N - r) % g = 0:=by
  rw [Int.emod_emod_of_dvd _ hg]
  have e:r - N = -(N - r):=by omega
  rw [e]
  exact ⟨fun h=>Int.emod_eq_zero_of_dvd (Int.dvd_neg.mp (Int.dvd_of_emod_eq_zero h)),fun h=>Int.emod_eq_zero_of_dvd (Int.dvd_neg.mpr (Int.dvd_of_emod_eq_zero h))⟩
theorem join_math {N W r t g x y:Int} (hN0:0 ≤ N) (hN1:N < W) (ht:1 ≤ t) (hP:Wr.Pwt (W % t) t g x y) (hm:((r - N) % t) % g = 0) :
    let N':=N + (r - N) % t / g * x % (t / g) * W
    W * (t / g) = W / (Int.gcd W t:Int) * t ∧ 0 ≤ N' ∧ N' < W * (t / g) ∧ (N' - r) % t = 0 ∧ W ∣ N' - N:=by
  have hW:0 < W:=by omega
  have eg:g = (Int.gcd W t:Int):=by rw [hP.g_,gcd_mod (by omega)]
  have hgt:g ∣ t:=by rw [eg]; exact Int.gcd_dvd_right ..
  have hgW:g ∣ W:=by rw [eg]; exact Int.gcd_dvd_left ..
  have hg0:0 < g:=by
    have:g ≠ 0:=fun z=>by
      rw [z] at hgt
      have:=Int.zero_dvd.mp hgt
      omega
    have:0 ≤ g:=by rw [eg]; omega
    omega
  obtain ⟨f,hf⟩:=hgt
  obtain ⟨V_,hV⟩:=hgW
  have hf':t / g = f:=by rw [hf]; exact Int.mul_ediv_cancel_left f (by omega)
  have hV':W / g = V_:=by rw [hV]; exact Int.mul_ediv_cancel_left V_ (by omega)
  have hf0:0 < f:=by
    have h1:0 < g * f:=by omega
    exact Int.pos_of_mul_pos_left (by rw [Int.mul_comm]; exact h1) hg0
  obtain ⟨c,hc⟩:=Int.dvd_of_emod_eq_zero hm
  have hcm:(r - N) % t / g = c:=by rw [hc]; exact Int.mul_ediv_cancel_left c (by omega)
  intro N'
  have hN':N' = N + c * x % f * W:=by show N + (r - N) % t / g * x % (t / g) * W = _; rw [hf',hcm]
  have s0:=Int.emod_nonneg (c * x) (show f ≠ 0 by omega)
  have s1:=Int.emod_lt_of_pos (c * x) hf0
  generalize hS:c * x % f = S at *
  have hSW:0 ≤ S * W:=Int.mul_nonneg s0 (by omega)
  have hSW2:S * W + W ≤ W * f:=by
    have h1:=Int.mul_le_mul_of_nonneg_right (show S + 1 ≤ f by omega) (show 0 ≤ W by omega)
    rw [Int.add_mul,Int.one_mul,Int.mul_comm f W] at h1
    exact h1
  rw [hf',← eg,hV']
  refine ⟨?_,by omega,by omega,?_,?_⟩
  · rw [hV,hf]; ac_rfl
  · -- t goes into N' - r
    apply Int.emod_eq_zero_of_dvd
    have e1:=Int.emod_add_mul_ediv (c * x) f
    have e2:=Int.emod_add_mul_ediv W t
    have e3:=Int.emod_add_mul_ediv (r - N) t
    have e4:=hP.s
    have a1:S * W = c * x * W - t * (c * x / f * V_):=by
      have:S = c * x - f * (c * x / f):=by omega
      rw [this,Int.sub_mul]
      have:f * (c * x / f) * W = t * (c * x / f * V_):=by
        rw [hV,hf]; ac_rfl
      omega
    have a2:c * x * W = c * g + t * (c * (x * (W / t) - y)):=by
      have b1:x * W = x * (W % t) + t * (x * (W / t)):=by
        have:W = W % t + t * (W / t):=by omega
        have h3:x * W = x * (W % t + t * (W / t)):=by rw [← this]
        rw [h3,Int.mul_add]
        have:x * (t * (W / t)) = t * (x * (W / t)):=by ac_rfl
        omega
      have b2:x * (W % t) = g - t * y:=by
        rw [Int.mul_comm x (W % t)]
        omega
      rw [Int.mul_assoc,b1,b2]
      have b3:g - t * y + t * (x * (W / t)) = g + t * (x * (W / t) - y):=by
        rw [Int.mul_sub]; omega
      rw [b3,Int.mul_add]
      have:c * (t * (x * (W / t) - y)) = t * (c * (x * (W / t) - y)):=by ac_rfl
      omega
    have a3:c * g = (r - N) - t * ((r - N) / t):=by rw [Int.mul_comm c g]; omega
    have a4:N' - r = t * (-(c * x / f * V_) + c * (x * (W / t) - y) - (r - N) / t):=by
      rw [Int.mul_sub,Int.mul_add,Int.mul_neg]
      omega
    rw [a4]
    exact Int.dvd_mul_right ..
  · have:N' - N = S * W:=by omega
    rw [this]
    exact Int.dvd_mul_left ..
def xrk (A:Adr):Sp:=fun vs H Q _=>∃ (p:Addr) (N W r t:Int),vs = [.ref p,.int r,.int t] ∧ ObjAt H p A.xrA [("number", .int N),("turn", .int W)] ∧ 0 ≤ N ∧ N < W ∧ (1 ≤ t ∧ t ≤ 1000000) ∧
  (if (N - r) % (Int.gcd W t:Int) = 0 then ∀ p2 N' H',Same H H' → H p2 = none → ObjAt H' p2 A.xrA [("number", .int N'),("turn", .int (W / (Int.gcd W t:Int) * t))] → 0 ≤ N' → N' < W / (Int.gcd W t:Int) * t → (N' - r) % t = 0 → W ∣ N' - N → Q (.ref p2) H' else ∀ H',Same H H' → Q .non H')
set_option maxHeartbeats 1000000 in
theorem xq2 (T:Txt K mg A):FnOk P w K mg base CX0 3 A.xrx A.xrH ["so_far", "rest", "turn"] (xrk A):=by
  have xc8:=xcL (P:=P) (w:=w) (base:=base) T
  have xmQ:=xlX (P:=P) (w:=w) (base:=base) T
  have xc7:=xhX (P:=P) (w:=w) (base:=base) T
  refine T.xrr.ok xrf (fun vs H Q E h=>?_) (fun cdv Ar outer s H vs Q E hr h=>?_)
  · obtain ⟨p,N,W,r,t,rfl,_⟩:=h
    rfl
  obtain ⟨p,N,W,r,t,rfl,⟨dx,hp⟩,hN0,hN1,ht,q⟩:=h
  have hm0:=Int.emod_nonneg W (show t ≠ 0 by omega)
  have hm1:=Int.emod_lt_of_pos W (show 0 < t by omega)
  refine ⟨_,(@pss_cons _ _ _ _ _ (@ps_set _ _ (3) _ _ _ _ xrf.nd rfl (Or.inl rfl) (@pe_call _ _ _ _ _ _ _ _ _ _ _ _ _ _ _ _ xc8 (hr.mono (by decide)) rfl T.xdH T.xdD T.xbZ .nil pass0 (@pa_consN _ _ _ _ _ (@pe_op _ _ _ _ _ _ _ _ op_mod (@pe_fld _ _ _ _ _ (@pv _ 0 _ _ (by rfl) (Or.inl rfl) (by decide) (by decide)) (by rfl)) (@pv _ 2 _ _ (by rfl) (Or.inl rfl) (by decide) (by decide))) (@pa_consN _ _ _ _ _ (@pv _ 2 _ _ (by rfl) (Or.inl rfl) (by decide) (by decide)) (@pa_nil _) (by rfl)) (by rfl)) (by decide) (by rfl) (by rfl)) (by rfl) (Or.inl rfl)) (@pss_cons _ _ _ _ _ (@ps_set _ _ (4) _ _ _ _ xrf.nd rfl (Or.inl rfl) (@pe_ix _ _ _ _ _ _ _ ix_tup (@pv _ 3 _ _ (by rfl) (Or.inl rfl) (by decide) (by decide)) (@pe_int _ _ _ _) (fun _ _=>rfl)) (by rfl) (Or.inl rfl)) (@pss_cons _ _ _ _ _ (@ps_set _ _ (5) _ _ _ _ xrf.nd rfl (Or.inl rfl) (@pe_op _ _ _ _ _ _ _ _ op_mod (@pe_op _ _ _ _ _ _ _ _ op_sub (@pv _ 1 _ _ (by rfl) (Or.inl rfl) (by decide) (by decide)) (@pe_fld _ _ _ _ _ (@pv _ 0 _ _ (by rfl) (Or.inl rfl) (by decide) (by decide)) (by rfl))) (@pv _ 2 _ _ (by rfl) (Or.inl rfl) (by decide) (by decide))) (by rfl) (Or.inl rfl)) (@pss_cons _ _ _ _ _ (@ps_if _ _ _ _ _ _ _ _ (@pt_not _ _ _ _ (@pt_val _ _ _ (@pe_call _ _ _ _ _ _ _ _ _ _ _ _ _ _ _ _ xmQ (hr.mono (by decide)) rfl T.xom T.xn5 T.xkC .nil pass0 (@pa_consN _ _ _ _ _ (@pv _ 4 _ _ (by rfl) (Or.inl rfl) (by decide) (by decide)) (@pa_consN _ _ _ _ _ (@pv _ 5 _ _ (by rfl) (Or.inl rfl) (by decide) (by decide)) (@pa_nil _) (by rfl)) (by rfl)) (by decide) (by rfl) (by rfl)) (by intro _; rfl))) (@pss_one _ _ _ (@ps_ret _ _ _ _ (@pe_non _ _ _))) (@pss_nil _)) (@pss_cons _ _ _ _ _ (@ps_set _ _ (6) _ _ _ _ xrf.nd rfl (Or.inl rfl) (@pe_op _ _ _ _ _ _ _ _ op_fdiv (@pv _ 2 _ _ (by rfl) (Or.inl rfl) (by decide) (by decide)) (@pv _ 4 _ _ (by rfl) (Or.inl rfl) (by decide) (by decide))) (by rfl) (Or.inl rfl)) (@pss_cons _ _ _ _ _ (@ps_set _ _ (7) _ _ _ _ xrf.nd rfl (Or.inl rfl) (@pe_op _ _ _ _ _ _ _ _ op_mod (@pe_op _ _ _ _ _ _ _ _ op_mul (@pe_op _ _ _ _ _ _ _ _ op_fdiv (@pv _ 5 _ _ (by rfl) (Or.inl rfl) (by decide) (by decide)) (@pv _ 4 _ _ (by rfl) (Or.inl rfl) (by decide) (by decide))) (@pe_ix _ _ _ _ _ _ _ ix_tup (@pv _ 3 _ _ (by rfl) (Or.inl rfl) (by decide) (by decide)) (@pe_int _ _ _ _) (fun _ _=>rfl))) (@pv _ 6 _ _ (by rfl) (Or.inl rfl) (by decide) (by decide))) (by rfl) (Or.inl rfl)) (@pss_one _ _ _ (@ps_ret _ _ _ _ (@pe_make _ _ _ _ _ _ _ _ _ _ _ _ _ _ _ _ _ T.xqU xc7 (hr.mono (by decide)) rfl T.xr7 T.xbY .nil pass0 (@pa_consN _ _ _ _ _ (@pe_op _ _ _ _ _ _ _ _ op_add (@pe_fld _ _ _ _ _ (@pv _ 0 _ _ (by rfl) (Or.inl rfl) (by decide) (by decide)) (by rfl)) (@pe_op _ _ _ _ _ _ _ _ op_mul (@pv _ 7 _ _ (by rfl) (Or.inl rfl) (by decide) (by decide)) (@pe_fld _ _ _ _ _ (@pv _ 0 _ _ (by rfl) (Or.inl rfl) (by decide) (by decide)) (by rfl)))) (@pa_consN _ _ _ _ _ (@pe_op _ _ _ _ _ _ _ _ op_mul (@pe_fld _ _ _ _ _ (@pv _ 0 _ _ (by rfl) (Or.inl rfl) (by decide) (by decide)) (by rfl)) (@pv _ 6 _ _ (by rfl) (Or.inl rfl) (by decide) (by decide))) (@pa_nil _) (by rfl)) (by rfl)) (by decide) (by rfl) (by rfl)))))))))),?_⟩
  refine ⟨_,rfl,p,A.xrA,dx,_,_,rfl,hp,T.xqs,T.xhH,rfl,_,rfl,_,_,rfl,rfl,(by omega),_,rfl,W % t,t,rfl,⟨by omega,by omega⟩,⟨by omega,by omega⟩,fun g x y u hP hu=>?_⟩
  have s1:=same_new hu (.tup [.int g,.int x,.int y])
  have hp1:=s1 _ _ hp
  have eg:g = (Int.gcd W t:Int):=by rw [hP.g_,gcd_mod (by omega)]
  have hgt:g ∣ t:=by rw [eg]; exact Int.gcd_dvd_right ..
  have hg0:0 < g:=by
    have:g ≠ 0:=fun z=>by
      rw [z] at hgt
      have:=Int.zero_dvd.mp hgt
      omega
    have:0 ≤ g:=by rw [eg]; omega
    omega
  have hg1:g ≤ t:=Int.le_of_dvd (by omega) hgt
  refine ⟨_,rfl,u,_,_,_,rfl,rfl,SqT.of upd_same,rfl,?_⟩
  refine ⟨_,rfl,_,rfl,p,A.xrA,dx,_,_,rfl,hp1,T.xqs,T.xep,rfl,_,_,rfl,rfl,_,rfl,_,_,rfl,rfl,(by omega),?_⟩
  have m0:=Int.emod_nonneg (r - N) (show t ≠ 0 by omega)
  have m1:=Int.emod_lt_of_pos (r - N) (show 0 < t by omega)
  refine ⟨_,rfl,_,rfl,_,_,rfl,hg0,_,rfl,?_⟩
  by_cases h1:((r - N) % t) % g = 0
  case neg =>
    rw [decF h1]
    refine iteT ?_
    have h2:¬ (N - r) % (Int.gcd W t:Int) = 0:=fun z=>h1 ((miss_dvd hgt).mpr (by rw [eg]; exact z))
    rw [if_neg h2] at q
    exact q _ s1
  rw [decT h1]
  refine iteF ?_
  have h2:(N - r) % (Int.gcd W t:Int) = 0:=by rw [← eg]; exact (miss_dvd hgt).mp h1
  rw [if_pos h2] at q
  obtain ⟨j1,j2,j3,j4,j5⟩:=join_math hN0 hN1 ht.1 hP h1
  have hf1:t / g ≤ t:=Int.ediv_le_self g (by omega)
  have hf0:0 < t / g:=by
    obtain ⟨f,hf⟩:=hgt
    have hf':t / g = f:=by rw [hf]; exact Int.mul_ediv_cancel_left f (by omega)
    rw [hf']
    exact Int.pos_of_mul_pos_left (by rw [Int.mul_comm]; omega) hg0
  have q0:0 ≤ (r - N) % t / g:=Int.ediv_nonneg m0 (by omega)
  have q1:(r - N) % t / g ≤ (r - N) % t:=Int.ediv_le_self g m0
  refine ⟨_,rfl,_,rfl,_,_,rfl,rfl,⟨hg0,by omega⟩,?_⟩
  refine ⟨_,rfl,_,rfl,_,_,rfl,rfl,⟨hg0,by omega⟩,_,rfl,u,_,_,_,rfl,rfl,SqT.of upd_same,rfl,_,_,rfl,rfl,.inl ⟨by omega,by omega⟩,_,rfl,_,_,rfl,rfl,hf0,?_⟩
  have t0:=Int.emod_nonneg ((r - N) % t / g * x) (show t / g ≠ 0 by omega)
  have t1:=Int.emod_lt_of_pos ((r - N) % t / g * x) hf0
  refine ⟨_,rfl,p,A.xrA,dx,_,_,rfl,hp1,T.xqs,T.xep,rfl,_,rfl,_,rfl,p,A.xrA,dx,_,_,rfl,hp1,T.xqs,T.xhH,rfl,_,_,rfl,rfl,.inl ⟨by omega,by omega⟩,_,_,rfl,rfl,_,rfl,p,A.xrA,dx,_,_,rfl,hp1,T.xqs,T.xhH,rfl,_,rfl,_,_,rfl,rfl,.inr ⟨by omega,by omega⟩,?_⟩
  refine make2 fun p2 H' s2 hp2 ho=>?_
  have ho:ObjAt H' p2 A.xrA [("number", .int (N + (r - N) % t / g * x % (t / g) * W)),("turn", .int (W * (t / g)))]:=ho
  rw [j1] at ho j3
  exact q p2 _ H' (s1.trans s2) (s1.free hp2) ho j2 j3 j4 j5
end
end W06
set_option Elab.async false
set_option linter.all false
set_option maxRecDepth 100000
namespace W06
open PySem L2
section
variable {P:Program} {w:World} {K:PySem.W.Frag} {mg:Str → Option Value} {base:Heap} {A:Adr}
theorem make2v {C:Addr} {f g:Str} {x y:V} {H:Hp} {QQ:VK} {E:XK} {p dx:Addr} (hp:H p = none) (hd:H dx = none) (h:∀ H',Same H H' → ObjAt H' p C [(f,x),(g,y)] → QQ .non H') :
    sp_init2 C f g (.ref p :: ([x,y] ++ [])) (upd (upd H dx (.own p)) p (.ins C dx [])) QQ E :=
  ⟨p,dx,x,y,rfl,upd_same,fun H' ho kp=>h H' (fun b o e=>kp b o (by rw [upd_ne (ne_of_none e hp),upd_ne (ne_of_none e hd)]; exact e) (ne_of_none e hp)) ho⟩
theorem atI_z {x:V} {xs:List V}:atI (x :: xs) 0 = some x:=by
  unfold atI ixN
  rw [if_pos (by decide),if_pos (by rw [List.length_cons]; omega)]
  rfl
theorem clash_nat {rs:List (Int × Int)} {i j:Nat} {p q:Int × Int} (hij:i < j) (hp:rs[i]? = some p) (hq:rs[j]? = some q):clashShows (i:Int) (j:Int) rs = !decide ((p.1 - q.1) % (Int.gcd p.2 q.2:Int) = 0):=by
  have hj:=(List.getElem?_eq_some_iff.mp hq).1
  unfold clashShows
  rw [decT (show (0:Int) ≤ (i:Int) by omega),decT (show (i:Int) < (j:Int) by omega),decT (show (j:Int) < (rs.length:Int) by omega)]
  rw [show ((i:Int)).toNat = i by omega,show ((j:Int)).toNat = j by omega,hp,hq]
  rfl
theorem lcmL_pos:∀ (ts:List Int) (w:Int),0 < w → (∀ t ∈ ts,0 < t) → 0 < ts.foldl (fun w t=>w / (Int.gcd w t:Int) * t) w
  | [],_,hw,_=>hw
  | t :: ts,w,hw,h=>by
    refine lcmL_pos ts _ ?_ fun x hx=>h x (List.mem_cons_of_mem _ hx)
    have ht:=h t List.mem_cons_self
    refine Int.mul_pos ?_ ht
    have hg:(Int.gcd w t:Int) ∣ w:=Int.gcd_dvd_left ..
    have hg0:0 < (Int.gcd w t:Int):=by
      have:Int.gcd w t ≠ 0:=fun z=>by
        have:=(Int.gcd_eq_zero_iff.mp z).1
        omega
      omega
    obtain ⟨c,hc⟩:=hg
    have e:w / (Int.gcd w t:Int) = c:=by
      have:=Int.mul_ediv_cancel_left c (show (Int.gcd w t:Int) ≠ 0 by omega)
      rw [← hc] at this
      exact this
    rw [e]
    exact Int.pos_of_mul_pos_left (by rw [Int.mul_comm,← hc]; exact hw) hg0
theorem lcm_step {w t:Int} (hw:0 < w) (ht:0 < t):w / (Int.gcd w t:Int) * t = ((Nat.lcm w.natAbs t.natAbs:Nat):Int):=by
  have hg:(Int.gcd w t:Int) ∣ w:=Int.gcd_dvd_left ..
  have hg0:0 < (Int.gcd w t:Int):=by
    have:Int.gcd w t ≠ 0:=fun z=>by
      have:=(Int.gcd_eq_zero_iff.mp z).1
      omega
    omega
  have h1:(Int.gcd w t:Int) * (w / (Int.gcd w t:Int) * t) = w * t:=by
    rw [← Int.mul_assoc,Int.mul_ediv_cancel' hg]
  have h2:(Int.gcd w t:Int) * ((Nat.lcm w.natAbs t.natAbs:Nat):Int) = w * t:=by
    have:Nat.gcd w.natAbs t.natAbs * Nat.lcm w.natAbs t.natAbs = w.natAbs * t.natAbs:=Nat.gcd_mul_lcm _ _
    have h3:((Nat.gcd w.natAbs t.natAbs * Nat.lcm w.natAbs t.natAbs:Nat):Int) = ((w.natAbs * t.natAbs:Nat):Int):=by rw [this]
    rw [Int.natCast_mul,Int.natCast_mul] at h3
    rw [show (w.natAbs:Int) = w by omega,show (t.natAbs:Int) = t by omega] at h3
    exact h3
  exact Int.eq_of_mul_eq_mul_left (show (Int.gcd w t:Int) ≠ 0 by omega) (h1.trans h2.symm)
theorem gcd_lcmL:∀ (ts:List Int) (w t x:Int),0 < w → (∀ u ∈ ts,0 < u) → 0 < t → (Int.gcd w t:Int) ∣ x → (∀ u ∈ ts,(Int.gcd u t:Int) ∣ x) → (Int.gcd (ts.foldl (fun w t=>w / (Int.gcd w t:Int) * t) w) t:Int) ∣ x
  | [],_,_,_,_,_,_,h,_=>h
  | u :: ts,w,t,x,hw,hu,ht,h,hs=>by
    have hu0:=hu u List.mem_cons_self
    refine gcd_lcmL ts _ t x ?_ (fun y hy=>hu y (List.mem_cons_of_mem _ hy)) ht ?_ fun y hy=>hs y (List.mem_cons_of_mem _ hy)
    · exact lcmL_pos [u] w hw fun y hy=>by rw [List.mem_singleton.mp hy]; exact hu0
    · show ((Int.gcd (w / (Int.gcd w u:Int) * u) t:Nat):Int) ∣ x
      rw [lcm_step hw hu0]
      show ((Nat.gcd (Nat.lcm w.natAbs u.natAbs) t.natAbs:Nat):Int) ∣ x
      exact Wr.gcd_lcm_dvd (by omega) (by omega) (by omega) h (hs u List.mem_cons_self)
theorem dvd_lcmL:∀ (ts:List Int) (w:Int),0 < w → (∀ u ∈ ts,0 < u) → w ∣ ts.foldl (fun w t=>w / (Int.gcd w t:Int) * t) w ∧ ∀ u ∈ ts,u ∣ ts.foldl (fun w t=>w / (Int.gcd w t:Int) * t) w
  | [],_,_,_=>⟨Int.dvd_refl _,fun _ h=>nomatch h⟩
  | u :: ts,w,hw,hu=>by
    have hu0:=hu u List.mem_cons_self
    have hp:=lcmL_pos [u] w hw fun y hy=>by rw [List.mem_singleton.mp hy]; exact hu0
    obtain ⟨h1,h2⟩:=dvd_lcmL ts (w / (Int.gcd w u:Int) * u) hp fun y hy=>hu y (List.mem_cons_of_mem _ hy)
    have e:=lcm_step hw hu0
    have d1:w ∣ w / (Int.gcd w u:Int) * u:=by rw [e]; exact Int.natAbs_dvd.mp (Int.ofNat_dvd.mpr (Nat.dvd_lcm_left ..))
    have d2:u ∣ w / (Int.gcd w u:Int) * u:=by rw [e]; exact Int.natAbs_dvd.mp (Int.ofNat_dvd.mpr (Nat.dvd_lcm_right ..))
    refine ⟨Int.dvd_trans d1 h1,fun y hy=>?_⟩
    rcases List.mem_cons.mp hy with z | hy
    · rw [z]; exact Int.dvd_trans d2 h1
    · exact h2 y hy
theorem numShows_iff {N W:Int} {rs:List (Int × Int)}:numShows N W rs = true ↔ (0 ≤ N ∧ N < W ∧ (∀ p ∈ rs,(N - p.1) % p.2 = 0) ∧ W = lcmL (rs.map (·.2))):=by
  unfold numShows
  rw [Bool.and_eq_true,Bool.and_eq_true,Bool.and_eq_true,List.all_eq_true]
  simp only [decide_eq_true_eq]
  exact ⟨fun ⟨⟨⟨a,b⟩,c⟩,d⟩=>⟨a,b,c,d⟩,fun ⟨a,b,c,d⟩=>⟨⟨⟨a,b⟩,c⟩,d⟩⟩
theorem some_clash {rs:List (Int × Int)} (hO:RsOk rs) {k:Nat} {q:Int × Int} (hq:rs[k]? = some q) {N W:Int} (hN:numShows N W (rs.take k) = true) (hc:¬ (N - q.1) % (Int.gcd W q.2:Int) = 0):∃ j,j < k ∧ clashShows (j:Int) (k:Int) rs = true:=by
  apply Classical.byContradiction
  intro hno
  obtain ⟨_,_,hl,hW⟩:=numShows_iff.mp hN
  have hkl:=(List.getElem?_eq_some_iff.mp hq).1
  have hq2:=hO q (List.mem_of_getElem? hq)
  apply hc
  apply Int.emod_eq_zero_of_dvd
  rw [hW]
  refine gcd_lcmL _ 1 q.2 (N - q.1) (by decide) (fun u hu=>?_) (by omega) ?_ (fun u hu=>?_)
  · obtain ⟨p,hp,rfl⟩:=List.mem_map.mp hu
    have:=hO p (List.mem_of_mem_take hp)
    omega
  · rw [show Int.gcd 1 q.2 = 1 from by simp [Int.gcd]]; exact Int.one_dvd _
  · obtain ⟨p,hp,rfl⟩:=List.mem_map.mp hu
    obtain ⟨j,hj,e⟩:=List.mem_iff_getElem.mp hp
    rw [List.length_take] at hj
    have hjk:j < k:=by omega
    have hpj:rs[j]? = some p:=by
      rw [← e,List.getElem_take]
      exact List.getElem?_eq_getElem (by omega)
    have hcl:=clash_nat hjk hpj hq
    have hz:clashShows (j:Int) (k:Int) rs = false:=Bool.eq_false_iff.mpr fun z=>hno ⟨j,hjk,z⟩
    rw [hz] at hcl
    have hd:(p.1 - q.1) % (Int.gcd p.2 q.2:Int) = 0:=by
      apply Classical.byContradiction
      intro z
      rw [decF z] at hcl
      cases hcl
    have a1:(Int.gcd p.2 q.2:Int) ∣ N - p.1:=Int.dvd_trans (Int.gcd_dvd_left ..) (Int.dvd_of_emod_eq_zero (hl p hp))
    have a2:=Int.dvd_of_emod_eq_zero hd
    have e2:N - q.1 = (N - p.1) + (p.1 - q.1):=by omega
    rw [e2]
    exact Int.dvd_add a1 a2
def xaE (A:Adr):Sp:=fun vs H Q _=>∃ (a:Addr) (k:Nat) (rs:List (Int × Int)),vs = [.ref a,.int (k:Int)] ∧ PrsAt H a rs ∧ RsOk rs ∧ rs.length ≤ 1000 ∧ k < rs.length ∧ (∃ j,j < k ∧ clashShows (j:Int) (k:Int) rs = true) ∧
  ∀ p i j H',Same H H' → H p = none → ObjAt H' p A.xsw [("one", .int i),("other", .int j)] → clashShows i j rs = true → Q (.ref p) H'
set_option maxHeartbeats 1000000 in
theorem xaw (T:Txt K mg A):FnOk P w K mg base CX0 4 A.xaK A.xaO ["rests", "place"] (xaE A):=by
  have xd0:=xjV (P:=P) (w:=w) (base:=base) T
  have xiF:=xhV (P:=P) (w:=w) (base:=base) T
  refine T.xaG.ok xaA (fun vs H Q E h=>?_) (fun cdv Ar outer s H vs Q E hr h=>?_)
  · obtain ⟨a,k,rs,rfl,_⟩:=h
    rfl
  obtain ⟨a,k,rs,rfl,ha,hO,hlen,hk,⟨j0,hj0,hj1⟩,q⟩:=h
  refine ⟨_,(@pss_cons _ _ _ _ _ (@ps_setComp _ _ (["rests", "place", "earlier"]) ([some 0,some 1,none]) _ _ _ _ _ _ _ _ _ _ (2) _ _ _ xaA.nd rfl rfl xaa rfl (@pi_range1 _ _ _ _ _ _ rfl T.b_range (@pa_consN _ _ _ _ _ (@pv _ 1 _ _ (by rfl) (Or.inr (Or.inl rfl)) (by decide) (by decide)) (@pa_nil _) (by rfl)) (by rfl)) (fun z=>(@pg_name _ _ (2) _ xaa.nd rfl (Or.inl rfl) (by exact .inr rfl))) (sets_name 2) (by decide) (fun z=>(@pif_one _ _ _ (@pt_val _ _ _ (@pe_meth _ _ _ _ _ _ _ _ _ _ _ _ _ _ _ _ _ _ _ _ (@pe_make _ _ _ _ _ _ _ _ _ _ _ _ _ _ _ _ _ T.xsb xd0 (hr.mono (by decide)) rfl T.xsT T.xde .nil pass0 (@pa_consN _ _ _ _ _ (@pv _ 2 _ _ (by rfl) (by exact .inl rfl) (by decide) (by decide)) (@pa_consN _ _ _ _ _ (@pv _ 1 _ _ (by rfl) (by exact .inr (.inl rfl)) (by decide) (by decide)) (@pa_nil _) (by rfl)) (by rfl)) (by decide) (by rfl) (by rfl)) T.xrE T.xhD xiF (hr.mono (by decide)) T.xgu .nil pass0 (@pa_consN _ _ _ _ _ (@pv _ 0 _ _ (by rfl) (by exact .inr (.inl rfl)) (by decide) (by decide)) (@pa_nil _) (by rfl)) (by rfl) (by rfl) (by rfl)) (by intro _; rfl)))) (fun z=>(@pv _ 2 _ _ (by rfl) (by exact .inl rfl) (by decide) (by decide))) (by rfl) (by intro _; rfl)) (@pss_one _ _ _ (@ps_ret _ _ _ _ (@pe_make _ _ _ _ _ _ _ _ _ _ _ _ _ _ _ _ _ T.xsb xd0 (hr.mono (by decide)) rfl T.xsT T.xde .nil pass0 (@pa_consN _ _ _ _ _ (@pe_ix _ _ _ _ _ _ _ ix_list (@pv _ 2 _ _ (by rfl) (Or.inl rfl) (by decide) (by decide)) (@pe_int _ _ _ _) (fun _ _=>rfl)) (@pa_consN _ _ _ _ _ (@pv _ 1 _ _ (by rfl) (Or.inr (Or.inl rfl)) (by decide) (by decide)) (@pa_nil _) (by rfl)) (by rfl)) (by decide) (by rfl) (by rfl))))),?_⟩
  refine ⟨_,rfl,(k:Int),rfl,by omega,by omega,?_⟩
  rw [show ((k:Int)).toNat = k by omega]
  refine comp_rangeF (lo:=0) (n:=k) (fun i ys H'=>Same H H' ∧ ys = ((List.range i).filter fun (j:Nat)=>clashShows (j:Int) (k:Int) rs).map fun (j:Nat)=>V.int (j:Int)) ⟨Same.refl _,rfl⟩ (small100 (by omega)) ?_ ?_ ?_
  · rintro i ys H' hi ⟨hs,rfl⟩
    rw [List.length_map]
    exact Nat.le_trans (List.length_filter_le ..) (by rw [List.length_range]; exact Nat.le_refl _)
  · rintro i ys H' hi ⟨hs,rfl⟩
    refine ⟨_,rfl,_,rfl,?_⟩
    intro p dx0 hp hd0 hne0
    refine make2v hp hd0 fun H2 s2 ho=>⟨rfl,?_⟩
    obtain ⟨dx,hop⟩:=id ho
    refine ⟨p,dx,_,rfl,hop,rfl,_,rfl,p,a,_,_,rs,rfl,ho,PrsAt.pairs (ha.same (hs.trans s2)),hO,hlen,fun H3 s3=>⟨_,rfl,?_⟩⟩
    have s4:=(hs.trans s2).trans s3
    rw [List.range_succ,List.filter_append,List.map_append]
    rw [show (0:Int) + (i:Int) = (i:Int) by omega]
    by_cases hc:clashShows (i:Int) (k:Int) rs = true
    · rw [hc]
      refine iteT ⟨_,rfl,s4,?_⟩
      rw [List.filter_cons_of_pos (by exact hc)]
      rfl
    · rw [Bool.eq_false_iff.mpr hc]
      refine iteF ⟨s4,?_⟩
      rw [List.filter_cons_of_neg (by exact hc)]
      simp
  · rintro ys H' ⟨hs,rfl⟩ l hl
    have hmem:j0 ∈ (List.range k).filter fun (j:Nat)=>clashShows (j:Int) (k:Int) rs:=List.mem_filter.mpr ⟨List.mem_range.mpr hj0,hj1⟩
    cases hf:(List.range k).filter fun (j:Nat)=>clashShows (j:Int) (k:Int) rs with
    | nil=>rw [hf] at hmem; cases hmem
    | cons j1 js =>
      have hj1':j1 ∈ (List.range k).filter fun (j:Nat)=>clashShows (j:Int) (k:Int) rs:=by rw [hf]; exact List.mem_cons_self
      have hcl:=(List.mem_filter.mp hj1').2
      refine ⟨_,rfl,l,_,_,_,rfl,rfl,SqL.of upd_same,atI_z,_,rfl,?_⟩
      intro p dx0 hp hd0 hne0
      refine make2v hp hd0 fun H2 s2 ho=>⟨rfl,?_⟩
      have s3:=hs.trans (same_new hl (.lst ((j1 :: js).map fun (j:Nat)=>V.int (j:Int))))
      exact q p _ _ H2 (s3.trans s2) (s3.free hp) ho hcl
def ToldAt (A:Adr) (H:Hp) (p:Addr) (c:Bool) (x y:Int):Prop:=if c = true then ObjAt H p A.xsw [("one", .int x),("other", .int y)] else ObjAt H p A.xrA [("number", .int x),("turn", .int y)]
def toldShows (c:Bool) (x y:Int) (rs:List (Int × Int)):Bool:=if c = true then clashShows x y rs else numShows x y rs
def xtj (A:Adr):Sp:=fun vs H Q _=>∃ (a:Addr) (rs:List (Int × Int)),vs = [.ref a] ∧ PrsAt H a rs ∧ RsOk rs ∧ rs.length ≤ 1000 ∧ ∀ p c x y H',Same H H' → ToldAt A H' p c x y → toldShows c x y rs = true → Q (.ref p) H'
theorem numShows_step {rs:List (Int × Int)} (hO:RsOk rs) {k:Nat} {q:Int × Int} (hq:rs[k]? = some q) {N W N':Int} (h:numShows N W (rs.take k) = true) (h0:0 ≤ N') (h1:N' < W / (Int.gcd W q.2:Int) * q.2) (h2:(N' - q.1) % q.2 = 0) (h3:W ∣ N' - N) :
    numShows N' (W / (Int.gcd W q.2:Int) * q.2) (rs.take (k + 1)) = true:=by
  obtain ⟨a,b,c,d⟩:=numShows_iff.mp h
  refine numShows_iff.mpr ⟨h0,h1,?_,?_⟩
  · rw [take_snoc hq]
    intro p hp
    rcases List.mem_append.mp hp with hp | hp
    · have hpW:p.2 ∣ W:=by
        rw [d]
        exact (dvd_lcmL _ 1 (by decide) (fun u hu=>by
          obtain ⟨z,hz,rfl⟩:=List.mem_map.mp hu
          have:=hO z (List.mem_of_mem_take hz)
          omega)).2 p.2 (List.mem_map.mpr ⟨p,hp,rfl⟩)
      apply Int.emod_eq_zero_of_dvd
      have e:N' - p.1 = (N' - N) + (N - p.1):=by omega
      rw [e]
      exact Int.dvd_add (Int.dvd_trans hpW h3) (Int.dvd_of_emod_eq_zero (c p hp))
    · rw [List.mem_singleton.mp hp]; exact h2
  · rw [take_snoc hq,List.map_append]
    show _ = lcmL ((rs.take k).map (·.2) ++ [q.2])
    rw [← lcmL_snoc,← d]
set_option maxHeartbeats 1000000 in
theorem xs4 (T:Txt K mg A):FnOk P w K mg base CX0 6 A.xtu A.xtG ["rests"] (xtj A):=by
  have xmO:=xlV (P:=P) (w:=w) (base:=base) T
  have xru:=xq2 (P:=P) (w:=w) (base:=base) T
  have xaI:=xaw (P:=P) (w:=w) (base:=base) T
  have xc7:=xhX (P:=P) (w:=w) (base:=base) T
  refine T.xto.ok xtd (fun vs H Q E h=>?_) (fun cdv Ar outer s H vs Q E hr h=>?_)
  · obtain ⟨a,rs,rfl,_⟩:=h
    rfl
  obtain ⟨a,rs,rfl,ha,hO,hlen,q⟩:=h
  refine ⟨_,(@pss_cons _ _ _ _ _ (@ps_if _ _ _ _ _ _ _ _ (@pt_not _ _ _ _ (@pt_val _ _ _ (@pe_call _ _ _ _ _ _ _ _ _ _ _ _ _ _ _ _ xmO (hr.mono (by decide)) rfl T.xok T.xn3 T.xkA .nil pass0 (@pa_consN _ _ _ _ _ (@pv _ 0 _ _ (by rfl) (Or.inl rfl) (by decide) (by decide)) (@pa_nil _) (by rfl)) (by decide) (by rfl) (by rfl)) (by intro _; rfl))) (@pss_one _ _ _ (@ps_never _ _)) (@pss_nil _)) (@pss_cons _ _ _ _ _ (@ps_set _ _ (1) _ _ _ _ xtd.nd rfl (Or.inl rfl) (@pe_make _ _ _ _ _ _ _ _ _ _ _ _ _ _ _ _ _ T.xqU xc7 (hr.mono (by decide)) rfl T.xr7 T.xbY .nil pass0 (@pa_consN _ _ _ _ _ (@pe_int _ _ _ _) (@pa_consN _ _ _ _ _ (@pe_int _ _ _ _) (@pa_nil _) (by rfl)) (by rfl)) (by decide) (by rfl) (by rfl)) (by rfl) (Or.inl rfl)) (@pss_cons _ _ _ _ _ (@ps_for _ _ _ _ _ _ _ _ PassesOwn.never rfl (@pi_enumX _ _ _ _ _ _ _ _ rfl T.b_enumerate (@pa_consN _ _ _ _ _ (@pv _ 0 _ _ (by rfl) (Or.inl rfl) (by decide) (by decide)) (@pa_nil _) (by rfl)) (by rfl)) (@pg_tup _ _ _ _ _ (2) rfl (@pgs_cons _ _ _ _ _ (@pg_name _ _ (2) _ xtd.nd rfl (Or.inl rfl) (Or.inl rfl)) (@pgs_cons _ _ _ _ _ (@pg_name _ _ (3) _ xtd.nd rfl (Or.inl rfl) (Or.inl rfl)) (@pgs_nil _) (by rfl)) (by rfl)) (by rfl) (by rfl)) (@pss_cons _ _ _ _ _ (@ps_set _ _ (4) _ _ _ _ xtd.nd rfl (Or.inl rfl) (@pe_call _ _ _ _ _ _ _ _ _ _ _ _ _ _ _ _ xru (hr.mono (by decide)) rfl T.xr9 T.xrR T.xql .nil pass0 (@pa_consN _ _ _ _ _ (@pv _ 1 _ _ (by rfl) (Or.inl rfl) (by decide) (by decide)) (@pa_consN _ _ _ _ _ (@pe_ix _ _ _ _ _ _ _ ix_tup (@pv _ 3 _ _ (by rfl) (Or.inl rfl) (by decide) (by decide)) (@pe_int _ _ _ _) (fun _ _=>rfl)) (@pa_consN _ _ _ _ _ (@pe_ix _ _ _ _ _ _ _ ix_tup (@pv _ 3 _ _ (by rfl) (Or.inl rfl) (by decide) (by decide)) (@pe_int _ _ _ _) (fun _ _=>rfl)) (@pa_nil _) (by rfl)) (by rfl)) (by rfl)) (by decide) (by rfl) (by rfl)) (by rfl) (Or.inl rfl)) (@pss_cons _ _ _ _ _ (@ps_if _ _ _ _ _ _ _ _ (@pt_cmpR _ _ _ _ _ _ _ _ op_isN (@pv _ 4 _ _ (by rfl) (Or.inl rfl) (by decide) (by decide)) (@pe_non _ _ _) (nomark _)) (@pss_one _ _ _ (@ps_ret _ _ _ _ (@pe_call _ _ _ _ _ _ _ _ _ _ _ _ _ _ _ _ xaI (hr.mono (by decide)) rfl T.xaW T.xaS T.xai .nil pass0 (@pa_consN _ _ _ _ _ (@pv _ 0 _ _ (by rfl) (Or.inl rfl) (by decide) (by decide)) (@pa_consN _ _ _ _ _ (@pv _ 2 _ _ (by rfl) (Or.inl rfl) (by decide) (by decide)) (@pa_nil _) (by rfl)) (by rfl)) (by decide) (by rfl) (by rfl)))) (@pss_nil _)) (@pss_one _ _ _ (@ps_set _ _ (1) _ _ _ _ xtd.nd rfl (Or.inl rfl) (@pv _ 4 _ _ (by rfl) (Or.inl rfl) (by decide) (by decide)) (by rfl) (Or.inl rfl))))) (by intro _; rfl)) (@pss_one _ _ _ (@ps_ret _ _ _ _ (@pv _ 1 _ _ (by rfl) (Or.inl rfl) (by decide) (by decide))))))),?_⟩
  refine ⟨_,rfl,a,rs,rfl,ha,hO,hlen,fun H1 s1=>⟨_,rfl,iteF ?_⟩⟩
  intro p00 dx0 hp00 hd00 hne00
  refine make2v hp00 hd00 fun H2 s2 ho0=>⟨rfl,?_⟩
  have s12:=s1.trans s2
  obtain ⟨as,hL,hP⟩:=id ha
  have hal:=hP.length
  refine ⟨_,rfl,a,rfl,⟨_,SqX.of (s12 _ _ hL)⟩,for_enum (K:=K) (a:=a) (xs:=as.map V.ref) (fun i σ H'=>∃ (p:Addr) (N W:Int) (f1 f2 f3:Option V),σ = [some (.ref a),some (.ref p),f1,f2,f3] ∧ Same H H' ∧ ObjAt H' p A.xrA [("number", .int N),("turn", .int W)] ∧ numShows N W (rs.take i) = true)
    ⟨p00,0,1,_,_,_,rfl,s12,ho0,rfl⟩ (fun i σ H' _ ⟨_,_,_,_,_,_,_,e,_⟩=>SqL.of (e _ _ hL)) ?_ ?_⟩
  · rintro i x σ H' u hi ⟨p,N,W,f1,f2,f3,rfl,sH,ho,hN⟩ hu
    obtain ⟨b,r,rfl,hb,hr',hq⟩:=prs_get hP hi
    have s3:=same_new hu (.tup [.int (i:Nat),.ref b])
    have s4:=sH.trans s3
    obtain ⟨n0,n1,n2,n3⟩:=numShows_iff.mp hN
    have hr2:=hO r (List.mem_of_getElem? hr')
    refine ⟨u,_,rfl,SqT.of upd_same,rfl,_,_,rfl,_,_,rfl,rfl,?_⟩
    refine ⟨_,rfl,_,rfl,b,_,_,_,rfl,rfl,SqT.of (s4 _ _ hq),rfl,_,rfl,b,_,_,_,rfl,rfl,SqT.of (s4 _ _ hq),rfl,p,N,W,r.1,r.2,rfl,(let ⟨dx,z⟩:=ho; ⟨dx,s3 _ _ z⟩),n0,n1,⟨by omega,by omega⟩,?_⟩
    by_cases hc:(N - r.1) % (Int.gcd W r.2:Int) = 0
    · rw [if_pos hc]
      intro p2 N' H3 s5 hp2 ho2 b0 b1 b2 b3
      refine ⟨_,rfl,rfl,_,rfl,?_⟩
      rw [decF (show ¬ V.ref p2 = V.non from fun z=>nomatch z)]
      refine iteF ⟨_,rfl,p2,N',_,_,_,_,rfl,s4.trans s5,ho2,numShows_step hO hr' hN b0 b1 b2 b3⟩
    · rw [if_neg hc]
      intro H3 s5
      refine ⟨_,rfl,rfl,_,rfl,?_⟩
      rw [decT rfl]
      refine iteT ⟨_,rfl,_,rfl,a,i,rs,rfl,ha.same (s4.trans s5),hO,hlen,(List.getElem?_eq_some_iff.mp hr').1,some_clash hO hr' hN hc,fun p2 i2 j2 H4 s6 hp2 ho2 hc2=>?_⟩
      exact q p2 true i2 j2 H4 ((s4.trans s5).trans s6) ho2 hc2
  · rintro σ H' ⟨p,N,W,f1,f2,f3,rfl,sH,ho,hN⟩
    rw [List.length_map,hal,List.take_length] at hN
    exact ⟨_,rfl,q p false N W H' sH ho hN⟩
end
end W06
set_option Elab.async false
set_option linter.all false
set_option maxRecDepth 100000
namespace W06
open PySem L2
section
variable {P:Program} {w:World} {K:PySem.W.Frag} {mg:Str → Option Value} {base:Heap} {A:Adr}
theorem atI_int {ns:List Int} {i:Int} (h0:0 ≤ i) (h1:i < ns.length):∃ v,v ∈ ns ∧ atI (ns.map V.int) i = some (.int v):=by
  have hl:i.toNat < ns.length:=by omega
  refine ⟨ns[i.toNat],List.getElem_mem hl,?_⟩
  have z:=atI_nat (xs:=ns.map V.int) (j:=i.toNat) (v:=.int ns[i.toNat]) (by rw [List.getElem?_map,List.getElem?_eq_getElem hl]; rfl)
  rw [show ((i.toNat:Nat):Int) = i by omega] at z
  exact z
def sp_cell_at (K:PySem.W.Frag):Sp:=fun vs H Q _=>∃ (a:Addr) (ns:List Int) (k:Int),vs = [.ref a,.int k] ∧ IntsAt K H a ns ∧ 0 ≤ k ∧ ∀ v,Q (.int v) H
theorem xh2 (T:Txt K mg A):FnOk P w K mg base CX0 1 A.xgl A.xgV ["_law_script", "_law_k"] (sp_cell_at K):=by
  refine T.xf9.ok xfS (fun vs H Q E h=>?_) (fun cdv Ar outer s H vs Q E hr h=>?_)
  · obtain ⟨a,ns,k,rfl,_⟩:=h
    rfl
  obtain ⟨a,ns,k,rfl,ha,hk,q⟩:=h
  refine ⟨_,(@pss_cons _ _ _ _ _ (@ps_if _ _ _ _ _ _ _ _ (@pt_cmpR _ _ _ _ _ _ _ _ op_lt (@pv _ 1 _ _ (by rfl) (Or.inl rfl) (by decide) (by decide)) (@pe_callB _ _ _ _ _ _ _ _ _ call_len_seq rfl T.b_len B.len (@pa_consN _ _ _ _ _ (@pv _ 0 _ _ (by rfl) (Or.inl rfl) (by decide) (by decide)) (@pa_nil _) (by rfl)) (by decide) (by decide) (by rfl) (by rfl)) (nomark _)) (@pss_one _ _ _ (@ps_ret _ _ _ _ (@pe_ix _ _ _ _ _ _ _ ix_list (@pv _ 0 _ _ (by rfl) (Or.inl rfl) (by decide) (by decide)) (@pv _ 1 _ _ (by rfl) (Or.inl rfl) (by decide) (by decide)) (fun _ _=>rfl)))) (@pss_nil _)) (@pss_one _ _ _ (@ps_ret _ _ _ _ (@pe_int _ _ _ _)))),?_⟩
  refine ⟨_,rfl,_,rfl,a,_,rfl,.inl ha,_,_,rfl,rfl,_,rfl,?_⟩
  rw [List.length_map]
  by_cases h1:k < (ns.length:Int)
  · rw [decT h1]
    obtain ⟨v,_,hv⟩:=atI_int hk h1
    exact iteT ⟨_,rfl,_,rfl,a,_,_,_,rfl,rfl,ha,hv,q v⟩
  · rw [decF h1]
    exact iteF (q 0)
def sp_draw:Sp:=fun vs H Q _=>∃ c k m:Int,vs = [.int c,.int k,.int m] ∧ 0 < m ∧ ∀ v H',0 ≤ v → v < m → Same H H' → Q (.int v) H'
theorem draw_prime {i:Int} (h0:0 ≤ i) (h1:i < 16):∃ v:Int,0 < v ∧ atI (List.map V.int [1000003,1000033,1000037,1000039,1000081,1000099,1000117,1000121,1000133,1000151,1000159,1000171,1000183,1000187,1000193,1000199]) i = some (.int v):=by
  obtain ⟨p,hp,ep⟩:=atI_int (ns:=[1000003,1000033,1000037,1000039,1000081,1000099,1000117,1000121,1000133,1000151,1000159,1000171,1000183,1000187,1000193,1000199]) h0 h1
  have:∀ z ∈ ([1000003,1000033,1000037,1000039,1000081,1000099,1000117,1000121,1000133,1000151,1000159,1000171,1000183,1000187,1000193,1000199]:List Int),0 < z:=by decide
  exact ⟨p,this p hp,ep⟩
set_option maxHeartbeats 1000000 in
theorem xoF (T:Txt K mg A):FnOk P w K mg base CX0 1 A.xmU A.xnw ["_law_cell", "_law_k", "_law_many"] sp_draw:=by
  refine T.xmC.ok xmf (fun vs H Q E h=>?_) (fun cdv Ar outer s H vs Q E hr h=>?_)
  · obtain ⟨c,k,m,rfl,_⟩:=h
    rfl
  obtain ⟨c,k,m,rfl,hm,q⟩:=h
  refine ⟨_,(@pss_cons _ _ _ _ _ (@ps_set _ _ (3) _ _ _ _ xmf.nd rfl (Or.inl rfl) (@pe_tupI _ _ _ _ ([1000003,1000033,1000037,1000039,1000081,1000099,1000117,1000121,1000133,1000151,1000159,1000171,1000183,1000187,1000193,1000199]) rfl) (by rfl) (Or.inl rfl)) (@pss_one _ _ _ (@ps_ret _ _ _ _ (@pe_op _ _ _ _ _ _ _ _ op_mod (@pe_op _ _ _ _ _ _ _ _ op_mod (@pe_op _ _ _ _ _ _ _ _ op_add (@pe_op _ _ _ _ _ _ _ _ op_mul (@pv _ 0 _ _ (by rfl) (Or.inl rfl) (by decide) (by decide)) (@pe_int _ _ _ _)) (@pe_op _ _ _ _ _ _ _ _ op_mul (@pv _ 1 _ _ (by rfl) (Or.inl rfl) (by decide) (by decide)) (@pe_int _ _ _ _))) (@pe_ix _ _ _ _ _ _ _ ix_tup (@pv _ 3 _ _ (by rfl) (Or.inl rfl) (by decide) (by decide)) (@pe_op _ _ _ _ _ _ _ _ op_mod (@pv _ 1 _ _ (by rfl) (Or.inl rfl) (by decide) (by decide)) (@pe_int _ _ _ _)) (fun _ _=>rfl))) (@pv _ 2 _ _ (by rfl) (Or.inl rfl) (by decide) (by decide)))))),?_⟩
  refine ⟨(by show 16 ≤ sizeLine; decide),fun t ht=>?_⟩
  have h0:=Int.emod_nonneg k (show (16:Int) ≠ 0 by decide)
  have h1:=Int.emod_lt_of_pos k (show (0:Int) < 16 by decide)
  obtain ⟨p,hp0,ep⟩:=draw_prime h0 h1
  refine ⟨_,rfl,_,_,rfl,rfl,.inr ⟨by decide,by decide⟩,_,rfl,_,_,rfl,rfl,.inr ⟨by decide,by decide⟩,_,_,rfl,rfl,_,rfl,_,rfl,_,_,rfl,rfl,(by show (0:Int) < 16; decide),?_⟩
  refine ⟨t,_,_,_,rfl,rfl,SqT.of upd_same,ep,_,_,rfl,rfl,hp0,_,rfl,_,_,rfl,rfl,hm,?_⟩
  exact q _ _ (Int.emod_nonneg _ (by omega)) (Int.emod_lt_of_pos _ hm) (same_new ht _)
def TupAt (H:Hp) (b:Addr) (p:Int × Int):Prop:=H b = some (.tup [.int p.1,.int p.2])
theorem turns_most {k:Int} (h0:0 ≤ k) (h1:k < 4):∃ m:Int,atI (List.map V.int [12,200,1000000,30]) k = some (.int m) ∧ 12 ≤ m ∧ m ≤ 1000000:=by
  have:k = 0 ∨ k = 1 ∨ k = 2 ∨ k = 3:=by omega
  rcases this with rfl | rfl | rfl | rfl
  · exact ⟨12,rfl,by decide,by decide⟩
  · exact ⟨200,rfl,by decide,by decide⟩
  · exact ⟨1000000,rfl,by decide,by decide⟩
  · exact ⟨30,rfl,by decide,by decide⟩
theorem turns_few {k:Int} (h0:0 ≤ k) (h1:k < 15):∃ m:Int,atI (List.map V.int [1,2,4,8,3,9,27,6,12,18,36,5,10,20,60]) k = some (.int m) ∧ 1 ≤ m ∧ m ≤ 1000000:=by
  obtain ⟨v,hv,e⟩:=atI_int (ns:=[1,2,4,8,3,9,27,6,12,18,36,5,10,20,60]) h0 h1
  have:∀ z ∈ ([1,2,4,8,3,9,27,6,12,18,36,5,10,20,60]:List Int),1 ≤ z ∧ z ≤ 1000000:=by decide
  exact ⟨v,e,(this v hv).1,(this v hv).2⟩
def TsOk (ts:List Int):Prop:=∀ t ∈ ts,1 ≤ t ∧ t ≤ 1000000
def sp_turns (K:PySem.W.Frag):Sp:=fun vs H Q _=>∃ (a:Addr) (ns:List Int),vs = [.ref a] ∧ IntsAt K H a ns ∧ ns.length ≤ 63 ∧
  ∀ l ts H',TsOk ts → ts.length = ns.length → H l = none → LstAt H' l ts → Same H H' → Q (.ref l) H'
set_option maxHeartbeats 2000000 in
theorem xl0 (T:Txt K mg A):FnOk P w K mg base CX0 2 A.xkl A.xk1 ["_law_script"] (sp_turns K):=by
  have xgf:=xh2 (P:=P) (w:=w) (base:=base) T
  have xmL:=xoF (P:=P) (w:=w) (base:=base) T
  refine T.xkf.ok xj8 (fun vs H Q E h=>?_) (fun cdv Ar outer s H vs Q E hr h=>?_)
  · obtain ⟨a,ns,rfl,_⟩:=h
    rfl
  obtain ⟨a,ns,rfl,ha,hlen,q⟩:=h
  refine ⟨_,(@pss_cons _ _ _ _ _ (@ps_set _ _ (1) _ _ _ _ xj8.nd rfl (Or.inl rfl) (@pe_call _ _ _ _ _ _ _ _ _ _ _ _ _ _ _ _ xmL (hr.mono (by decide)) rfl T.xoh T.xn0 T.xkx .nil pass0 (@pa_consN _ _ _ _ _ (@pe_call _ _ _ _ _ _ _ _ _ _ _ _ _ _ _ _ xgf (hr.mono (by decide)) rfl T.xhA T.xhr T.xeM .nil pass0 (@pa_consN _ _ _ _ _ (@pv _ 0 _ _ (by rfl) (Or.inl rfl) (by decide) (by decide)) (@pa_consN _ _ _ _ _ (@pe_int _ _ _ _) (@pa_nil _) (by rfl)) (by rfl)) (by decide) (by rfl) (by rfl)) (@pa_consN _ _ _ _ _ (@pe_int _ _ _ _) (@pa_consN _ _ _ _ _ (@pe_int _ _ _ _) (@pa_nil _) (by rfl)) (by rfl)) (by rfl)) (by decide) (by rfl) (by rfl)) (by rfl) (Or.inl rfl)) (@pss_cons _ _ _ _ _ (@ps_set _ _ (2) _ _ _ _ xj8.nd rfl (Or.inl rfl) (@pe_lst _ _ _ _ (@pa_nil _)) (by rfl) (Or.inl rfl)) (@pss_cons _ _ _ _ _ (@ps_for _ _ _ _ _ _ _ _ PassesOwn.never rfl (@pi_range1 _ _ _ _ _ _ rfl T.b_range (@pa_consN _ _ _ _ _ (@pe_callB _ _ _ _ _ _ _ _ _ call_len_seq rfl T.b_len B.len (@pa_consN _ _ _ _ _ (@pv _ 0 _ _ (by rfl) (Or.inl rfl) (by decide) (by decide)) (@pa_nil _) (by rfl)) (by decide) (by decide) (by rfl) (by rfl)) (@pa_nil _) (by rfl)) (by rfl)) (@pg_name _ _ (3) _ xj8.nd rfl (Or.inl rfl) (Or.inl rfl)) (@pss_cons _ _ _ _ _ (@ps_set _ _ (4) _ _ _ _ xj8.nd rfl (Or.inl rfl) (@pe_op _ _ _ _ _ _ _ _ op_add (@pe_int _ _ _ _) (@pe_call _ _ _ _ _ _ _ _ _ _ _ _ _ _ _ _ xmL (hr.mono (by decide)) rfl T.xoh T.xn0 T.xkx .nil pass0 (@pa_consN _ _ _ _ _ (@pe_ix _ _ _ _ _ _ _ ix_list (@pv _ 0 _ _ (by rfl) (Or.inl rfl) (by decide) (by decide)) (@pv _ 3 _ _ (by rfl) (Or.inl rfl) (by decide) (by decide)) (fun _ _=>rfl)) (@pa_consN _ _ _ _ _ (@pe_op _ _ _ _ _ _ _ _ op_add (@pe_op _ _ _ _ _ _ _ _ op_mod (@pv _ 3 _ _ (by rfl) (Or.inl rfl) (by decide) (by decide)) (@pe_int _ _ _ _)) (@pe_int _ _ _ _)) (@pa_consN _ _ _ _ _ (@pe_ix _ _ _ _ _ _ _ ix_tup (@pe_tupI _ _ _ _ ([12,200,1000000,30]) rfl) (@pv _ 1 _ _ (by rfl) (Or.inl rfl) (by decide) (by decide)) (fun _ _=>rfl)) (@pa_nil _) (by rfl)) (by rfl)) (by rfl)) (by decide) (by rfl) (by rfl))) (by rfl) (Or.inl rfl)) (@pss_cons _ _ _ _ _ (@ps_if _ _ _ _ _ _ _ _ (@pt_cmpR _ _ _ _ _ _ _ _ op_eqI (@pv _ 1 _ _ (by rfl) (Or.inl rfl) (by decide) (by decide)) (@pe_int _ _ _ _) (nomark _)) (@pss_one _ _ _ (@ps_set _ _ (4) _ _ _ _ xj8.nd rfl (Or.inl rfl) (@pe_ix _ _ _ _ _ _ _ ix_tup (@pe_tupI _ _ _ _ ([1,2,4,8,3,9,27,6,12,18,36,5,10,20,60]) rfl) (@pe_op _ _ _ _ _ _ _ _ op_mod (@pv _ 4 _ _ (by rfl) (Or.inl rfl) (by decide) (by decide)) (@pe_int _ _ _ _)) (fun _ _=>rfl)) (by rfl) (Or.inl rfl))) (@pss_nil _)) (@pss_one _ _ _ (@ps_expr _ _ _ _ (@pe_bm _ _ _ _ _ _ _ _ _ _ _ _ PySem.F.plainAttrs_list PySem.F.slot_list_append PySem.F.type_list_append mt_append (@pv _ 2 _ _ (by rfl) (Or.inl rfl) (by decide) (by decide)) (@pa_consN _ _ _ _ _ (@pv _ 4 _ _ (by rfl) (Or.inl rfl) (by decide) (by decide)) (@pa_nil _) (by rfl)) (by rfl) (by rfl) (by rfl) (by rfl) (by rfl)) (by rfl))))) (by intro _; rfl)) (@pss_one _ _ _ (@ps_ret _ _ _ _ (@pv _ 2 _ _ (by rfl) (Or.inl rfl) (by decide) (by decide))))))),?_⟩
  refine ⟨_,rfl,a,ns,0,rfl,ha,(by decide),fun c0=>⟨c0,6,4,rfl,(by decide),fun kind H1 k0 k1 s1=>?_⟩⟩
  refine ⟨(by show 0 ≤ sizeLine; decide),fun l hl=>?_⟩
  have s4:=s1.trans (same_new hl (.lst []))
  have hl0:H l = none:=s1.free hl
  refine ⟨_,rfl,a,_,rfl,.inl (s4.ints ha),_,rfl,?_⟩
  rw [List.length_map]
  refine ⟨by omega,by omega,?_⟩
  rw [show ((ns.length:Int)).toNat = ns.length by omega]
  refine for_range (lo:=0) (n:=ns.length) (fun i σ H'=>∃ (ts:List Int) (f1 f2:Option V),σ = [some (.ref a),some (.int kind),some (.ref l),f1,f2] ∧ Same H H' ∧ LstAt H' l ts ∧ ts.length = i ∧ TsOk ts) ⟨[],_,_,rfl,s4,upd_same,rfl,fun _ z=>nomatch z⟩ ?_ ?_
  · rintro i σ H' hi ⟨ts,f1,f2,rfl,sH,hL,hi2,hO⟩
    obtain ⟨c,hc,ec⟩:=atI_int (ns:=ns) (i:=0 + (i:Int)) (by omega) (by omega)
    obtain ⟨most,em,hm0,hm1⟩:=turns_most k0 k1
    have push:∀ (x:Int) (H5:Hp),1 ≤ x → x ≤ 1000000 → Same H' H5 → rAppend (.ref l) [.int x] H5 (fun _ H6=>∃ (ts:List Int) (f1 f2:Option V),[some (V.ref a),some (V.int kind),some (V.ref l),some (V.int (0 + (i:Int))),some (V.int x)] = [some (.ref a),some (.int kind),some (.ref l),f1,f2] ∧ Same H H6 ∧ LstAt H6 l ts ∧ ts.length = i + 1 ∧ TsOk ts):=fun x H5 x0 x1 sh=>by
      have hL5:=sh _ _ hL
      refine ⟨l,_,_,rfl,rfl,hL5,?_,ts ++ [x],_,_,rfl,?_,?_,?_,?_⟩
      · rw [List.length_map]; exact small1000 (by omega)
      · intro b o e
        rw [upd_ne (ne_of_none e hl0)]
        exact (sH.trans sh) b o e
      · show upd H5 l _ l = _
        rw [upd_same,List.map_append]; rfl
      · rw [List.length_append,hi2]; rfl
      · intro t ht
        rcases List.mem_append.mp ht with z | z
        · exact hO t z
        · rw [List.mem_singleton.mp z]; exact ⟨x0,x1⟩
    refine ⟨_,rfl,_,rfl,a,_,_,_,rfl,rfl,sH.ints ha,ec,_,rfl,_,_,rfl,rfl,(by show (0:Int) < 5; decide),_,_,rfl,rfl,?_⟩
    refine ⟨(by show 4 ≤ sizeLine; decide),fun u hu=>?_⟩
    have su:=same_new hu (.tup (List.map V.int [12,200,1000000,30]))
    refine ⟨_,rfl,u,_,_,_,rfl,rfl,SqT.of upd_same,em,c,_,most,rfl,(by omega),fun v H3 v0 v1 sv=>⟨_,_,rfl,rfl,?_⟩⟩
    have sK:=su.trans sv
    refine ⟨_,rfl,_,_,rfl,rfl,_,rfl,?_⟩
    by_cases h3:kind = 3
    · rw [decT h3]
      refine iteT ?_
      refine ⟨(by show 15 ≤ sizeLine; decide),fun u2 hu2=>?_⟩
      have sU:=sK.trans (same_new hu2 (.tup (List.map V.int [1,2,4,8,3,9,27,6,12,18,36,5,10,20,60])))
      have h0:=Int.emod_nonneg (1 + v) (show (15:Int) ≠ 0 by decide)
      have h1:=Int.emod_lt_of_pos (1 + v) (show (0:Int) < 15 by decide)
      obtain ⟨x,ex,x0,x1⟩:=turns_few h0 h1
      refine ⟨_,rfl,_,_,rfl,rfl,(by show (0:Int) < 15; decide),u2,_,_,_,rfl,rfl,SqT.of upd_same,ex,?_⟩
      refine ⟨_,rfl,.inl ⟨rfl,_,SqL.of (sU _ _ hL)⟩,_,rfl,?_⟩
      exact push x _ x0 x1 sU
    · rw [decF h3]
      refine iteF ?_
      refine ⟨_,rfl,.inl ⟨rfl,_,SqL.of (sK _ _ hL)⟩,_,rfl,?_⟩
      exact push (1 + v) _ (by omega) (by omega) sK
  · rintro σ H' ⟨ts,f1,f2,rfl,sH,hL,hi2,hO⟩
    exact ⟨_,rfl,q l ts H' hO hi2 hl0 hL sH⟩
def xo9:Sp:=fun vs H Q _=>∃ a b:Int,vs = [.int a,.int b] ∧ Q (.int (Int.gcd a b)) H
set_option maxHeartbeats 1000000 in
theorem xoG (T:Txt K mg A):FnOk P w K mg base CX0 1 A.xmV A.xnx ["_law_one", "_law_other"] xo9:=by
  refine T.xmD.ok xmg (fun vs H Q E h=>?_) (fun cdv Ar outer s H vs Q E hr h=>?_)
  · obtain ⟨a,b,rfl,_⟩:=h
    rfl
  obtain ⟨a,b,rfl,q⟩:=h
  refine ⟨_,(@pss_cons _ _ _ _ _ (@ps_par _ _ (0) (1) _ _ _ _ _ _ _ _ _ _ _ rfl xmg.nd rfl rfl (by decide) rfl rfl (@pa_consN _ _ _ _ _ (@pe_callB _ _ _ _ _ _ _ _ _ call_abs rfl T.b_abs B.abs (@pa_consN _ _ _ _ _ (@pv _ 0 _ _ (by rfl) (Or.inl rfl) (by decide) (by decide)) (@pa_nil _) (by rfl)) (by decide) (by decide) (by rfl) (by rfl)) (@pa_consN _ _ _ _ _ (@pe_callB _ _ _ _ _ _ _ _ _ call_abs rfl T.b_abs B.abs (@pa_consN _ _ _ _ _ (@pv _ 1 _ _ (by rfl) (Or.inl rfl) (by decide) (by decide)) (@pa_nil _) (by rfl)) (by decide) (by decide) (by rfl) (by rfl)) (@pa_nil _) (by rfl)) (by rfl)) rfl (by rfl)) (@pss_cons _ _ _ _ _ (@ps_while _ _ _ _ _ _ PassesOwn.never (@pt_cmpR _ _ _ _ _ _ _ _ op_gt (@pv _ 1 _ _ (by rfl) (Or.inl rfl) (by decide) (by decide)) (@pe_int _ _ _ _) (nomark _)) (@pss_one _ _ _ (@ps_par _ _ (0) (1) _ _ _ _ _ _ _ _ _ _ _ rfl xmg.nd rfl rfl (by decide) rfl rfl (@pa_consN _ _ _ _ _ (@pv _ 1 _ _ (by rfl) (Or.inl rfl) (by decide) (by decide)) (@pa_consN _ _ _ _ _ (@pe_op _ _ _ _ _ _ _ _ op_mod (@pv _ 0 _ _ (by rfl) (Or.inl rfl) (by decide) (by decide)) (@pv _ 1 _ _ (by rfl) (Or.inl rfl) (by decide) (by decide))) (@pa_nil _) (by rfl)) (by rfl)) rfl (by rfl)))) (@pss_one _ _ _ (@ps_ret _ _ _ _ (@pv _ 0 _ _ (by rfl) (Or.inl rfl) (by decide) (by decide)))))),?_⟩
  refine ⟨_,rfl,_,rfl,_,rfl,_,rfl,_,_,rfl,?_⟩
  refine while_by (fun σ H'=>H' = H ∧ ∃ (p l:Int),σ = [some (.int p),some (.int l)] ∧ 0 ≤ p ∧ 0 ≤ l ∧ Int.gcd p l = Int.gcd a b)
    (fun (σ:St) _=>match σ[1]? with | some (some (V.int l))=>l.toNat | _=>0) ⟨rfl,_,_,rfl,?_,?_,?_⟩ ?_ ?_
  · split <;> omega
  · split <;> omega
  · rw [abs_if,abs_if]; simp [Int.gcd]
  · rintro σ H' ⟨rfl,p,l,rfl,hp,hl,hg⟩
    refine ⟨_,rfl,_,_,rfl,rfl,_,rfl,?_⟩
    by_cases h0:0 < l
    · rw [decT h0]
      refine iteT ?_
      have h0':l ≠ 0:=by omega
      refine ⟨_,rfl,_,rfl,_,rfl,_,_,rfl,rfl,h0,_,_,rfl,⟨rfl,_,_,rfl,hl,Int.emod_nonneg _ h0',?_⟩,?_⟩
      · rw [← hg]
        show Nat.gcd l.natAbs (p % l).natAbs = Nat.gcd p.natAbs l.natAbs
        rw [Int.natAbs_emod_of_nonneg hp]
        rw [Nat.gcd_comm l.natAbs,← Nat.gcd_rec,Nat.gcd_comm]
      · show (p % l).toNat < l.toNat
        have h1:=Int.emod_nonneg p h0'
        have h2:=Int.emod_lt_of_pos p h0
        omega
    · rw [decF h0]
      refine iteF ?_
      refine ⟨_,rfl,?_⟩
      have hl0:l = 0:=by omega
      subst hl0
      have e:p = (Int.gcd a b:Int):=by
        rw [← hg,Int.gcd_zero_right]; omega
      rw [e]; exact q
  · rintro σ H' Q1 Q2 hm ⟨v,e,i,j,e1,e2,k,e3,q⟩
    exact ⟨v,e,i,j,e1,e2,k,e3,hm _ _ q⟩
theorem PrsAt.rep {H:Hp} {a:Addr} {rs:List (Int × Int)} (h:PrsAt H a rs):RepL K (repP K) H a rs:=by
  obtain ⟨as,h1,h2⟩:=h
  refine ⟨_,SqL.of h1,?_⟩
  clear h1
  induction h2 with
  | nil=>exact .nil
  | cons x r ih=>exact .cons ⟨_,rfl,SqT.of x⟩ ih
theorem paired_set {α β:Type} {F:α → β → Prop} {a:α} {b:β} (h:F a b):∀ {l₁:List α} {l₂:List β} (j:Nat),Paired F l₁ l₂ → Paired F (l₁.set j a) (l₂.set j b)
  | [],[],_,_=>.nil
  | [],_ :: _,_,r=>nomatch r
  | _ :: _,[],_,r=>nomatch r
  | _ :: _,_ :: _,0,.cons x r=>.cons h r
  | _ :: _,_ :: _,j + 1,.cons x r=>.cons x (paired_set h j r)
theorem rs_of {ts:List Int} (h:TsOk ts) (n:Int):RsOk (ts.map fun t=>(n % t,t)):=by
  intro p hp
  obtain ⟨t,ht,rfl⟩:=List.mem_map.mp hp
  have:=h t ht
  exact ⟨Int.emod_nonneg _ (by omega),Int.emod_lt_of_pos _ (by omega),this.2⟩
def sp_rests (K:PySem.W.Frag):Sp:=fun vs H Q _=>∃ (a:Addr) (ns:List Int),vs = [.ref a] ∧ SqX K H a (ns.map V.int) ∧ ns.length ≤ 63 ∧
  ∀ l rs H',RsOk rs → rs.length = ns.length → PrsAt H' l rs → Same H H' → Q (.ref l) H'
set_option maxHeartbeats 2000000 in
theorem xlZ (T:Txt K mg A):FnOk P w K mg base CX0 3 A.xkk A.xk0 ["_law_script"] (sp_rests K):=by
  have xgf:=xh2 (P:=P) (w:=w) (base:=base) T
  have xmL:=xoF (P:=P) (w:=w) (base:=base) T
  have xki:=xl0 (P:=P) (w:=w) (base:=base) T
  refine T.xke.ok xj7 (fun vs H Q E h=>?_) (fun cdv Ar outer s H vs Q E hr h=>?_)
  · obtain ⟨a,ns,rfl,_⟩:=h
    rfl
  obtain ⟨a,ns,rfl,ha,hlen,q⟩:=h
  refine ⟨_,(@pss_cons _ _ _ _ _ (@ps_set _ _ (1) _ _ _ _ xj7.nd rfl (Or.inr rfl) (@pe_callB _ _ _ _ _ _ _ _ _ (call_sum rfl) rfl T.b_sum B.sum (@pa_consN _ _ _ _ _ (@pe_comp0 _ _ (["_law_k", "_law_cell"]) ([none,none]) _ _ _ _ _ _ _ _ xew rfl (@pi_enumX _ _ _ _ _ _ _ _ rfl T.b_enumerate (@pa_consN _ _ _ _ _ (@pv _ 0 _ _ (by rfl) (Or.inl rfl) (by decide) (by decide)) (@pa_nil _) (by rfl)) (by rfl)) (fun z=>(@pg_tup _ _ _ _ _ (2) rfl (@pgs_cons _ _ _ _ _ (@pg_name _ _ (0) _ xew.nd rfl (Or.inl rfl) (by exact .inr rfl)) (@pgs_cons _ _ _ _ _ (@pg_name _ _ (1) _ xew.nd rfl (Or.inl rfl) (by exact .inr rfl)) (@pgs_nil _) (by rfl)) (by rfl)) (by rfl) (by rfl))) (sets_two _ _ 0 1) (by decide) (fun z=>(@pe_op _ _ _ _ _ _ _ _ op_mul (@pe_op _ _ _ _ _ _ _ _ op_mod (@pe_callB _ _ _ _ _ _ _ _ _ call_abs rfl T.b_abs B.abs (@pa_consN _ _ _ _ _ (@pv _ 1 _ _ (by rfl) (by exact .inl rfl) (by decide) (by decide)) (@pa_nil _) (by rfl)) (by decide) (by decide) (by rfl) (by rfl)) (@pe_op _ _ _ _ _ _ _ _ op_pow (@pe_int _ _ _ _) (@pe_int _ _ _ _))) (@pe_op _ _ _ _ _ _ _ _ op_add (@pv _ 0 _ _ (by rfl) (by exact .inl rfl) (by decide) (by decide)) (@pe_int _ _ _ _)))) (by intro _; rfl)) (@pa_nil _) (by rfl)) (by decide) (by decide) (by rfl) (by rfl)) (by rfl) (Or.inl rfl)) (@pss_cons _ _ _ _ _ (@ps_setComp0 _ _ (["_law_far", "_law_turn"]) ([some 1,none]) _ _ _ _ _ _ _ _ (2) _ _ _ xj7.nd rfl rfl xex rfl (@pi_list _ _ _ _ (@pe_call _ _ _ _ _ _ _ _ _ _ _ _ _ _ _ _ xki (hr.mono (by decide)) rfl T.xlx T.xls T.xiW .nil pass0 (@pa_consN _ _ _ _ _ (@pv _ 0 _ _ (by rfl) (Or.inl rfl) (by decide) (by decide)) (@pa_nil _) (by rfl)) (by decide) (by rfl) (by rfl))) (fun z=>(@pg_name _ _ (1) _ xex.nd rfl (Or.inl rfl) (by exact .inr rfl))) (sets_name 1) (by decide) (fun z=>(@pe_tup _ _ _ _ _ (@pa_consN _ _ _ _ _ (@pe_op _ _ _ _ _ _ _ _ op_mod (@pv _ 0 _ _ (by rfl) (by exact .inr (.inl rfl)) (by decide) (by decide)) (@pv _ 1 _ _ (by rfl) (by exact .inl rfl) (by decide) (by decide))) (@pa_consN _ _ _ _ _ (@pv _ 1 _ _ (by rfl) (by exact .inl rfl) (by decide) (by decide)) (@pa_nil _) (by rfl)) (by rfl)))) (by rfl) (by intro _; rfl)) (@pss_cons _ _ _ _ _ (@ps_if _ _ _ _ _ _ _ _ (@PW.pt _ _ _ (@pw_and _ _ _ _ _ _ _ (@pt_cmpR _ _ _ _ _ _ _ _ (op_neL (eqty_pair (hu_of hr)) hr.units0) (@pv _ 2 _ _ (by rfl) (Or.inl rfl) (by decide) (by decide)) (@pe_lst _ _ _ _ (@pa_nil _)) (nomark _)) (@pw_and1 _ _ _ _ (@pt_cmpR _ _ _ _ _ _ _ _ op_eqI (@pe_call _ _ _ _ _ _ _ _ _ _ _ _ _ _ _ _ xmL (hr.mono (by decide)) rfl T.xoh T.xn0 T.xkx .nil pass0 (@pa_consN _ _ _ _ _ (@pe_call _ _ _ _ _ _ _ _ _ _ _ _ _ _ _ _ xgf (hr.mono (by decide)) rfl T.xhA T.xhr T.xeM .nil pass0 (@pa_consN _ _ _ _ _ (@pv _ 0 _ _ (by rfl) (Or.inl rfl) (by decide) (by decide)) (@pa_consN _ _ _ _ _ (@pe_int _ _ _ _) (@pa_nil _) (by rfl)) (by rfl)) (by decide) (by rfl) (by rfl)) (@pa_consN _ _ _ _ _ (@pe_int _ _ _ _) (@pa_consN _ _ _ _ _ (@pe_int _ _ _ _) (@pa_nil _) (by rfl)) (by rfl)) (by rfl)) (by decide) (by rfl) (by rfl)) (@pe_int _ _ _ _) (nomark _))))) (@pss_cons _ _ _ _ _ (@ps_set _ _ (3) _ _ _ _ xj7.nd rfl (Or.inl rfl) (@pe_call _ _ _ _ _ _ _ _ _ _ _ _ _ _ _ _ xmL (hr.mono (by decide)) rfl T.xoh T.xn0 T.xkx .nil pass0 (@pa_consN _ _ _ _ _ (@pe_call _ _ _ _ _ _ _ _ _ _ _ _ _ _ _ _ xgf (hr.mono (by decide)) rfl T.xhA T.xhr T.xeM .nil pass0 (@pa_consN _ _ _ _ _ (@pv _ 0 _ _ (by rfl) (Or.inl rfl) (by decide) (by decide)) (@pa_consN _ _ _ _ _ (@pe_int _ _ _ _) (@pa_nil _) (by rfl)) (by rfl)) (by decide) (by rfl) (by rfl)) (@pa_consN _ _ _ _ _ (@pe_int _ _ _ _) (@pa_consN _ _ _ _ _ (@pe_callB _ _ _ _ _ _ _ _ _ call_len_seq rfl T.b_len B.len (@pa_consN _ _ _ _ _ (@pv _ 2 _ _ (by rfl) (Or.inl rfl) (by decide) (by decide)) (@pa_nil _) (by rfl)) (by decide) (by decide) (by rfl) (by rfl)) (@pa_nil _) (by rfl)) (by rfl)) (by rfl)) (by decide) (by rfl) (by rfl)) (by rfl) (Or.inl rfl)) (@pss_one _ _ _ (@ps_asg _ _ _ _ _ _ (@pe_tup _ _ _ _ _ (@pa_consN _ _ _ _ _ (@pe_op _ _ _ _ _ _ _ _ op_mod (@pe_op _ _ _ _ _ _ _ _ op_add (@pe_ix _ _ _ _ _ _ _ ix_tup (@pe_ix _ _ _ _ _ _ _ ix_list (@pv _ 2 _ _ (by rfl) (Or.inl rfl) (by decide) (by decide)) (@pv _ 3 _ _ (by rfl) (Or.inl rfl) (by decide) (by decide)) (fun _ _=>rfl)) (@pe_int _ _ _ _) (fun _ _=>rfl)) (@pe_call _ _ _ _ _ _ _ _ _ _ _ _ _ _ _ _ xmL (hr.mono (by decide)) rfl T.xoh T.xn0 T.xkx .nil pass0 (@pa_consN _ _ _ _ _ (@pe_call _ _ _ _ _ _ _ _ _ _ _ _ _ _ _ _ xgf (hr.mono (by decide)) rfl T.xhA T.xhr T.xeM .nil pass0 (@pa_consN _ _ _ _ _ (@pv _ 0 _ _ (by rfl) (Or.inl rfl) (by decide) (by decide)) (@pa_consN _ _ _ _ _ (@pe_int _ _ _ _) (@pa_nil _) (by rfl)) (by rfl)) (by decide) (by rfl) (by rfl)) (@pa_consN _ _ _ _ _ (@pe_int _ _ _ _) (@pa_consN _ _ _ _ _ (@pe_int _ _ _ _) (@pa_nil _) (by rfl)) (by rfl)) (by rfl)) (by decide) (by rfl) (by rfl))) (@pe_ix _ _ _ _ _ _ _ ix_tup (@pe_ix _ _ _ _ _ _ _ ix_list (@pv _ 2 _ _ (by rfl) (Or.inl rfl) (by decide) (by decide)) (@pv _ 3 _ _ (by rfl) (Or.inl rfl) (by decide) (by decide)) (fun _ _=>rfl)) (@pe_int _ _ _ _) (fun _ _=>rfl))) (@pa_consN _ _ _ _ _ (@pe_ix _ _ _ _ _ _ _ ix_tup (@pe_ix _ _ _ _ _ _ _ ix_list (@pv _ 2 _ _ (by rfl) (Or.inl rfl) (by decide) (by decide)) (@pv _ 3 _ _ (by rfl) (Or.inl rfl) (by decide) (by decide)) (fun _ _=>rfl)) (@pe_int _ _ _ _) (fun _ _=>rfl)) (@pa_nil _) (by rfl)) (by rfl))) (@pg_sub _ _ _ _ _ _ _ (@pv _ 2 _ _ (by rfl) (Or.inl rfl) (by decide) (by decide)) (@pv _ 3 _ _ (by rfl) (Or.inl rfl) (by decide) (by decide)) set_list (by intro _; rfl)) (by rfl) (by rfl) (by rfl)))) (@pss_nil _)) (@pss_one _ _ _ (@ps_ret _ _ _ _ (@pv _ 2 _ _ (by rfl) (Or.inl rfl) (by decide) (by decide))))))),?_⟩
  refine ⟨_,rfl,a,rfl,⟨_,ha⟩,comp_enum (K:=K) (a:=a) (xs:=ns.map V.int) (fun i ys H'=>Same H H' ∧ ∃ ms:List Int,ys = ms.map V.int ∧ ms.length = i) ⟨Same.refl _,[],rfl,rfl⟩ (by rw [List.length_map]; exact small100 (by omega)) ?_ ?_ ?_⟩
  · rintro i ys H' hi ⟨hs,ms,rfl,hm⟩
    exact ⟨(ha.same hs).sq,by rw [List.length_map]; exact hm⟩
  · rintro i x ys H' u hx ⟨hs,ms,rfl,hm⟩ hu
    obtain ⟨n,hn,rfl⟩:=ints_get hx
    refine ⟨u,_,rfl,SqT.of upd_same,rfl,_,_,rfl,_,_,rfl,rfl,?_⟩
    refine ⟨_,rfl,n,rfl,_,_,rfl,rfl,⟨by decide,by decide,by decide⟩,_,_,rfl,rfl,(by show (0:Int) < 10 ^ (9:Int).toNat; decide),?_⟩
    have h0:=Int.emod_nonneg (if n < 0 then -n else n) (show ((10:Int) ^ (9:Int).toNat) ≠ 0 by decide)
    have h1:=Int.emod_lt_of_pos (if n < 0 then -n else n) (show (0:Int) < ((10:Int) ^ (9:Int).toNat) by decide)
    rw [show ((10:Int) ^ (9:Int).toNat) = 1000000000 by decide] at h0 h1 ⊢
    refine ⟨_,rfl,_,_,rfl,rfl,_,_,rfl,rfl,.inl ⟨by omega,by omega⟩,hs.trans (same_new hu _),?_⟩
    exact ⟨ms ++ [_],by rw [List.map_append]; rfl,by rw [List.length_append,hm]; rfl⟩
  · rintro ys H' ⟨hs,ms,rfl,hm⟩ l hl
    have s1:=hs.trans (same_new hl (.lst (ms.map V.int)))
    refine ⟨l,ms,rfl,SqL.of upd_same,?_⟩
    generalize ms.sum = far
    refine ⟨_,rfl,a,ns,rfl,(ha.same s1).sq,hlen,fun lt ts H2 hT hTl hfr hL s2=>?_⟩
    have s12:=s1.trans s2
    refine ⟨lt,rfl,⟨_,LstAt.ints hL⟩,comp_list (K:=K) (a:=lt) (xs:=ts.map V.int) (fun i ys H'=>Same H H' ∧ LstAt H' lt ts ∧ ∃ as:List Addr,ys = as.map V.ref ∧ Paired (TupAt H') as ((ts.take i).map fun t=>(far % t,t))) ⟨s12,hL,[],rfl,.nil⟩ (by rw [List.length_map]; exact small100 (by omega)) ?_ ?_ ?_⟩
    · rintro i ys H3 hi ⟨hs3,hL3,as,rfl,hP⟩
      rw [List.length_map] at hi
      have hal:=hP.length
      rw [List.length_map,List.length_take] at hal
      exact ⟨LstAt.ints hL3,by rw [List.length_map]; omega⟩
    · rintro i x ys H3 hx ⟨hs3,hL3,as,rfl,hP⟩
      obtain ⟨t,ht,rfl⟩:=ints_get hx
      have hb:=hT t (List.mem_of_getElem? ht)
      refine ⟨_,rfl,_,rfl,_,_,rfl,rfl,(by omega),_,rfl,(by show 2 ≤ sizeLine; decide),fun u hu=>?_⟩
      have su:=same_new hu (.tup [.int (far % t),.int t])
      refine ⟨hs3.trans su,su _ _ hL3,as ++ [u],by rw [List.map_append]; rfl,?_⟩
      rw [take_snoc ht,List.map_append]
      exact paired_snoc (Paired.mapP hP fun b p z=>su _ _ z) upd_same
    · rintro ys H3 ⟨hs3,hL3,as,rfl,hP⟩ l2 hl2
      rw [List.length_map,List.take_length] at hP
      have su:=same_new hl2 (.lst (as.map V.ref))
      have hF:H l2 = none:=hs3.free hl2
      have s4:=hs3.trans su
      have hP4:Paired (TupAt (upd H3 l2 (.lst (as.map V.ref)))) as (ts.map fun t=>(far % t,t)):=Paired.mapP hP fun b p z=>su _ _ z
      have hR:=rs_of hT far
      have hRl:(ts.map fun t=>(far % t,t)).length = ns.length:=by rw [List.length_map]; exact hTl
      generalize (ts.map fun t=>(far % t,t)) = rs at hP4 hR hRl
      have hA:PrsAt (upd H3 l2 (.lst (as.map V.ref))) l2 rs:=⟨as,upd_same,hP4⟩
      refine ⟨_,rfl,(by show 0 ≤ sizeLine; decide),fun e he=>?_⟩
      have se:=same_new he (.lst [])
      have s5:=s4.trans se
      refine ⟨l2,e,rs,[],rfl,rfl,(hA.same se).rep,⟨_,SqL.of upd_same,.nil⟩,_,rfl,?_⟩
      by_cases h0:rs = []
      · rw [decT h0]
        refine iteF ?_
        exact ⟨_,rfl,q l2 rs _ hR hRl (hA.same se) s5⟩
      rw [decF h0]
      refine iteT ?_
      refine ⟨_,rfl,a,ns,1,rfl,(ha.same s5).sq,(by decide),fun c1=>⟨c1,7,2,rfl,(by decide),fun d H5 d0 d1 sd=>⟨_,_,rfl,rfl,_,rfl,?_⟩⟩⟩
      have s6:=s5.trans sd
      have s46:=se.trans sd
      by_cases h1:d = 0
      case neg =>
        rw [decF h1]
        refine iteF ?_
        exact ⟨_,rfl,q l2 rs _ hR hRl (hA.same s46) s6⟩
      rw [decT h1]
      refine iteT ?_
      have hA6:=hA.same s46
      obtain ⟨as6,hL6,hP6⟩:=id hA6
      have hal6:=hP6.length
      have hpos:0 < rs.length:=by
        cases rs with
        | nil=>exact absurd rfl h0
        | cons=>rw [List.length_cons]; omega
      refine ⟨_,rfl,a,ns,2,rfl,(ha.same s6).sq,(by decide),fun c2=>⟨_,rfl,l2,_,rfl,.inl (SqL.of hL6),c2,1,_,rfl,(by rw [List.length_map,hal6]; omega),fun k H6 k0 k1 sk=>?_⟩⟩
      rw [List.length_map,hal6] at k1
      have s7:=s6.trans sk
      have hk:k.toNat < rs.length:=by omega
      have ek:((k.toNat:Nat):Int) = k:=by omega
      have hxs:(as6.map V.ref)[k.toNat]? = some (.ref (as6[k.toNat]'(by omega))):=by rw [List.getElem?_map,List.getElem?_eq_getElem (by omega)]; rfl
      obtain ⟨b,r,eb,hb,hr',hq⟩:=prs_get hP6 hxs
      have ea:=atI_nat hxs
      rw [ek,eb] at ea
      have hrO:=hR r (List.mem_of_getElem? hr')
      have hq6:=sk _ _ hq
      have hL7:=sk _ _ hL6
      refine ⟨_,rfl,_,rfl,l2,_,_,_,rfl,rfl,SqL.of hL7,ea,b,_,_,_,rfl,rfl,SqT.of hq6,rfl,?_⟩
      refine ⟨_,rfl,a,ns,3,rfl,(ha.same s7).sq,(by decide),fun c3=>⟨c3,2,7,rfl,(by decide),fun d3 H7 e0 e1 s8'=>⟨_,_,rfl,rfl,?_⟩⟩⟩
      have s8:=s7.trans s8'
      have hq7:=s8' _ _ hq6
      have hL8:=s8' _ _ hL7
      refine ⟨_,rfl,_,rfl,l2,_,_,_,rfl,rfl,SqL.of hL8,ea,b,_,_,_,rfl,rfl,SqT.of hq7,rfl,_,_,rfl,rfl,(by omega),?_⟩
      refine ⟨_,rfl,_,rfl,l2,_,_,_,rfl,rfl,SqL.of hL8,ea,b,_,_,_,rfl,rfl,SqT.of hq7,rfl,?_⟩
      refine ⟨(by show 2 ≤ sizeLine; decide),fun u hu=>?_⟩
      have s9':=same_new hu (.tup [.int ((r.1 + d3) % r.2),.int r.2])
      have hL9:=s9' _ _ hL8
      have hix:ixN (as6.map V.ref).length k = some k.toNat:=by
        unfold ixN
        rw [if_pos k0,if_pos (by rw [List.length_map,hal6]; omega)]
      refine ⟨_,rfl,_,rfl,l2,_,_,k.toNat,rfl,rfl,hL9,hix,_,rfl,?_⟩
      have hP9:Paired (TupAt (upd H7 u (.tup [.int ((r.1 + d3) % r.2),.int r.2]))) as6 rs:=Paired.mapP hP6 fun b p z=>s9' _ _ (s8' _ _ (sk _ _ z))
      have hu9:TupAt (upd H7 u (.tup [.int ((r.1 + d3) % r.2),.int r.2])) u ((r.1 + d3) % r.2,r.2):=upd_same
      have hP10:=paired_set hu9 k.toNat hP9
      refine q l2 (rs.set k.toNat ((r.1 + d3) % r.2,r.2)) _ ?_ (by rw [List.length_set]; exact hRl) ⟨as6.set k.toNat u,?_,?_⟩ ?_
      · intro p hp
        rcases List.mem_or_eq_of_mem_set hp with z | z
        · exact hR p z
        · rw [z]
          exact ⟨Int.emod_nonneg _ (by omega),Int.emod_lt_of_pos _ (by omega),hrO.2.2⟩
      · rw [upd_same,List.map_set]
      · refine Paired.mapP hP10 fun b p z=>?_
        have z':upd H7 u (.tup [.int ((r.1 + d3) % r.2),.int r.2]) b = some (.tup [.int p.1,.int p.2]):=z
        show upd _ l2 _ b = _
        rw [upd_ne]
        · exact z'
        · rintro rfl
          rw [hL9] at z'
          cases z'
      · intro b o e
        rw [upd_ne (ne_of_none e hF)]
        exact (s8.trans s9') b o e
end
end W06
set_option Elab.async false
set_option linter.all false
set_option maxRecDepth 100000
namespace W06
open PySem L2
section
variable {P:Program} {w:World} {K:PySem.W.Frag} {mg:Str → Option Value} {base:Heap} {A:Adr}
def SmOk (ns:List Int):Prop:=∀ n ∈ ns,-200 ≤ n ∧ n ≤ 200
theorem row_by {k:Int} (h0:0 ≤ k) (h1:k < 4):∃ m:Int,atI (List.map V.int [1,1,6,10]) k = some (.int m) ∧ 1 ≤ m ∧ m ≤ 10:=by
  have:k = 0 ∨ k = 1 ∨ k = 2 ∨ k = 3:=by omega
  rcases this with rfl | rfl | rfl | rfl
  · exact ⟨1,rfl,by decide,by decide⟩
  · exact ⟨1,rfl,by decide,by decide⟩
  · exact ⟨6,rfl,by decide,by decide⟩
  · exact ⟨10,rfl,by decide,by decide⟩
def sp_row (K:PySem.W.Frag):Sp:=fun vs H Q _=>∃ (a:Addr) (ns:List Int),vs = [.ref a] ∧ IntsAt K H a ns ∧ ns.length ≤ 63 ∧
  ∀ l ms H',SmOk ms → ms.length = ns.length → H l = none → LstAt H' l ms → Same H H' → Q (.ref l) H'
set_option maxHeartbeats 2000000 in
theorem xp3 (T:Txt K mg A):FnOk P w K mg base CX0 2 A.xpm A.xpA ["_law_script"] (sp_row K):=by
  have xgf:=xh2 (P:=P) (w:=w) (base:=base) T
  have xmL:=xoF (P:=P) (w:=w) (base:=base) T
  refine T.xpc.ok xoY (fun vs H Q E h=>?_) (fun cdv Ar outer s H vs Q E hr h=>?_)
  · obtain ⟨a,ns,rfl,_⟩:=h
    rfl
  obtain ⟨a,ns,rfl,ha,hlen,q⟩:=h
  refine ⟨_,(@pss_cons _ _ _ _ _ (@ps_set _ _ (1) _ _ _ _ xoY.nd rfl (Or.inr rfl) (@pe_ix _ _ _ _ _ _ _ ix_tup (@pe_tupI _ _ _ _ ([1,1,6,10]) rfl) (@pe_call _ _ _ _ _ _ _ _ _ _ _ _ _ _ _ _ xmL (hr.mono (by decide)) rfl T.xoh T.xn0 T.xkx .nil pass0 (@pa_consN _ _ _ _ _ (@pe_call _ _ _ _ _ _ _ _ _ _ _ _ _ _ _ _ xgf (hr.mono (by decide)) rfl T.xhA T.xhr T.xeM .nil pass0 (@pa_consN _ _ _ _ _ (@pv _ 0 _ _ (by rfl) (Or.inr (Or.inl rfl)) (by decide) (by decide)) (@pa_consN _ _ _ _ _ (@pe_int _ _ _ _) (@pa_nil _) (by rfl)) (by rfl)) (by decide) (by rfl) (by rfl)) (@pa_consN _ _ _ _ _ (@pe_int _ _ _ _) (@pa_consN _ _ _ _ _ (@pe_int _ _ _ _) (@pa_nil _) (by rfl)) (by rfl)) (by rfl)) (by decide) (by rfl) (by rfl)) (fun _ _=>rfl)) (by rfl) (Or.inl rfl)) (@pss_one _ _ _ (@ps_ret _ _ _ _ (@pe_comp0 _ _ (["_law_script", "_law_by", "_law_k"]) ([some 0,some 1,none]) _ _ _ _ _ _ _ _ xii rfl (@pi_range1 _ _ _ _ _ _ rfl T.b_range (@pa_consN _ _ _ _ _ (@pe_callB _ _ _ _ _ _ _ _ _ call_len_seq rfl T.b_len B.len (@pa_consN _ _ _ _ _ (@pv _ 0 _ _ (by rfl) (Or.inr (Or.inl rfl)) (by decide) (by decide)) (@pa_nil _) (by rfl)) (by decide) (by decide) (by rfl) (by rfl)) (@pa_nil _) (by rfl)) (by rfl)) (fun z=>(@pg_name _ _ (2) _ xii.nd rfl (Or.inl rfl) (by exact .inr rfl))) (sets_name 2) (by decide) (fun z=>(@pe_op _ _ _ _ _ _ _ _ op_mul (@pe_op _ _ _ _ _ _ _ _ op_sub (@pe_call _ _ _ _ _ _ _ _ _ _ _ _ _ _ _ _ xmL (hr.mono (by decide)) rfl T.xoh T.xn0 T.xkx .nil pass0 (@pa_consN _ _ _ _ _ (@pe_ix _ _ _ _ _ _ _ (ix_listK (K:=K) (by rfl)) (@pv _ 0 _ _ (by rfl) (by exact .inr (.inl rfl)) (by decide) (by decide)) (@pv _ 2 _ _ (by rfl) (by exact .inl rfl) (by decide) (by decide)) (fun _ _=>rfl)) (@pa_consN _ _ _ _ _ (@pe_op _ _ _ _ _ _ _ _ op_add (@pe_op _ _ _ _ _ _ _ _ op_mod (@pv _ 2 _ _ (by rfl) (by exact .inl rfl) (by decide) (by decide)) (@pe_int _ _ _ _)) (@pe_int _ _ _ _)) (@pa_consN _ _ _ _ _ (@pe_int _ _ _ _) (@pa_nil _) (by rfl)) (by rfl)) (by rfl)) (by decide) (by rfl) (by rfl)) (@pe_int _ _ _ _)) (@pv _ 1 _ _ (by rfl) (by exact .inr (.inl rfl)) (by decide) (by decide)))) (by intro _; rfl))))),?_⟩
  refine ⟨(by show 4 ≤ sizeLine; decide),fun u hu=>?_⟩
  have su:=same_new hu (.tup (List.map V.int [1,1,6,10]))
  refine ⟨_,rfl,a,ns,4,rfl,su.ints ha,(by decide),fun c0=>⟨c0,1,4,rfl,(by decide),fun kind H1 k0 k1 s1=>?_⟩⟩
  have s2:=su.trans s1
  obtain ⟨m,em,m0,m1⟩:=row_by k0 k1
  refine ⟨u,_,_,_,rfl,rfl,SqT.of (s1 _ _ upd_same),em,?_⟩
  refine ⟨_,rfl,a,_,rfl,.inl (s2.ints ha),_,rfl,?_⟩
  rw [List.length_map]
  refine ⟨by omega,by omega,?_⟩
  rw [show ((ns.length:Int)).toNat = ns.length by omega]
  refine comp_range (lo:=0) (n:=ns.length) (fun i ys H'=>Same H H' ∧ ∃ ms:List Int,ys = ms.map V.int ∧ ms.length = i ∧ SmOk ms) ⟨s2,[],rfl,rfl,fun _ z=>nomatch z⟩ (small100 (by omega)) ?_ ?_ ?_
  · rintro i ys H' hi ⟨hs,ms,rfl,hm,_⟩
    rw [List.length_map]; exact hm
  · rintro i ys H' hi ⟨hs,ms,rfl,hm,hO⟩
    obtain ⟨c,hc,ec⟩:=atI_int (ns:=ns) (i:=0 + (i:Int)) (by omega) (by omega)
    refine ⟨_,rfl,_,rfl,a,_,_,_,rfl,rfl,hs.ints ha,ec,_,rfl,_,_,rfl,rfl,(by show (0:Int) < 5; decide),_,_,rfl,rfl,c,_,41,rfl,(by decide),fun v H3 v0 v1 sv=>⟨_,_,rfl,rfl,_,rfl,_,_,rfl,rfl,.inl ⟨by omega,by omega⟩,hs.trans sv,ms ++ [(v - 20) * m],by rw [List.map_append]; rfl,by rw [List.length_append,hm]; rfl,?_⟩⟩
    intro n hn
    rcases List.mem_append.mp hn with z | z
    · exact hO n z
    · rw [List.mem_singleton.mp z]
      have hx:=Wr.mul_small (x:=v - 20) (a:=m) (M:=20) (N:=10) ⟨by omega,by omega⟩ ⟨by omega,by omega⟩ (by decide) (by decide)
      rw [show (20:Int) * 10 = 200 by decide] at hx
      omega
  · rintro ys H' ⟨hs,ms,rfl,hm,hO⟩ l hl
    exact q l ms _ hO hm (hs.free hl) upd_same (hs.trans (same_new hl _))
def sp_says:Sp:=fun vs H Q _=>∃ a b:Bool,vs = [.bl a,.bl b] ∧ Q (.bl (a == b)) H
theorem xoH (T:Txt K mg A):FnOk P w K mg base CX0 1 A.xmW A.xny ["_law_said", "_law_due"] sp_says:=by
  refine T.xmE.ok xmh (fun vs H Q E h=>?_) (fun cdv Ar outer s H vs Q E hr h=>?_)
  · obtain ⟨a,b,rfl,_⟩:=h
    rfl
  obtain ⟨a,b,rfl,q⟩:=h
  refine ⟨_,(@pss_one _ _ _ (@ps_ret _ _ _ _ (@pe_and _ _ _ _ _ _ _ (@pe_callB _ _ _ _ _ _ _ _ _ call_isinst rfl T.b_isinstance B.isinstance (@pa_consN _ _ _ _ _ (@pv _ 0 _ _ (by rfl) (Or.inl rfl) (by decide) (by decide)) (@pa_consN _ _ _ _ _ (@pe_bltn _ _ (.ty "bool") _ _ rfl T.b_bool B.bool rfl (by decide) (by decide)) (@pa_nil _) (by rfl)) (by rfl)) (by decide) (by decide) (by rfl) (by rfl)) (@pe_one _ _ _ _ _ (@pe_cmpR _ _ _ _ _ _ _ _ op_eqB (@pv _ 0 _ _ (by rfl) (Or.inl rfl) (by decide) (by decide)) (@pv _ 1 _ _ (by rfl) (Or.inl rfl) (by decide) (by decide)) (nomark _)))))),?_⟩
  refine ⟨_,rfl,_,_,_,_,_,rfl,TyOf.bl a,rfl,T.is_bool_bool,_,rfl,iteT ?_⟩
  exact ⟨_,rfl,_,rfl,_,_,rfl,rfl,q⟩
end
end W06
set_option Elab.async false
set_option linter.all false
set_option maxRecDepth 100000
namespace W06
open PySem L2
section
variable {P:Program} {w:World} {K:PySem.W.Frag} {mg:Str → Option Value} {base:Heap} {A:Adr}
theorem rest_mod {d r t:Int} (h0:0 ≤ r) (h1:r < t):(d % t = r) ↔ (d - r) % t = 0:=by
  rw [← Int.emod_eq_emod_iff_emod_sub_eq_zero,Int.emod_eq_of_lt h0 h1]
theorem mul_part {w t:Int} (h:(Int.gcd w t:Int) ≠ 0):w * t / (Int.gcd w t:Int) = w / (Int.gcd w t:Int) * t:=by
  obtain ⟨c,hc⟩:(Int.gcd w t:Int) ∣ w:=Int.gcd_dvd_left ..
  generalize (Int.gcd w t:Int) = g at *
  rw [hc,Int.mul_assoc,Int.mul_ediv_cancel_left _ h,Int.mul_ediv_cancel_left _ h]
theorem lcmL_pos' {rs:List (Int × Int)} (hO:RsOk rs):0 < lcmL (rs.map (·.2)):=by
  refine lcmL_pos _ 1 (by decide) fun t ht=>?_
  obtain ⟨p,hp,rfl⟩:=List.mem_map.mp ht
  have:=hO p hp
  omega
theorem if_num {b:Bool} {tA tB:TE} {σ:St} {H:Hp} {KK:VK} (ha:b = true → ∀ KK':VK,(∀ (N:Int) H2,Same H H2 → KK' (.int N) H2) → tA σ H KK') (hb:b = false → ∀ KK':VK,(∀ (N:Int) H2,Same H H2 → KK' (.int N) H2) → tB σ H KK')
    (hk:∀ (N:Int) H2,Same H H2 → KK (.int N) H2):if b = true then tA σ H KK else tB σ H KK:=by
  cases b with
  | true=>rw [if_pos rfl]; exact ha rfl KK hk
  | false=>rw [if_neg Bool.false_ne_true]; exact hb rfl KK hk
theorem due_pat {k:Nat} {d1 d:Bool} {tD1 tD2:TE} {R:TS} {D:Ends} {σ:St} {H:Hp} (hk:k < σ.length) (h1:∀ KK:VK,KK (.bl d1) H → tD1 σ H KK) (h0:d1 = false → d = false)
    (h2:d1 = true → ∀ KK:VK,(∀ H2,Same H H2 → KK (.bl d) H2) → tD2 (σ.set k (some (.bl true))) H KK) (hR:∀ H2,Same H H2 → R D (σ.set k (some (.bl d))) H2) :
    tSeq (tAsg tD1 (gName k)) (tSeq (tIfS (tB (tVar k)) (tAsg tD2 (gName k)) tNext) R) D σ H:=by
  refine h1 _ ?_
  cases d1 with
  | false =>
    rw [h0 rfl] at hR
    exact ⟨.bl false,List.getElem?_set_self hk,false,rfl,iteF (hR H (Same.refl H))⟩
  | true =>
    refine ⟨.bl true,List.getElem?_set_self hk,true,rfl,iteT (h2 rfl _ fun H2 s2=>?_)⟩
    have:=hR H2 s2
    show R D ((σ.set k (some (.bl true))).set k (some (.bl d))) H2
    rw [List.set_set]
    exact this
theorem due_pat2 {k j:Nat} {d1 d:Bool} {tD1 tX tD2:TE} {R:TS} {D:Ends} {σ:St} {H:Hp} (hk:k < σ.length) (hj:j < σ.length) (hjk:k ≠ j) (h1:∀ KK:VK,KK (.bl d1) H → tD1 σ H KK) (h0:d1 = false → d = false)
    (h2:d1 = true → ∃ x,(∀ KK:VK,KK x H → tX (σ.set k (some (.bl true))) H KK) ∧ ∀ KK:VK,(∀ H2,Same H H2 → KK (.bl d) H2) → tD2 ((σ.set k (some (.bl true))).set j (some x)) H KK)
    (hR:∀ f H2,Same H H2 → R D ((σ.set j f).set k (some (.bl d))) H2) :
    tSeq (tAsg tD1 (gName k)) (tSeq (tIfS (tB (tVar k)) (tSeq (tAsg tX (gName j)) (tAsg tD2 (gName k))) tNext) R) D σ H:=by
  refine h1 _ ?_
  cases d1 with
  | false =>
    rw [h0 rfl] at hR
    have z:=hR σ[j] H (Same.refl H)
    rw [List.set_getElem_self] at z
    exact ⟨.bl false,List.getElem?_set_self hk,false,rfl,iteF z⟩
  | true =>
    obtain ⟨x,a1,a2⟩:=h2 rfl
    refine ⟨.bl true,List.getElem?_set_self hk,true,rfl,iteT (a1 _ (a2 _ fun H2 s2=>?_))⟩
    have z:=hR (some x) H2 s2
    show R D (((σ.set k (some (.bl true))).set j (some x)).set k (some (.bl d))) H2
    rw [List.set_comm _ _ hjk,List.set_set]
    exact z
theorem num_due {n t:Int} {rs:List (Int × Int)} (hO:RsOk rs) (h1:t = lcmL (rs.map (·.2))) (h2:0 ≤ n) (h3:n < t):numShows n t rs = (rs.map fun p=>decide (n % p.2 = p.1)).all id:=by
  unfold numShows
  rw [decT h2,decT h3,decT h1,List.all_map]
  have:(rs.all fun p=>decide ((n - p.1) % p.2 = 0)) = rs.all (id ∘ fun p=>decide (n % p.2 = p.1)):=by
    apply Bool.eq_iff_iff.mpr
    rw [List.all_eq_true,List.all_eq_true]
    constructor
    · intro hh r hr2
      have ho:=hO r hr2
      have:=hh r hr2
      simp only [decide_eq_true_eq] at this
      simp only [Function.comp,id,decide_eq_true_eq]
      exact (rest_mod ho.1 ho.2.1).mpr this
    · intro hh r hr2
      have ho:=hO r hr2
      have:=hh r hr2
      simp only [Function.comp,id,decide_eq_true_eq] at this
      simp only [decide_eq_true_eq]
      exact (rest_mod ho.1 ho.2.1).mp this
  rw [this]
  simp
def sp_rests_right (K:PySem.W.Frag):Sp:=fun vs H Q _=>∃ (a:Addr) (c:Int) (rs:List (Int × Int)),vs = [.ref a,.int c] ∧ PrsAt H a rs ∧ RsOk rs ∧ rs.length ≤ 63 ∧ ∀ H',Same H H' → Q (.bl true) H'
set_option maxHeartbeats 4000000 in
theorem xcK (T:Txt K mg A):FnOk P w K mg base CX0 7 A.xbT A.xcd ["_law_rests_here", "_law_cell"] (sp_rests_right K):=by
  have xmL:=xoF (P:=P) (w:=w) (base:=base) T
  have xmM:=xoG (P:=P) (w:=w) (base:=base) T
  have xmN:=xoH (P:=P) (w:=w) (base:=base) T
  have xtr:=xs4 (P:=P) (w:=w) (base:=base) T
  have xd0:=xjV (P:=P) (w:=w) (base:=base) T
  have xc7:=xhX (P:=P) (w:=w) (base:=base) T
  have xiF:=xhV (P:=P) (w:=w) (base:=base) T
  have xge:=xfD (P:=P) (w:=w) (base:=base) T
  refine T.xbL.ok xbD (fun vs H Q E h=>?_) (fun cdv Ar outer s H vs Q E hr h=>?_)
  · obtain ⟨a,c,rs,rfl,_⟩:=h
    rfl
  obtain ⟨a,cl,rs,rfl,hA,hO,hL,q⟩:=h
  refine ⟨_,(@pss_cons _ _ _ _ _ (@ps_par _ _ (2) (3) _ _ _ _ _ _ _ _ _ _ _ rfl xbD.nd rfl rfl (by decide) rfl rfl (@pa_consN _ _ _ _ _ (@pe_call _ _ _ _ _ _ _ _ _ _ _ _ _ _ _ _ xtr (hr.mono (by decide)) rfl T.xt2 T.xtQ T.xsv .nil pass0 (@pa_consN _ _ _ _ _ (@pv _ 0 _ _ (by rfl) (Or.inl rfl) (by decide) (by decide)) (@pa_nil _) (by rfl)) (by decide) (by rfl) (by rfl)) (@pa_consN _ _ _ _ _ (@pe_int _ _ _ _) (@pa_nil _) (by rfl)) (by rfl)) rfl (by rfl)) (@pss_cons _ _ _ _ _ (@ps_for _ _ _ _ _ _ _ _ PassesOwn.never rfl (@pi_list _ _ _ _ (@pv _ 0 _ _ (by rfl) (Or.inl rfl) (by decide) (by decide))) (@pg_tup _ _ _ _ _ (2) rfl (@pgs_cons _ _ _ _ _ (@pg_name _ _ (4) _ xbD.nd rfl (Or.inl rfl) (Or.inl rfl)) (@pgs_cons _ _ _ _ _ (@pg_name _ _ (5) _ xbD.nd rfl (Or.inl rfl) (Or.inl rfl)) (@pgs_nil _) (by rfl)) (by rfl)) (by rfl) (by rfl)) (@pss_one _ _ _ (@ps_set _ _ (3) _ _ _ _ xbD.nd rfl (Or.inl rfl) (@pe_op _ _ _ _ _ _ _ _ op_fdiv (@pe_op _ _ _ _ _ _ _ _ op_mul (@pv _ 3 _ _ (by rfl) (Or.inl rfl) (by decide) (by decide)) (@pv _ 5 _ _ (by rfl) (Or.inl rfl) (by decide) (by decide))) (@pe_call _ _ _ _ _ _ _ _ _ _ _ _ _ _ _ _ xmM (hr.mono (by decide)) rfl T.xoi T.xn1 T.xky .nil pass0 (@pa_consN _ _ _ _ _ (@pv _ 3 _ _ (by rfl) (Or.inl rfl) (by decide) (by decide)) (@pa_consN _ _ _ _ _ (@pv _ 5 _ _ (by rfl) (Or.inl rfl) (by decide) (by decide)) (@pa_nil _) (by rfl)) (by rfl)) (by decide) (by rfl) (by rfl))) (by rfl) (Or.inl rfl))) (by intro _; rfl)) (@pss_cons _ _ _ _ _ (@ps_set _ _ (6) _ _ _ _ xbD.nd rfl (Or.inl rfl) (@pe_ifExp _ _ _ _ _ _ _ _ (@pt_val _ _ _ (@pe_callB _ _ _ _ _ _ _ _ _ call_isinst rfl T.b_isinstance B.isinstance (@pa_consN _ _ _ _ _ (@pv _ 2 _ _ (by rfl) (Or.inl rfl) (by decide) (by decide)) (@pa_consN _ _ _ _ _ (@pe_glob _ _ (.ref _) _ _ rfl T.xr7 rfl (by decide)) (@pa_nil _) (by rfl)) (by rfl)) (by decide) (by decide) (by rfl) (by rfl)) (by intro _; rfl)) (@pe_fld _ _ _ _ _ (@pv _ 2 _ _ (by rfl) (Or.inl rfl) (by decide) (by decide)) (by rfl)) (@pe_call _ _ _ _ _ _ _ _ _ _ _ _ _ _ _ _ xmL (hr.mono (by decide)) rfl T.xoh T.xn0 T.xkx .nil pass0 (@pa_consN _ _ _ _ _ (@pv _ 1 _ _ (by rfl) (Or.inl rfl) (by decide) (by decide)) (@pa_consN _ _ _ _ _ (@pe_int _ _ _ _) (@pa_consN _ _ _ _ _ (@pe_int _ _ _ _) (@pa_nil _) (by rfl)) (by rfl)) (by rfl)) (by decide) (by rfl) (by rfl))) (by rfl) (Or.inl rfl)) (@pss_cons _ _ _ _ _ (@ps_for _ _ _ _ _ _ _ _ PassesOwn.never rfl (@pi_list _ _ _ _ (@pe_lst _ _ _ _ (@pa_consN _ _ _ _ _ (@pe_tup _ _ _ _ _ (@pa_consN _ _ _ _ _ (@pv _ 6 _ _ (by rfl) (Or.inl rfl) (by decide) (by decide)) (@pa_consN _ _ _ _ _ (@pv _ 3 _ _ (by rfl) (Or.inl rfl) (by decide) (by decide)) (@pa_nil _) (by rfl)) (by rfl))) (@pa_consN _ _ _ _ _ (@pe_tup _ _ _ _ _ (@pa_consN _ _ _ _ _ (@pe_op _ _ _ _ _ _ _ _ op_add (@pv _ 6 _ _ (by rfl) (Or.inl rfl) (by decide) (by decide)) (@pv _ 3 _ _ (by rfl) (Or.inl rfl) (by decide) (by decide))) (@pa_consN _ _ _ _ _ (@pv _ 3 _ _ (by rfl) (Or.inl rfl) (by decide) (by decide)) (@pa_nil _) (by rfl)) (by rfl))) (@pa_consN _ _ _ _ _ (@pe_tup _ _ _ _ _ (@pa_consN _ _ _ _ _ (@pe_op _ _ _ _ _ _ _ _ op_sub (@pv _ 6 _ _ (by rfl) (Or.inl rfl) (by decide) (by decide)) (@pv _ 3 _ _ (by rfl) (Or.inl rfl) (by decide) (by decide))) (@pa_consN _ _ _ _ _ (@pv _ 3 _ _ (by rfl) (Or.inl rfl) (by decide) (by decide)) (@pa_nil _) (by rfl)) (by rfl))) (@pa_consN _ _ _ _ _ (@pe_tup _ _ _ _ _ (@pa_consN _ _ _ _ _ (@pv _ 6 _ _ (by rfl) (Or.inl rfl) (by decide) (by decide)) (@pa_consN _ _ _ _ _ (@pe_op _ _ _ _ _ _ _ _ op_mul (@pe_int _ _ _ _) (@pv _ 3 _ _ (by rfl) (Or.inl rfl) (by decide) (by decide))) (@pa_nil _) (by rfl)) (by rfl))) (@pa_nil _) (by rfl)) (by rfl)) (by rfl)) (by rfl)))) (@pg_tup _ _ _ _ _ (2) rfl (@pgs_cons _ _ _ _ _ (@pg_name _ _ (7) _ xbD.nd rfl (Or.inr rfl) (Or.inl rfl)) (@pgs_cons _ _ _ _ _ (@pg_name _ _ (5) _ xbD.nd rfl (Or.inl rfl) (Or.inl rfl)) (@pgs_nil _) (by rfl)) (by rfl)) (by rfl) (by rfl)) (@pss_one _ _ _ (@ps_for _ _ _ _ _ _ _ _ PassesOwn.never rfl (@pi_tup _ _ _ _ (@pe_tup _ _ _ _ _ (@pa_consN _ _ _ _ _ (@pe_int _ _ _ _) (@pa_consN _ _ _ _ _ (@pe_int _ _ _ _) (@pa_nil _) (by rfl)) (by rfl)))) (@pg_name _ _ (8) _ xbD.nd rfl (Or.inr rfl) (Or.inl rfl)) (@pss_cons _ _ _ _ _ (@ps_set _ _ (9) _ _ _ _ xbD.nd rfl (Or.inl rfl) (@pe_and _ _ _ _ _ _ _ (@pe_cmpR _ _ _ _ _ _ _ _ op_eqI (@pv _ 5 _ _ (by rfl) (Or.inl rfl) (by decide) (by decide)) (@pv _ 3 _ _ (by rfl) (Or.inl rfl) (by decide) (by decide)) (nomark _)) (@pe_one _ _ _ _ _ (@pe_chain _ _ _ _ _ _ _ _ _ _ _ _ op_le op_lt (@pe_int _ _ _ _) (@pe_op _ _ _ _ _ _ _ _ op_add (@pv _ 7 _ _ (by rfl) (Or.inr (Or.inl rfl)) (by decide) (by decide)) (@pv _ 8 _ _ (by rfl) (Or.inr (Or.inl rfl)) (by decide) (by decide))) (@pv _ 3 _ _ (by rfl) (Or.inl rfl) (by decide) (by decide)) (by with_unfolding_all rfl)))) (by rfl) (Or.inl rfl)) (@pss_cons _ _ _ _ _ (@ps_if _ _ _ _ _ _ _ _ (@pt_val _ _ _ (@pv _ 9 _ _ (by rfl) (Or.inl rfl) (by decide) (by decide)) (by intro _; rfl)) (@pss_one _ _ _ (@ps_set _ _ (9) _ _ _ _ xbD.nd rfl (Or.inl rfl) (@pe_callB _ _ _ _ _ _ _ _ _ (call_all rfl) rfl T.b_all B.all (@pa_consN _ _ _ _ _ (@pe_comp0 _ _ (["_law_some", "_law_more", "_law_rest", "_law_other"]) ([some 7,some 8,none,none]) _ _ _ _ _ _ _ _ xaf rfl (@pi_list _ _ _ _ (@pv _ 0 _ _ (by rfl) (Or.inl rfl) (by decide) (by decide))) (fun z=>(@pg_tup _ _ _ _ _ (2) rfl (@pgs_cons _ _ _ _ _ (@pg_name _ _ (2) _ xaf.nd rfl (Or.inl rfl) (by exact .inr rfl)) (@pgs_cons _ _ _ _ _ (@pg_name _ _ (3) _ xaf.nd rfl (Or.inl rfl) (by exact .inr rfl)) (@pgs_nil _) (by rfl)) (by rfl)) (by rfl) (by rfl))) (sets_two _ _ 2 3) (by decide) (fun z=>(@pe_cmpR _ _ _ _ _ _ _ _ op_eqI (@pe_op _ _ _ _ _ _ _ _ op_mod (@pe_op _ _ _ _ _ _ _ _ op_add (@pv _ 0 _ _ (by rfl) (by exact .inr (.inl rfl)) (by decide) (by decide)) (@pv _ 1 _ _ (by rfl) (by exact .inr (.inl rfl)) (by decide) (by decide))) (@pv _ 3 _ _ (by rfl) (by exact .inl rfl) (by decide) (by decide))) (@pv _ 2 _ _ (by rfl) (by exact .inl rfl) (by decide) (by decide)) (nomark _))) (by intro _; rfl)) (@pa_nil _) (by rfl)) (by decide) (by decide) (by rfl) (by rfl)) (by rfl) (Or.inl rfl))) (@pss_nil _)) (@pss_cons _ _ _ _ _ (@ps_set _ _ (10) _ _ _ _ xbD.nd rfl (Or.inl rfl) (@pe_make _ _ _ _ _ _ _ _ _ _ _ _ _ _ _ _ _ T.xqU xc7 (hr.mono (by decide)) rfl T.xr7 T.xbY .nil pass0 (@pa_consN _ _ _ _ _ (@pe_op _ _ _ _ _ _ _ _ op_add (@pv _ 7 _ _ (by rfl) (Or.inr (Or.inl rfl)) (by decide) (by decide)) (@pv _ 8 _ _ (by rfl) (Or.inr (Or.inl rfl)) (by decide) (by decide))) (@pa_consN _ _ _ _ _ (@pv _ 5 _ _ (by rfl) (Or.inl rfl) (by decide) (by decide)) (@pa_nil _) (by rfl)) (by rfl)) (by decide) (by rfl) (by rfl)) (by rfl) (Or.inl rfl)) (@pss_cons _ _ _ _ _ (@ps_if _ _ _ _ _ _ _ _ (@PW.pt _ _ _ (@pw_or _ _ _ _ _ _ _ (@pt_cmpR _ _ _ _ _ _ _ _ op_neI (@pe_fld _ _ _ _ _ (@pv _ 10 _ _ (by rfl) (Or.inl rfl) (by decide) (by decide)) (by rfl)) (@pe_op _ _ _ _ _ _ _ _ op_add (@pv _ 7 _ _ (by rfl) (Or.inr (Or.inl rfl)) (by decide) (by decide)) (@pv _ 8 _ _ (by rfl) (Or.inr (Or.inl rfl)) (by decide) (by decide))) (nomark _)) (@pw_or1 _ _ _ _ (@pt_cmpR _ _ _ _ _ _ _ _ op_neI (@pe_fld _ _ _ _ _ (@pv _ 10 _ _ (by rfl) (Or.inl rfl) (by decide) (by decide)) (by rfl)) (@pv _ 5 _ _ (by rfl) (Or.inl rfl) (by decide) (by decide)) (nomark _))))) (@pss_one _ _ _ (@ps_ret _ _ _ _ (@pe_bl _ _ _ _))) (@pss_nil _)) (@pss_one _ _ _ (@ps_if _ _ _ _ _ _ _ _ (@pt_not _ _ _ _ (@pt_val _ _ _ (@pe_call _ _ _ _ _ _ _ _ _ _ _ _ _ _ _ _ xmN (hr.mono (by decide)) rfl T.xoj T.xn2 T.xkz .nil pass0 (@pa_consN _ _ _ _ _ (@pe_alt _ _ _ _ (@pe_meth _ _ _ _ _ _ _ _ _ _ _ _ _ _ _ _ _ _ _ _ (@pv _ 10 _ _ (by rfl) (Or.inl rfl) (by decide) (by decide)) T.xqs T.xfo xge (hr.mono (by decide)) T.xeL .nil pass0 (@pa_consN _ _ _ _ _ (@pv _ 0 _ _ (by rfl) (Or.inl rfl) (by decide) (by decide)) (@pa_nil _) (by rfl)) (by rfl) (by rfl) (by rfl)) (@pe_meth _ _ _ _ _ _ _ _ _ _ _ _ _ _ _ _ _ _ _ _ (@pv _ 10 _ _ (by rfl) (Or.inl rfl) (by decide) (by decide)) T.xrE T.xhD xiF (hr.mono (by decide)) T.xgu .nil pass0 (@pa_consN _ _ _ _ _ (@pv _ 0 _ _ (by rfl) (Or.inl rfl) (by decide) (by decide)) (@pa_nil _) (by rfl)) (by rfl) (by rfl) (by rfl))) (@pa_consN _ _ _ _ _ (@pv _ 9 _ _ (by rfl) (Or.inl rfl) (by decide) (by decide)) (@pa_nil _) (by rfl)) (by rfl)) (by decide) (by rfl) (by rfl)) (by intro _; rfl))) (@pss_one _ _ _ (@ps_ret _ _ _ _ (@pe_bl _ _ _ _))) (@pss_nil _))))))) (by intro _; rfl))) (by intro _; rfl)) (@pss_cons _ _ _ _ _ (@ps_set _ _ (11) _ _ _ _ xbD.nd rfl (Or.inl rfl) (@pe_callB _ _ _ _ _ _ _ _ _ call_len_seq rfl T.b_len B.len (@pa_consN _ _ _ _ _ (@pv _ 0 _ _ (by rfl) (Or.inl rfl) (by decide) (by decide)) (@pa_nil _) (by rfl)) (by decide) (by decide) (by rfl) (by rfl)) (by rfl) (Or.inl rfl)) (@pss_cons _ _ _ _ _ (@ps_for _ _ _ _ _ _ _ _ PassesOwn.never rfl (@pi_range1 _ _ _ _ _ _ rfl T.b_range (@pa_consN _ _ _ _ _ (@pe_int _ _ _ _) (@pa_nil _) (by rfl)) (by rfl)) (@pg_name _ _ (12) _ xbD.nd rfl (Or.inl rfl) (Or.inl rfl)) (@pss_cons _ _ _ _ _ (@ps_par _ _ (13) (14) _ _ _ _ _ _ _ _ _ _ _ rfl xbD.nd rfl rfl (by decide) rfl rfl (@pa_consN _ _ _ _ _ (@pe_op _ _ _ _ _ _ _ _ op_sub (@pe_call _ _ _ _ _ _ _ _ _ _ _ _ _ _ _ _ xmL (hr.mono (by decide)) rfl T.xoh T.xn0 T.xkx .nil pass0 (@pa_consN _ _ _ _ _ (@pe_op _ _ _ _ _ _ _ _ op_add (@pv _ 1 _ _ (by rfl) (Or.inl rfl) (by decide) (by decide)) (@pv _ 12 _ _ (by rfl) (Or.inl rfl) (by decide) (by decide))) (@pa_consN _ _ _ _ _ (@pe_int _ _ _ _) (@pa_consN _ _ _ _ _ (@pe_op _ _ _ _ _ _ _ _ op_add (@pv _ 11 _ _ (by rfl) (Or.inl rfl) (by decide) (by decide)) (@pe_int _ _ _ _)) (@pa_nil _) (by rfl)) (by rfl)) (by rfl)) (by decide) (by rfl) (by rfl)) (@pe_int _ _ _ _)) (@pa_consN _ _ _ _ _ (@pe_op _ _ _ _ _ _ _ _ op_sub (@pe_call _ _ _ _ _ _ _ _ _ _ _ _ _ _ _ _ xmL (hr.mono (by decide)) rfl T.xoh T.xn0 T.xkx .nil pass0 (@pa_consN _ _ _ _ _ (@pe_op _ _ _ _ _ _ _ _ op_add (@pv _ 1 _ _ (by rfl) (Or.inl rfl) (by decide) (by decide)) (@pv _ 12 _ _ (by rfl) (Or.inl rfl) (by decide) (by decide))) (@pa_consN _ _ _ _ _ (@pe_int _ _ _ _) (@pa_consN _ _ _ _ _ (@pe_op _ _ _ _ _ _ _ _ op_add (@pv _ 11 _ _ (by rfl) (Or.inl rfl) (by decide) (by decide)) (@pe_int _ _ _ _)) (@pa_nil _) (by rfl)) (by rfl)) (by rfl)) (by decide) (by rfl) (by rfl)) (@pe_int _ _ _ _)) (@pa_nil _) (by rfl)) (by rfl)) rfl (by rfl)) (@pss_cons _ _ _ _ _ (@ps_set _ _ (9) _ _ _ _ xbD.nd rfl (Or.inl rfl) (@pe_chain3 _ _ _ _ _ _ _ _ _ _ _ _ _ _ _ _ op_le op_lt op_lt (@pe_int _ _ _ _) (@pv _ 13 _ _ (by rfl) (Or.inl rfl) (by decide) (by decide)) (@pv _ 14 _ _ (by rfl) (Or.inl rfl) (by decide) (by decide)) (@pv _ 11 _ _ (by rfl) (Or.inl rfl) (by decide) (by decide)) (by with_unfolding_all rfl)) (by rfl) (Or.inl rfl)) (@pss_cons _ _ _ _ _ (@ps_if _ _ _ _ _ _ _ _ (@pt_val _ _ _ (@pv _ 9 _ _ (by rfl) (Or.inl rfl) (by decide) (by decide)) (by intro _; rfl)) (@pss_cons _ _ _ _ _ (@ps_set _ _ (15) _ _ _ _ xbD.nd rfl (Or.inl rfl) (@pe_op _ _ _ _ _ _ _ _ op_sub (@pe_ix _ _ _ _ _ _ _ ix_tup (@pe_ix _ _ _ _ _ _ _ ix_list (@pv _ 0 _ _ (by rfl) (Or.inl rfl) (by decide) (by decide)) (@pv _ 13 _ _ (by rfl) (Or.inl rfl) (by decide) (by decide)) (fun _ _=>rfl)) (@pe_int _ _ _ _) (fun _ _=>rfl)) (@pe_ix _ _ _ _ _ _ _ ix_tup (@pe_ix _ _ _ _ _ _ _ ix_list (@pv _ 0 _ _ (by rfl) (Or.inl rfl) (by decide) (by decide)) (@pv _ 14 _ _ (by rfl) (Or.inl rfl) (by decide) (by decide)) (fun _ _=>rfl)) (@pe_int _ _ _ _) (fun _ _=>rfl))) (by rfl) (Or.inl rfl)) (@pss_one _ _ _ (@ps_set _ _ (9) _ _ _ _ xbD.nd rfl (Or.inl rfl) (@pe_cmpR _ _ _ _ _ _ _ _ op_neI (@pe_op _ _ _ _ _ _ _ _ op_mod (@pv _ 15 _ _ (by rfl) (Or.inl rfl) (by decide) (by decide)) (@pe_call _ _ _ _ _ _ _ _ _ _ _ _ _ _ _ _ xmM (hr.mono (by decide)) rfl T.xoi T.xn1 T.xky .nil pass0 (@pa_consN _ _ _ _ _ (@pe_ix _ _ _ _ _ _ _ ix_tup (@pe_ix _ _ _ _ _ _ _ ix_list (@pv _ 0 _ _ (by rfl) (Or.inl rfl) (by decide) (by decide)) (@pv _ 13 _ _ (by rfl) (Or.inl rfl) (by decide) (by decide)) (fun _ _=>rfl)) (@pe_int _ _ _ _) (fun _ _=>rfl)) (@pa_consN _ _ _ _ _ (@pe_ix _ _ _ _ _ _ _ ix_tup (@pe_ix _ _ _ _ _ _ _ ix_list (@pv _ 0 _ _ (by rfl) (Or.inl rfl) (by decide) (by decide)) (@pv _ 14 _ _ (by rfl) (Or.inl rfl) (by decide) (by decide)) (fun _ _=>rfl)) (@pe_int _ _ _ _) (fun _ _=>rfl)) (@pa_nil _) (by rfl)) (by rfl)) (by decide) (by rfl) (by rfl))) (@pe_int _ _ _ _) (nomark _)) (by rfl) (Or.inl rfl)))) (@pss_nil _)) (@pss_cons _ _ _ _ _ (@ps_set _ _ (10) _ _ _ _ xbD.nd rfl (Or.inl rfl) (@pe_make _ _ _ _ _ _ _ _ _ _ _ _ _ _ _ _ _ T.xsb xd0 (hr.mono (by decide)) rfl T.xsT T.xde .nil pass0 (@pa_consN _ _ _ _ _ (@pv _ 13 _ _ (by rfl) (Or.inl rfl) (by decide) (by decide)) (@pa_consN _ _ _ _ _ (@pv _ 14 _ _ (by rfl) (Or.inl rfl) (by decide) (by decide)) (@pa_nil _) (by rfl)) (by rfl)) (by decide) (by rfl) (by rfl)) (by rfl) (Or.inl rfl)) (@pss_cons _ _ _ _ _ (@ps_if _ _ _ _ _ _ _ _ (@PW.pt _ _ _ (@pw_or _ _ _ _ _ _ _ (@pt_cmpR _ _ _ _ _ _ _ _ op_neI (@pe_fld _ _ _ _ _ (@pv _ 10 _ _ (by rfl) (Or.inl rfl) (by decide) (by decide)) (by rfl)) (@pv _ 13 _ _ (by rfl) (Or.inl rfl) (by decide) (by decide)) (nomark _)) (@pw_or1 _ _ _ _ (@pt_cmpR _ _ _ _ _ _ _ _ op_neI (@pe_fld _ _ _ _ _ (@pv _ 10 _ _ (by rfl) (Or.inl rfl) (by decide) (by decide)) (by rfl)) (@pv _ 14 _ _ (by rfl) (Or.inl rfl) (by decide) (by decide)) (nomark _))))) (@pss_one _ _ _ (@ps_ret _ _ _ _ (@pe_bl _ _ _ _))) (@pss_nil _)) (@pss_one _ _ _ (@ps_if _ _ _ _ _ _ _ _ (@pt_not _ _ _ _ (@pt_val _ _ _ (@pe_call _ _ _ _ _ _ _ _ _ _ _ _ _ _ _ _ xmN (hr.mono (by decide)) rfl T.xoj T.xn2 T.xkz .nil pass0 (@pa_consN _ _ _ _ _ (@pe_alt _ _ _ _ (@pe_meth _ _ _ _ _ _ _ _ _ _ _ _ _ _ _ _ _ _ _ _ (@pv _ 10 _ _ (by rfl) (Or.inl rfl) (by decide) (by decide)) T.xqs T.xfo xge (hr.mono (by decide)) T.xeL .nil pass0 (@pa_consN _ _ _ _ _ (@pv _ 0 _ _ (by rfl) (Or.inl rfl) (by decide) (by decide)) (@pa_nil _) (by rfl)) (by rfl) (by rfl) (by rfl)) (@pe_meth _ _ _ _ _ _ _ _ _ _ _ _ _ _ _ _ _ _ _ _ (@pv _ 10 _ _ (by rfl) (Or.inl rfl) (by decide) (by decide)) T.xrE T.xhD xiF (hr.mono (by decide)) T.xgu .nil pass0 (@pa_consN _ _ _ _ _ (@pv _ 0 _ _ (by rfl) (Or.inl rfl) (by decide) (by decide)) (@pa_nil _) (by rfl)) (by rfl) (by rfl) (by rfl))) (@pa_consN _ _ _ _ _ (@pv _ 9 _ _ (by rfl) (Or.inl rfl) (by decide) (by decide)) (@pa_nil _) (by rfl)) (by rfl)) (by decide) (by rfl) (by rfl)) (by intro _; rfl))) (@pss_one _ _ _ (@ps_ret _ _ _ _ (@pe_bl _ _ _ _))) (@pss_nil _)))))))) (by intro _; rfl)) (@pss_one _ _ _ (@ps_ret _ _ _ _ (@pe_bl _ _ _ _))))))))),?_⟩
  refine ⟨_,rfl,a,rs,rfl,hA,hO,by omega,fun p c x y H1 s1 hC hSh=>?_⟩
  have hA1:=hA.same s1
  obtain ⟨as,hS,hPd⟩:=id hA1
  have hlen:=hPd.length
  refine ⟨_,_,rfl,?_⟩
  refine ⟨_,rfl,a,rfl,⟨_,SqL.of hS⟩,for_list (K:=K) (a:=a) (xs:=as.map V.ref) (fun i σ H'=>H' = H1 ∧ ∃ (f4 f5:Option V),σ = [some (.ref a),some (.int cl),some (.ref p),some (.int (lcmL ((rs.take i).map (·.2)))),f4,f5,none,none,none,none,none,none,none,none,none,none]) ⟨rfl,_,_,rfl⟩ (fun i σ H' _ ⟨e,_⟩=>e ▸ SqL.of hS) ?_ ?_⟩
  · rintro i v σ H' hi ⟨rfl,f4,f5,rfl⟩
    obtain ⟨b,r,rfl,hb,hr',hq⟩:=prs_get hPd hi
    have ho:=hO r (List.mem_of_getElem? hr')
    have hpos:=lcmL_pos' (rs:=rs.take i) fun z hz=>hO z (List.mem_of_mem_take hz)
    have hg:=gcd_small (w:=lcmL ((rs.take i).map (·.2))) (t:=r.2) (by omega)
    refine ⟨b,_,rfl,SqT.of hq,rfl,_,_,rfl,_,_,rfl,rfl,?_⟩
    refine ⟨_,rfl,_,rfl,_,_,rfl,rfl,.inr ⟨by omega,by omega⟩,_,rfl,_,rfl,_,_,rfl,_,_,rfl,rfl,⟨by omega,by omega⟩,rfl,some (.int r.1),some (.int r.2),?_⟩
    rw [take_snoc hr',List.map_append]
    show _ = [some (V.ref a),some (V.int cl),some (V.ref p),some (V.int (lcmL ((rs.take i).map (·.2) ++ [r.2]))),some (.int r.1),some (.int r.2),none,none,none,none,none,none,none,none,none,none]
    rw [← lcmL_snoc,← mul_part (by omega)]
    rfl
  rintro σ H' ⟨rfl,f4,f5,rfl⟩
  rw [List.length_map,hlen,List.take_length]
  have hpos:=lcmL_pos' hO
  generalize hW:lcmL (rs.map (·.2)) = W at hpos ⊢
  have hty:∃ t,TyOf K H' (.ref p) t ∧ PySem.W.kitOne K t (.ref A.xrA) = some (!c):=by
    cases c with
    | true =>
      obtain ⟨dx,hop⟩:ObjAt H' p A.xsw [("one", .int x),("other", .int y)]:=hC
      exact ⟨_,T.xsm _ p dx _ hop,T.xfb⟩
    | false =>
      obtain ⟨dx,hop⟩:ObjAt H' p A.xrA [("number", .int x),("turn", .int y)]:=hC
      exact ⟨_,T.xrn _ p dx _ hop,T.xej⟩
  obtain ⟨ty,hty,hki⟩:=hty
  refine ⟨_,rfl,_,_,_,_,_,rfl,hty,rfl,hki,_,rfl,if_num (fun e KK hk=>?_) (fun e KK hk=>?_) fun N H2 s2=>?_⟩
  · cases c with
    | true=>cases e
    | false =>
      obtain ⟨dx,hop⟩:ObjAt H' p A.xrA [("number", .int x),("turn", .int y)]:=hC
      exact ⟨_,rfl,p,A.xrA,dx,_,_,rfl,hop,T.xqs,T.xep,rfl,hk _ _ (Same.refl _)⟩
  · exact ⟨_,rfl,cl,1,1000,rfl,(by decide),fun v H2 v0 v1 s2=>hk v H2 s2⟩
  have s12:=s1.trans s2
  have hA2:=hA.same s12
  refine ⟨_,rfl,_,rfl,(by show 2 ≤ sizeLine; decide),fun u1 h1=>?_⟩
  have r1:=same_new h1 (.tup [.int N,.int W])
  refine ⟨_,rfl,_,rfl,_,_,rfl,rfl,_,rfl,(by show 2 ≤ sizeLine; decide),fun u2 h2=>?_⟩
  have r2:=same_new h2 (.tup [.int (N + W),.int W])
  refine ⟨_,rfl,_,rfl,_,_,rfl,rfl,_,rfl,(by show 2 ≤ sizeLine; decide),fun u3 h3=>?_⟩
  have r3:=same_new h3 (.tup [.int (N - W),.int W])
  refine ⟨_,rfl,_,rfl,_,_,rfl,rfl,.inl ⟨by decide,by decide⟩,(by show 2 ≤ sizeLine; decide),fun u4 h4=>?_⟩
  have r4:=same_new h4 (.tup [.int N,.int (2 * W)])
  refine ⟨(by show 4 ≤ sizeLine; decide),fun z hz=>?_⟩
  have r5:=same_new hz (.lst [.ref u1,.ref u2,.ref u3,.ref u4])
  have hZ:(upd (upd (upd (upd (upd H2 u1 (.tup [.int N,.int W])) u2 (.tup [.int (N + W),.int W])) u3 (.tup [.int (N - W),.int W])) u4 (.tup [.int N,.int (2 * W)])) z (.lst [.ref u1,.ref u2,.ref u3,.ref u4])) z = some (.lst [.ref u1,.ref u2,.ref u3,.ref u4]):=upd_same
  have g1:=r5 _ _ (r4 _ _ (r3 _ _ (r2 _ _ (show upd H2 u1 (.tup [.int N,.int W]) u1 = _ from upd_same))))
  have g2:=r5 _ _ (r4 _ _ (r3 _ _ (show upd (upd H2 u1 (.tup [.int N,.int W])) u2 (.tup [.int (N + W),.int W]) u2 = _ from upd_same)))
  have g3:=r5 _ _ (r4 _ _ (show upd (upd (upd H2 u1 (.tup [.int N,.int W])) u2 (.tup [.int (N + W),.int W])) u3 (.tup [.int (N - W),.int W]) u3 = _ from upd_same))
  have g4:=r5 _ _ (show upd (upd (upd (upd H2 u1 (.tup [.int N,.int W])) u2 (.tup [.int (N + W),.int W])) u3 (.tup [.int (N - W),.int W])) u4 (.tup [.int N,.int (2 * W)]) u4 = _ from upd_same)
  have s13:=s12.trans ((((r1.trans r2).trans r3).trans r4).trans r5)
  generalize upd (upd (upd (upd (upd H2 u1 (.tup [.int N,.int W])) u2 (.tup [.int (N + W),.int W])) u3 (.tup [.int (N - W),.int W])) u4 (.tup [.int N,.int (2 * W)])) z (.lst [.ref u1,.ref u2,.ref u3,.ref u4]) = H3 at *
  have hfour:∀ v,v ∈ ([.ref u1,.ref u2,.ref u3,.ref u4]:List V) → ∃ u s t,v = .ref u ∧ H3 u = some (.tup [.int s,.int t]):=by
    intro v hv
    simp only [List.mem_cons,List.not_mem_nil,or_false] at hv
    rcases hv with rfl | rfl | rfl | rfl
    · exact ⟨_,_,_,rfl,g1⟩
    · exact ⟨_,_,_,rfl,g2⟩
    · exact ⟨_,_,_,rfl,g3⟩
    · exact ⟨_,_,_,rfl,g4⟩
  refine ⟨z,rfl,⟨_,SqL.of hZ⟩,?_⟩
  refine for_list (K:=K) (a:=z) (xs:=[.ref u1,.ref u2,.ref u3,.ref u4]) (fun i σ H'=>∃ (f4 f5 f7 f8 f9 f10:Option V),σ = [some (.ref a),some (.int cl),some (.ref p),some (.int W),f4,f5,some (.int N),f7,f8,f9,f10,none,none,none,none,none] ∧ Same H3 H') ⟨_,_,_,_,_,_,rfl,Same.refl _⟩ (fun i σ H' _ ⟨_,_,_,_,_,_,_,e⟩=>SqL.of (e _ _ hZ)) ?_ ?_
  · rintro i v σ H4 hi ⟨f4,f5,f7,f8,f9,f10,rfl,e1⟩
    obtain ⟨u,sm,t,rfl,hu⟩:=hfour v (List.mem_of_getElem? hi)
    refine ⟨u,_,rfl,SqT.of (e1 _ _ hu),rfl,_,_,rfl,_,_,rfl,rfl,?_⟩
    refine ⟨(by show 2 ≤ sizeLine; decide),fun y hy=>?_⟩
    have e2:=e1.trans (same_new hy (.tup [.int 0,.int 1]))
    have hY:(upd H4 y (.tup [.int 0,.int 1])) y = some (.tup [.int 0,.int 1]):=upd_same
    generalize upd H4 y (.tup [.int 0,.int 1]) = H5 at *
    refine ⟨y,rfl,⟨_,SqT.of hY⟩,?_⟩
    refine for_tup (K:=K) (a:=y) (xs:=[.int 0,.int 1]) (fun i σ H'=>∃ (f4 f8 f9 f10:Option V),σ = [some (.ref a),some (.int cl),some (.ref p),some (.int W),f4,some (.int t),some (.int N),some (.int sm),f8,f9,f10,none,none,none,none,none] ∧ Same H5 H') ⟨_,_,_,_,rfl,Same.refl _⟩ (fun i σ H' _ ⟨_,_,_,_,_,e⟩=>SqT.of (e _ _ hY)) ?_ ?_
    · rintro j v σ H6 hj ⟨f4,f8,f9,f10,rfl,e3⟩
      obtain ⟨m,rfl⟩:∃ m:Int,v = .int m:=by
        have hv:=List.mem_of_getElem? hj
        simp only [List.mem_cons,List.not_mem_nil,or_false] at hv
        rcases hv with rfl | rfl <;> exact ⟨_,rfl⟩
      have s16:=(s13.trans e2).trans e3
      have hA6:=hA.same s16
      obtain ⟨as6,hL6,hP6⟩:=id hA6
      have hal6:=hP6.length
      show tSeq _ _ _ _ _
      refine due_pat (k:=9) (d1:=decide (t = W) && (decide (0 ≤ sm + m) && decide (sm + m < W))) (d:=numShows (sm + m) t rs) (by show 9 < 16; decide) ?_ ?_ ?_ ?_
      · intro KK hK
        refine ⟨_,rfl,_,rfl,_,_,rfl,rfl,_,rfl,?_⟩
        by_cases k1:t = W
        case neg =>
          rw [decF k1] at hK ⊢
          exact iteF hK
        rw [decT k1] at hK ⊢
        refine iteT ⟨_,rfl,_,rfl,_,_,rfl,rfl,_,_,rfl,rfl,_,rfl,?_⟩
        by_cases k2:0 ≤ sm + m
        case neg =>
          rw [decF k2] at hK ⊢
          exact iteF hK
        rw [decT k2] at hK ⊢
        exact iteT ⟨_,rfl,_,_,rfl,rfl,hK⟩
      · intro e
        unfold numShows
        rw [hW]
        by_cases k1:t = W
        case neg=>rw [decF k1]; simp
        rw [decT k1] at e
        by_cases k2:0 ≤ sm + m
        case neg=>rw [decF k2]; rfl
        rw [decT k2] at e
        have k3:¬ sm + m < W:=fun z=>by rw [decT z] at e; cases e
        rw [decF (show ¬ sm + m < t by omega)]
        simp
      · intro e KK hK
        have k1:t = W:=Classical.byContradiction fun z=>by rw [decF z] at e; cases e
        rw [decT k1] at e
        have k2:0 ≤ sm + m:=Classical.byContradiction fun z=>by rw [decF z] at e; cases e
        rw [decT k2] at e
        have k3:sm + m < W:=Classical.byContradiction fun z=>by rw [decF z] at e; cases e
        refine ⟨_,rfl,a,rfl,⟨_,SqL.of hL6⟩,comp_list (K:=K) (a:=a) (xs:=as6.map V.ref) (fun i ys H2=>H2 = H6 ∧ ys = ((rs.take i).map fun p=>decide ((sm + m) % p.2 = p.1)).map V.bl) ⟨rfl,rfl⟩ (by rw [List.length_map]; exact small100 (by omega)) ?_ ?_ ?_⟩
        · rintro i ys H2 hi ⟨rfl,rfl⟩
          rw [List.length_map] at hi
          exact ⟨SqL.of hL6,by rw [List.length_map,List.length_map,List.length_take]; omega⟩
        · rintro i v ys H2 hx ⟨rfl,rfl⟩
          obtain ⟨b,r,rfl,hb,hr',hq⟩:=prs_get hP6 hx
          have ho:=hO r (List.mem_of_getElem? hr')
          refine ⟨b,_,rfl,SqT.of hq,rfl,_,_,rfl,_,_,rfl,rfl,_,rfl,_,rfl,_,_,rfl,rfl,_,rfl,_,_,rfl,rfl,(by omega),_,rfl,_,_,rfl,rfl,rfl,?_⟩
          rw [take_snoc hr',List.map_append,List.map_append]
          rfl
        · rintro ys H2 ⟨rfl,rfl⟩ l hl
          refine ⟨l,(rs.map fun p=>decide ((sm + m) % p.2 = p.1)),rfl,SqL.of (by rw [upd_same,List.length_map,hal6,List.take_length]),?_⟩
          have z:=hK _ (same_new hl (.lst ((((rs.take (as6.map V.ref).length).map fun p=>decide ((sm + m) % p.2 = p.1))).map V.bl)))
          rw [num_due hO (by rw [hW]; exact k1) k2 (by omega)] at z
          exact z
      · intro H7 s7
        refine ⟨_,rfl,_,rfl,_,_,rfl,rfl,_,rfl,?_⟩
        intro pn dx0 hpn hdx0 hne0
        refine make2v hpn hdx0 fun H8 s8 hon=>⟨rfl,?_⟩
        obtain ⟨dx,hop⟩:=id hon
        have s78:=s7.trans s8
        refine ⟨_,rfl,pn,A.xrA,dx,_,_,rfl,hop,T.xqs,T.xep,rfl,_,rfl,_,rfl,_,_,rfl,rfl,_,_,rfl,rfl,_,rfl,?_⟩
        rw [decT rfl]
        refine iteF ⟨_,rfl,pn,A.xrA,dx,_,_,rfl,hop,T.xqs,T.xhH,rfl,_,rfl,_,_,rfl,rfl,_,rfl,?_⟩
        rw [decT rfl]
        refine iteF ?_
        refine Or.inl ⟨_,rfl,pn,dx,_,rfl,hop,rfl,_,rfl,pn,a,_,_,rs,rfl,hon,PrsAt.pairs (hA6.same s78),hO,by omega,fun H9 s9=>?_⟩
        refine ⟨_,rfl,_,_,rfl,_,rfl,?_⟩
        rw [beq_self_eq_true]
        exact iteF ⟨_,_,_,_,rfl,e3.trans (s78.trans s9)⟩
    · rintro σ H6 ⟨f4,f8,f9,f10,rfl,e3⟩
      exact ⟨_,_,_,_,_,_,rfl,e2.trans e3⟩
  rintro σ H4 ⟨f4,f5,f7,f8,f9,f10,rfl,e1⟩
  have s14:=s13.trans e1
  have hA4:=hA.same s14
  obtain ⟨as4,hL4,hP4⟩:=id hA4
  have hal4:=hP4.length
  refine ⟨_,rfl,a,_,rfl,.inl (SqL.of hL4),?_⟩
  rw [List.length_map,hal4]
  refine ⟨4,rfl,by decide,by decide,?_⟩
  refine for_range (lo:=0) (n:=4) (fun i σ H'=>∃ (f4 f5 f7 f8 f9 f10 f12 f13 f14 f15:Option V),σ = [some (.ref a),some (.int cl),some (.ref p),some (.int W),f4,f5,some (.int N),f7,f8,f9,f10,some (.int (rs.length:Nat)),f12,f13,f14,f15] ∧ Same H4 H') ⟨_,_,_,_,_,_,_,_,_,_,rfl,Same.refl _⟩ ?_ ?_
  · rintro i σ H5 hi ⟨f4,f5,f7,f8,f9,f10,f12,f13,f14,f15,rfl,e2⟩
    refine ⟨_,rfl,_,rfl,_,_,rfl,rfl,_,rfl,_,_,rfl,rfl,_,2,_,rfl,(by omega),fun v1 H6 v10 v11 sv1=>⟨_,_,rfl,rfl,?_⟩⟩
    refine ⟨_,rfl,_,rfl,_,_,rfl,rfl,_,rfl,_,_,rfl,rfl,_,3,_,rfl,(by omega),fun v2 H7 v20 v21 sv2=>⟨_,_,rfl,rfl,_,_,rfl,?_⟩⟩
    have e3:=e2.trans (sv1.trans sv2)
    have hA7:=hA4.same e3
    obtain ⟨as7,hL7,hP7⟩:=id (hA7.pairs (K:=K))
    have hal7:=hP7.length
    dsimp only
    generalize hx1:v1 - 1 = o1
    generalize hx2:v2 - 1 = o2
    refine due_pat2 (k:=9) (j:=15) (d1:=decide (0 ≤ o1) && (decide (o1 < o2) && decide (o2 < (rs.length:Int)))) (d:=clashShows o1 o2 rs) ?_ ?_ (by decide) ?_ ?_ ?_ ?_
    · show 9 < 16; decide
    · show 15 < 16; decide
    · intro KK hK
      refine ⟨_,rfl,_,_,rfl,rfl,_,rfl,?_⟩
      by_cases k1:0 ≤ o1
      case neg =>
        rw [decF k1] at hK ⊢
        exact iteF hK
      rw [decT k1] at hK ⊢
      refine iteT ⟨_,rfl,_,_,rfl,rfl,_,rfl,?_⟩
      by_cases k2:o1 < o2
      case neg =>
        rw [decF k2] at hK ⊢
        exact iteF hK
      rw [decT k2] at hK ⊢
      exact iteT ⟨_,rfl,_,_,rfl,rfl,hK⟩
    · intro e
      unfold clashShows
      by_cases k1:0 ≤ o1
      case neg=>rw [decF k1]; rfl
      rw [decT k1] at e
      by_cases k2:o1 < o2
      case neg=>rw [decF k2]; simp
      rw [decT k2] at e
      have k3:¬ o2 < (rs.length:Int):=fun z=>by rw [decT z] at e; cases e
      rw [decF k3]
      simp
    · intro e
      have k1:0 ≤ o1:=Classical.byContradiction fun z=>by rw [decF z] at e; cases e
      rw [decT k1] at e
      have k2:o1 < o2:=Classical.byContradiction fun z=>by rw [decF z] at e; cases e
      rw [decT k2] at e
      have k3:o2 < (rs.length:Int):=Classical.byContradiction fun z=>by rw [decF z] at e; cases e
      obtain ⟨b1,q1,e1',f1,t1⟩:=pairs_at hP7 k1 (by omega)
      obtain ⟨b2,q2,e2',f2,t2⟩:=pairs_at hP7 (show 0 ≤ o2 by omega) k3
      have o1':=hO q1 (List.mem_of_getElem? f1)
      have o2':=hO q2 (List.mem_of_getElem? f2)
      have hg0:(0:Int) < (Int.gcd q1.2 q2.2:Int):=(gcd_small (w:=q1.2) (t:=q2.2) (by omega)).1
      refine ⟨.int (q1.1 - q2.1),fun KK hK=>?_,fun KK hK=>?_⟩
      · exact ⟨_,rfl,_,rfl,a,_,_,_,rfl,rfl,hL7,e1',b1,_,_,_,rfl,rfl,t1,rfl,_,rfl,_,rfl,a,_,_,_,rfl,rfl,hL7,e2',b2,_,_,_,rfl,rfl,t2,rfl,_,_,rfl,rfl,hK⟩
      · have ec:clashShows o1 o2 rs = !decide ((q1.1 - q2.1) % (Int.gcd q1.2 q2.2:Int) = 0):=by
          unfold clashShows
          rw [decT k1,decT k2,decT k3,f1,f2]
          rfl
        have z:=hK _ (Same.refl _)
        rw [ec] at z
        exact ⟨_,rfl,_,rfl,_,rfl,a,_,_,_,rfl,rfl,hL7,e1',b1,_,_,_,rfl,rfl,t1,rfl,_,rfl,_,rfl,a,_,_,_,rfl,rfl,hL7,e2',b2,_,_,_,rfl,rfl,t2,rfl,_,_,rfl,_,_,rfl,rfl,hg0,_,_,rfl,rfl,z⟩
    · intro f H8 s8
      refine ⟨_,rfl,_,rfl,?_⟩
      intro pn dx0 hpn hdx0 hne0
      refine make2v hpn hdx0 fun H9 s9 hon=>⟨rfl,?_⟩
      obtain ⟨dx,hop⟩:=id hon
      have s89:=s8.trans s9
      refine ⟨_,rfl,pn,A.xsw,dx,_,_,rfl,hop,T.xrE,T.xlA,rfl,_,rfl,_,_,rfl,rfl,_,rfl,?_⟩
      rw [decT rfl]
      refine iteF ⟨_,rfl,pn,A.xsw,dx,_,_,rfl,hop,T.xrE,T.xhF,rfl,_,rfl,_,_,rfl,rfl,_,rfl,?_⟩
      rw [decT rfl]
      refine iteF ?_
      refine Or.inr ⟨_,rfl,pn,dx,_,rfl,hop,rfl,_,rfl,pn,a,_,_,rs,rfl,hon,PrsAt.pairs (hA7.same s89),hO,by omega,fun H10 s10=>?_⟩
      refine ⟨_,rfl,_,_,rfl,_,rfl,?_⟩
      rw [beq_self_eq_true]
      exact iteF ⟨_,_,_,_,_,_,_,_,_,_,rfl,e3.trans (s89.trans s10)⟩
  · rintro σ H5 ⟨f4,f5,f7,f8,f9,f10,f12,f13,f14,f15,rfl,e2⟩
    exact q _ (s14.trans e2)
end
end W06
set_option Elab.async false
set_option linter.all false
set_option maxRecDepth 100000
namespace W06
open PySem L2
section
variable {P:Program} {w:World} {K:PySem.W.Frag} {mg:Str → Option Value} {base:Heap} {A:Adr}
theorem cut_ints (ts:List Int) (lo hi:Option Int):∃ ks:List Int,cutV (ts.map V.int) lo hi = ks.map V.int ∧ ks.length ≤ ts.length:=by
  refine ⟨(ts.drop (HT.sIx (ts.map V.int).length 0 lo)).take (HT.sIx (ts.map V.int).length (ts.map V.int).length hi - HT.sIx (ts.map V.int).length 0 lo),?_,?_⟩
  · unfold cutV
    rw [List.map_take,List.map_drop]
  · rw [List.length_take,List.length_drop]; omega
def sp_bent (K:PySem.W.Frag):Sp:=fun vs H Q _=>∃ (a:Addr) (c:Int) (ts:List Int),vs = [.ref a,.int c] ∧ LstAt H a ts ∧ ts.length ≤ 200 ∧
  ∀ l ks H',H l = none → LstAt H' l ks → ks.length ≤ 2 * ts.length + 1 → Same H H' → Q (.ref l) H'
set_option maxHeartbeats 2000000 in
theorem xoE (T:Txt K mg A):FnOk P w K mg base CX0 2 A.xmT A.xnv ["_law_some", "_law_cell"] (sp_bent K):=by
  have xmL:=xoF (P:=P) (w:=w) (base:=base) T
  refine T.xmB.ok xme (fun vs H Q E h=>?_) (fun cdv Ar outer s H vs Q E hr h=>?_)
  · obtain ⟨a,c,ts,rfl,_⟩:=h
    rfl
  obtain ⟨a,c,ts,rfl,ha,hlen,q⟩:=h
  refine ⟨_,(@pss_cons _ _ _ _ _ (@ps_par _ _ (2) (3) _ _ _ _ _ _ _ _ _ _ _ rfl xme.nd rfl rfl (by decide) rfl rfl (@pa_consN _ _ _ _ _ (@pe_call _ _ _ _ _ _ _ _ _ _ _ _ _ _ _ _ xmL (hr.mono (by decide)) rfl T.xoh T.xn0 T.xkx .nil pass0 (@pa_consN _ _ _ _ _ (@pv _ 1 _ _ (by rfl) (Or.inl rfl) (by decide) (by decide)) (@pa_consN _ _ _ _ _ (@pe_int _ _ _ _) (@pa_consN _ _ _ _ _ (@pe_int _ _ _ _) (@pa_nil _) (by rfl)) (by rfl)) (by rfl)) (by decide) (by rfl) (by rfl)) (@pa_consN _ _ _ _ _ (@pe_callB _ _ _ _ _ _ _ _ _ call_len_seq rfl T.b_len B.len (@pa_consN _ _ _ _ _ (@pv _ 0 _ _ (by rfl) (Or.inl rfl) (by decide) (by decide)) (@pa_nil _) (by rfl)) (by decide) (by decide) (by rfl) (by rfl)) (@pa_nil _) (by rfl)) (by rfl)) rfl (by rfl)) (@pss_cons _ _ _ _ _ (@ps_if _ _ _ _ _ _ _ _ (@pt_cmpR _ _ _ _ _ _ _ _ op_eqI (@pv _ 3 _ _ (by rfl) (Or.inl rfl) (by decide) (by decide)) (@pe_int _ _ _ _) (nomark _)) (@pss_one _ _ _ (@ps_ret _ _ _ _ (@pe_ifExp _ _ _ _ _ _ _ _ (@pt_cmpR _ _ _ _ _ _ _ _ op_eqI (@pv _ 2 _ _ (by rfl) (Or.inl rfl) (by decide) (by decide)) (@pe_int _ _ _ _) (nomark _)) (@pe_lst _ _ _ _ (@pa_consN _ _ _ _ _ (@pe_int _ _ _ _) (@pa_nil _) (by rfl))) (@pe_lst _ _ _ _ (@pa_nil _))))) (@pss_nil _)) (@pss_cons _ _ _ _ _ (@ps_set _ _ (4) _ _ _ _ xme.nd rfl (Or.inl rfl) (@pe_call _ _ _ _ _ _ _ _ _ _ _ _ _ _ _ _ xmL (hr.mono (by decide)) rfl T.xoh T.xn0 T.xkx .nil pass0 (@pa_consN _ _ _ _ _ (@pv _ 1 _ _ (by rfl) (Or.inl rfl) (by decide) (by decide)) (@pa_consN _ _ _ _ _ (@pe_int _ _ _ _) (@pa_consN _ _ _ _ _ (@pv _ 3 _ _ (by rfl) (Or.inl rfl) (by decide) (by decide)) (@pa_nil _) (by rfl)) (by rfl)) (by rfl)) (by decide) (by rfl) (by rfl)) (by rfl) (Or.inl rfl)) (@pss_cons _ _ _ _ _ (@ps_if _ _ _ _ _ _ _ _ (@pt_cmpR _ _ _ _ _ _ _ _ op_eqI (@pv _ 2 _ _ (by rfl) (Or.inl rfl) (by decide) (by decide)) (@pe_int _ _ _ _) (nomark _)) (@pss_one _ _ _ (@ps_ret _ _ _ _ (@pe_op _ _ _ _ _ _ _ _ op_cat (@pv _ 0 _ _ (by rfl) (Or.inl rfl) (by decide) (by decide)) (@pe_lst _ _ _ _ (@pa_consN _ _ _ _ _ (@pe_int _ _ _ _) (@pa_nil _) (by rfl)))))) (@pss_nil _)) (@pss_cons _ _ _ _ _ (@ps_if _ _ _ _ _ _ _ _ (@pt_cmpR _ _ _ _ _ _ _ _ op_eqI (@pv _ 2 _ _ (by rfl) (Or.inl rfl) (by decide) (by decide)) (@pe_int _ _ _ _) (nomark _)) (@pss_one _ _ _ (@ps_ret _ _ _ _ (@pe_slice _ _ _ _ _ _ _ _ _ _ sl_list (@pv _ 0 _ _ (by rfl) (Or.inl rfl) (by decide) (by decide)) (@po_none _) (@po_some _ _ _ (@pe_un _ _ _ _ _ _ un_neg (@pe_int _ _ _ _)))))) (@pss_nil _)) (@pss_cons _ _ _ _ _ (@ps_if _ _ _ _ _ _ _ _ (@pt_cmpR _ _ _ _ _ _ _ _ op_eqI (@pv _ 2 _ _ (by rfl) (Or.inl rfl) (by decide) (by decide)) (@pe_int _ _ _ _) (nomark _)) (@pss_one _ _ _ (@ps_ret _ _ _ _ (@pe_op _ _ _ _ _ _ _ _ op_cat (@pe_op _ _ _ _ _ _ _ _ op_cat (@pe_slice _ _ _ _ _ _ _ _ _ _ sl_list (@pv _ 0 _ _ (by rfl) (Or.inl rfl) (by decide) (by decide)) (@po_none _) (@po_some _ _ _ (@pv _ 4 _ _ (by rfl) (Or.inl rfl) (by decide) (by decide)))) (@pe_lst _ _ _ _ (@pa_consN _ _ _ _ _ (@pe_op _ _ _ _ _ _ _ _ op_add (@pe_ix _ _ _ _ _ _ _ ix_list (@pv _ 0 _ _ (by rfl) (Or.inl rfl) (by decide) (by decide)) (@pv _ 4 _ _ (by rfl) (Or.inl rfl) (by decide) (by decide)) (fun _ _=>rfl)) (@pe_int _ _ _ _)) (@pa_nil _) (by rfl)))) (@pe_slice _ _ _ _ _ _ _ _ _ _ sl_list (@pv _ 0 _ _ (by rfl) (Or.inl rfl) (by decide) (by decide)) (@po_some _ _ _ (@pe_op _ _ _ _ _ _ _ _ op_add (@pv _ 4 _ _ (by rfl) (Or.inl rfl) (by decide) (by decide)) (@pe_int _ _ _ _))) (@po_none _))))) (@pss_nil _)) (@pss_cons _ _ _ _ _ (@ps_if _ _ _ _ _ _ _ _ (@pt_cmpR _ _ _ _ _ _ _ _ op_eqI (@pv _ 2 _ _ (by rfl) (Or.inl rfl) (by decide) (by decide)) (@pe_int _ _ _ _) (nomark _)) (@pss_one _ _ _ (@ps_ret _ _ _ _ (@pe_comp0 _ _ (["_law_one"]) ([none]) _ _ _ _ _ _ _ _ xfR rfl (@pi_list _ _ _ _ (@pv _ 0 _ _ (by rfl) (Or.inl rfl) (by decide) (by decide))) (fun z=>(@pg_name _ _ (0) _ xfR.nd rfl (Or.inl rfl) (by exact .inr rfl))) (sets_name 0) (by decide) (fun z=>(@pe_un _ _ _ _ _ _ un_neg (@pv _ 0 _ _ (by rfl) (by exact .inl rfl) (by decide) (by decide)))) (by intro _; rfl)))) (@pss_nil _)) (@pss_one _ _ _ (@ps_ret _ _ _ _ (@pe_callTy _ _ _ _ _ _ _ _ _ call_list_of rfl T.b_list B.list (@pa_consN _ _ _ _ _ (@pv _ 0 _ _ (by rfl) (Or.inl rfl) (by decide) (by decide)) (@pa_nil _) (by rfl)) (by decide) (by decide) (by rfl) (by rfl))))))))))),?_⟩
  refine ⟨_,rfl,c,4,6,rfl,(by decide),fun k H1 k0 k1 s1=>?_⟩
  refine ⟨_,rfl,a,_,rfl,.inl (SqL.of (s1 _ _ ha)),_,_,rfl,?_⟩
  have ha1:=s1 _ _ ha
  rw [List.length_map]
  refine ⟨_,rfl,_,_,rfl,rfl,_,rfl,?_⟩
  by_cases h0:(ts.length:Int) = 0
  · rw [decT h0]
    refine iteT ⟨_,rfl,_,_,rfl,rfl,_,rfl,?_⟩
    by_cases h1:k = 1
    · rw [decT h1]
      exact iteT ⟨(by show 1 ≤ sizeLine; decide),fun l hl=>q l [0] _ (s1.free hl) upd_same (by show 1 ≤ _; omega) (s1.trans (same_new hl _))⟩
    · rw [decF h1]
      exact iteF ⟨(by show 0 ≤ sizeLine; decide),fun l hl=>q l [] _ (s1.free hl) upd_same (by show 0 ≤ _; omega) (s1.trans (same_new hl _))⟩
  rw [decF h0]
  refine iteF ⟨_,rfl,_,rfl,c,5,_,rfl,(by omega),fun at_ H2 a0 a1 s2'=>?_⟩
  have s2:=s1.trans s2'
  have ha2:=s2 _ _ ha
  refine ⟨_,rfl,_,_,rfl,rfl,_,rfl,?_⟩
  by_cases h1:k = 1
  · rw [decT h1]
    refine iteT ⟨_,rfl,(by show 1 ≤ sizeLine; decide),fun z hz=>⟨a,z,_,_,rfl,rfl,(same_new hz _) _ _ ha2,upd_same,(by rw [List.length_map]; exact small100 (by show ts.length + 1 ≤ 1000; omega)),fun l hl=>?_⟩⟩
    have s3:=s2.trans (same_new hz (.lst [.int 0]))
    exact q l (ts ++ [0]) _ (s3.free hl) (by show upd _ l _ l = _; rw [upd_same,List.map_append]; rfl) (by rw [List.length_append]; show ts.length + 1 ≤ _; omega) (s3.trans (same_new hl _))
  rw [decF h1]
  refine iteF ⟨_,rfl,_,_,rfl,rfl,_,rfl,?_⟩
  by_cases h2:k = 2
  · rw [decT h2]
    refine iteT ⟨_,rfl,_,rfl,_,rfl,a,_,rfl,SqL.of ha2,fun l hl=>?_⟩
    obtain ⟨ks,ek,hkl⟩:=cut_ints ts none (some (-1))
    rw [ek]
    exact q l ks _ (s2.free hl) upd_same (by omega) (s2.trans (same_new hl _))
  rw [decF h2]
  refine iteF ⟨_,rfl,_,_,rfl,rfl,_,rfl,?_⟩
  by_cases h3:k = 3
  · rw [decT h3]
    refine iteT ⟨_,rfl,_,rfl,_,rfl,a,_,rfl,SqL.of ha2,fun l1 hl1=>?_⟩
    obtain ⟨k1,ek1,hk1⟩:=cut_ints ts none (some at_)
    rw [ek1]
    have r1:=same_new hl1 (.lst (k1.map V.int))
    obtain ⟨v,_,ev⟩:=atI_int (ns:=ts) (i:=at_) a0 (by omega)
    refine ⟨_,rfl,_,rfl,a,_,_,_,rfl,rfl,SqL.of (r1 _ _ ha2),ev,_,_,rfl,rfl,(by show 1 ≤ sizeLine; decide),fun l2 hl2=>?_⟩
    have r2:=same_new hl2 (.lst [.int (v + 1)])
    refine ⟨l1,l2,_,_,rfl,rfl,r2 _ _ upd_same,upd_same,(by rw [List.length_map]; exact small100 (by show k1.length + 1 ≤ 1000; omega)),fun l3 hl3=>?_⟩
    have r3:=same_new hl3 (.lst (k1.map V.int ++ [.int (v + 1)]))
    have r123:=(r1.trans r2).trans r3
    refine ⟨_,rfl,_,rfl,_,_,rfl,rfl,_,rfl,a,_,rfl,SqL.of (r123 _ _ ha2),fun l4 hl4=>?_⟩
    obtain ⟨k2,ek2,hk2⟩:=cut_ints ts (some (at_ + 1)) none
    rw [ek2]
    have r4:=same_new hl4 (.lst (k2.map V.int))
    refine ⟨l3,l4,_,_,rfl,rfl,r4 _ _ upd_same,upd_same,(by rw [List.length_append,List.length_map,List.length_map]; exact small100 (by show k1.length + 1 + k2.length ≤ 1000; omega)),fun l hl=>?_⟩
    have r5:=(s2.trans r123).trans r4
    exact q l (k1 ++ [v + 1] ++ k2) _ (r5.free hl) (by show upd _ l _ l = _; rw [upd_same,List.map_append,List.map_append]; rfl) (by rw [List.length_append,List.length_append]; show k1.length + 1 + k2.length ≤ _; omega) (r5.trans (same_new hl _))
  rw [decF h3]
  refine iteF ⟨_,rfl,_,_,rfl,rfl,_,rfl,?_⟩
  by_cases h4:k = 4
  · rw [decT h4]
    refine iteT ⟨_,rfl,a,rfl,⟨_,SqL.of ha2⟩,comp_list (K:=K) (a:=a) (xs:=ts.map V.int) (fun i ys H'=>H' = H2 ∧ ys = ((ts.take i).map fun n=>-n).map V.int) ⟨rfl,rfl⟩ (by rw [List.length_map]; exact small100 (by omega)) ?_ ?_ ?_⟩
    · rintro i ys H' hi ⟨rfl,rfl⟩
      rw [List.length_map] at hi
      exact ⟨SqL.of ha2,by rw [List.length_map,List.length_map,List.length_take]; omega⟩
    · rintro i x ys H' hx ⟨rfl,rfl⟩
      obtain ⟨n,hn,rfl⟩:=ints_get hx
      refine ⟨_,rfl,_,rfl,rfl,?_⟩
      rw [take_snoc hn,List.map_append,List.map_append]
      rfl
    · rintro ys H' ⟨rfl,rfl⟩ l hl
      exact q l _ _ (s2.free hl) upd_same (by rw [List.length_map,List.length_take]; omega) (s2.trans (same_new hl _))
  rw [decF h4]
  refine iteF ⟨_,rfl,a,_,rfl,.inl (SqL.of ha2),fun l hl=>?_⟩
  exact q l ts _ (s2.free hl) upd_same (by omega) (s2.trans (same_new hl _))
end
end W06
set_option Elab.async false
set_option linter.all false
set_option maxRecDepth 100000
namespace W06
open PySem L2
section
variable {P:Program} {w:World} {K:PySem.W.Frag} {mg:Str → Option Value} {base:Heap} {A:Adr}
theorem paired_ints (H:Hp):∀ ns:List Int,Paired (repI H) (ns.map V.int) ns
  | []=>.nil
  | n :: ns=>.cons rfl (paired_ints H ns)
theorem LstAt.rep {H:Hp} {a:Addr} {ns:List Int} (h:LstAt H a ns):RepL K repI H a ns:=⟨_,SqL.of h,paired_ints H ns⟩
theorem same_two {H:Hp} {p dx:Addr} {o o':HO} (hp:H p = none) (hd:H dx = none):Same H (upd (upd H dx o) p o'):=fun b x e=>by rw [upd_ne (ne_of_none e hp),upd_ne (ne_of_none e hd)]; exact e
theorem makeCv {C:Addr} {x:V} {H:Hp} {QQ:VK} {E:XK} {p dx a:Addr} {ts:List Int} (hp:H p = none) (hd:H dx = none) (ha:LstAt H a ts)
    (h:∀ l H',H l = none → LstAt H' l ts → Same H H' → ObjAt H' p C [("part", x),("times", .ref l)] → QQ .non H') :
    sp_initC K C (.ref p :: ([x,.ref a] ++ [])) (upd (upd H dx (.own p)) p (.ins C dx [])) QQ E :=
  ⟨p,dx,a,x,ts,rfl,upd_same,SqL.of (same_two hp hd _ _ ha),fun l H' hl hL ho kp=>h l H' ((same_two hp hd).free hl) hL (fun b o e=>kp b o (same_two hp hd _ _ e) (ne_of_none e hp)) ho⟩
def divs (pt n:Int):Bool:=if pt = 0 then decide (n = 0) else decide (n % pt = 0)
theorem com_due {pt:Int} {ks ns:List Int}:(decide (0 ≤ pt) && (decide (ks.length = ns.length)) && decide (dot ns ks = pt) && ns.all (divs pt)) = commonShows pt ks ns:=by
  apply Bool.eq_iff_iff.mpr
  unfold commonShows
  simp only [Bool.and_eq_true,decide_eq_true_eq,List.all_eq_true]
  constructor
  · rintro ⟨⟨⟨h0,h1⟩,h2⟩,h3⟩
    refine ⟨⟨h1,?_⟩,h2⟩
    have hd:∀ n ∈ ns,(pt.toNat:Int) ∣ n:=fun n hn=>by
      rw [show (pt.toNat:Int) = pt by omega]
      have:=h3 n hn
      unfold divs at this
      split at this
      · rename_i z
        rw [z,of_decide_eq_true this]; exact Int.dvd_refl _
      · exact Int.dvd_of_emod_eq_zero (of_decide_eq_true this)
    have g1:pt.toNat ∣ gcdL ns:=gcdL_great ns 0 pt.toNat (Nat.dvd_zero _) hd
    have g2:(gcdL ns:Int) ∣ pt:=by rw [← h2]; exact dot_dvd ns ks (gcdL_dvd ns 0).2
    have g3:gcdL ns ∣ pt.toNat:=by
      have:(gcdL ns:Int) ∣ (pt.toNat:Int):=by rw [show (pt.toNat:Int) = pt by omega]; exact g2
      exact Int.ofNat_dvd.mp this
    have:=Nat.dvd_antisymm g1 g3
    omega
  · rintro ⟨⟨h1,h2⟩,h3⟩
    refine ⟨⟨⟨by omega,h1⟩,h3⟩,fun n hn=>?_⟩
    have hd:(gcdL ns:Int) ∣ n:=(gcdL_dvd ns 0).2 n hn
    unfold divs
    split
    · rename_i z
      rw [← h2,z] at hd
      exact decide_eq_true (Int.zero_dvd.mp hd)
    · rw [h2]; exact decide_eq_true (Int.emod_eq_zero_of_dvd hd)
def sp_parts_right (K:PySem.W.Frag):Sp:=fun vs H Q _=>∃ (a:Addr) (c:Int) (ns:List Int),vs = [.ref a,.int c] ∧ LstAt H a ns ∧ SmOk ns ∧ ns.length ≤ 63 ∧ ∀ H',Same H H' → Q (.bl true) H'
theorem SmOk.ns {ns:List Int} (h:SmOk ns):NsOk ns:=fun n hn=>by have:=h n hn; omega
set_option maxHeartbeats 4000000 in
theorem xcJ (T:Txt K mg A):FnOk P w K mg base CX0 7 A.xbS A.xcc ["_law_numbers_here", "_law_cell"] (sp_parts_right K):=by
  have xmK:=xoE (P:=P) (w:=w) (base:=base) T
  have xmN:=xoH (P:=P) (w:=w) (base:=base) T
  have xrt:=xq1 (P:=P) (w:=w) (base:=base) T
  have xc6:=xhW (P:=P) (w:=w) (base:=base) T
  have xgd:=xfC (P:=P) (w:=w) (base:=base) T
  refine T.xbK.ok xbC (fun vs H Q E h=>?_) (fun cdv Ar outer s H vs Q E hr h=>?_)
  · obtain ⟨a,c,ns,rfl,_⟩:=h
    rfl
  obtain ⟨a,cl,ns,rfl,hA,hO,hL,q⟩:=h
  refine ⟨_,(@pss_cons _ _ _ _ _ (@ps_set _ _ (2) _ _ _ _ xbC.nd rfl (Or.inl rfl) (@pe_call _ _ _ _ _ _ _ _ _ _ _ _ _ _ _ _ xrt (hr.mono (by decide)) rfl T.xr8 T.xrQ T.xqk .nil pass0 (@pa_consN _ _ _ _ _ (@pv _ 0 _ _ (by rfl) (Or.inl rfl) (by decide) (by decide)) (@pa_nil _) (by rfl)) (by decide) (by rfl) (by rfl)) (by rfl) (Or.inl rfl)) (@pss_cons _ _ _ _ _ (@ps_set _ _ (3) _ _ _ _ xbC.nd rfl (Or.inl rfl) (@pe_call _ _ _ _ _ _ _ _ _ _ _ _ _ _ _ _ xmK (hr.mono (by decide)) rfl T.xog T.xnZ T.xkw .nil pass0 (@pa_consN _ _ _ _ _ (@pe_fld _ _ _ _ _ (@pv _ 2 _ _ (by rfl) (Or.inl rfl) (by decide) (by decide)) (by rfl)) (@pa_consN _ _ _ _ _ (@pv _ 1 _ _ (by rfl) (Or.inl rfl) (by decide) (by decide)) (@pa_nil _) (by rfl)) (by rfl)) (by decide) (by rfl) (by rfl)) (by rfl) (Or.inl rfl)) (@pss_cons _ _ _ _ _ (@ps_for _ _ _ _ _ _ _ _ PassesOwn.never rfl (@pi_tup _ _ _ _ (@pe_tup _ _ _ _ _ (@pa_consN _ _ _ _ _ (@pe_fld _ _ _ _ _ (@pv _ 2 _ _ (by rfl) (Or.inl rfl) (by decide) (by decide)) (by rfl)) (@pa_consN _ _ _ _ _ (@pe_un _ _ _ _ _ _ un_neg (@pe_fld _ _ _ _ _ (@pv _ 2 _ _ (by rfl) (Or.inl rfl) (by decide) (by decide)) (by rfl))) (@pa_consN _ _ _ _ _ (@pe_op _ _ _ _ _ _ _ _ op_mul (@pe_int _ _ _ _) (@pe_fld _ _ _ _ _ (@pv _ 2 _ _ (by rfl) (Or.inl rfl) (by decide) (by decide)) (by rfl))) (@pa_consN _ _ _ _ _ (@pe_int _ _ _ _) (@pa_consN _ _ _ _ _ (@pe_int _ _ _ _) (@pa_nil _) (by rfl)) (by rfl)) (by rfl)) (by rfl)) (by rfl)))) (@pg_name _ _ (4) _ xbC.nd rfl (Or.inl rfl) (Or.inl rfl)) (@pss_cons _ _ _ _ _ (@ps_set _ _ (5) _ _ _ _ xbC.nd rfl (Or.inl rfl) (@pe_callTy _ _ _ _ _ _ _ _ _ call_list_of rfl T.b_list B.list (@pa_consN _ _ _ _ _ (@pv _ 3 _ _ (by rfl) (Or.inl rfl) (by decide) (by decide)) (@pa_nil _) (by rfl)) (by decide) (by decide) (by rfl) (by rfl)) (by rfl) (Or.inl rfl)) (@pss_cons _ _ _ _ _ (@ps_set _ _ (6) _ _ _ _ xbC.nd rfl (Or.inl rfl) (@pe_make _ _ _ _ _ _ _ _ _ _ _ _ _ _ _ _ _ T.xqT xc6 (hr.mono (by decide)) rfl T.xr6 T.xbX .nil pass0 (@pa_consN _ _ _ _ _ (@pv _ 4 _ _ (by rfl) (Or.inl rfl) (by decide) (by decide)) (@pa_consN _ _ _ _ _ (@pv _ 5 _ _ (by rfl) (Or.inl rfl) (by decide) (by decide)) (@pa_nil _) (by rfl)) (by rfl)) (by decide) (by rfl) (by rfl)) (by rfl) (Or.inl rfl)) (@pss_cons _ _ _ _ _ (@ps_expr _ _ _ _ (@pe_bm _ _ _ _ _ _ _ _ _ _ _ _ PySem.F.plainAttrs_list PySem.F.slot_list_append PySem.F.type_list_append mt_append (@pv _ 5 _ _ (by rfl) (Or.inl rfl) (by decide) (by decide)) (@pa_consN _ _ _ _ _ (@pe_int _ _ _ _) (@pa_nil _) (by rfl)) (by rfl) (by rfl) (by rfl) (by rfl) (by rfl)) (by rfl)) (@pss_cons _ _ _ _ _ (@ps_set _ _ (7) _ _ _ _ xbC.nd rfl (Or.inl rfl) (@pe_and _ _ _ _ _ _ _ (@pe_cmpR _ _ _ _ _ _ _ _ op_ge (@pv _ 4 _ _ (by rfl) (Or.inl rfl) (by decide) (by decide)) (@pe_int _ _ _ _) (nomark _)) (@pe_one _ _ _ _ _ (@pe_cmpR _ _ _ _ _ _ _ _ op_eqI (@pe_callB _ _ _ _ _ _ _ _ _ call_len_seq rfl T.b_len B.len (@pa_consN _ _ _ _ _ (@pv _ 3 _ _ (by rfl) (Or.inl rfl) (by decide) (by decide)) (@pa_nil _) (by rfl)) (by decide) (by decide) (by rfl) (by rfl)) (@pe_callB _ _ _ _ _ _ _ _ _ call_len_seq rfl T.b_len B.len (@pa_consN _ _ _ _ _ (@pv _ 0 _ _ (by rfl) (Or.inl rfl) (by decide) (by decide)) (@pa_nil _) (by rfl)) (by decide) (by decide) (by rfl) (by rfl)) (nomark _)))) (by rfl) (Or.inl rfl)) (@pss_cons _ _ _ _ _ (@ps_if _ _ _ _ _ _ _ _ (@pt_val _ _ _ (@pv _ 7 _ _ (by rfl) (Or.inl rfl) (by decide) (by decide)) (by intro _; rfl)) (@pss_one _ _ _ (@ps_set _ _ (7) _ _ _ _ xbC.nd rfl (Or.inl rfl) (@pe_cmpR _ _ _ _ _ _ _ _ op_eqI (@pe_callB _ _ _ _ _ _ _ _ _ (call_sum rfl) rfl T.b_sum B.sum (@pa_consN _ _ _ _ _ (@pe_comp0 _ _ (["_law_number", "_law_often"]) ([none,none]) _ _ _ _ _ _ _ _ xae rfl (@pi_zip _ _ _ _ _ _ _ _ _ rfl T.b_zip (@pa_consN _ _ _ _ _ (@pv _ 0 _ _ (by rfl) (Or.inl rfl) (by decide) (by decide)) (@pa_consN _ _ _ _ _ (@pv _ 3 _ _ (by rfl) (Or.inl rfl) (by decide) (by decide)) (@pa_nil _) (by rfl)) (by rfl)) (by rfl) (by rfl)) (fun z=>(@pg_tup _ _ _ _ _ (2) rfl (@pgs_cons _ _ _ _ _ (@pg_name _ _ (0) _ xae.nd rfl (Or.inl rfl) (by exact .inr rfl)) (@pgs_cons _ _ _ _ _ (@pg_name _ _ (1) _ xae.nd rfl (Or.inl rfl) (by exact .inr rfl)) (@pgs_nil _) (by rfl)) (by rfl)) (by rfl) (by rfl))) (sets_two _ _ 0 1) (by decide) (fun z=>(@pe_op _ _ _ _ _ _ _ _ op_mul (@pv _ 0 _ _ (by rfl) (by exact .inl rfl) (by decide) (by decide)) (@pv _ 1 _ _ (by rfl) (by exact .inl rfl) (by decide) (by decide)))) (by intro _; rfl)) (@pa_nil _) (by rfl)) (by decide) (by decide) (by rfl) (by rfl)) (@pv _ 4 _ _ (by rfl) (Or.inl rfl) (by decide) (by decide)) (nomark _)) (by rfl) (Or.inl rfl))) (@pss_nil _)) (@pss_cons _ _ _ _ _ (@ps_for _ _ _ _ _ _ _ _ PassesOwn.never rfl (@pi_list _ _ _ _ (@pv _ 0 _ _ (by rfl) (Or.inl rfl) (by decide) (by decide))) (@pg_name _ _ (8) _ xbC.nd rfl (Or.inl rfl) (Or.inl rfl)) (@pss_one _ _ _ (@ps_set _ _ (7) _ _ _ _ xbC.nd rfl (Or.inl rfl) (@pe_and _ _ _ _ _ _ _ (@pv _ 7 _ _ (by rfl) (Or.inl rfl) (by decide) (by decide)) (@pe_one _ _ _ _ _ (@pe_ifExp _ _ _ _ _ _ _ _ (@pt_cmpR _ _ _ _ _ _ _ _ op_eqI (@pv _ 4 _ _ (by rfl) (Or.inl rfl) (by decide) (by decide)) (@pe_int _ _ _ _) (nomark _)) (@pe_cmpR _ _ _ _ _ _ _ _ op_eqI (@pv _ 8 _ _ (by rfl) (Or.inl rfl) (by decide) (by decide)) (@pe_int _ _ _ _) (nomark _)) (@pe_cmpR _ _ _ _ _ _ _ _ op_eqI (@pe_op _ _ _ _ _ _ _ _ op_mod (@pv _ 8 _ _ (by rfl) (Or.inl rfl) (by decide) (by decide)) (@pv _ 4 _ _ (by rfl) (Or.inl rfl) (by decide) (by decide))) (@pe_int _ _ _ _) (nomark _))))) (by rfl) (Or.inl rfl))) (by intro _; rfl)) (@pss_cons _ _ _ _ _ (@ps_if _ _ _ _ _ _ _ _ (@PW.pt _ _ _ (@pw_or _ _ _ _ _ _ _ (@pt_cmpR _ _ _ _ _ _ _ _ op_neI (@pe_fld _ _ _ _ _ (@pv _ 6 _ _ (by rfl) (Or.inl rfl) (by decide) (by decide)) (by rfl)) (@pv _ 4 _ _ (by rfl) (Or.inl rfl) (by decide) (by decide)) (nomark _)) (@pw_or1 _ _ _ _ (@pt_cmpR _ _ _ _ _ _ _ _ (op_neL eqty_int hr.units0) (@pe_fld _ _ _ _ _ (@pv _ 6 _ _ (by rfl) (Or.inl rfl) (by decide) (by decide)) (by rfl)) (@pv _ 3 _ _ (by rfl) (Or.inl rfl) (by decide) (by decide)) (nomark _))))) (@pss_one _ _ _ (@ps_ret _ _ _ _ (@pe_bl _ _ _ _))) (@pss_nil _)) (@pss_one _ _ _ (@ps_if _ _ _ _ _ _ _ _ (@pt_not _ _ _ _ (@pt_val _ _ _ (@pe_call _ _ _ _ _ _ _ _ _ _ _ _ _ _ _ _ xmN (hr.mono (by decide)) rfl T.xoj T.xn2 T.xkz .nil pass0 (@pa_consN _ _ _ _ _ (@pe_meth _ _ _ _ _ _ _ _ _ _ _ _ _ _ _ _ _ _ _ _ (@pv _ 6 _ _ (by rfl) (Or.inl rfl) (by decide) (by decide)) T.xqr T.xfn xgd (hr.mono (by decide)) T.xeK .nil pass0 (@pa_consN _ _ _ _ _ (@pv _ 0 _ _ (by rfl) (Or.inl rfl) (by decide) (by decide)) (@pa_nil _) (by rfl)) (by rfl) (by rfl) (by rfl)) (@pa_consN _ _ _ _ _ (@pv _ 7 _ _ (by rfl) (Or.inl rfl) (by decide) (by decide)) (@pa_nil _) (by rfl)) (by rfl)) (by decide) (by rfl) (by rfl)) (by intro _; rfl))) (@pss_one _ _ _ (@ps_ret _ _ _ _ (@pe_bl _ _ _ _))) (@pss_nil _)))))))))) (by intro _; rfl)) (@pss_one _ _ _ (@ps_ret _ _ _ _ (@pe_bl _ _ _ _)))))),?_⟩
  refine ⟨_,rfl,a,ns,rfl,hA,hO.ns,by omega,fun p l ts H1 hC=>?_⟩
  obtain ⟨s1,_,_,⟨dx,hop⟩,hLt,hTl,_⟩:=hC
  refine ⟨_,rfl,p,A.xrz,dx,_,_,rfl,hop,T.xqr,T.xfp,rfl,_,rfl,l,cl,ts,rfl,hLt,by omega,fun lt ks H2 hlt hLk hkl s2=>?_⟩
  have s12:=s1.trans s2
  have hop2:=s2 _ _ hop
  refine ⟨_,rfl,p,A.xrz,dx,_,_,rfl,hop2,T.xqr,T.xhG,rfl,?_⟩
  refine ⟨_,rfl,p,A.xrz,dx,_,_,rfl,hop2,T.xqr,T.xhG,rfl,_,rfl,?_⟩
  refine ⟨_,rfl,p,A.xrz,dx,_,_,rfl,hop2,T.xqr,T.xhG,rfl,_,_,rfl,rfl,.inl ⟨by decide,by decide⟩,?_⟩
  generalize hg:((gcdL ns:Nat):Int) = g
  refine ⟨(by show 5 ≤ sizeLine; decide),fun u hu=>?_⟩
  have s3:=s12.trans (same_new hu (.tup [.int g,.int (-g),.int (2 * g),.int 1,.int 0]))
  have hLk3:LstAt (upd H2 u (.tup [.int g,.int (-g),.int (2 * g),.int 1,.int 0])) lt ks:=(same_new hu _) _ _ hLk
  have hU:(upd H2 u (.tup [.int g,.int (-g),.int (2 * g),.int 1,.int 0])) u = some (.tup [.int g,.int (-g),.int (2 * g),.int 1,.int 0]):=upd_same
  generalize upd H2 u (.tup [.int g,.int (-g),.int (2 * g),.int 1,.int 0]) = H3 at *
  have hA3:LstAt H3 a ns:=s3 _ _ hA
  refine ⟨u,rfl,⟨_,SqT.of hU⟩,?_⟩
  refine for_tup (K:=K) (a:=u) (xs:=[.int g,.int (-g),.int (2 * g),.int 1,.int 0]) (fun i σ H'=>∃ (f4 f5 f6 f7 f8:Option V),σ = [some (.ref a),some (.int cl),some (.ref p),some (.ref lt),f4,f5,f6,f7,f8] ∧ Same H3 H') ⟨_,_,_,_,_,rfl,Same.refl _⟩ (fun i σ H' _ ⟨_,_,_,_,_,_,e⟩=>SqT.of (e _ _ hU)) ?_ ?_
  · rintro i v σ H4 hi ⟨f4,f5,f6,f7,f8,rfl,e1⟩
    obtain ⟨pt,rfl⟩:∃ m:Int,v = .int m:=by
      have hv:=List.mem_of_getElem? hi
      simp only [List.mem_cons,List.not_mem_nil,or_false] at hv
      rcases hv with rfl | rfl | rfl | rfl | rfl <;> exact ⟨_,rfl⟩
    have hk4:LstAt H4 lt ks:=e1 _ _ hLk3
    have hA4:LstAt H4 a ns:=e1 _ _ hA3
    refine ⟨_,rfl,lt,_,rfl,.inl (SqL.of hk4),fun d hd=>?_⟩
    have t1:=same_new hd (.lst (ks.map V.int))
    have hD:LstAt (upd H4 d (.lst (ks.map V.int))) d ks:=upd_same
    refine ⟨_,rfl,_,rfl,?_⟩
    intro pn dx0 hpn hdx0 hne0
    refine makeCv hpn hdx0 hD fun l2 H6 hl2 hL2 s6 ho=>⟨rfl,?_⟩
    have hD6:=s6 _ _ hD
    have hdl:l2 ≠ d:=fun z=>by rw [z,hD] at hl2; cases hl2
    have hdp:pn ≠ d:=fun z=>by rw [z,hD] at hpn; cases hpn
    refine ⟨_,rfl,.inl ⟨rfl,_,SqL.of hD6⟩,d,_,_,rfl,rfl,hD6,(by rw [List.length_map]; exact small1000 (by omega)),?_⟩
    have s7:Same H4 (upd H6 d (.lst (ks.map V.int ++ [.int 0]))):=fun b o e=>by
      rw [upd_ne (ne_of_none e hd)]
      exact (t1.trans s6) b o e
    have hL7:LstAt (upd H6 d (.lst (ks.map V.int ++ [.int 0]))) l2 ks:=by
      show upd H6 d _ l2 = _
      rw [upd_ne hdl]; exact hL2
    have ho7:ObjAt (upd H6 d (.lst (ks.map V.int ++ [.int 0]))) pn A.xrz [("part", .int pt),("times", .ref l2)]:=by
      obtain ⟨dy,hy⟩:=ho
      exact ⟨dy,by rw [upd_ne hdp]; exact hy⟩
    generalize upd H6 d (.lst (ks.map V.int ++ [.int 0])) = H7 at *
    have hk7:LstAt H7 lt ks:=s7 _ _ hk4
    have hA7:LstAt H7 a ns:=s7 _ _ hA4
    dsimp only
    refine due_pat (k:=7) (d1:=decide (0 ≤ pt) && decide (ks.length = ns.length)) (d:=decide (0 ≤ pt) && decide (ks.length = ns.length) && decide (dot ns ks = pt)) ?_ ?_ ?_ ?_ ?_
    · show 7 < 9; decide
    · intro KK hK
      refine ⟨_,rfl,_,_,rfl,rfl,_,rfl,?_⟩
      by_cases k1:0 ≤ pt
      case neg =>
        rw [decF k1] at hK ⊢
        exact iteF hK
      rw [decT k1] at hK ⊢
      refine iteT ⟨_,rfl,lt,_,rfl,.inl (SqL.of hk7),_,rfl,a,_,rfl,.inl (SqL.of hA7),_,_,rfl,rfl,?_⟩
      rw [List.length_map,List.length_map]
      have e:decide ((ks.length:Int) = (ns.length:Int)) = decide (ks.length = ns.length):=decide_eq_decide.mpr ⟨fun z=>by omega,fun z=>by omega⟩
      show KK (.bl (decide ((ks.length:Int) = (ns.length:Int)))) H7
      rw [e]
      exact hK
    · intro e
      rw [e]; rfl
    · intro e KK hK
      rw [e] at hK
      refine ⟨_,rfl,_,rfl,a,lt,rfl,⟨_,SqL.of hA7⟩,⟨_,SqL.of hk7⟩,comp_zip (K:=K) (a:=a) (b:=lt) (xs:=ns.map V.int) (ys:=ks.map V.int) (fun i zs H2=>Same H7 H2 ∧ zs = (((ns.zip ks).take i).map fun p=>p.1 * p.2).map V.int) ⟨Same.refl _,rfl⟩ (by rw [List.length_map]; exact Nat.le_trans (Nat.min_le_left _ _) (small100 (by omega))) ?_ ?_ ?_⟩
      · rintro i zs H2 hi ⟨hs,rfl⟩
        refine ⟨SqL.of (hs _ _ hA7),SqL.of (hs _ _ hk7),?_⟩
        rw [List.length_map,List.length_map] at hi
        rw [List.length_map,List.length_map,List.length_take,List.length_zip]
        omega
      · rintro i x y zs H2 u hx hy ⟨hs,rfl⟩ hu
        obtain ⟨n,hn,rfl⟩:=ints_get hx
        obtain ⟨o,ho',rfl⟩:=ints_get hy
        have hb:=hO n (List.mem_of_getElem? hn)
        refine ⟨u,_,rfl,SqT.of upd_same,rfl,_,_,rfl,_,_,rfl,rfl,_,rfl,_,rfl,_,_,rfl,rfl,.inl ⟨by omega,by omega⟩,hs.trans (same_new hu _),?_⟩
        rw [take_snoc (zip_get hn ho'),List.map_append,List.map_append]
        rfl
      · rintro zs H2 ⟨hs,rfl⟩ u hu
        refine ⟨u,((ns.zip ks).map fun (z:Int × Int)=>z.1 * z.2),rfl,SqL.of ?_,?_⟩
        · rw [upd_same,List.length_map,List.length_map,← List.length_zip,List.take_length]
        refine ⟨_,rfl,_,_,rfl,rfl,?_⟩
        exact hK _ (hs.trans (same_new hu _))
    · intro H8 s8
      have hA8:LstAt H8 a ns:=s8 _ _ hA7
      generalize hD0:(decide (0 ≤ pt) && decide (ks.length = ns.length) && decide (dot ns ks = pt)) = D0
      have hD0':D0 = true → 0 ≤ pt:=fun z=>by
        rw [← hD0] at z
        simp only [Bool.and_eq_true,decide_eq_true_eq] at z
        exact z.1.1
      refine ⟨_,rfl,a,rfl,⟨_,SqL.of hA8⟩,for_list (K:=K) (a:=a) (xs:=ns.map V.int) (fun i σ H'=>H' = H8 ∧ ∃ (f8:Option V),σ = [some (.ref a),some (.int cl),some (.ref p),some (.ref lt),some (.int pt),some (.ref d),some (.ref pn),some (.bl (D0 && (ns.take i).all (divs pt))),f8]) ⟨rfl,f8,?_⟩ (fun i σ H' _ ⟨e,_⟩=>e ▸ SqL.of hA8) ?_ ?_⟩
      · rw [List.take_zero,List.all_nil,Bool.and_true]; rfl
      · rintro i v σ H' hi ⟨rfl,f8,rfl⟩
        obtain ⟨n,hn,rfl⟩:=ints_get hi
        refine ⟨_,rfl,_,rfl,?_⟩
        rw [take_snoc hn,List.all_append]
        by_cases k1:(D0 && (ns.take i).all (divs pt)) = true
        case neg =>
          have k1':=Bool.eq_false_iff.mpr k1
          rw [k1']
          refine iteF ⟨rfl,some (.int n),?_⟩
          rw [← Bool.and_assoc,k1']
          rfl
        rw [k1]
        have hp0:=hD0' (by rw [Bool.and_eq_true] at k1; exact k1.1)
        refine iteT ⟨_,rfl,_,_,rfl,rfl,_,rfl,?_⟩
        rw [← Bool.and_assoc,k1]
        by_cases k2:pt = 0
        · rw [decT k2]
          refine iteT ⟨_,rfl,_,_,rfl,rfl,rfl,some (.int n),?_⟩
          rw [show ([n].all (divs pt)) = decide (n = 0) by show (divs pt n && true) = _; unfold divs; rw [if_pos k2,Bool.and_true]]
          rfl
        · rw [decF k2]
          refine iteF ⟨_,rfl,_,rfl,_,_,rfl,rfl,(by omega),_,_,rfl,rfl,rfl,some (.int n),?_⟩
          rw [show ([n].all (divs pt)) = decide (n % pt = 0) by show (divs pt n && true) = _; unfold divs; rw [if_neg k2,Bool.and_true]]
          rfl
      · rintro σ H' ⟨rfl,f8,rfl⟩
        rw [List.length_map,List.take_length,← hD0,com_due]
        have s78:=s7.trans s8
        obtain ⟨dy,hoy⟩:ObjAt H' pn A.xrz [("part", .int pt),("times", .ref l2)]:=let ⟨dy,z⟩:=ho7; ⟨dy,s8 _ _ z⟩
        have hL8:LstAt H' l2 ks:=s8 _ _ hL7
        have hk8:LstAt H' lt ks:=s8 _ _ hk7
        refine ⟨_,rfl,pn,A.xrz,dy,_,_,rfl,hoy,T.xqr,T.xhG,rfl,_,rfl,_,_,rfl,rfl,_,rfl,?_⟩
        rw [decT rfl]
        refine iteF ⟨_,rfl,pn,A.xrz,dy,_,_,rfl,hoy,T.xqr,T.xfp,rfl,_,rfl,l2,lt,ks,ks,rfl,rfl,hL8.rep,hk8.rep,_,rfl,?_⟩
        rw [decT rfl]
        refine iteF ?_
        refine ⟨_,rfl,pn,dy,_,rfl,hoy,rfl,_,rfl,pn,a,l2,pt,ks,ns,rfl,⟨dy,hoy⟩,SqL.of hL8,SqL.of hA8,(fun n hn=>by have:=hO n hn; omega),by omega,fun H9 s9=>?_⟩
        refine ⟨_,rfl,_,_,rfl,_,rfl,?_⟩
        rw [beq_self_eq_true]
        exact iteF ⟨_,_,_,_,_,rfl,e1.trans (s78.trans s9)⟩
  · rintro σ H4 ⟨f4,f5,f6,f7,f8,rfl,e1⟩
    exact q _ (s3.trans e1)
end
end W06
set_option Elab.async false
set_option linter.all false
set_option maxRecDepth 100000
namespace W06
open PySem L2
section
variable {P:Program} {w:World} {K:PySem.W.Frag} {mg:Str → Option Value} {base:Heap} {A:Adr}
theorem makeTv {C:Addr} {H:Hp} {QQ:VK} {E:XK} {p dx a:Addr} {ts:List Int} (hp:H p = none) (hd:H dx = none) (ha:LstAt H a ts)
    (h:∀ l H',H l = none → LstAt H' l ts → Same H H' → ObjAt H' p C [("times", .ref l)] → QQ .non H') :
    sp_initT K C (.ref p :: ([.ref a] ++ [])) (upd (upd H dx (.own p)) p (.ins C dx [])) QQ E :=
  ⟨p,dx,a,ts,rfl,upd_same,SqL.of (same_two hp hd _ _ ha),fun l H' hl hL ho kp=>h l H' ((same_two hp hd).free hl) hL (fun b o e=>kp b o (same_two hp hd _ _ e) (ne_of_none e hp)) ho⟩
theorem make1v {C:Addr} {f:Str} {x:V} {H:Hp} {QQ:VK} {E:XK} {p dx:Addr} (hp:H p = none) (hd:H dx = none)
    (h:∀ H',Same H H' → ObjAt H' p C [(f,x)] → QQ .non H') :
    sp_init1 C f (.ref p :: ([x] ++ [])) (upd (upd H dx (.own p)) p (.ins C dx [])) QQ E :=
  ⟨p,dx,x,rfl,upd_same,fun H' ho kp=>h H' (fun b o e=>kp b o (same_two hp hd _ _ e) (ne_of_none e hp)) ho⟩
theorem comes_turn {k:Int} (h0:0 ≤ k) (h1:k < 6):∃ m:Int,atI (List.map V.int [1,6,12,30,7,100]) k = some (.int m) ∧ 1 ≤ m ∧ m ≤ 100:=by
  have:k = 0 ∨ k = 1 ∨ k = 2 ∨ k = 3 ∨ k = 4 ∨ k = 5:=by omega
  rcases this with rfl | rfl | rfl | rfl | rfl | rfl
  · exact ⟨1,rfl,by decide,by decide⟩
  · exact ⟨6,rfl,by decide,by decide⟩
  · exact ⟨12,rfl,by decide,by decide⟩
  · exact ⟨30,rfl,by decide,by decide⟩
  · exact ⟨7,rfl,by decide,by decide⟩
  · exact ⟨100,rfl,by decide,by decide⟩
theorem if_lst {b:Bool} {tA tB:TE} {σ:St} {H:Hp} {KK:VK} (ha:b = true → ∀ KK':VK,(∀ l ts H2,Same H H2 → LstAt H2 l ts → ts.length ≤ 63 → KK' (.ref l) H2) → tA σ H KK') (hb:b = false → ∀ KK':VK,(∀ l ts H2,Same H H2 → LstAt H2 l ts → ts.length ≤ 63 → KK' (.ref l) H2) → tB σ H KK')
    (hk:∀ l ts H2,Same H H2 → LstAt H2 l ts → ts.length ≤ 63 → KK (.ref l) H2):if b = true then tA σ H KK else tB σ H KK:=by
  cases b with
  | true=>rw [if_pos rfl]; exact ha rfl KK hk
  | false=>rw [if_neg Bool.false_ne_true]; exact hb rfl KK hk
theorem rep_zero:∀ n:Nat,(List.replicate n [V.int 0]).flatten = (List.replicate n (0:Int)).map V.int
  | 0=>rfl
  | n + 1=>by rw [List.replicate_succ,List.flatten_cons,rep_zero n,List.replicate_succ]; rfl
theorem due_pat3 {k j:Nat} {d1 d:Bool} {x:V} {tD1 tX tD2:TE} {R:TS} {D:Ends} {σ:St} {H:Hp} (hk:k < σ.length) (hj:j < σ.length) (hjk:k ≠ j) (h1:∀ KK:VK,(∀ H1,Same H H1 → KK (.bl d1) H1) → tD1 σ H KK) (h0:d1 = false → d = false)
    (h2:d1 = true → ∀ H1,Same H H1 → (∀ KK:VK,(∀ H2,Same H1 H2 → KK x H2) → tX (σ.set k (some (.bl true))) H1 KK) ∧ ∀ KK:VK,KK (.bl d) H1 → tD2 ((σ.set k (some (.bl true))).set j (some x)) H1 KK)
    (hR:∀ f H2,Same H H2 → R D ((σ.set j f).set k (some (.bl d))) H2) :
    tSeq (tAsg tD1 (gName k)) (tSeq (tIfS (tB (tVar k)) (tSeq (tAsg tX (gName j)) (tAsg tD2 (gName k))) tNext) R) D σ H:=by
  refine h1 _ fun H1 s1=>?_
  cases d1 with
  | false =>
    rw [h0 rfl] at hR
    have z:=hR σ[j] H1 s1
    rw [List.set_getElem_self] at z
    exact ⟨.bl false,List.getElem?_set_self hk,false,rfl,iteF z⟩
  | true =>
    refine ⟨.bl true,List.getElem?_set_self hk,true,rfl,iteT ((h2 rfl H1 s1).1 _ fun H2 s2=>(h2 rfl H2 (s1.trans s2)).2 _ ?_)⟩
    have z:=hR (some x) H2 (s1.trans s2)
    show R D (((σ.set k (some (.bl true))).set j (some x)).set k (some (.bl d))) H2
    rw [List.set_comm _ _ hjk,List.set_set]
    exact z
theorem times_due {ks ns:List Int} {t r:Int} (h0:0 ≤ r) (h1:r < t):timesShows ks ns t r = (decide (ks.length = ns.length) && ks.all (fun o=>decide (0 ≤ o) && decide (o < t)) && decide (dot ns ks % t = r)):=by
  unfold timesShows
  rw [decide_eq_decide.mpr (rest_mod (d:=dot ns ks) h0 h1)]
theorem set_ints {ks:List Int} {j:Nat} {v:Int}:(ks.map V.int).set j (.int v) = (ks.set j v).map V.int:=List.map_set.symm
theorem if_keep {c:TT} {t R:TS} {D:Ends} {σ:St} {H:Hp} {I:Hp → Prop} {p:Prop} (hc:∀ KK:Bool → Hp → Prop,(∀ b H1,(b = true → p) → Same H H1 → KK b H1) → c σ H KK) (ht:p → ∀ H1,Same H H1 → ∀ D':Ends,(∀ H2,I H2 → D'.nx σ H2) → t D' σ H1)
    (hI:∀ H1,Same H H1 → I H1) (hR:∀ H2,I H2 → R D σ H2):tSeq (tIfS c t tNext) R D σ H:=hc _ fun b H1 h1 s1=>by
  cases b with
  | false=>exact iteF (hR H1 (hI H1 s1))
  | true=>exact iteT (ht (h1 rfl) H1 s1 { D with nx:=R D } hR)
set_option maxHeartbeats 4000000 in
theorem xcI (T:Txt K mg A):FnOk P w K mg base CX0 7 A.xbR A.xcb ["_law_numbers_here", "_law_cell"] (sp_parts_right K):=by
  have xmL:=xoF (P:=P) (w:=w) (base:=base) T
  have xmK:=xoE (P:=P) (w:=w) (base:=base) T
  have xmN:=xoH (P:=P) (w:=w) (base:=base) T
  have xtq:=xs3 (P:=P) (w:=w) (base:=base) T
  have xd1:=xjW (P:=P) (w:=w) (base:=base) T
  have xgc:=xoB (P:=P) (w:=w) (base:=base) T
  have xiG:=xhY (P:=P) (w:=w) (base:=base) T
  have xmJ:=xlU (P:=P) (w:=w) (base:=base) T
  refine T.xbJ.ok xbB (fun vs H Q E h=>?_) (fun cdv Ar outer s H vs Q E hr h=>?_)
  · obtain ⟨a,c,ns,rfl,_⟩:=h
    rfl
  obtain ⟨a,cl,ns,rfl,hA,hO,hL,q⟩:=h
  refine ⟨_,(@pss_cons _ _ _ _ _ (@ps_set _ _ (2) _ _ _ _ xbB.nd rfl (Or.inr rfl) (@pe_ix _ _ _ _ _ _ _ ix_tup (@pe_tupI _ _ _ _ ([1,6,12,30,7,100]) rfl) (@pe_call _ _ _ _ _ _ _ _ _ _ _ _ _ _ _ _ xmL (hr.mono (by decide)) rfl T.xoh T.xn0 T.xkx .nil pass0 (@pa_consN _ _ _ _ _ (@pv _ 1 _ _ (by rfl) (Or.inl rfl) (by decide) (by decide)) (@pa_consN _ _ _ _ _ (@pe_int _ _ _ _) (@pa_consN _ _ _ _ _ (@pe_int _ _ _ _) (@pa_nil _) (by rfl)) (by rfl)) (by rfl)) (by decide) (by rfl) (by rfl)) (fun _ _=>rfl)) (by rfl) (Or.inl rfl)) (@pss_cons _ _ _ _ _ (@ps_set _ _ (3) _ _ _ _ xbB.nd rfl (Or.inl rfl) (@pe_call _ _ _ _ _ _ _ _ _ _ _ _ _ _ _ _ xmL (hr.mono (by decide)) rfl T.xoh T.xn0 T.xkx .nil pass0 (@pa_consN _ _ _ _ _ (@pv _ 1 _ _ (by rfl) (Or.inl rfl) (by decide) (by decide)) (@pa_consN _ _ _ _ _ (@pe_int _ _ _ _) (@pa_consN _ _ _ _ _ (@pv _ 2 _ _ (by rfl) (Or.inr (Or.inl rfl)) (by decide) (by decide)) (@pa_nil _) (by rfl)) (by rfl)) (by rfl)) (by decide) (by rfl) (by rfl)) (by rfl) (Or.inl rfl)) (@pss_cons _ _ _ _ _ (@ps_set _ _ (4) _ _ _ _ xbB.nd rfl (Or.inl rfl) (@pe_call _ _ _ _ _ _ _ _ _ _ _ _ _ _ _ _ xtq (hr.mono (by decide)) rfl T.xt1 T.xtP T.xsu .nil pass0 (@pa_consN _ _ _ _ _ (@pv _ 0 _ _ (by rfl) (Or.inl rfl) (by decide) (by decide)) (@pa_consN _ _ _ _ _ (@pv _ 2 _ _ (by rfl) (Or.inr (Or.inl rfl)) (by decide) (by decide)) (@pa_consN _ _ _ _ _ (@pv _ 3 _ _ (by rfl) (Or.inl rfl) (by decide) (by decide)) (@pa_nil _) (by rfl)) (by rfl)) (by rfl)) (by decide) (by rfl) (by rfl)) (by rfl) (Or.inl rfl)) (@pss_cons _ _ _ _ _ (@ps_set _ _ (5) _ _ _ _ xbB.nd rfl (Or.inl rfl) (@pe_call _ _ _ _ _ _ _ _ _ _ _ _ _ _ _ _ xmK (hr.mono (by decide)) rfl T.xog T.xnZ T.xkw .nil pass0 (@pa_consN _ _ _ _ _ (@pe_ifExp _ _ _ _ _ _ _ _ (@pt_val _ _ _ (@pe_callB _ _ _ _ _ _ _ _ _ call_isinst rfl T.b_isinstance B.isinstance (@pa_consN _ _ _ _ _ (@pv _ 4 _ _ (by rfl) (Or.inl rfl) (by decide) (by decide)) (@pa_consN _ _ _ _ _ (@pe_glob _ _ (.ref _) _ _ rfl T.xsU rfl (by decide)) (@pa_nil _) (by rfl)) (by rfl)) (by decide) (by decide) (by rfl) (by rfl)) (by intro _; rfl)) (@pe_fld _ _ _ _ _ (@pv _ 4 _ _ (by rfl) (Or.inl rfl) (by decide) (by decide)) (by rfl)) (@pe_op _ _ _ _ _ _ _ _ op_rep (@pe_lst _ _ _ _ (@pa_consN _ _ _ _ _ (@pe_int _ _ _ _) (@pa_nil _) (by rfl))) (@pe_callB _ _ _ _ _ _ _ _ _ call_len_seq rfl T.b_len B.len (@pa_consN _ _ _ _ _ (@pv _ 0 _ _ (by rfl) (Or.inl rfl) (by decide) (by decide)) (@pa_nil _) (by rfl)) (by decide) (by decide) (by rfl) (by rfl)))) (@pa_consN _ _ _ _ _ (@pv _ 1 _ _ (by rfl) (Or.inl rfl) (by decide) (by decide)) (@pa_nil _) (by rfl)) (by rfl)) (by decide) (by rfl) (by rfl)) (by rfl) (Or.inl rfl)) (@pss_cons _ _ _ _ _ (@ps_if _ _ _ _ _ _ _ _ (@PW.pt _ _ _ (@pw_and _ _ _ _ _ _ _ (@pt_cmpR _ _ _ _ _ _ _ _ (op_neL eqty_int hr.units0) (@pv _ 5 _ _ (by rfl) (Or.inl rfl) (by decide) (by decide)) (@pe_lst _ _ _ _ (@pa_nil _)) (nomark _)) (@pw_and1 _ _ _ _ (@pt_cmpR _ _ _ _ _ _ _ _ op_eqI (@pe_call _ _ _ _ _ _ _ _ _ _ _ _ _ _ _ _ xmL (hr.mono (by decide)) rfl T.xoh T.xn0 T.xkx .nil pass0 (@pa_consN _ _ _ _ _ (@pv _ 1 _ _ (by rfl) (Or.inl rfl) (by decide) (by decide)) (@pa_consN _ _ _ _ _ (@pe_int _ _ _ _) (@pa_consN _ _ _ _ _ (@pe_int _ _ _ _) (@pa_nil _) (by rfl)) (by rfl)) (by rfl)) (by decide) (by rfl) (by rfl)) (@pe_int _ _ _ _) (nomark _))))) (@pss_one _ _ _ (@ps_asg _ _ _ _ _ _ (@pe_op _ _ _ _ _ _ _ _ op_add (@pe_ix _ _ _ _ _ _ _ ix_list (@pv _ 5 _ _ (by rfl) (Or.inl rfl) (by decide) (by decide)) (@pe_int _ _ _ _) (fun _ _=>rfl)) (@pv _ 2 _ _ (by rfl) (Or.inr (Or.inl rfl)) (by decide) (by decide))) (@pg_sub _ _ _ _ _ _ _ (@pv _ 5 _ _ (by rfl) (Or.inl rfl) (by decide) (by decide)) (@pe_int _ _ _ _) set_list (by intro _; rfl)) (by rfl) (by rfl) (by rfl))) (@pss_nil _)) (@pss_cons _ _ _ _ _ (@ps_set _ _ (6) _ _ _ _ xbB.nd rfl (Or.inl rfl) (@pe_callTy _ _ _ _ _ _ _ _ _ call_list_of rfl T.b_list B.list (@pa_consN _ _ _ _ _ (@pv _ 5 _ _ (by rfl) (Or.inl rfl) (by decide) (by decide)) (@pa_nil _) (by rfl)) (by decide) (by decide) (by rfl) (by rfl)) (by rfl) (Or.inl rfl)) (@pss_cons _ _ _ _ _ (@ps_set _ _ (7) _ _ _ _ xbB.nd rfl (Or.inl rfl) (@pe_make _ _ _ _ _ _ _ _ _ _ _ _ _ _ _ _ _ T.xsc xd1 (hr.mono (by decide)) rfl T.xsU T.xdf .nil pass0 (@pa_consN _ _ _ _ _ (@pv _ 6 _ _ (by rfl) (Or.inl rfl) (by decide) (by decide)) (@pa_nil _) (by rfl)) (by decide) (by rfl) (by rfl)) (by rfl) (Or.inl rfl)) (@pss_cons _ _ _ _ _ (@ps_expr _ _ _ _ (@pe_bm _ _ _ _ _ _ _ _ _ _ _ _ PySem.F.plainAttrs_list PySem.F.slot_list_append PySem.F.type_list_append mt_append (@pv _ 6 _ _ (by rfl) (Or.inl rfl) (by decide) (by decide)) (@pa_consN _ _ _ _ _ (@pe_int _ _ _ _) (@pa_nil _) (by rfl)) (by rfl) (by rfl) (by rfl) (by rfl) (by rfl)) (by rfl)) (@pss_cons _ _ _ _ _ (@ps_set _ _ (8) _ _ _ _ xbB.nd rfl (Or.inl rfl) (@pe_and _ _ _ _ _ _ _ (@pe_cmpR _ _ _ _ _ _ _ _ op_eqI (@pe_callB _ _ _ _ _ _ _ _ _ call_len_seq rfl T.b_len B.len (@pa_consN _ _ _ _ _ (@pv _ 5 _ _ (by rfl) (Or.inl rfl) (by decide) (by decide)) (@pa_nil _) (by rfl)) (by decide) (by decide) (by rfl) (by rfl)) (@pe_callB _ _ _ _ _ _ _ _ _ call_len_seq rfl T.b_len B.len (@pa_consN _ _ _ _ _ (@pv _ 0 _ _ (by rfl) (Or.inl rfl) (by decide) (by decide)) (@pa_nil _) (by rfl)) (by decide) (by decide) (by rfl) (by rfl)) (nomark _)) (@pe_one _ _ _ _ _ (@pe_callB _ _ _ _ _ _ _ _ _ (call_all rfl) rfl T.b_all B.all (@pa_consN _ _ _ _ _ (@pe_comp0 _ _ (["_law_turn", "_law_often"]) ([some 2,none]) _ _ _ _ _ _ _ _ xab rfl (@pi_list _ _ _ _ (@pv _ 5 _ _ (by rfl) (Or.inl rfl) (by decide) (by decide))) (fun z=>(@pg_name _ _ (1) _ xab.nd rfl (Or.inl rfl) (by exact .inr rfl))) (sets_name 1) (by decide) (fun z=>(@pe_chain _ _ _ _ _ _ _ _ _ _ _ _ op_le op_lt (@pe_int _ _ _ _) (@pv _ 1 _ _ (by rfl) (by exact .inl rfl) (by decide) (by decide)) (@pv _ 0 _ _ (by rfl) (by exact .inr (.inl rfl)) (by decide) (by decide)) (by with_unfolding_all rfl))) (by intro _; rfl)) (@pa_nil _) (by rfl)) (by decide) (by decide) (by rfl) (by rfl)))) (by rfl) (Or.inl rfl)) (@pss_cons _ _ _ _ _ (@ps_if _ _ _ _ _ _ _ _ (@pt_val _ _ _ (@pv _ 8 _ _ (by rfl) (Or.inl rfl) (by decide) (by decide)) (by intro _; rfl)) (@pss_cons _ _ _ _ _ (@ps_set _ _ (9) _ _ _ _ xbB.nd rfl (Or.inl rfl) (@pe_callB _ _ _ _ _ _ _ _ _ (call_sum rfl) rfl T.b_sum B.sum (@pa_consN _ _ _ _ _ (@pe_comp0 _ _ (["_law_number", "_law_often"]) ([none,none]) _ _ _ _ _ _ _ _ xac rfl (@pi_zip _ _ _ _ _ _ _ _ _ rfl T.b_zip (@pa_consN _ _ _ _ _ (@pv _ 0 _ _ (by rfl) (Or.inl rfl) (by decide) (by decide)) (@pa_consN _ _ _ _ _ (@pv _ 5 _ _ (by rfl) (Or.inl rfl) (by decide) (by decide)) (@pa_nil _) (by rfl)) (by rfl)) (by rfl) (by rfl)) (fun z=>(@pg_tup _ _ _ _ _ (2) rfl (@pgs_cons _ _ _ _ _ (@pg_name _ _ (0) _ xac.nd rfl (Or.inl rfl) (by exact .inr rfl)) (@pgs_cons _ _ _ _ _ (@pg_name _ _ (1) _ xac.nd rfl (Or.inl rfl) (by exact .inr rfl)) (@pgs_nil _) (by rfl)) (by rfl)) (by rfl) (by rfl))) (sets_two _ _ 0 1) (by decide) (fun z=>(@pe_op _ _ _ _ _ _ _ _ op_mul (@pv _ 0 _ _ (by rfl) (by exact .inl rfl) (by decide) (by decide)) (@pv _ 1 _ _ (by rfl) (by exact .inl rfl) (by decide) (by decide)))) (by intro _; rfl)) (@pa_nil _) (by rfl)) (by decide) (by decide) (by rfl) (by rfl)) (by rfl) (Or.inl rfl)) (@pss_one _ _ _ (@ps_set _ _ (8) _ _ _ _ xbB.nd rfl (Or.inl rfl) (@pe_cmpR _ _ _ _ _ _ _ _ op_eqI (@pe_op _ _ _ _ _ _ _ _ op_mod (@pv _ 9 _ _ (by rfl) (Or.inl rfl) (by decide) (by decide)) (@pv _ 2 _ _ (by rfl) (Or.inr (Or.inl rfl)) (by decide) (by decide))) (@pv _ 3 _ _ (by rfl) (Or.inl rfl) (by decide) (by decide)) (nomark _)) (by rfl) (Or.inl rfl)))) (@pss_nil _)) (@pss_cons _ _ _ _ _ (@ps_if _ _ _ _ _ _ _ _ (@PW.pt _ _ _ (@pw_or _ _ _ _ _ _ _ (@pt_cmpR _ _ _ _ _ _ _ _ (op_neL eqty_int hr.units0) (@pe_fld _ _ _ _ _ (@pv _ 7 _ _ (by rfl) (Or.inl rfl) (by decide) (by decide)) (by rfl)) (@pv _ 5 _ _ (by rfl) (Or.inl rfl) (by decide) (by decide)) (nomark _)) (@pw_or1 _ _ _ _ (@pt_not _ _ _ _ (@pt_val _ _ _ (@pe_call _ _ _ _ _ _ _ _ _ _ _ _ _ _ _ _ xmN (hr.mono (by decide)) rfl T.xoj T.xn2 T.xkz .nil pass0 (@pa_consN _ _ _ _ _ (@pe_alt _ _ _ _ (@pe_meth _ _ _ _ _ _ _ _ _ _ _ _ _ _ _ _ _ _ _ _ (@pv _ 7 _ _ (by rfl) (Or.inl rfl) (by decide) (by decide)) T.xtC T.xly xmJ (hr.mono (by decide)) T.xkv .nil pass0 (@pa_consN _ _ _ _ _ (@pv _ 0 _ _ (by rfl) (Or.inl rfl) (by decide) (by decide)) (@pa_consN _ _ _ _ _ (@pv _ 2 _ _ (by rfl) (Or.inr (Or.inl rfl)) (by decide) (by decide)) (@pa_consN _ _ _ _ _ (@pv _ 3 _ _ (by rfl) (Or.inl rfl) (by decide) (by decide)) (@pa_nil _) (by rfl)) (by rfl)) (by rfl)) (by rfl) (by rfl) (by rfl)) (@pe_meth _ _ _ _ _ _ _ _ _ _ _ _ _ _ _ _ _ _ _ _ (@pv _ 7 _ _ (by rfl) (Or.inl rfl) (by decide) (by decide)) T.xrF T.xhE xiG (hr.mono (by decide)) T.xgv .nil pass0 (@pa_consN _ _ _ _ _ (@pv _ 0 _ _ (by rfl) (Or.inl rfl) (by decide) (by decide)) (@pa_consN _ _ _ _ _ (@pv _ 2 _ _ (by rfl) (Or.inr (Or.inl rfl)) (by decide) (by decide)) (@pa_consN _ _ _ _ _ (@pv _ 3 _ _ (by rfl) (Or.inl rfl) (by decide) (by decide)) (@pa_nil _) (by rfl)) (by rfl)) (by rfl)) (by rfl) (by rfl) (by rfl))) (@pa_consN _ _ _ _ _ (@pv _ 8 _ _ (by rfl) (Or.inl rfl) (by decide) (by decide)) (@pa_nil _) (by rfl)) (by rfl)) (by decide) (by rfl) (by rfl)) (by intro _; rfl)))))) (@pss_one _ _ _ (@ps_ret _ _ _ _ (@pe_bl _ _ _ _))) (@pss_nil _)) (@pss_cons _ _ _ _ _ (@ps_for _ _ _ _ _ _ _ _ PassesOwn.never rfl (@pi_tup _ _ _ _ (@pe_tup _ _ _ _ _ (@pa_consN _ _ _ _ _ (@pe_un _ _ _ _ _ _ un_neg (@pe_int _ _ _ _)) (@pa_consN _ _ _ _ _ (@pe_int _ _ _ _) (@pa_consN _ _ _ _ _ (@pe_int _ _ _ _) (@pa_consN _ _ _ _ _ (@pe_int _ _ _ _) (@pa_consN _ _ _ _ _ (@pe_int _ _ _ _) (@pa_consN _ _ _ _ _ (@pe_int _ _ _ _) (@pa_consN _ _ _ _ _ (@pe_int _ _ _ _) (@pa_consN _ _ _ _ _ (@pv _ 2 _ _ (by rfl) (Or.inr (Or.inl rfl)) (by decide) (by decide)) (@pa_nil _) (by rfl)) (by rfl)) (by rfl)) (by rfl)) (by rfl)) (by rfl)) (by rfl)) (by rfl)))) (@pg_name _ _ (10) _ xbB.nd rfl (Or.inr rfl) (Or.inl rfl)) (@pss_cons _ _ _ _ _ (@ps_set _ _ (8) _ _ _ _ xbB.nd rfl (Or.inl rfl) (@pe_cmpR _ _ _ _ _ _ _ _ op_gt (@pv _ 10 _ _ (by rfl) (Or.inr (Or.inl rfl)) (by decide) (by decide)) (@pe_int _ _ _ _) (nomark _)) (by rfl) (Or.inl rfl)) (@pss_cons _ _ _ _ _ (@ps_if _ _ _ _ _ _ _ _ (@pt_val _ _ _ (@pv _ 8 _ _ (by rfl) (Or.inl rfl) (by decide) (by decide)) (by intro _; rfl)) (@pss_one _ _ _ (@ps_set _ _ (8) _ _ _ _ xbB.nd rfl (Or.inl rfl) (@pe_and _ _ _ _ _ _ _ (@pe_cmpR _ _ _ _ _ _ _ _ op_eqI (@pe_op _ _ _ _ _ _ _ _ op_mod (@pv _ 2 _ _ (by rfl) (Or.inr (Or.inl rfl)) (by decide) (by decide)) (@pv _ 10 _ _ (by rfl) (Or.inr (Or.inl rfl)) (by decide) (by decide))) (@pe_int _ _ _ _) (nomark _)) (@pe_and _ _ _ _ _ _ _ (@pe_cmpR _ _ _ _ _ _ _ _ op_neI (@pe_op _ _ _ _ _ _ _ _ op_mod (@pv _ 3 _ _ (by rfl) (Or.inl rfl) (by decide) (by decide)) (@pv _ 10 _ _ (by rfl) (Or.inr (Or.inl rfl)) (by decide) (by decide))) (@pe_int _ _ _ _) (nomark _)) (@pe_one _ _ _ _ _ (@pe_callB _ _ _ _ _ _ _ _ _ (call_all rfl) rfl T.b_all B.all (@pa_consN _ _ _ _ _ (@pe_comp0 _ _ (["_law_part_here", "_law_number"]) ([some 10,none]) _ _ _ _ _ _ _ _ xad rfl (@pi_list _ _ _ _ (@pv _ 0 _ _ (by rfl) (Or.inl rfl) (by decide) (by decide))) (fun z=>(@pg_name _ _ (1) _ xad.nd rfl (Or.inl rfl) (by exact .inr rfl))) (sets_name 1) (by decide) (fun z=>(@pe_cmpR _ _ _ _ _ _ _ _ op_eqI (@pe_op _ _ _ _ _ _ _ _ op_mod (@pv _ 1 _ _ (by rfl) (by exact .inl rfl) (by decide) (by decide)) (@pv _ 0 _ _ (by rfl) (by exact .inr (.inl rfl)) (by decide) (by decide))) (@pe_int _ _ _ _) (nomark _))) (by intro _; rfl)) (@pa_nil _) (by rfl)) (by decide) (by decide) (by rfl) (by rfl))))) (by rfl) (Or.inl rfl))) (@pss_nil _)) (@pss_cons _ _ _ _ _ (@ps_set _ _ (7) _ _ _ _ xbB.nd rfl (Or.inl rfl) (@pe_make _ _ _ _ _ _ _ _ _ _ _ _ _ _ _ _ _ T.xt3 xgc (hr.mono (by decide)) rfl T.m_Bar T.xeJ .nil pass0 (@pa_consN _ _ _ _ _ (@pv _ 10 _ _ (by rfl) (Or.inr (Or.inl rfl)) (by decide) (by decide)) (@pa_nil _) (by rfl)) (by decide) (by rfl) (by rfl)) (by rfl) (Or.inl rfl)) (@pss_one _ _ _ (@ps_if _ _ _ _ _ _ _ _ (@PW.pt _ _ _ (@pw_or _ _ _ _ _ _ _ (@pt_cmpR _ _ _ _ _ _ _ _ op_neI (@pe_fld _ _ _ _ _ (@pv _ 7 _ _ (by rfl) (Or.inl rfl) (by decide) (by decide)) (by rfl)) (@pv _ 10 _ _ (by rfl) (Or.inr (Or.inl rfl)) (by decide) (by decide)) (nomark _)) (@pw_or1 _ _ _ _ (@pt_not _ _ _ _ (@pt_val _ _ _ (@pe_call _ _ _ _ _ _ _ _ _ _ _ _ _ _ _ _ xmN (hr.mono (by decide)) rfl T.xoj T.xn2 T.xkz .nil pass0 (@pa_consN _ _ _ _ _ (@pe_alt _ _ _ _ (@pe_meth _ _ _ _ _ _ _ _ _ _ _ _ _ _ _ _ _ _ _ _ (@pv _ 7 _ _ (by rfl) (Or.inl rfl) (by decide) (by decide)) T.xtC T.xly xmJ (hr.mono (by decide)) T.xkv .nil pass0 (@pa_consN _ _ _ _ _ (@pv _ 0 _ _ (by rfl) (Or.inl rfl) (by decide) (by decide)) (@pa_consN _ _ _ _ _ (@pv _ 2 _ _ (by rfl) (Or.inr (Or.inl rfl)) (by decide) (by decide)) (@pa_consN _ _ _ _ _ (@pv _ 3 _ _ (by rfl) (Or.inl rfl) (by decide) (by decide)) (@pa_nil _) (by rfl)) (by rfl)) (by rfl)) (by rfl) (by rfl) (by rfl)) (@pe_meth _ _ _ _ _ _ _ _ _ _ _ _ _ _ _ _ _ _ _ _ (@pv _ 7 _ _ (by rfl) (Or.inl rfl) (by decide) (by decide)) T.xrF T.xhE xiG (hr.mono (by decide)) T.xgv .nil pass0 (@pa_consN _ _ _ _ _ (@pv _ 0 _ _ (by rfl) (Or.inl rfl) (by decide) (by decide)) (@pa_consN _ _ _ _ _ (@pv _ 2 _ _ (by rfl) (Or.inr (Or.inl rfl)) (by decide) (by decide)) (@pa_consN _ _ _ _ _ (@pv _ 3 _ _ (by rfl) (Or.inl rfl) (by decide) (by decide)) (@pa_nil _) (by rfl)) (by rfl)) (by rfl)) (by rfl) (by rfl) (by rfl))) (@pa_consN _ _ _ _ _ (@pv _ 8 _ _ (by rfl) (Or.inl rfl) (by decide) (by decide)) (@pa_nil _) (by rfl)) (by rfl)) (by decide) (by rfl) (by rfl)) (by intro _; rfl)))))) (@pss_one _ _ _ (@ps_ret _ _ _ _ (@pe_bl _ _ _ _))) (@pss_nil _)))))) (by intro _; rfl)) (@pss_one _ _ _ (@ps_ret _ _ _ _ (@pe_bl _ _ _ _))))))))))))))),?_⟩
  refine ⟨(by show 6 ≤ sizeLine; decide),fun u hu=>?_⟩
  have su:=same_new hu (.tup (List.map V.int [1,6,12,30,7,100]))
  refine ⟨_,rfl,cl,6,6,rfl,(by decide),fun k H1 k0 k1 s1=>?_⟩
  have s2:=su.trans s1
  obtain ⟨t,et,t0,t1⟩:=comes_turn k0 k1
  refine ⟨u,_,_,_,rfl,rfl,SqT.of (s1 _ _ upd_same),et,?_⟩
  refine ⟨_,rfl,_,rfl,cl,7,t,rfl,(by omega),fun r H2 r0 r1 s3'=>?_⟩
  have s3:=s2.trans s3'
  refine ⟨_,rfl,_,rfl,_,rfl,a,ns,t,r,rfl,s3 _ _ hA,hO.ns,by omega,⟨by omega,by omega⟩,r0,r1,fun p l gt H3 s4' hp hl hC hTl hSh=>?_⟩
  have s4:=s3.trans s4'
  have hA3:LstAt H3 a ns:=s4 _ _ hA
  have hty:∃ ty b,TyOf K H3 (.ref p) ty ∧ PySem.W.kitOne K ty (.ref A.xsx) = some b ∧ (b = true → ∃ ts,ObjAt H3 p A.xsx [("times", .ref l)] ∧ LstAt H3 l ts ∧ ts.length = ns.length):=by
    cases gt with
    | inl g =>
      obtain ⟨dx,ho⟩:ObjAt H3 p A.c_Bar [("part", .int g)]:=hC
      exact ⟨_,_,T.xuh _ p dx _ ho,T.xlg,fun z=>nomatch z⟩
    | inr ts =>
      obtain ⟨⟨dx,ho⟩,hl3⟩:ObjAt H3 p A.xsx [("times", .ref l)] ∧ LstAt H3 l ts:=hC
      exact ⟨_,_,T.xsn _ p dx _ ho,T.xhh,fun _=>⟨ts,⟨dx,ho⟩,hl3,(hTl ts rfl).1⟩⟩
  obtain ⟨ty,b,hty,hki,hob⟩:=hty
  refine ⟨_,rfl,_,_,_,_,_,rfl,hty,rfl,hki,_,rfl,if_lst (fun e KK hk=>?_) (fun e KK hk=>?_) fun lx ts H4 s5' hLx hlx=>?_⟩
  · obtain ⟨ts,⟨dx,hop⟩,hl3,hle⟩:=hob e
    exact ⟨_,rfl,p,A.xsx,dx,_,_,rfl,hop,T.xrF,T.xhI,rfl,hk l ts _ (Same.refl _) hl3 (by omega)⟩
  · refine ⟨(by show 1 ≤ sizeLine; decide),fun z hz=>⟨_,rfl,a,_,rfl,.inl (SqL.of ((same_new hz _) _ _ hA3)),z,_,_,rfl,rfl,upd_same,?_⟩⟩
    rw [List.length_map]
    refine ⟨by omega,by omega,(by rw [show ((ns.length:Int)).toNat = ns.length by omega]; exact small100 (by show 1 * ns.length ≤ 1000; omega)),fun y hy=>?_⟩
    rw [show ((ns.length:Int)).toNat = ns.length by omega]
    refine hk y (List.replicate ns.length 0) _ ((same_new hz _).trans (same_new hy _)) ?_ (by rw [List.length_replicate]; omega)
    show upd _ y _ y = _
    rw [upd_same,← rep_zero]
  have s5:=s4.trans s5'
  refine ⟨_,rfl,lx,cl,ts,rfl,hLx,by omega,fun lt ks H5 hlt hLk hkl s6'=>?_⟩
  have s6:=s5.trans s6'
  have hlt0:H lt = none:=s5.free hlt
  have hA5:LstAt H5 a ns:=s6 _ _ hA
  dsimp only [gName]
  refine if_keep (I:=fun H'=>Same H H' ∧ ∃ ms:List Int,LstAt H' lt ms ∧ ms.length ≤ 200) (p:=ks ≠ []) ?_ ?_ ?_ ?_
  · intro KK hK
    refine ⟨_,rfl,(by show 0 ≤ sizeLine; decide),fun z hz=>⟨lt,z,ks,[],rfl,rfl,LstAt.rep ((same_new hz _) _ _ hLk),LstAt.rep upd_same,_,rfl,?_⟩⟩
    have sz:=same_new hz (.lst [])
    by_cases e:ks = []
    · rw [decT e]
      exact iteF (hK _ _ (fun z=>nomatch z) sz)
    · rw [decF e]
      exact iteT ⟨_,rfl,cl,8,3,rfl,(by decide),fun v H7 v0 v1 s7=>⟨_,_,rfl,rfl,_,rfl,hK _ _ (fun _=>e) (sz.trans s7)⟩⟩
  · intro hne H6 t6 D' hnx
    have hLk6:LstAt H6 lt ks:=t6 _ _ hLk
    have hpos:0 < ks.length:=List.length_pos_iff.mpr hne
    obtain ⟨v,_,ev⟩:=atI_int (ns:=ks) (i:=0) (by decide) (by omega)
    refine ⟨_,rfl,lt,_,_,_,rfl,rfl,SqL.of hLk6,ev,_,rfl,_,_,rfl,rfl,_,rfl,lt,_,0,0,rfl,rfl,hLk6,?_,hnx _ ⟨fun b o e=>?_,ks.set 0 (v + t),?_,?_⟩⟩
    · rw [List.length_map]; unfold ixN; rw [if_pos (by decide),if_pos (by omega)]; rfl
    · rw [upd_ne (ne_of_none e hlt0)]; exact t6 _ _ (s6 _ _ e)
    · show upd _ lt _ lt = _
      rw [upd_same,set_ints]
    · rw [List.length_set]; omega
  · intro H6 t6
    exact ⟨s6.trans t6,ks,t6 _ _ hLk,by omega⟩
  clear hLk hkl hA5 ks
  rintro H6 ⟨t6,ks,hLk,hkl⟩
  have hA6:LstAt H6 a ns:=t6 _ _ hA
  refine ⟨_,rfl,lt,_,rfl,.inl (SqL.of hLk),fun d hd=>?_⟩
  have u1:=same_new hd (.lst (ks.map V.int))
  have hD:LstAt (upd H6 d (.lst (ks.map V.int))) d ks:=upd_same
  refine ⟨_,rfl,?_⟩
  intro pn dx0 hpn hdx0 hne0
  refine makeTv hpn hdx0 hD fun l2 H7 hl2 hL2 s7 ho=>⟨rfl,?_⟩
  have hD7:=s7 _ _ hD
  have hdl:l2 ≠ d:=fun z=>by rw [z,hD] at hl2; cases hl2
  have hdp:pn ≠ d:=fun z=>by rw [z,hD] at hpn; cases hpn
  refine ⟨_,rfl,.inl ⟨rfl,_,SqL.of hD7⟩,d,_,_,rfl,rfl,hD7,(by rw [List.length_map]; exact small1000 (by omega)),?_⟩
  have s8:Same H6 (upd H7 d (.lst (ks.map V.int ++ [.int 0]))):=fun b o e=>by
    rw [upd_ne (ne_of_none e hd)]
    exact (u1.trans s7) b o e
  have hL8:LstAt (upd H7 d (.lst (ks.map V.int ++ [.int 0]))) l2 ks:=by
    show upd H7 d _ l2 = _
    rw [upd_ne hdl]; exact hL2
  have ho8:ObjAt (upd H7 d (.lst (ks.map V.int ++ [.int 0]))) pn A.xsx [("times", .ref l2)]:=by
    obtain ⟨dy,hy⟩:=ho
    exact ⟨dy,by rw [upd_ne hdp]; exact hy⟩
  generalize upd H7 d (.lst (ks.map V.int ++ [.int 0])) = H8 at *
  have hk8:LstAt H8 lt ks:=s8 _ _ hLk
  have hA8:LstAt H8 a ns:=s8 _ _ hA6
  dsimp only
  refine due_pat3 (k:=8) (j:=9) (x:=.int (dot ns ks)) (d1:=decide (ks.length = ns.length) && ks.all (fun o=>decide (0 ≤ o) && decide (o < t))) (d:=timesShows ks ns t r) ?_ ?_ (by decide) ?_ ?_ ?_ ?_
  · show 8 < 11; decide
  · show 9 < 11; decide
  · intro KK hK
    refine ⟨_,rfl,lt,_,rfl,.inl (SqL.of hk8),_,rfl,a,_,rfl,.inl (SqL.of hA8),_,_,rfl,rfl,_,rfl,?_⟩
    rw [List.length_map,List.length_map]
    by_cases k1:(ks.length:Int) = (ns.length:Int)
    case neg =>
      rw [decF k1]
      rw [decF (show ¬ ks.length = ns.length by omega)] at hK
      exact iteF (hK _ (Same.refl _))
    rw [decT k1]
    rw [decT (show ks.length = ns.length by omega)] at hK
    refine iteT ⟨_,rfl,lt,rfl,⟨_,SqL.of hk8⟩,comp_list (K:=K) (a:=lt) (xs:=ks.map V.int) (fun i ys H'=>H' = H8 ∧ ys = ((ks.take i).map fun o=>decide (0 ≤ o) && decide (o < t)).map V.bl) ⟨rfl,rfl⟩ (by rw [List.length_map]; exact small100 (by omega)) ?_ ?_ ?_⟩
    · rintro i ys H' hi ⟨rfl,rfl⟩
      rw [List.length_map] at hi
      exact ⟨SqL.of hk8,by rw [List.length_map,List.length_map,List.length_take]; omega⟩
    · rintro i x ys H' hx ⟨rfl,rfl⟩
      obtain ⟨o,ho',rfl⟩:=ints_get hx
      refine ⟨_,rfl,_,_,rfl,rfl,_,rfl,?_⟩
      rw [take_snoc ho',List.map_append,List.map_append]
      by_cases h:0 ≤ o
      · rw [decT h]
        refine iteT ⟨_,rfl,_,_,rfl,rfl,rfl,?_⟩
        simp [h]
      · rw [decF h]
        refine iteF ⟨rfl,?_⟩
        simp [h]
    · rintro ys H' ⟨rfl,rfl⟩ m hm
      refine ⟨m,(ks.map fun o=>decide (0 ≤ o) && decide (o < t)),rfl,SqL.of (by rw [upd_same,List.length_map,List.take_length]),?_⟩
      have z:=hK _ (same_new hm (.lst ((((ks.take (ks.map V.int).length).map fun o=>decide (0 ≤ o) && decide (o < t))).map V.bl)))
      rw [show (true && ks.all fun o=>decide (0 ≤ o) && decide (o < t)) = (ks.map fun o=>decide (0 ≤ o) && decide (o < t)).all id by rw [List.all_map,Bool.true_and]; rfl] at z
      exact z
  · intro e
    rw [times_due r0 r1,e]
    rfl
  · intro e H9 s9
    have hk9:LstAt H9 lt ks:=s9 _ _ hk8
    have hA9:LstAt H9 a ns:=s9 _ _ hA8
    constructor
    · intro KK hK
      refine ⟨_,rfl,_,rfl,a,lt,rfl,⟨_,SqL.of hA9⟩,⟨_,SqL.of hk9⟩,comp_zip (K:=K) (a:=a) (b:=lt) (xs:=ns.map V.int) (ys:=ks.map V.int) (fun i zs H2=>Same H9 H2 ∧ zs = (((ns.zip ks).take i).map fun p=>p.1 * p.2).map V.int) ⟨Same.refl _,rfl⟩ (by rw [List.length_map]; exact Nat.le_trans (Nat.min_le_left _ _) (small100 (by omega))) ?_ ?_ ?_⟩
      · rintro i zs H2 hi ⟨hs,rfl⟩
        refine ⟨SqL.of (hs _ _ hA9),SqL.of (hs _ _ hk9),?_⟩
        rw [List.length_map,List.length_map] at hi
        rw [List.length_map,List.length_map,List.length_take,List.length_zip]
        omega
      · rintro i x y zs H2 u hx hy ⟨hs,rfl⟩ hu
        obtain ⟨n,hn,rfl⟩:=ints_get hx
        obtain ⟨o,ho',rfl⟩:=ints_get hy
        have hb:=hO n (List.mem_of_getElem? hn)
        refine ⟨u,_,rfl,SqT.of upd_same,rfl,_,_,rfl,_,_,rfl,rfl,_,rfl,_,rfl,_,_,rfl,rfl,.inl ⟨by omega,by omega⟩,hs.trans (same_new hu _),?_⟩
        rw [take_snoc (zip_get hn ho'),List.map_append,List.map_append]
        rfl
      · rintro zs H2 ⟨hs,rfl⟩ u hu
        refine ⟨u,((ns.zip ks).map fun (z:Int × Int)=>z.1 * z.2),rfl,SqL.of ?_,?_⟩
        · rw [upd_same,List.length_map,List.length_map,← List.length_zip,List.take_length]
        exact hK _ (hs.trans (same_new hu _))
    · intro KK hK
      rw [times_due r0 r1,e] at hK
      exact ⟨_,rfl,_,rfl,_,_,rfl,rfl,(by omega),_,rfl,_,_,rfl,rfl,hK⟩
  · intro f H9 s9
    have hk9:LstAt H9 lt ks:=s9 _ _ hk8
    have hA9:LstAt H9 a ns:=s9 _ _ hA8
    obtain ⟨dy,hoy⟩:ObjAt H9 pn A.xsx [("times", .ref l2)]:=let ⟨dy,z⟩:=ho8; ⟨dy,s9 _ _ z⟩
    have hL9:LstAt H9 l2 ks:=s9 _ _ hL8
    refine ⟨_,rfl,pn,A.xsx,dy,_,_,rfl,hoy,T.xrF,T.xhI,rfl,_,rfl,l2,lt,ks,ks,rfl,rfl,hL9.rep,hk9.rep,_,rfl,?_⟩
    rw [decT rfl]
    refine iteF ?_
    refine Or.inr ⟨_,rfl,pn,dy,_,rfl,hoy,rfl,_,rfl,_,rfl,_,rfl,pn,a,l2,t,r,ks,ns,rfl,⟨dy,hoy⟩,SqL.of hL9,SqL.of hA9,(by omega),(fun n hn=>by have:=hO n hn; omega),by omega,by omega,fun H10 s10=>?_⟩
    refine ⟨_,rfl,_,_,rfl,_,rfl,?_⟩
    rw [beq_self_eq_true]
    refine iteF ?_
    have s11':=((t6.trans s8).trans s9).trans s10
    refine ⟨_,rfl,_,rfl,(by show 8 ≤ sizeLine; decide),fun y hy=>?_⟩
    have s11:=s11'.trans (same_new hy (.tup [.int (-2),.int 0,.int 1,.int 2,.int 3,.int 5,.int 6,.int t]))
    have hY:(upd H10 y (.tup [.int (-2),.int 0,.int 1,.int 2,.int 3,.int 5,.int 6,.int t])) y = some (.tup [.int (-2),.int 0,.int 1,.int 2,.int 3,.int 5,.int 6,.int t]):=upd_same
    generalize upd H10 y (.tup [.int (-2),.int 0,.int 1,.int 2,.int 3,.int 5,.int 6,.int t]) = H11 at *
    have hA11:LstAt H11 a ns:=s11 _ _ hA
    refine ⟨y,rfl,⟨_,SqT.of hY⟩,?_⟩
    refine for_tup (K:=K) (a:=y) (xs:=[.int (-2),.int 0,.int 1,.int 2,.int 3,.int 5,.int 6,.int t]) (fun i σ H'=>∃ (f7 f8 f9 f10:Option V),σ = [some (.ref a),some (.int cl),some (.int t),some (.int r),some (.ref p),some (.ref lt),some (.ref d),f7,f8,f9,f10] ∧ Same H11 H') ⟨_,_,_,_,rfl,Same.refl _⟩ (fun i σ H' _ ⟨_,_,_,_,_,e⟩=>SqT.of (e _ _ hY)) ?_ ?_
    · rintro i v σ H12 hi ⟨f7,f8,f9,f10,rfl,e1⟩
      obtain ⟨g,rfl⟩:∃ m:Int,v = .int m:=by
        have hv:=List.mem_of_getElem? hi
        simp only [List.mem_cons,List.not_mem_nil,or_false] at hv
        rcases hv with rfl | rfl | rfl | rfl | rfl | rfl | rfl | rfl <;> exact ⟨_,rfl⟩
      have hA12:LstAt H12 a ns:=e1 _ _ hA11
      show tSeq _ _ _ _ _
      refine due_pat (k:=8) (d1:=decide (1 < g)) (d:=barShows g ns t r) (by show 8 < 11; decide) ?_ ?_ ?_ ?_
      · intro KK hK
        exact ⟨_,rfl,_,_,rfl,rfl,hK⟩
      · intro e
        unfold barShows
        rw [e]
        rfl
      · intro e KK hK
        have hg:=of_decide_eq_true e
        have no:barShows g ns t r = false → KK (.bl false) H12:=fun z=>by
          have:=hK _ (Same.refl _)
          rw [z] at this
          exact this
        refine ⟨_,rfl,_,rfl,_,_,rfl,rfl,(by omega),_,_,rfl,rfl,_,rfl,?_⟩
        by_cases h3:t % g = 0
        case neg =>
          rw [decF h3]
          exact iteF (no (by unfold barShows; rw [decF h3]; simp))
        rw [decT h3]
        refine iteT ⟨_,rfl,_,rfl,_,_,rfl,rfl,(by omega),_,_,rfl,rfl,_,rfl,?_⟩
        by_cases h2:r % g = 0
        · rw [decT h2]
          exact iteF (no (by unfold barShows; rw [decT h2]; simp))
        rw [decF h2]
        refine iteT ?_
        refine ⟨_,rfl,a,rfl,⟨_,SqL.of hA12⟩,comp_list (K:=K) (a:=a) (xs:=ns.map V.int) (fun i ys H'=>H' = H12 ∧ ys = ((ns.take i).map fun n=>decide (n % g = 0)).map V.bl) ⟨rfl,rfl⟩ (by rw [List.length_map]; exact small100 (by omega)) ?_ ?_ ?_⟩
        · rintro i ys H' hi ⟨rfl,rfl⟩
          rw [List.length_map] at hi
          exact ⟨SqL.of hA12,by rw [List.length_map,List.length_map,List.length_take]; omega⟩
        · rintro i x ys H' hx ⟨rfl,rfl⟩
          obtain ⟨n,hn,rfl⟩:=ints_get hx
          refine ⟨_,rfl,_,rfl,_,_,rfl,rfl,(by omega),_,_,rfl,rfl,rfl,?_⟩
          rw [take_snoc hn,List.map_append,List.map_append]
          rfl
        · rintro ys H' ⟨rfl,rfl⟩ m hm
          refine ⟨m,(ns.map fun n=>decide (n % g = 0)),rfl,SqL.of (by rw [upd_same,List.length_map,List.take_length]),?_⟩
          have z:=hK _ (same_new hm (.lst (((ns.take (ns.map V.int).length).map fun n=>decide (n % g = 0)).map V.bl)))
          have e:barShows g ns t r = (ns.map fun n=>decide (n % g = 0)).all id:=by
            unfold barShows
            rw [decT h3,decF h2,decT hg,List.all_map]
            rfl
          rw [e] at z
          exact z
      · intro H13 s13
        refine ⟨_,rfl,?_⟩
        intro pn dx0 hpn hdx0 hne0
        refine make1v hpn hdx0 fun H14 s14 hon=>⟨rfl,?_⟩
        obtain ⟨dx,hop⟩:=id hon
        have s134:=s13.trans s14
        refine ⟨_,rfl,pn,A.c_Bar,dx,_,_,rfl,hop,T.xtC,T.xop,rfl,_,rfl,_,_,rfl,rfl,_,rfl,?_⟩
        rw [decT rfl]
        refine iteF ?_
        refine Or.inl ⟨_,rfl,pn,dx,_,rfl,hop,rfl,_,rfl,_,rfl,_,rfl,pn,a,g,t,r,ns,rfl,hon,SqL.of (s134 _ _ hA12),by omega,fun H15 s15=>?_⟩
        refine ⟨_,rfl,_,_,rfl,_,rfl,?_⟩
        rw [beq_self_eq_true]
        exact iteF ⟨_,_,_,_,rfl,e1.trans (s134.trans s15)⟩
    · rintro σ H12 ⟨f7,f8,f9,f10,rfl,e1⟩
      exact q _ (s11.trans e1)
end
end W06
set_option Elab.async false
set_option linter.all false
set_option maxRecDepth 100000
namespace W06
open PySem L2
section
variable {P:Program} {w:World} {K:PySem.W.Frag} {mg:Str → Option Value} {base:Heap} {A:Adr}
theorem back_due {n r t:Int}:backShows r n t = (decide (0 ≤ r) && (decide (r < t) && decide (r * n % t = 1 % t))):=by
  unfold backShows
  have:decide ((n * r - 1) % t = 0) = decide (r * n % t = 1 % t):=decide_eq_decide.mpr (by rw [Int.mul_comm n r]; exact (Int.emod_eq_emod_iff_emod_sub_eq_zero).symm)
  rw [this]
theorem due_one {k:Nat} {d:Bool} {tD:TE} {R:TS} {D:Ends} {σ:St} {H:Hp} (h1:∀ KK:VK,KK (.bl d) H → tD σ H KK) (hR:R D (σ.set k (some (.bl d))) H):tSeq (tAsg tD (gName k)) R D σ H:=h1 _ hR
def sp_backs_right:Sp:=fun vs H Q _=>∃ (n t c:Int),vs = [.int n,.int t,.int c] ∧ (-1000 ≤ n ∧ n ≤ 1000) ∧ (1 ≤ t ∧ t ≤ 1000) ∧ ∀ H',Same H H' → Q (.bl true) H'
set_option maxHeartbeats 4000000 in
theorem xcH (T:Txt K mg A):FnOk P w K mg base CX0 7 A.xbQ A.xca ["_law_number", "_law_turn", "_law_cell"] sp_backs_right:=by
  have xmL:=xoF (P:=P) (w:=w) (base:=base) T
  have xmN:=xoH (P:=P) (w:=w) (base:=base) T
  have xtp:=xs2 (P:=P) (w:=w) (base:=base) T
  have xeB:=xlT (P:=P) (w:=w) (base:=base) T
  have xgc:=xoB (P:=P) (w:=w) (base:=base) T
  have xkg:=xjU (P:=P) (w:=w) (base:=base) T
  have xpg:=xoA (P:=P) (w:=w) (base:=base) T
  refine T.xbI.ok xbA (fun vs H Q E h=>?_) (fun cdv Ar outer s H vs Q E hr h=>?_)
  · obtain ⟨n,t,c,rfl,_⟩:=h
    rfl
  obtain ⟨n,t,cl,rfl,hn,ht,q⟩:=h
  refine ⟨_,(@pss_cons _ _ _ _ _ (@ps_set _ _ (3) _ _ _ _ xbA.nd rfl (Or.inl rfl) (@pe_call _ _ _ _ _ _ _ _ _ _ _ _ _ _ _ _ xtp (hr.mono (by decide)) rfl T.xt0 T.xtO T.xst .nil pass0 (@pa_consN _ _ _ _ _ (@pv _ 0 _ _ (by rfl) (Or.inl rfl) (by decide) (by decide)) (@pa_consN _ _ _ _ _ (@pv _ 1 _ _ (by rfl) (Or.inl rfl) (by decide) (by decide)) (@pa_nil _) (by rfl)) (by rfl)) (by decide) (by rfl) (by rfl)) (by rfl) (Or.inl rfl)) (@pss_cons _ _ _ _ _ (@ps_set _ _ (4) _ _ _ _ xbA.nd rfl (Or.inl rfl) (@pe_ifExp _ _ _ _ _ _ _ _ (@pt_val _ _ _ (@pe_callB _ _ _ _ _ _ _ _ _ call_isinst rfl T.b_isinstance B.isinstance (@pa_consN _ _ _ _ _ (@pv _ 3 _ _ (by rfl) (Or.inl rfl) (by decide) (by decide)) (@pa_consN _ _ _ _ _ (@pe_glob _ _ (.ref _) _ _ rfl T.xtZ rfl (by decide)) (@pa_nil _) (by rfl)) (by rfl)) (by decide) (by decide) (by rfl) (by rfl)) (by intro _; rfl)) (@pe_fld _ _ _ _ _ (@pv _ 3 _ _ (by rfl) (Or.inl rfl) (by decide) (by decide)) (by rfl)) (@pe_call _ _ _ _ _ _ _ _ _ _ _ _ _ _ _ _ xmL (hr.mono (by decide)) rfl T.xoh T.xn0 T.xkx .nil pass0 (@pa_consN _ _ _ _ _ (@pv _ 2 _ _ (by rfl) (Or.inl rfl) (by decide) (by decide)) (@pa_consN _ _ _ _ _ (@pe_int _ _ _ _) (@pa_consN _ _ _ _ _ (@pv _ 1 _ _ (by rfl) (Or.inl rfl) (by decide) (by decide)) (@pa_nil _) (by rfl)) (by rfl)) (by rfl)) (by decide) (by rfl) (by rfl))) (by rfl) (Or.inl rfl)) (@pss_cons _ _ _ _ _ (@ps_for _ _ _ _ _ _ _ _ PassesOwn.never rfl (@pi_tup _ _ _ _ (@pe_tup _ _ _ _ _ (@pa_consN _ _ _ _ _ (@pv _ 4 _ _ (by rfl) (Or.inl rfl) (by decide) (by decide)) (@pa_consN _ _ _ _ _ (@pe_op _ _ _ _ _ _ _ _ op_add (@pv _ 4 _ _ (by rfl) (Or.inl rfl) (by decide) (by decide)) (@pv _ 1 _ _ (by rfl) (Or.inl rfl) (by decide) (by decide))) (@pa_consN _ _ _ _ _ (@pe_op _ _ _ _ _ _ _ _ op_sub (@pv _ 4 _ _ (by rfl) (Or.inl rfl) (by decide) (by decide)) (@pv _ 1 _ _ (by rfl) (Or.inl rfl) (by decide) (by decide))) (@pa_consN _ _ _ _ _ (@pe_op _ _ _ _ _ _ _ _ op_add (@pv _ 4 _ _ (by rfl) (Or.inl rfl) (by decide) (by decide)) (@pe_int _ _ _ _)) (@pa_consN _ _ _ _ _ (@pe_un _ _ _ _ _ _ un_neg (@pv _ 4 _ _ (by rfl) (Or.inl rfl) (by decide) (by decide))) (@pa_consN _ _ _ _ _ (@pe_int _ _ _ _) (@pa_nil _) (by rfl)) (by rfl)) (by rfl)) (by rfl)) (by rfl)) (by rfl)))) (@pg_name _ _ (5) _ xbA.nd rfl (Or.inl rfl) (Or.inl rfl)) (@pss_cons _ _ _ _ _ (@ps_set _ _ (6) _ _ _ _ xbA.nd rfl (Or.inl rfl) (@pe_and _ _ _ _ _ _ _ (@pe_chain _ _ _ _ _ _ _ _ _ _ _ _ op_le op_lt (@pe_int _ _ _ _) (@pv _ 5 _ _ (by rfl) (Or.inl rfl) (by decide) (by decide)) (@pv _ 1 _ _ (by rfl) (Or.inl rfl) (by decide) (by decide)) (by with_unfolding_all rfl)) (@pe_one _ _ _ _ _ (@pe_cmpR _ _ _ _ _ _ _ _ op_eqI (@pe_op _ _ _ _ _ _ _ _ op_mod (@pe_op _ _ _ _ _ _ _ _ op_mul (@pv _ 5 _ _ (by rfl) (Or.inl rfl) (by decide) (by decide)) (@pv _ 0 _ _ (by rfl) (Or.inl rfl) (by decide) (by decide))) (@pv _ 1 _ _ (by rfl) (Or.inl rfl) (by decide) (by decide))) (@pe_op _ _ _ _ _ _ _ _ op_mod (@pe_int _ _ _ _) (@pv _ 1 _ _ (by rfl) (Or.inl rfl) (by decide) (by decide))) (nomark _)))) (by rfl) (Or.inl rfl)) (@pss_cons _ _ _ _ _ (@ps_set _ _ (7) _ _ _ _ xbA.nd rfl (Or.inl rfl) (@pe_make _ _ _ _ _ _ _ _ _ _ _ _ _ _ _ _ _ T.xsV xeB (hr.mono (by decide)) rfl T.xtZ T.xd5 .nil pass0 (@pa_consN _ _ _ _ _ (@pv _ 5 _ _ (by rfl) (Or.inl rfl) (by decide) (by decide)) (@pa_nil _) (by rfl)) (by decide) (by rfl) (by rfl)) (by rfl) (Or.inl rfl)) (@pss_one _ _ _ (@ps_if _ _ _ _ _ _ _ _ (@PW.pt _ _ _ (@pw_or _ _ _ _ _ _ _ (@pt_cmpR _ _ _ _ _ _ _ _ op_neI (@pe_fld _ _ _ _ _ (@pv _ 7 _ _ (by rfl) (Or.inl rfl) (by decide) (by decide)) (by rfl)) (@pv _ 5 _ _ (by rfl) (Or.inl rfl) (by decide) (by decide)) (nomark _)) (@pw_or1 _ _ _ _ (@pt_not _ _ _ _ (@pt_val _ _ _ (@pe_call _ _ _ _ _ _ _ _ _ _ _ _ _ _ _ _ xmN (hr.mono (by decide)) rfl T.xoj T.xn2 T.xkz .nil pass0 (@pa_consN _ _ _ _ _ (@pe_meth _ _ _ _ _ _ _ _ _ _ _ _ _ _ _ _ _ _ _ _ (@pv _ 7 _ _ (by rfl) (Or.inl rfl) (by decide) (by decide)) T.xsB T.xjN xkg (hr.mono (by decide)) T.xiU .nil pass0 (@pa_consN _ _ _ _ _ (@pv _ 0 _ _ (by rfl) (Or.inl rfl) (by decide) (by decide)) (@pa_consN _ _ _ _ _ (@pv _ 1 _ _ (by rfl) (Or.inl rfl) (by decide) (by decide)) (@pa_nil _) (by rfl)) (by rfl)) (by rfl) (by rfl) (by rfl)) (@pa_consN _ _ _ _ _ (@pv _ 6 _ _ (by rfl) (Or.inl rfl) (by decide) (by decide)) (@pa_nil _) (by rfl)) (by rfl)) (by decide) (by rfl) (by rfl)) (by intro _; rfl)))))) (@pss_one _ _ _ (@ps_ret _ _ _ _ (@pe_bl _ _ _ _))) (@pss_nil _))))) (by intro _; rfl)) (@pss_cons _ _ _ _ _ (@ps_for _ _ _ _ _ _ _ _ PassesOwn.never rfl (@pi_tup _ _ _ _ (@pe_tup _ _ _ _ _ (@pa_consN _ _ _ _ _ (@pe_un _ _ _ _ _ _ un_neg (@pe_int _ _ _ _)) (@pa_consN _ _ _ _ _ (@pe_int _ _ _ _) (@pa_consN _ _ _ _ _ (@pe_int _ _ _ _) (@pa_consN _ _ _ _ _ (@pe_int _ _ _ _) (@pa_consN _ _ _ _ _ (@pe_int _ _ _ _) (@pa_consN _ _ _ _ _ (@pv _ 1 _ _ (by rfl) (Or.inl rfl) (by decide) (by decide)) (@pa_consN _ _ _ _ _ (@pe_callB _ _ _ _ _ _ _ _ _ call_abs rfl T.b_abs B.abs (@pa_consN _ _ _ _ _ (@pv _ 0 _ _ (by rfl) (Or.inl rfl) (by decide) (by decide)) (@pa_nil _) (by rfl)) (by decide) (by decide) (by rfl) (by rfl)) (@pa_nil _) (by rfl)) (by rfl)) (by rfl)) (by rfl)) (by rfl)) (by rfl)) (by rfl)))) (@pg_name _ _ (8) _ xbA.nd rfl (Or.inl rfl) (Or.inl rfl)) (@pss_cons _ _ _ _ _ (@ps_set _ _ (6) _ _ _ _ xbA.nd rfl (Or.inl rfl) (@pe_cmpR _ _ _ _ _ _ _ _ op_gt (@pv _ 8 _ _ (by rfl) (Or.inl rfl) (by decide) (by decide)) (@pe_int _ _ _ _) (nomark _)) (by rfl) (Or.inl rfl)) (@pss_cons _ _ _ _ _ (@ps_if _ _ _ _ _ _ _ _ (@pt_val _ _ _ (@pv _ 6 _ _ (by rfl) (Or.inl rfl) (by decide) (by decide)) (by intro _; rfl)) (@pss_one _ _ _ (@ps_set _ _ (6) _ _ _ _ xbA.nd rfl (Or.inl rfl) (@pe_and _ _ _ _ _ _ _ (@pe_cmpR _ _ _ _ _ _ _ _ op_eqI (@pe_op _ _ _ _ _ _ _ _ op_mod (@pv _ 0 _ _ (by rfl) (Or.inl rfl) (by decide) (by decide)) (@pv _ 8 _ _ (by rfl) (Or.inl rfl) (by decide) (by decide))) (@pe_int _ _ _ _) (nomark _)) (@pe_one _ _ _ _ _ (@pe_cmpR _ _ _ _ _ _ _ _ op_eqI (@pe_op _ _ _ _ _ _ _ _ op_mod (@pv _ 1 _ _ (by rfl) (Or.inl rfl) (by decide) (by decide)) (@pv _ 8 _ _ (by rfl) (Or.inl rfl) (by decide) (by decide))) (@pe_int _ _ _ _) (nomark _)))) (by rfl) (Or.inl rfl))) (@pss_nil _)) (@pss_one _ _ _ (@ps_if _ _ _ _ _ _ _ _ (@pt_not _ _ _ _ (@pt_val _ _ _ (@pe_call _ _ _ _ _ _ _ _ _ _ _ _ _ _ _ _ xmN (hr.mono (by decide)) rfl T.xoj T.xn2 T.xkz .nil pass0 (@pa_consN _ _ _ _ _ (@pe_meth _ _ _ _ _ _ _ _ _ _ _ _ _ _ _ _ _ _ _ _ (@pe_make _ _ _ _ _ _ _ _ _ _ _ _ _ _ _ _ _ T.xt3 xgc (hr.mono (by decide)) rfl T.m_Bar T.xeJ .nil pass0 (@pa_consN _ _ _ _ _ (@pv _ 8 _ _ (by rfl) (Or.inl rfl) (by decide) (by decide)) (@pa_nil _) (by rfl)) (by decide) (by rfl) (by rfl)) T.xtC T.xoo xpg (hr.mono (by decide)) T.xm6 .nil pass0 (@pa_consN _ _ _ _ _ (@pv _ 0 _ _ (by rfl) (Or.inl rfl) (by decide) (by decide)) (@pa_consN _ _ _ _ _ (@pv _ 1 _ _ (by rfl) (Or.inl rfl) (by decide) (by decide)) (@pa_nil _) (by rfl)) (by rfl)) (by rfl) (by rfl) (by rfl)) (@pa_consN _ _ _ _ _ (@pv _ 6 _ _ (by rfl) (Or.inl rfl) (by decide) (by decide)) (@pa_nil _) (by rfl)) (by rfl)) (by decide) (by rfl) (by rfl)) (by intro _; rfl))) (@pss_one _ _ _ (@ps_ret _ _ _ _ (@pe_bl _ _ _ _))) (@pss_nil _))))) (by intro _; rfl)) (@pss_one _ _ _ (@ps_ret _ _ _ _ (@pe_bl _ _ _ _))))))),?_⟩
  refine ⟨_,rfl,_,rfl,n,t,rfl,⟨by omega,by omega⟩,⟨by omega,by omega⟩,fun p H1 s1 hp hB=>?_⟩
  have hty:∃ ty b,TyOf K H1 (.ref p) ty ∧ PySem.W.kitOne K ty (.ref A.xtx) = some b ∧ (b = true → ∃ r,ObjAt H1 p A.xtx [("rest", .int r)]):=by
    rcases hB with ⟨g,⟨dx,ho⟩,_⟩ | ⟨r,⟨dx,ho⟩,_⟩
    · exact ⟨_,_,T.xuh _ p dx _ ho,T.xnS,fun z=>nomatch z⟩
    · exact ⟨_,_,T.xtk _ p dx _ ho,T.xlf,fun _=>⟨r,dx,ho⟩⟩
  obtain ⟨ty,b,hty,hki,hob⟩:=hty
  refine ⟨_,rfl,_,_,_,_,_,rfl,hty,rfl,hki,_,rfl,if_num (fun e KK hk=>?_) (fun e KK hk=>?_) fun N H2 s2=>?_⟩
  · obtain ⟨r,dx,hop⟩:=hob e
    exact ⟨_,rfl,p,A.xtx,dx,_,_,rfl,hop,T.xsB,T.xlz,rfl,hk _ _ (Same.refl _)⟩
  · exact ⟨_,rfl,_,rfl,cl,9,t,rfl,(by omega),fun v H2 v0 v1 s2=>hk v H2 s2⟩
  have s12:=s1.trans s2
  dsimp only [gName]
  refine ⟨_,rfl,_,rfl,_,rfl,_,_,rfl,rfl,_,rfl,_,rfl,_,_,rfl,rfl,_,rfl,_,_,rfl,rfl,_,rfl,_,rfl,(by show 6 ≤ sizeLine; decide),fun y hy=>?_⟩
  have s3:=s12.trans (same_new hy (.tup [.int N,.int (N + t),.int (N - t),.int (N + 1),.int (-N),.int 0]))
  have hY:(upd H2 y (.tup [.int N,.int (N + t),.int (N - t),.int (N + 1),.int (-N),.int 0])) y = some (.tup [.int N,.int (N + t),.int (N - t),.int (N + 1),.int (-N),.int 0]):=upd_same
  generalize upd H2 y (.tup [.int N,.int (N + t),.int (N - t),.int (N + 1),.int (-N),.int 0]) = H3 at *
  refine ⟨y,rfl,⟨_,SqT.of hY⟩,?_⟩
  refine for_tup (K:=K) (a:=y) (xs:=[.int N,.int (N + t),.int (N - t),.int (N + 1),.int (-N),.int 0]) (fun i σ H'=>∃ (f5 f6 f7 f8:Option V),σ = [some (.int n),some (.int t),some (.int cl),some (.ref p),some (.int N),f5,f6,f7,f8] ∧ Same H3 H') ⟨_,_,_,_,rfl,Same.refl _⟩ (fun i σ H' _ ⟨_,_,_,_,_,e⟩=>SqT.of (e _ _ hY)) ?_ ?_
  · rintro i v σ H4 hi ⟨f5,f6,f7,f8,rfl,e1⟩
    obtain ⟨sm,rfl⟩:∃ m:Int,v = .int m:=by
      have hv:=List.mem_of_getElem? hi
      simp only [List.mem_cons,List.not_mem_nil,or_false] at hv
      rcases hv with rfl | rfl | rfl | rfl | rfl | rfl <;> exact ⟨_,rfl⟩
    show tSeq _ _ _ _ _
    refine due_one (k:=6) (d:=backShows sm n t) ?_ ?_
    · intro KK hK
      rw [back_due] at hK
      refine ⟨_,rfl,_,_,rfl,rfl,_,rfl,?_⟩
      by_cases h1:0 ≤ sm
      case neg =>
        rw [decF h1] at hK ⊢
        exact iteF ⟨_,rfl,iteF hK⟩
      rw [decT h1] at hK ⊢
      refine iteT ⟨_,rfl,_,_,rfl,rfl,_,rfl,?_⟩
      by_cases h2:sm < t
      case neg =>
        rw [decF h2] at hK ⊢
        exact iteF hK
      rw [decT h2] at hK ⊢
      exact iteT ⟨_,rfl,_,rfl,_,_,rfl,rfl,.inr ⟨by omega,by omega⟩,_,rfl,_,_,rfl,rfl,(by omega),_,rfl,_,_,rfl,rfl,(by omega),_,_,rfl,rfl,hK⟩
    · refine ⟨_,rfl,?_⟩
      intro pn dx0 hpn hdx0 hne0
      refine make1v hpn hdx0 fun H5 s5 hon=>⟨rfl,?_⟩
      obtain ⟨dx,hop⟩:=id hon
      refine ⟨_,rfl,pn,A.xtx,dx,_,_,rfl,hop,T.xsB,T.xlz,rfl,_,rfl,_,_,rfl,rfl,_,rfl,?_⟩
      rw [decT rfl]
      refine iteF ?_
      refine ⟨_,rfl,pn,dx,_,rfl,hop,rfl,_,rfl,_,rfl,pn,sm,n,t,rfl,hon,(fun _ _=>⟨by omega,.inl ⟨by omega,by omega⟩⟩),?_⟩
      refine ⟨_,rfl,_,_,rfl,_,rfl,?_⟩
      rw [beq_self_eq_true]
      exact iteF ⟨_,_,_,_,rfl,e1.trans s5⟩
  rintro σ H4 ⟨f5,f6,f7,f8,rfl,e1⟩
  have s4:=s3.trans e1
  refine ⟨_,rfl,_,rfl,_,rfl,_,rfl,(by show 7 ≤ sizeLine; decide),fun z hz=>?_⟩
  have s5:=s4.trans (same_new hz (.tup [.int (-1),.int 0,.int 1,.int 2,.int 3,.int t,.int (if n < 0 then -n else n)]))
  have hZ:(upd H4 z (.tup [.int (-1),.int 0,.int 1,.int 2,.int 3,.int t,.int (if n < 0 then -n else n)])) z = some (.tup [.int (-1),.int 0,.int 1,.int 2,.int 3,.int t,.int (if n < 0 then -n else n)]):=upd_same
  generalize upd H4 z (.tup [.int (-1),.int 0,.int 1,.int 2,.int 3,.int t,.int (if n < 0 then -n else n)]) = H5 at *
  refine ⟨z,rfl,⟨_,SqT.of hZ⟩,?_⟩
  refine for_tup (K:=K) (a:=z) (xs:=[.int (-1),.int 0,.int 1,.int 2,.int 3,.int t,.int (if n < 0 then -n else n)]) (fun i σ H'=>∃ (f5 f6 f7 f8:Option V),σ = [some (.int n),some (.int t),some (.int cl),some (.ref p),some (.int N),f5,f6,f7,f8] ∧ Same H5 H') ⟨_,_,_,_,rfl,Same.refl _⟩ (fun i σ H' _ ⟨_,_,_,_,_,e⟩=>SqT.of (e _ _ hZ)) ?_ ?_
  · rintro i v σ H6 hi ⟨f5,f6,f7,f8,rfl,e2⟩
    obtain ⟨g,rfl⟩:∃ m:Int,v = .int m:=by
      have hv:=List.mem_of_getElem? hi
      simp only [List.mem_cons,List.not_mem_nil,or_false] at hv
      rcases hv with rfl | rfl | rfl | rfl | rfl | rfl | rfl <;> exact ⟨_,rfl⟩
    show tSeq _ _ _ _ _
    refine due_pat (k:=6) (d1:=decide (1 < g)) (d:=barBars g n t) (by show 6 < 9; decide) ?_ ?_ ?_ ?_
    · intro KK hK
      exact ⟨_,rfl,_,_,rfl,rfl,hK⟩
    · intro e
      unfold barBars
      rw [e]
      rfl
    · intro e KK hK
      have hg:=of_decide_eq_true e
      have z:=hK _ (Same.refl _)
      unfold barBars at z
      rw [e] at z
      refine ⟨_,rfl,_,rfl,_,_,rfl,rfl,(by omega),_,_,rfl,rfl,_,rfl,?_⟩
      by_cases h2:n % g = 0
      case neg =>
        rw [decF h2] at z ⊢
        exact iteF z
      rw [decT h2] at z ⊢
      exact iteT ⟨_,rfl,_,rfl,_,_,rfl,rfl,(by omega),_,_,rfl,rfl,z⟩
    · intro H7 s7
      refine ⟨_,rfl,?_⟩
      intro pn dx0 hpn hdx0 hne0
      refine make1v hpn hdx0 fun H8 s8 hon=>⟨rfl,?_⟩
      obtain ⟨dx,hop⟩:=id hon
      refine ⟨pn,dx,_,rfl,hop,rfl,_,rfl,_,rfl,pn,g,n,t,rfl,hon,?_⟩
      refine ⟨_,rfl,_,_,rfl,_,rfl,?_⟩
      rw [beq_self_eq_true]
      exact iteF ⟨_,_,_,_,rfl,e2.trans (s7.trans s8)⟩
  · rintro σ H6 ⟨f5,f6,f7,f8,rfl,e2⟩
    exact q _ (s5.trans e2)
end
end W06
set_option Elab.async false
set_option linter.all false
set_option maxRecDepth 100000
namespace W06
open PySem L2
section
variable {P:Program} {w:World} {K:PySem.W.Frag} {mg:Str → Option Value} {base:Heap} {A:Adr}
def xug (K:PySem.W.Frag):Sp:=fun vs H Q _=>∃ (a:Addr) (ns:List Int),vs = [.ref a] ∧ SqX K H a (ns.map V.int) ∧ ns.length ≤ 63 ∧ ∀ H',Q (.bl true) H'
set_option maxHeartbeats 4000000 in
theorem xt6 (T:Txt K mg A):FnOk P w K mg base CX0 9 A.a_law A.d_law ["_law_script"] (xug K):=by
  have xgf:=xh2 (P:=P) (w:=w) (base:=base) T
  have xmL:=xoF (P:=P) (w:=w) (base:=base) T
  have xkh:=xlZ (P:=P) (w:=w) (base:=base) T
  have xph:=xp3 (P:=P) (w:=w) (base:=base) T
  have xbP:=xcK (P:=P) (w:=w) (base:=base) T
  have xbO:=xcJ (P:=P) (w:=w) (base:=base) T
  have xbN:=xcI (P:=P) (w:=w) (base:=base) T
  have xbM:=xcH (P:=P) (w:=w) (base:=base) T
  refine T.F_law.ok xue (fun vs H Q E h=>?_) (fun cdv Ar outer s H vs Q E hr h=>?_)
  · obtain ⟨a,ns,rfl,_⟩:=h
    rfl
  obtain ⟨a,ns,rfl,hS,hlen,q⟩:=h
  refine ⟨_,(@pss_cons _ _ _ _ _ (@ps_par _ _ (1) (2) _ _ _ _ _ _ _ _ _ _ _ rfl xue.nd rfl rfl (by decide) rfl rfl (@pa_consN _ _ _ _ _ (@pe_call _ _ _ _ _ _ _ _ _ _ _ _ _ _ _ _ xkh (hr.mono (by decide)) rfl T.xlw T.xlr T.xiV .nil pass0 (@pa_consN _ _ _ _ _ (@pv _ 0 _ _ (by rfl) (Or.inl rfl) (by decide) (by decide)) (@pa_nil _) (by rfl)) (by decide) (by rfl) (by rfl)) (@pa_consN _ _ _ _ _ (@pe_call _ _ _ _ _ _ _ _ _ _ _ _ _ _ _ _ xph (hr.mono (by decide)) rfl T.xpW T.xpN T.xm7 .nil pass0 (@pa_consN _ _ _ _ _ (@pv _ 0 _ _ (by rfl) (Or.inl rfl) (by decide) (by decide)) (@pa_nil _) (by rfl)) (by decide) (by rfl) (by rfl)) (@pa_nil _) (by rfl)) (by rfl)) rfl (by rfl)) (@pss_cons _ _ _ _ _ (@ps_for _ _ _ _ _ _ _ _ PassesOwn.never rfl (@pi_range1 _ _ _ _ _ _ rfl T.b_range (@pa_consN _ _ _ _ _ (@pe_int _ _ _ _) (@pa_nil _) (by rfl)) (by rfl)) (@pg_name _ _ (3) _ xue.nd rfl (Or.inl rfl) (Or.inl rfl)) (@pss_cons _ _ _ _ _ (@ps_set _ _ (4) _ _ _ _ xue.nd rfl (Or.inl rfl) (@pe_op _ _ _ _ _ _ _ _ op_add (@pe_op _ _ _ _ _ _ _ _ op_add (@pe_call _ _ _ _ _ _ _ _ _ _ _ _ _ _ _ _ xgf (hr.mono (by decide)) rfl T.xhA T.xhr T.xeM .nil pass0 (@pa_consN _ _ _ _ _ (@pv _ 0 _ _ (by rfl) (Or.inl rfl) (by decide) (by decide)) (@pa_consN _ _ _ _ _ (@pv _ 3 _ _ (by rfl) (Or.inl rfl) (by decide) (by decide)) (@pa_nil _) (by rfl)) (by rfl)) (by decide) (by rfl) (by rfl)) (@pe_op _ _ _ _ _ _ _ _ op_mul (@pe_int _ _ _ _) (@pv _ 3 _ _ (by rfl) (Or.inl rfl) (by decide) (by decide)))) (@pe_op _ _ _ _ _ _ _ _ op_mul (@pe_int _ _ _ _) (@pe_call _ _ _ _ _ _ _ _ _ _ _ _ _ _ _ _ xgf (hr.mono (by decide)) rfl T.xhA T.xhr T.xeM .nil pass0 (@pa_consN _ _ _ _ _ (@pv _ 0 _ _ (by rfl) (Or.inl rfl) (by decide) (by decide)) (@pa_consN _ _ _ _ _ (@pe_op _ _ _ _ _ _ _ _ op_add (@pv _ 3 _ _ (by rfl) (Or.inl rfl) (by decide) (by decide)) (@pe_int _ _ _ _)) (@pa_nil _) (by rfl)) (by rfl)) (by decide) (by rfl) (by rfl)))) (by rfl) (Or.inl rfl)) (@pss_cons _ _ _ _ _ (@ps_if _ _ _ _ _ _ _ _ (@PW.pt _ _ _ (@pw_or _ _ _ _ _ _ _ (@pt_not _ _ _ _ (@pt_val _ _ _ (@pe_call _ _ _ _ _ _ _ _ _ _ _ _ _ _ _ _ xbP (hr.mono (by decide)) rfl T.xcA T.xcs T.xa7 .nil pass0 (@pa_consN _ _ _ _ _ (@pv _ 1 _ _ (by rfl) (Or.inl rfl) (by decide) (by decide)) (@pa_consN _ _ _ _ _ (@pv _ 4 _ _ (by rfl) (Or.inl rfl) (by decide) (by decide)) (@pa_nil _) (by rfl)) (by rfl)) (by decide) (by rfl) (by rfl)) (by intro _; rfl))) (@pw_or1 _ _ _ _ (@pt_not _ _ _ _ (@pt_val _ _ _ (@pe_call _ _ _ _ _ _ _ _ _ _ _ _ _ _ _ _ xbO (hr.mono (by decide)) rfl T.xcz T.xcr T.xa6 .nil pass0 (@pa_consN _ _ _ _ _ (@pv _ 2 _ _ (by rfl) (Or.inl rfl) (by decide) (by decide)) (@pa_consN _ _ _ _ _ (@pv _ 4 _ _ (by rfl) (Or.inl rfl) (by decide) (by decide)) (@pa_nil _) (by rfl)) (by rfl)) (by decide) (by rfl) (by rfl)) (by intro _; rfl)))))) (@pss_one _ _ _ (@ps_ret _ _ _ _ (@pe_bl _ _ _ _))) (@pss_nil _)) (@pss_cons _ _ _ _ _ (@ps_if _ _ _ _ _ _ _ _ (@pt_not _ _ _ _ (@pt_val _ _ _ (@pe_call _ _ _ _ _ _ _ _ _ _ _ _ _ _ _ _ xbN (hr.mono (by decide)) rfl T.xcy T.xcq T.xa5 .nil pass0 (@pa_consN _ _ _ _ _ (@pv _ 2 _ _ (by rfl) (Or.inl rfl) (by decide) (by decide)) (@pa_consN _ _ _ _ _ (@pv _ 4 _ _ (by rfl) (Or.inl rfl) (by decide) (by decide)) (@pa_nil _) (by rfl)) (by rfl)) (by decide) (by rfl) (by rfl)) (by intro _; rfl))) (@pss_one _ _ _ (@ps_ret _ _ _ _ (@pe_bl _ _ _ _))) (@pss_nil _)) (@pss_cons _ _ _ _ _ (@ps_set _ _ (5) _ _ _ _ xue.nd rfl (Or.inl rfl) (@pe_op _ _ _ _ _ _ _ _ op_add (@pe_int _ _ _ _) (@pe_call _ _ _ _ _ _ _ _ _ _ _ _ _ _ _ _ xmL (hr.mono (by decide)) rfl T.xoh T.xn0 T.xkx .nil pass0 (@pa_consN _ _ _ _ _ (@pv _ 4 _ _ (by rfl) (Or.inl rfl) (by decide) (by decide)) (@pa_consN _ _ _ _ _ (@pe_int _ _ _ _) (@pa_consN _ _ _ _ _ (@pe_int _ _ _ _) (@pa_nil _) (by rfl)) (by rfl)) (by rfl)) (by decide) (by rfl) (by rfl))) (by rfl) (Or.inl rfl)) (@pss_one _ _ _ (@ps_if _ _ _ _ _ _ _ _ (@pt_not _ _ _ _ (@pt_val _ _ _ (@pe_call _ _ _ _ _ _ _ _ _ _ _ _ _ _ _ _ xbM (hr.mono (by decide)) rfl T.xcx T.xcp T.xa4 .nil pass0 (@pa_consN _ _ _ _ _ (@pe_op _ _ _ _ _ _ _ _ op_sub (@pe_call _ _ _ _ _ _ _ _ _ _ _ _ _ _ _ _ xmL (hr.mono (by decide)) rfl T.xoh T.xn0 T.xkx .nil pass0 (@pa_consN _ _ _ _ _ (@pv _ 4 _ _ (by rfl) (Or.inl rfl) (by decide) (by decide)) (@pa_consN _ _ _ _ _ (@pe_int _ _ _ _) (@pa_consN _ _ _ _ _ (@pe_int _ _ _ _) (@pa_nil _) (by rfl)) (by rfl)) (by rfl)) (by decide) (by rfl) (by rfl)) (@pe_int _ _ _ _)) (@pa_consN _ _ _ _ _ (@pv _ 5 _ _ (by rfl) (Or.inl rfl) (by decide) (by decide)) (@pa_consN _ _ _ _ _ (@pv _ 4 _ _ (by rfl) (Or.inl rfl) (by decide) (by decide)) (@pa_nil _) (by rfl)) (by rfl)) (by rfl)) (by decide) (by rfl) (by rfl)) (by intro _; rfl))) (@pss_one _ _ _ (@ps_ret _ _ _ _ (@pe_bl _ _ _ _))) (@pss_nil _))))))) (by intro _; rfl)) (@pss_one _ _ _ (@ps_ret _ _ _ _ (@pe_bl _ _ _ _))))),?_⟩
  refine ⟨_,rfl,a,ns,rfl,hS,hlen,fun l rs H1 hO hrl hA s1=>?_⟩
  refine ⟨_,rfl,a,ns,rfl,(hS.same s1).sq,hlen,fun l2 ms H2 hSm hml hl2 hA2 s2=>⟨_,_,rfl,?_⟩⟩
  have s12:=s1.trans s2
  refine ⟨3,rfl,by decide,by decide,?_⟩
  refine for_range (lo:=0) (n:=3) (fun i σ H'=>∃ (f3 f4 f5:Option V),σ = [some (.ref a),some (.ref l),some (.ref l2),f3,f4,f5] ∧ Same H2 H') ⟨_,_,_,rfl,Same.refl _⟩ ?_ ?_
  · rintro i σ H3 hi ⟨f3,f4,f5,rfl,e1⟩
    have hI:=(hS.same (s12.trans e1)).sq
    refine ⟨_,rfl,_,rfl,a,ns,_,rfl,hI,(by omega),fun c0=>?_⟩
    refine ⟨_,rfl,_,_,rfl,rfl,.inl ⟨by decide,by decide⟩,_,_,rfl,rfl,_,rfl,_,rfl,_,_,rfl,rfl,a,ns,_,rfl,hI,(by omega),fun c1=>?_⟩
    refine ⟨_,_,rfl,rfl,.inl ⟨by decide,by decide⟩,_,_,rfl,rfl,?_⟩
    have hR3:=hA.same (s2.trans e1)
    have hM3:LstAt H3 l2 ms:=e1 _ _ hA2
    refine ⟨_,rfl,_,rfl,l,_,rs,rfl,hR3,hO,by omega,fun H5 s5=>⟨_,rfl,iteF ?_⟩⟩
    refine ⟨_,rfl,_,rfl,l2,_,ms,rfl,s5 _ _ hM3,hSm,by omega,fun H6 s6=>⟨_,rfl,iteF ?_⟩⟩
    have s56:=s5.trans s6
    refine ⟨_,rfl,_,rfl,l2,_,ms,rfl,s56 _ _ hM3,hSm,by omega,fun H7 s7=>⟨_,rfl,iteF ?_⟩⟩
    have s57:=s56.trans s7
    refine ⟨_,rfl,_,10,60,rfl,(by decide),fun v H8 v0 v1 s8=>⟨_,_,rfl,rfl,?_⟩⟩
    refine ⟨_,rfl,_,11,200,rfl,(by decide),fun v2 H9 v20 v21 s9=>⟨_,_,rfl,rfl,_,rfl,_,rfl,_,_,_,rfl,⟨by omega,by omega⟩,⟨by omega,by omega⟩,fun H10 s10=>⟨_,rfl,iteF ⟨_,_,_,rfl,e1.trans (s57.trans (s8.trans (s9.trans s10)))⟩⟩⟩⟩
  · rintro σ H3 ⟨f3,f4,f5,rfl,e1⟩
    exact q _
end
end W06
set_option Elab.async false
set_option linter.all false
namespace H06
open PySem PySem.W PySem.Calls PyProof.Rows
noncomputable section
set_option maxRecDepth 100000
theorem laid:(PySem.Challenge.pw_wheelrow_k06_answers_by_hand.main.body.isEmpty) = false:=by
  cases h:PySem.Challenge.pw_wheelrow_k06_answers_by_hand.main.body.isEmpty with
  | false=>rfl
  | true=>
    have t:(!PySem.Challenge.pw_wheelrow_k06_answers_by_hand.main.body.isEmpty)=true:=by k_qdec
    rw [h] at t
    cases t
abbrev p':Program:=PySem.W.Fast.tw10909309216000655295
abbrev pq:Program:=PySem.Challenge.pw_wheelrow_k06_answers_by_hand
theorem pq_eq:pq = p':=by
  have _:=laid
  exact PySem.W.Fast.te10909309216000655295
abbrev S (s:String):Str:=Str.ofString s
def tpOf (p:Program) (i:Nat):Stmt:=p.main.body.getD i (.Pass ⟨0,0,0,0⟩)
abbrev tp (i:Nat):Stmt:=tpOf p' i
def ic (s:Stmt) (j:Nat):Stmt:=match s with
  | .ClassDef _ _ _ body _ _ _ _ _ _ _=>body.getD j (.Pass ⟨0,0,0,0⟩)
  | _=>.Pass ⟨0,0,0,0⟩
def fA (s:Stmt):Arguments:=match s with
  | .FunctionDef _ a _ _ _ _ _ _ _ _=>a
  | _=>{ posonlyargs:=[],args:=[],vararg:=none,kwonlyargs:=[],kw_defaults:=[],kwarg:=none,defaults:=[] }
def fB (s:Stmt):List Stmt:=match s with
  | .FunctionDef _ _ b _ _ _ _ _ _ _=>b
  | _=>[]
def fS (s:Stmt):Scope:=match s with
  | .FunctionDef _ _ _ _ _ _ sc _ _ _=>sc
  | _=>{ kind:=.function,names:=[],isGenerator:=false,isCoroutine:=false }
abbrev vi (n t:Nat):Value:=.int (.ofNat n) t
abbrev vs (s:Str) (t:Nat):Value:=.str s t
abbrev vr (n:Nat):Value:=.ref n
abbrev de (P:Params) (s:Str) (t:Nat) (v:Value):DictEntry:=⟨PyData.keyHash P s,.str s t,v⟩
abbrev c0:Str:=⟨⟨[95,95,110,97,109,101,95,95]⟩⟩
abbrev c1:Str:=⟨⟨[98,117,105,108,116,105,110,115]⟩⟩
abbrev c2:Str:=⟨⟨[95,95,100,111,99,95,95]⟩⟩
abbrev c3:Str:=⟨⟨[95,95,112,97,99,107,97,103,101,95,95]⟩⟩
abbrev c4:Str:=⟨⟨[95,95,108,111,97,100,101,114,95,95]⟩⟩
abbrev c5:Str:=⟨⟨[95,95,115,112,101,99,95,95]⟩⟩
abbrev c160:Str:=⟨⟨[95,95,109,97,105,110,95,95]⟩⟩
abbrev c161:Str:=⟨⟨[95,95,97,110,110,111,116,97,116,105,111,110,115,95,95]⟩⟩
abbrev c162:Str:=⟨⟨[95,95,98,117,105,108,116,105,110,115,95,95]⟩⟩
abbrev c163:Str:=⟨⟨[95,95,102,105,108,101,95,95]⟩⟩
abbrev c164:Str:=⟨⟨[47,99,108,97,105,109,47,99,117,116,46,112,121]⟩⟩
abbrev c165:Str:=⟨⟨[95,95,99,97,99,104,101,100,95,95]⟩⟩
abbrev c166:Str:=⟨⟨[60,109,111,100,117,108,101,62]⟩⟩
abbrev c167:Str:=⟨⟨[119,104,101,101,108,114,111,119,46,101,114,114,111,114,115]⟩⟩
abbrev c168:Str:=⟨⟨[71,82,69,65,84,69,83,84,95,82,79,85,78,68]⟩⟩
abbrev c169:Str:=⟨⟨[71,82,69,65,84,69,83,84,95,78,85,77,66,69,82]⟩⟩
abbrev c170:Str:=⟨⟨[105,115,95,119,104,111,108,101]⟩⟩
abbrev c171:Str:=⟨⟨[105,115,95,110,117,109,98,101,114]⟩⟩
abbrev c172:Str:=⟨⟨[97,114,101,95,110,117,109,98,101,114,115]⟩⟩
abbrev c173:Str:=⟨⟨[105,115,95,114,111,117,110,100]⟩⟩
abbrev c174:Str:=⟨⟨[105,115,95,114,101,115,116]⟩⟩
abbrev c175:Str:=⟨⟨[105,115,95,114,101,115,116,95,112,97,105,114]⟩⟩
abbrev c176:Str:=⟨⟨[97,114,101,95,114,101,115,116,115]⟩⟩
abbrev c177:Str:=⟨⟨[103,111,101,115,95,105,110,116,111]⟩⟩
abbrev c178:Str:=⟨⟨[108,101,97,118,101,115]⟩⟩
abbrev c179:Str:=⟨⟨[99,111,109,109,111,110,95,112,97,114,116,95,111,102,95,116,119,111]⟩⟩
abbrev c180:Str:=⟨⟨[112,97,114,116,95,119,105,116,104,95,116,105,109,101,115]⟩⟩
abbrev c181:Str:=⟨⟨[116,117,114,110,101,100,95,98,97,99,107]⟩⟩
abbrev c182:Str:=⟨⟨[99,111,109,109,111,110,95,112,97,114,116]⟩⟩
abbrev c183:Str:=⟨⟨[99,111,109,109,111,110,95,116,117,114,110]⟩⟩
abbrev c184:Str:=⟨⟨[97,108,108,95,116,111,103,101,116,104,101,114]⟩⟩
abbrev c185:Str:=⟨⟨[65,110,115,119,101,114]⟩⟩
abbrev c186:Str:=⟨⟨[78,117,109,98,101,114]⟩⟩
abbrev c187:Str:=⟨⟨[67,108,97,115,104]⟩⟩
abbrev c188:Str:=⟨⟨[67,111,109,109,111,110]⟩⟩
abbrev c189:Str:=⟨⟨[84,105,109,101,115]⟩⟩
abbrev c190:Str:=⟨⟨[66,97,114]⟩⟩
abbrev c191:Str:=⟨⟨[66,97,99,107]⟩⟩
abbrev c192:Str:=⟨⟨[118,97,108,117,101]⟩⟩
abbrev c193:Str:=⟨⟨[119,104,101,101,108,114,111,119,46,110,117,109,98,101,114,115]⟩⟩
abbrev c194:Str:=⟨⟨[116,117,114,110]⟩⟩
abbrev c195:Str:=⟨⟨[112,97,114,116]⟩⟩
abbrev c196:Str:=⟨⟨[110,117,109,98,101,114]⟩⟩
abbrev c197:Str:=⟨⟨[114,101,115,116]⟩⟩
abbrev c198:Str:=⟨⟨[111,110,101]⟩⟩
abbrev c199:Str:=⟨⟨[111,116,104,101,114]⟩⟩
abbrev c200:Str:=⟨⟨[108,101,102,116]⟩⟩
abbrev c201:Str:=⟨⟨[102,111,108,108,111,119,105,110,103]⟩⟩
abbrev c202:Str:=⟨⟨[111,102,116,101,110]⟩⟩
abbrev c203:Str:=⟨⟨[108,101,102,116,95,111,102,116,101,110]⟩⟩
abbrev c204:Str:=⟨⟨[119,104,111,108,101]⟩⟩
abbrev c205:Str:=⟨⟨[102,111,108,108,111,119,105,110,103,95,111,102,116,101,110]⟩⟩
abbrev c206:Str:=⟨⟨[111,116,104,101,114,95,111,102,116,101,110]⟩⟩
abbrev c207:Str:=⟨⟨[110,117,109,98,101,114,115]⟩⟩
abbrev c208:Str:=⟨⟨[116,117,114,110,115]⟩⟩
abbrev c209:Str:=⟨⟨[119,104,101,101,108,114,111,119,46,97,110,115,119,101,114,115]⟩⟩
abbrev c210:Str:=⟨⟨[95,95,109,111,100,117,108,101,95,95]⟩⟩
abbrev c211:Str:=⟨⟨[95,95,113,117,97,108,110,97,109,101,95,95]⟩⟩
abbrev c212:Str:=⟨⟨[95,95,102,105,114,115,116,108,105,110,101,110,111,95,95]⟩⟩
abbrev c213:Str:=⟨⟨[95,95,115,116,97,116,105,99,95,97,116,116,114,105,98,117,116,101,115,95,95]⟩⟩
abbrev c214:Str:=⟨⟨[95,95,100,105,99,116,95,95]⟩⟩
abbrev c215:Str:=⟨⟨[95,95,119,101,97,107,114,101,102,95,95]⟩⟩
abbrev c216:Str:=⟨⟨[95,95,105,110,105,116,95,95]⟩⟩
abbrev c217:Str:=⟨⟨[115,104,111,119,115]⟩⟩
abbrev c218:Str:=⟨⟨[115,101,108,102]⟩⟩
abbrev c219:Str:=⟨⟨[78,117,109,98,101,114,46,95,95,105,110,105,116,95,95]⟩⟩
abbrev c220:Str:=⟨⟨[78,117,109,98,101,114,46,115,104,111,119,115]⟩⟩
abbrev c221:Str:=⟨⟨[67,108,97,115,104,46,95,95,105,110,105,116,95,95]⟩⟩
abbrev c222:Str:=⟨⟨[114,101,115,116,115]⟩⟩
abbrev c223:Str:=⟨⟨[102,105,114,115,116]⟩⟩
abbrev c224:Str:=⟨⟨[115,101,99,111,110,100]⟩⟩
abbrev c225:Str:=⟨⟨[67,108,97,115,104,46,115,104,111,119,115]⟩⟩
abbrev c226:Str:=⟨⟨[116,105,109,101,115]⟩⟩
abbrev c227:Str:=⟨⟨[67,111,109,109,111,110,46,95,95,105,110,105,116,95,95]⟩⟩
abbrev c228:Str:=⟨⟨[67,111,109,109,111,110,46,115,104,111,119,115]⟩⟩
abbrev c229:Str:=⟨⟨[84,105,109,101,115,46,95,95,105,110,105,116,95,95]⟩⟩
abbrev c230:Str:=⟨⟨[84,105,109,101,115,46,115,104,111,119,115]⟩⟩
abbrev c231:Str:=⟨⟨[98,97,114,115]⟩⟩
abbrev c232:Str:=⟨⟨[66,97,114,46,95,95,105,110,105,116,95,95]⟩⟩
abbrev c233:Str:=⟨⟨[66,97,114,46,115,104,111,119,115]⟩⟩
abbrev c234:Str:=⟨⟨[66,97,114,46,98,97,114,115]⟩⟩
abbrev c235:Str:=⟨⟨[66,97,99,107,46,95,95,105,110,105,116,95,95]⟩⟩
abbrev c236:Str:=⟨⟨[66,97,99,107,46,115,104,111,119,115]⟩⟩
abbrev c237:Str:=⟨⟨[108,97,119,95,119,104,101,101,108,114,111,119,95,107,48,54,95,97,110,115,119,101,114,115,95,98,121,95,104,97,110,100]⟩⟩
abbrev c238:Str:=⟨⟨[82,101,115,116,69,114,114,111,114]⟩⟩
abbrev c239:Str:=⟨⟨[66,97,100,82,101,115,116,115]⟩⟩
abbrev c240:Str:=⟨⟨[66,97,100,78,117,109,98,101,114,115]⟩⟩
abbrev c241:Str:=⟨⟨[66,97,100,82,111,117,110,100]⟩⟩
abbrev c242:Str:=⟨⟨[66,97,100,82,101,115,116]⟩⟩
abbrev c243:Str:=⟨⟨[99,111,109,109,111,110]⟩⟩
abbrev c244:Str:=⟨⟨[99,111,109,109,111,110,95,111,102]⟩⟩
abbrev c245:Str:=⟨⟨[116,105,109,101,115,95,111,102]⟩⟩
abbrev c246:Str:=⟨⟨[99,111,109,101]⟩⟩
abbrev c247:Str:=⟨⟨[98,97,99,107]⟩⟩
abbrev c248:Str:=⟨⟨[116,111,108,100]⟩⟩
abbrev c249:Str:=⟨⟨[106,111,105,110,101,100]⟩⟩
abbrev c250:Str:=⟨⟨[99,108,97,115,104,95,119,105,116,104,95,101,97,114,108,105,101,114]⟩⟩
abbrev c251:Str:=⟨⟨[95,108,97,119,95,99,101,108,108,95,97,116]⟩⟩
abbrev c252:Str:=⟨⟨[95,108,97,119,95,100,114,97,119]⟩⟩
abbrev c253:Str:=⟨⟨[95,108,97,119,95,116,117,114,110,115]⟩⟩
abbrev c254:Str:=⟨⟨[95,108,97,119,95,114,101,115,116,115]⟩⟩
abbrev c255:Str:=⟨⟨[95,108,97,119,95,112,97,114,116]⟩⟩
abbrev c256:Str:=⟨⟨[95,108,97,119,95,119,104,111,108,101]⟩⟩
abbrev c257:Str:=⟨⟨[95,108,97,119,95,110,117,109,98,101,114,115]⟩⟩
abbrev c258:Str:=⟨⟨[95,108,97,119,95,115,97,121,115]⟩⟩
abbrev c259:Str:=⟨⟨[95,108,97,119,95,114,111,119]⟩⟩
abbrev c260:Str:=⟨⟨[95,108,97,119,95,114,101,115,116,115,95,114,105,103,104,116]⟩⟩
abbrev c261:Str:=⟨⟨[95,108,97,119,95,98,101,110,116]⟩⟩
abbrev c262:Str:=⟨⟨[95,108,97,119,95,112,97,114,116,115,95,114,105,103,104,116]⟩⟩
abbrev c263:Str:=⟨⟨[95,108,97,119,95,99,111,109,101,115,95,114,105,103,104,116]⟩⟩
abbrev c264:Str:=⟨⟨[95,108,97,119,95,98,97,99,107,115,95,114,105,103,104,116]⟩⟩
abbrev c265:Str:=⟨⟨[108,97,119]⟩⟩
abbrev c266:Str:=⟨⟨[119,104,101,101,108,114,111,119,46,112,97,114,116,115]⟩⟩
abbrev c267:Str:=⟨⟨[115,116,101,112,115]⟩⟩
abbrev c268:Str:=⟨⟨[115,116,101,112]⟩⟩
abbrev c269:Str:=⟨⟨[100,117,101]⟩⟩
abbrev c270:Str:=⟨⟨[115,111,95,102,97,114]⟩⟩
abbrev c271:Str:=⟨⟨[112,108,97,99,101]⟩⟩
abbrev c272:Str:=⟨⟨[112,97,105,114]⟩⟩
abbrev c273:Str:=⟨⟨[119,104,101,101,108,114,111,119,46,114,101,115,116,115]⟩⟩
abbrev c274:Str:=⟨⟨[109,97,100,101]⟩⟩
abbrev c275:Str:=⟨⟨[109,105,115,115,105,110,103]⟩⟩
abbrev c276:Str:=⟨⟨[102,114,101,115,104]⟩⟩
abbrev c277:Str:=⟨⟨[95,108,97,119,95,115,99,114,105,112,116]⟩⟩
abbrev c278:Str:=⟨⟨[95,108,97,119,95,107]⟩⟩
abbrev c279:Str:=⟨⟨[95,108,97,119,95,99,101,108,108]⟩⟩
abbrev c280:Str:=⟨⟨[95,108,97,119,95,109,97,110,121]⟩⟩
abbrev c281:Str:=⟨⟨[95,108,97,119,95,112,114,105,109,101,115]⟩⟩
abbrev c282:Str:=⟨⟨[95,108,97,119,95,107,105,110,100]⟩⟩
abbrev c283:Str:=⟨⟨[95,108,97,119,95,102,111,117,110,100]⟩⟩
abbrev c284:Str:=⟨⟨[95,108,97,119,95,116,117,114,110]⟩⟩
abbrev c285:Str:=⟨⟨[95,108,97,119,95,111,110,101]⟩⟩
abbrev c286:Str:=⟨⟨[95,108,97,119,95,111,116,104,101,114]⟩⟩
abbrev c287:Str:=⟨⟨[95,108,97,119,95,110,117,109,98,101,114]⟩⟩
abbrev c288:Str:=⟨⟨[95,108,97,119,95,115,97,105,100]⟩⟩
abbrev c289:Str:=⟨⟨[95,108,97,119,95,100,117,101]⟩⟩
abbrev c290:Str:=⟨⟨[95,108,97,119,95,114,101,115,116]⟩⟩
abbrev c291:Str:=⟨⟨[95,108,97,119,95,115,111,109,101]⟩⟩
abbrev c292:Str:=⟨⟨[95,108,97,119,95,97,110,115,119,101,114]⟩⟩
abbrev c293:Str:=⟨⟨[95,108,97,119,95,112,97,114,116,95,104,101,114,101]⟩⟩
abbrev c294:Str:=⟨⟨[95,108,97,119,95,114,101,115,116,115,95,104,101,114,101]⟩⟩
abbrev c295:Str:=⟨⟨[95,108,97,119,95,110,117,109,98,101,114,115,95,104,101,114,101]⟩⟩
abbrev l0:String:=PySem.W.SL.s14018661285674007319x4
abbrev l1:String:=PySem.W.S.litE [PySem.W.S.mk8 98 rfl,PySem.W.S.mk8 117 rfl,PySem.W.S.mk8 105 rfl,PySem.W.S.mk8 108 rfl,PySem.W.S.mk8 116 rfl,PySem.W.S.mk8 105 rfl,PySem.W.S.mk8 110 rfl,PySem.W.S.mk8 115 rfl,PySem.W.S.mk8 46 rfl,PySem.W.S.mk8 95 rfl,PySem.W.S.mk8 95 rfl,PySem.W.S.mk8 100 rfl,PySem.W.S.mk8 111 rfl,PySem.W.S.mk8 99 rfl,PySem.W.S.mk8 95 rfl,PySem.W.S.mk8 95 rfl,PySem.W.S.mk8 58 rfl,PySem.W.S.mk8 115 rfl,PySem.W.S.mk8 116 rfl,PySem.W.S.mk8 114 rfl,PySem.W.S.mk8 35 rfl,PySem.W.S.mk8 111 rfl,PySem.W.S.mk8 112 rfl,PySem.W.S.mk8 97 rfl,PySem.W.S.mk8 113 rfl,PySem.W.S.mk8 117 rfl,PySem.W.S.mk8 101 rfl] [98,117,105,108,116,105,110,115,46,95,95,100,111,99,95,95,58,115,116,114,35,111,112,97,113,117,101] rfl rfl
abbrev l2:String:=PySem.W.S.litE [PySem.W.S.mk8 98 rfl,PySem.W.S.mk8 117 rfl,PySem.W.S.mk8 105 rfl,PySem.W.S.mk8 108 rfl,PySem.W.S.mk8 116 rfl,PySem.W.S.mk8 105 rfl,PySem.W.S.mk8 110 rfl,PySem.W.S.mk8 115 rfl,PySem.W.S.mk8 46 rfl,PySem.W.S.mk8 95 rfl,PySem.W.S.mk8 95 rfl,PySem.W.S.mk8 112 rfl,PySem.W.S.mk8 97 rfl,PySem.W.S.mk8 99 rfl,PySem.W.S.mk8 107 rfl,PySem.W.S.mk8 97 rfl,PySem.W.S.mk8 103 rfl,PySem.W.S.mk8 101 rfl,PySem.W.S.mk8 95 rfl,PySem.W.S.mk8 95 rfl,PySem.W.S.mk8 58 rfl,PySem.W.S.mk8 115 rfl,PySem.W.S.mk8 116 rfl,PySem.W.S.mk8 114 rfl,PySem.W.S.mk8 35 rfl,PySem.W.S.mk8 111 rfl,PySem.W.S.mk8 112 rfl,PySem.W.S.mk8 97 rfl,PySem.W.S.mk8 113 rfl,PySem.W.S.mk8 117 rfl,PySem.W.S.mk8 101 rfl] [98,117,105,108,116,105,110,115,46,95,95,112,97,99,107,97,103,101,95,95,58,115,116,114,35,111,112,97,113,117,101] rfl rfl
abbrev l3:String:=PySem.W.S.litE [PySem.W.S.mk8 98 rfl,PySem.W.S.mk8 117 rfl,PySem.W.S.mk8 105 rfl,PySem.W.S.mk8 108 rfl,PySem.W.S.mk8 116 rfl,PySem.W.S.mk8 105 rfl,PySem.W.S.mk8 110 rfl,PySem.W.S.mk8 115 rfl,PySem.W.S.mk8 46 rfl,PySem.W.S.mk8 95 rfl,PySem.W.S.mk8 95 rfl,PySem.W.S.mk8 108 rfl,PySem.W.S.mk8 111 rfl,PySem.W.S.mk8 97 rfl,PySem.W.S.mk8 100 rfl,PySem.W.S.mk8 101 rfl,PySem.W.S.mk8 114 rfl,PySem.W.S.mk8 95 rfl,PySem.W.S.mk8 95 rfl,PySem.W.S.mk8 58 rfl,PySem.W.S.mk8 115 rfl,PySem.W.S.mk8 104 rfl,PySem.W.S.mk8 97 rfl,PySem.W.S.mk8 114 rfl,PySem.W.S.mk8 101 rfl,PySem.W.S.mk8 100 rfl,PySem.W.S.mk8 35 rfl,PySem.W.S.mk8 111 rfl,PySem.W.S.mk8 112 rfl,PySem.W.S.mk8 97 rfl,PySem.W.S.mk8 113 rfl,PySem.W.S.mk8 117 rfl,PySem.W.S.mk8 101 rfl] [98,117,105,108,116,105,110,115,46,95,95,108,111,97,100,101,114,95,95,58,115,104,97,114,101,100,35,111,112,97,113,117,101] rfl rfl
abbrev l4:String:=PySem.W.SL.s11665532747177232413x24
abbrev l63:String:=PySem.W.SL.s2742458400755230247x6
abbrev l70:String:=PySem.W.SL.s4290257624100764138x5
abbrev l71:String:=PySem.W.SL.s2766695959194262286x5
abbrev l72:String:=PySem.W.SL.s17162191345867700912x4
abbrev l74:String:=PySem.W.SL.s4278001404047624695x13
abbrev l76:String:=PySem.W.SL.s5946037652744460706x9
abbrev l97:String:=PySem.W.SL.s6070975301684473832x10
abbrev l150:String:=PySem.W.SL.s7097527257260152453x26
abbrev l152:String:=PySem.W.SL.s5856160107412720595x4
abbrev l153:String:=PySem.W.SL.s658472552662922059x5
abbrev l154:String:=PySem.W.SL.s7174869446012820540x8
abbrev l155:String:=PySem.W.SL.s11030030927630378310x26
abbrev l156:String:=PySem.W.SL.s10062305145149207511x16
abbrev l157:String:=PySem.W.SL.s11443829558043349243x14
abbrev l158:String:=PySem.W.SL.s14755015743595814543x17
abbrev l159:String:=PySem.W.SL.s6511155373996960695x17
abbrev l160:String:=PySem.W.SL.s12411053484034534018x21
abbrev l161:String:=PySem.W.SL.s10220274742760427390x26
abbrev l162:String:=PySem.W.SL.s4860613602091757760x24
abbrev l163:String:=PySem.W.SL.s4209523147560561109x18
abbrev o0 (P:Params):Obj:=⟨(.type l71),none,(.seq ⟨[]⟩ 0),⟨[]⟩⟩
abbrev o1 (P:Params):Obj:=⟨.none,none,(.fields ⟨[]⟩),⟨[]⟩⟩
abbrev o2 (P:Params):Obj:=⟨(.type l152),none,(.fields ⟨[(vs c166 182),(vs c166 183),(vs c164 184),(vi 1 0),(vi 0 0),(vi 0 0),(vi 0 0),(vi 0 0),(vr 11),(.bool false),(vi 181 0),(vr 12),.none,.none,.none,.none,(vi 185 0),(vi 1 0),(vs c164 186)]⟩),⟨[]⟩⟩
abbrev o3 (P:Params):Obj:=⟨(.type l153),none,.plain,⟨[some (vr 13),some (vr 3),some (vr 3),none,some (vs c160 164),none,some (vr 0)]⟩⟩
abbrev o4 (P:Params):Obj:=⟨(.type l0),none,(.dict ⟨[de P c0 165 (vs c167 549),de P c2 166 .none,de P c3 167 .none,de P c4 168 (.builtin l150),de P c5 169 .none,de P c161 170 (vr 6),de P c162 171 (vr 4),de P c163 173 (vs c164 172),de P c165 174 .none,de P c168 190 (vi 1000000 189),de P c169 192 (vi 1000000 191),de P c170 199 (vr 21),de P c171 206 (vr 28),de P c172 212 (vr 33),de P c173 219 (vr 40),de P c174 227 (vr 47),de P c175 234 (vr 54),de P c176 240 (vr 59),de P c177 248 (vr 66),de P c178 257 (vr 73),de P c179 268 (vr 80),de P c180 284 (vr 87),de P c181 292 (vr 94),de P c182 301 (vr 101),de P c183 310 (vr 108),de P c184 318 (vr 113),de P c185 338 (vr 123),de P c186 371 (vr 149),de P c187 408 (vr 175),de P c188 443 (vr 201),de P c189 474 (vr 225),de P c190 514 (vr 256),de P c191 548 (vr 282)]⟩ 33),⟨[]⟩⟩
abbrev o5 (P:Params):Obj:=⟨.none,none,(.fields ⟨(((vi 4 0)) :: ((vi 0 0)) :: ((vr 20)) :: ((vi 6 0)) :: ((vi 0 0)) :: ((vr 27)) :: ((vi 8 0)) :: ((vi 0 0)) :: ((vr 32)) :: ((vi 10 0)) :: ((vi 0 0)) :: ((vr 39)) :: ((vi 12 0)) :: ((vi 0 0)) :: ((vr 46)) :: ((vi 14 0)) :: ((vi 0 0)) :: ((vr 53)) :: ((vi 16 0)) :: ((vi 0 0)) :: ((vr 58)) :: ((vi 18 0)) :: ((vi 0 0)) :: ((vr 65)) :: ((vi 20 0)) :: ((vi 0 0)) :: ((vr 72)) :: ((vi 22 0)) :: ((vi 0 0)) :: ((vr 79)) :: ((vi 30 0)) :: ((vi 0 0)) :: ((vr 86)) :: ((vi 47 0)) :: ((vi 0 0)) :: ((vr 93)) :: ((vi 49 0)) :: ((vi 0 0)) :: ((vr 100)) :: ((vi 54 0)) :: ((vi 0 0)) :: ((vr 107)) :: ((vi 60 0)) :: ((vi 0 0)) :: ((vr 112)) :: ((vi 62 0)) :: ((vi 0 0)) :: ((vr 119)) :: ((vi 64 0)) :: ((vi 0 0)) :: ((vr 133)) :: ((vi 76 0)) :: ((vi 0 0)) :: ((vr 157)) :: ((vi 88 0)) :: ((vi 0 0)) :: ((vr 183)) :: ((vi 98 0)) :: ((vi 0 0)) :: ((vr 209)) :: ((vi 109 0)) :: ((vi 0 0)) :: ((vr 233)) :: ((vi 121 0)) :: ((vi 0 0)) :: ((vr 264)) :: [])⟩),⟨[]⟩⟩
abbrev o6 (P:Params):Obj:=⟨(.type l71),none,(.seq ⟨[(vs c192 196)]⟩ 0),⟨[]⟩⟩
abbrev o7 (P:Params):Obj:=⟨.none,none,(.func ⟨c170,c170,(fA (tp 3)),.stmts (fB (tp 3)),(fS (tp 3)),0,[],.none,.none,.none,.none,none,.none,.none,0⟩),⟨[]⟩⟩
abbrev o8 (P:Params):Obj:=⟨(.type l152),none,(.fields ⟨[(vs c170 193),(vs c170 194),(vs c164 195),(vi 4 0),(vi 1 0),(vi 0 0),(vi 0 0),(vi 3 0),(vr 15),(.bool true),(vi 181 0),(vr 16),.none,(vr 17),(vr 18),(vr 19),(vi 197 0),(vi 4 0),(vs c164 198)]⟩),⟨[]⟩⟩
abbrev o9 (P:Params):Obj:=⟨(.type l154),none,(.func ⟨c170,c170,(fA (tp 3)),.stmts (fB (tp 3)),(fS (tp 3)),3,[],.none,.none,.none,(vs c193 187),none,(vr 20),.none,0⟩),⟨[]⟩⟩
abbrev o10 (P:Params):Obj:=⟨(.type l71),none,(.seq ⟨[(vs c192 203)]⟩ 0),⟨[]⟩⟩
abbrev o11 (P:Params):Obj:=⟨.none,none,(.func ⟨c171,c171,(fA (tp 4)),.stmts (fB (tp 4)),(fS (tp 4)),0,[],.none,.none,.none,.none,none,.none,.none,0⟩),⟨[]⟩⟩
abbrev o12 (P:Params):Obj:=⟨(.type l152),none,(.fields ⟨[(vs c171 200),(vs c171 201),(vs c164 202),(vi 6 0),(vi 1 0),(vi 0 0),(vi 0 0),(vi 3 0),(vr 22),(.bool true),(vi 181 0),(vr 23),.none,(vr 24),(vr 25),(vr 26),(vi 204 0),(vi 6 0),(vs c164 205)]⟩),⟨[]⟩⟩
abbrev o13 (P:Params):Obj:=⟨(.type l154),none,(.func ⟨c171,c171,(fA (tp 4)),.stmts (fB (tp 4)),(fS (tp 4)),3,[],.none,.none,.none,(vs c193 187),none,(vr 27),.none,0⟩),⟨[]⟩⟩
abbrev o14 (P:Params):Obj:=⟨.none,none,(.func ⟨c172,c172,(fA (tp 5)),.stmts (fB (tp 5)),(fS (tp 5)),0,[],.none,.none,.none,.none,none,.none,.none,0⟩),⟨[]⟩⟩
abbrev o15 (P:Params):Obj:=⟨(.type l152),none,(.fields ⟨[(vs c172 207),(vs c172 208),(vs c164 209),(vi 8 0),(vi 1 0),(vi 0 0),(vi 0 0),(vi 3 0),(vr 29),(.bool true),(vi 181 0),(vr 30),.none,.none,.none,(vr 31),(vi 210 0),(vi 8 0),(vs c164 211)]⟩),⟨[]⟩⟩
abbrev o16 (P:Params):Obj:=⟨(.type l154),none,(.func ⟨c172,c172,(fA (tp 5)),.stmts (fB (tp 5)),(fS (tp 5)),3,[],.none,.none,.none,(vs c193 187),none,(vr 32),.none,0⟩),⟨[]⟩⟩
abbrev o17 (P:Params):Obj:=⟨(.type l71),none,(.seq ⟨[(vs c192 216)]⟩ 0),⟨[]⟩⟩
abbrev o18 (P:Params):Obj:=⟨.none,none,(.func ⟨c173,c173,(fA (tp 6)),.stmts (fB (tp 6)),(fS (tp 6)),0,[],.none,.none,.none,.none,none,.none,.none,0⟩),⟨[]⟩⟩
abbrev o19 (P:Params):Obj:=⟨(.type l152),none,(.fields ⟨[(vs c173 213),(vs c173 214),(vs c164 215),(vi 10 0),(vi 1 0),(vi 0 0),(vi 0 0),(vi 3 0),(vr 34),(.bool true),(vi 181 0),(vr 35),.none,(vr 36),(vr 37),(vr 38),(vi 217 0),(vi 10 0),(vs c164 218)]⟩),⟨[]⟩⟩
abbrev o20 (P:Params):Obj:=⟨(.type l154),none,(.func ⟨c173,c173,(fA (tp 6)),.stmts (fB (tp 6)),(fS (tp 6)),3,[],.none,.none,.none,(vs c193 187),none,(vr 39),.none,0⟩),⟨[]⟩⟩
abbrev o21 (P:Params):Obj:=⟨(.type l71),none,(.seq ⟨[(vs c192 223),(vs c194 224)]⟩ 0),⟨[]⟩⟩
abbrev o22 (P:Params):Obj:=⟨.none,none,(.func ⟨c174,c174,(fA (tp 7)),.stmts (fB (tp 7)),(fS (tp 7)),0,[],.none,.none,.none,.none,none,.none,.none,0⟩),⟨[]⟩⟩
abbrev o23 (P:Params):Obj:=⟨(.type l152),none,(.fields ⟨[(vs c174 220),(vs c174 221),(vs c164 222),(vi 12 0),(vi 2 0),(vi 0 0),(vi 0 0),(vi 3 0),(vr 41),(.bool true),(vi 181 0),(vr 42),.none,(vr 43),(vr 44),(vr 45),(vi 225 0),(vi 12 0),(vs c164 226)]⟩),⟨[]⟩⟩
abbrev o24 (P:Params):Obj:=⟨(.type l154),none,(.func ⟨c174,c174,(fA (tp 7)),.stmts (fB (tp 7)),(fS (tp 7)),3,[],.none,.none,.none,(vs c193 187),none,(vr 46),.none,0⟩),⟨[]⟩⟩
abbrev o25 (P:Params):Obj:=⟨(.type l71),none,(.seq ⟨[(vs c192 231)]⟩ 0),⟨[]⟩⟩
abbrev o26 (P:Params):Obj:=⟨.none,none,(.func ⟨c175,c175,(fA (tp 8)),.stmts (fB (tp 8)),(fS (tp 8)),0,[],.none,.none,.none,.none,none,.none,.none,0⟩),⟨[]⟩⟩
abbrev o27 (P:Params):Obj:=⟨(.type l152),none,(.fields ⟨[(vs c175 228),(vs c175 229),(vs c164 230),(vi 14 0),(vi 1 0),(vi 0 0),(vi 0 0),(vi 3 0),(vr 48),(.bool true),(vi 181 0),(vr 49),.none,(vr 50),(vr 51),(vr 52),(vi 232 0),(vi 14 0),(vs c164 233)]⟩),⟨[]⟩⟩
abbrev o28 (P:Params):Obj:=⟨(.type l154),none,(.func ⟨c175,c175,(fA (tp 8)),.stmts (fB (tp 8)),(fS (tp 8)),3,[],.none,.none,.none,(vs c193 187),none,(vr 53),.none,0⟩),⟨[]⟩⟩
abbrev o29 (P:Params):Obj:=⟨.none,none,(.func ⟨c176,c176,(fA (tp 9)),.stmts (fB (tp 9)),(fS (tp 9)),0,[],.none,.none,.none,.none,none,.none,.none,0⟩),⟨[]⟩⟩
abbrev o30 (P:Params):Obj:=⟨(.type l152),none,(.fields ⟨[(vs c176 235),(vs c176 236),(vs c164 237),(vi 16 0),(vi 1 0),(vi 0 0),(vi 0 0),(vi 3 0),(vr 55),(.bool true),(vi 181 0),(vr 56),.none,.none,.none,(vr 57),(vi 238 0),(vi 16 0),(vs c164 239)]⟩),⟨[]⟩⟩
abbrev o31 (P:Params):Obj:=⟨(.type l154),none,(.func ⟨c176,c176,(fA (tp 9)),.stmts (fB (tp 9)),(fS (tp 9)),3,[],.none,.none,.none,(vs c193 187),none,(vr 58),.none,0⟩),⟨[]⟩⟩
abbrev o32 (P:Params):Obj:=⟨(.type l71),none,(.seq ⟨[(vs c195 244),(vs c196 245)]⟩ 0),⟨[]⟩⟩
abbrev o33 (P:Params):Obj:=⟨.none,none,(.func ⟨c177,c177,(fA (tp 10)),.stmts (fB (tp 10)),(fS (tp 10)),0,[],.none,.none,.none,.none,none,.none,.none,0⟩),⟨[]⟩⟩
abbrev o34 (P:Params):Obj:=⟨(.type l152),none,(.fields ⟨[(vs c177 241),(vs c177 242),(vs c164 243),(vi 18 0),(vi 2 0),(vi 0 0),(vi 0 0),(vi 3 0),(vr 60),(.bool true),(vi 181 0),(vr 61),.none,(vr 62),(vr 63),(vr 64),(vi 246 0),(vi 18 0),(vs c164 247)]⟩),⟨[]⟩⟩
abbrev o35 (P:Params):Obj:=⟨(.type l154),none,(.func ⟨c177,c177,(fA (tp 10)),.stmts (fB (tp 10)),(fS (tp 10)),3,[],.none,.none,.none,(vs c193 187),none,(vr 65),.none,0⟩),⟨[]⟩⟩
abbrev o36 (P:Params):Obj:=⟨(.type l71),none,(.seq ⟨[(vs c196 252),(vs c197 253),(vs c194 254)]⟩ 0),⟨[]⟩⟩
abbrev o37 (P:Params):Obj:=⟨.none,none,(.func ⟨c178,c178,(fA (tp 11)),.stmts (fB (tp 11)),(fS (tp 11)),0,[],.none,.none,.none,.none,none,.none,.none,0⟩),⟨[]⟩⟩
abbrev o38 (P:Params):Obj:=⟨(.type l152),none,(.fields ⟨[(vs c178 249),(vs c178 250),(vs c164 251),(vi 20 0),(vi 3 0),(vi 0 0),(vi 0 0),(vi 3 0),(vr 67),(.bool true),(vi 181 0),(vr 68),.none,(vr 69),(vr 70),(vr 71),(vi 255 0),(vi 20 0),(vs c164 256)]⟩),⟨[]⟩⟩
abbrev o39 (P:Params):Obj:=⟨(.type l154),none,(.func ⟨c178,c178,(fA (tp 11)),.stmts (fB (tp 11)),(fS (tp 11)),3,[],.none,.none,.none,(vs c193 187),none,(vr 72),.none,0⟩),⟨[]⟩⟩
abbrev o40 (P:Params):Obj:=⟨(.type l71),none,(.seq ⟨[(vs c198 261),(vs c199 262),(vs c195 263),(vs c200 264),(vs c201 265)]⟩ 0),⟨[]⟩⟩
abbrev o41 (P:Params):Obj:=⟨.none,none,(.func ⟨c179,c179,(fA (tp 12)),.stmts (fB (tp 12)),(fS (tp 12)),0,[],.none,.none,.none,.none,none,.none,.none,0⟩),⟨[]⟩⟩
abbrev o42 (P:Params):Obj:=⟨(.type l152),none,(.fields ⟨[(vs c179 258),(vs c179 259),(vs c164 260),(vi 22 0),(vi 2 0),(vi 0 0),(vi 0 0),(vi 3 0),(vr 74),(.bool true),(vi 181 0),(vr 75),.none,(vr 76),(vr 77),(vr 78),(vi 266 0),(vi 22 0),(vs c164 267)]⟩),⟨[]⟩⟩
abbrev o43 (P:Params):Obj:=⟨(.type l154),none,(.func ⟨c179,c179,(fA (tp 12)),.stmts (fB (tp 12)),(fS (tp 12)),3,[],.none,.none,.none,(vs c193 187),none,(vr 79),.none,0⟩),⟨[]⟩⟩
abbrev o44 (P:Params):Obj:=⟨(.type l71),none,(.seq ⟨[(vs c198 272),(vs c199 273),(vs c195 274),(vs c202 275),(vs c200 276),(vs c203 277),(vs c204 278),(vs c201 279),(vs c205 280),(vs c206 281)]⟩ 0),⟨[]⟩⟩
abbrev o45 (P:Params):Obj:=⟨.none,none,(.func ⟨c180,c180,(fA (tp 13)),.stmts (fB (tp 13)),(fS (tp 13)),0,[],.none,.none,.none,.none,none,.none,.none,0⟩),⟨[]⟩⟩
abbrev o46 (P:Params):Obj:=⟨(.type l152),none,(.fields ⟨[(vs c180 269),(vs c180 270),(vs c164 271),(vi 30 0),(vi 2 0),(vi 0 0),(vi 0 0),(vi 3 0),(vr 81),(.bool true),(vi 181 0),(vr 82),.none,(vr 83),(vr 84),(vr 85),(vi 282 0),(vi 30 0),(vs c164 283)]⟩),⟨[]⟩⟩
abbrev o47 (P:Params):Obj:=⟨(.type l154),none,(.func ⟨c180,c180,(fA (tp 13)),.stmts (fB (tp 13)),(fS (tp 13)),3,[],.none,.none,.none,(vs c193 187),none,(vr 86),.none,0⟩),⟨[]⟩⟩
abbrev o48 (P:Params):Obj:=⟨(.type l71),none,(.seq ⟨[(vs c196 288),(vs c194 289)]⟩ 0),⟨[]⟩⟩
abbrev o49 (P:Params):Obj:=⟨.none,none,(.func ⟨c181,c181,(fA (tp 14)),.stmts (fB (tp 14)),(fS (tp 14)),0,[],.none,.none,.none,.none,none,.none,.none,0⟩),⟨[]⟩⟩
abbrev o50 (P:Params):Obj:=⟨(.type l152),none,(.fields ⟨[(vs c181 285),(vs c181 286),(vs c164 287),(vi 47 0),(vi 2 0),(vi 0 0),(vi 0 0),(vi 3 0),(vr 88),(.bool true),(vi 181 0),(vr 89),.none,(vr 90),(vr 91),(vr 92),(vi 290 0),(vi 47 0),(vs c164 291)]⟩),⟨[]⟩⟩
abbrev o51 (P:Params):Obj:=⟨(.type l154),none,(.func ⟨c181,c181,(fA (tp 14)),.stmts (fB (tp 14)),(fS (tp 14)),3,[],.none,.none,.none,(vs c193 187),none,(vr 93),.none,0⟩),⟨[]⟩⟩
abbrev o52 (P:Params):Obj:=⟨(.type l71),none,(.seq ⟨[(vs c207 296),(vs c195 297),(vs c196 298)]⟩ 0),⟨[]⟩⟩
abbrev o53 (P:Params):Obj:=⟨.none,none,(.func ⟨c182,c182,(fA (tp 15)),.stmts (fB (tp 15)),(fS (tp 15)),0,[],.none,.none,.none,.none,none,.none,.none,0⟩),⟨[]⟩⟩
abbrev o54 (P:Params):Obj:=⟨(.type l152),none,(.fields ⟨[(vs c182 293),(vs c182 294),(vs c164 295),(vi 49 0),(vi 1 0),(vi 0 0),(vi 0 0),(vi 3 0),(vr 95),(.bool true),(vi 181 0),(vr 96),.none,(vr 97),(vr 98),(vr 99),(vi 299 0),(vi 49 0),(vs c164 300)]⟩),⟨[]⟩⟩
abbrev o55 (P:Params):Obj:=⟨(.type l154),none,(.func ⟨c182,c182,(fA (tp 15)),.stmts (fB (tp 15)),(fS (tp 15)),3,[],.none,.none,.none,(vs c193 187),none,(vr 100),.none,0⟩),⟨[]⟩⟩
abbrev o56 (P:Params):Obj:=⟨(.type l71),none,(.seq ⟨[(vs c208 305),(vs c204 306),(vs c194 307)]⟩ 0),⟨[]⟩⟩
abbrev o57 (P:Params):Obj:=⟨.none,none,(.func ⟨c183,c183,(fA (tp 16)),.stmts (fB (tp 16)),(fS (tp 16)),0,[],.none,.none,.none,.none,none,.none,.none,0⟩),⟨[]⟩⟩
abbrev o58 (P:Params):Obj:=⟨(.type l152),none,(.fields ⟨[(vs c183 302),(vs c183 303),(vs c164 304),(vi 54 0),(vi 1 0),(vi 0 0),(vi 0 0),(vi 3 0),(vr 102),(.bool true),(vi 181 0),(vr 103),.none,(vr 104),(vr 105),(vr 106),(vi 308 0),(vi 54 0),(vs c164 309)]⟩),⟨[]⟩⟩
abbrev o59 (P:Params):Obj:=⟨(.type l154),none,(.func ⟨c183,c183,(fA (tp 16)),.stmts (fB (tp 16)),(fS (tp 16)),3,[],.none,.none,.none,(vs c193 187),none,(vr 107),.none,0⟩),⟨[]⟩⟩
abbrev o60 (P:Params):Obj:=⟨.none,none,(.func ⟨c184,c184,(fA (tp 18)),.stmts (fB (tp 18)),(fS (tp 18)),0,[],.none,.none,.none,.none,none,.none,.none,0⟩),⟨[]⟩⟩
abbrev o61 (P:Params):Obj:=⟨(.type l152),none,(.fields ⟨[(vs c184 313),(vs c184 314),(vs c164 315),(vi 60 0),(vi 2 0),(vi 0 0),(vi 0 0),(vi 3 0),(vr 109),(.bool true),(vi 181 0),(vr 110),.none,.none,.none,(vr 111),(vi 316 0),(vi 60 0),(vs c164 317)]⟩),⟨[]⟩⟩
abbrev o62 (P:Params):Obj:=⟨(.type l154),none,(.func ⟨c184,c184,(fA (tp 18)),.stmts (fB (tp 18)),(fS (tp 18)),3,[],.none,.none,.none,(vs c209 311),none,(vr 112),.none,0⟩),⟨[]⟩⟩
abbrev o63 (P:Params):Obj:=⟨(.type l155),none,(.fields ⟨[(.builtin l156),(.type l72)]⟩),⟨[]⟩⟩
abbrev o64 (P:Params):Obj:=⟨(.type l0),none,(.dict ⟨[de P c210 326 (vs c209 311),de P c211 328 (vs c185 327),de P c212 330 (vi 62 329),de P c213 331 (vr 121)]⟩ 4),⟨[]⟩⟩
abbrev o65 (P:Params):Obj:=⟨(.type l152),none,(.fields ⟨[(vs c185 321),(vs c185 322),(vs c164 323),(vi 62 0),(vi 0 0),(vi 0 0),(vi 0 0),(vi 0 0),(vr 117),(.bool false),(vi 181 0),(vr 118),.none,.none,.none,.none,(vi 324 0),(vi 62 0),(vs c164 325)]⟩),⟨[]⟩⟩
abbrev o66 (P:Params):Obj:=⟨(.type l153),none,.plain,⟨[some (vr 119),some (vr 3),some (vr 116),none,some (vs c209 311),none,some (vr 0)]⟩⟩
abbrev o67 (P:Params):Obj:=⟨(.type l0),none,(.dict ⟨[de P c210 326 (vs c209 311),de P c212 330 (vi 62 329),de P c213 331 (vr 121),de P c214 333 (vr 124),de P c215 335 (vr 125),de P c2 336 .none]⟩ 4),⟨[]⟩⟩
abbrev o68 (P:Params):Obj:=⟨(.type l72),none,(.cls ⟨c185,[(.type l63)],[(vr 123),(.type l63)],122,c185,true,[],[(vr 149),(vr 175),(vr 201),(vr 225),(vr 256),(vr 282)],false,none,false⟩),⟨[none,none,some (vs c185 319),some (vs c185 327),some (.builtin l157),some (.bool true)]⟩⟩
abbrev o69 (P:Params):Obj:=⟨(.type l158),none,(.fields ⟨[(vs c214 332),(vr 123),(.builtin l159),(.builtin l160)]⟩),⟨[]⟩⟩
abbrev o70 (P:Params):Obj:=⟨(.type l158),none,(.fields ⟨[(vs c215 334),(vr 123),(.builtin l161),.none]⟩),⟨[]⟩⟩
abbrev o71 (P:Params):Obj:=⟨(.type l70),none,(.fields ⟨[(vr 123),(vr 123),(vr 123)]⟩),⟨[]⟩⟩
abbrev o72 (P:Params):Obj:=⟨(.type l155),none,(.fields ⟨[(.builtin l162),(vr 123)]⟩),⟨[]⟩⟩
abbrev o73 (P:Params):Obj:=⟨(.type l71),none,(.seq ⟨[(vr 123)]⟩ 0),⟨[]⟩⟩
abbrev o74 (P:Params):Obj:=⟨(.type l0),none,(.dict ⟨[de P c210 346 (vs c209 311),de P c211 348 (vs c186 347),de P c212 350 (vi 64 349),de P c216 359 (vr 141),de P c217 365 (vr 146),de P c213 368 (vr 147)]⟩ 6),⟨[]⟩⟩
abbrev o75 (P:Params):Obj:=⟨.none,none,(.fields ⟨[(vi 66 0),(vi 4 0),(vr 140),(vi 70 0),(vi 4 0),(vr 145)]⟩),⟨[]⟩⟩
abbrev o76 (P:Params):Obj:=⟨(.type l152),none,(.fields ⟨[(vs c186 341),(vs c186 342),(vs c164 343),(vi 64 0),(vi 0 0),(vi 0 0),(vi 0 0),(vi 0 0),(vr 131),(.bool false),(vi 181 0),(vr 132),.none,.none,.none,.none,(vi 344 0),(vi 64 0),(vs c164 345)]⟩),⟨[]⟩⟩
abbrev o77 (P:Params):Obj:=⟨(.type l153),none,.plain,⟨[some (vr 133),some (vr 3),some (vr 130),none,some (vs c209 311),none,some (vr 0)]⟩⟩
abbrev o78 (P:Params):Obj:=⟨(.type l71),none,(.seq ⟨[(vs c218 354),(vs c196 355),(vs c194 356)]⟩ 0),⟨[]⟩⟩
abbrev o79 (P:Params):Obj:=⟨.none,none,(.func ⟨c216,c219,(fA (ic (tp 20) 0)),.stmts (fB (ic (tp 20) 0)),(fS (ic (tp 20) 0)),0,[],.none,.none,.none,.none,none,.none,.none,0⟩),⟨[]⟩⟩
abbrev o80 (P:Params):Obj:=⟨(.type l152),none,(.fields ⟨[(vs c216 351),(vs c219 352),(vs c164 353),(vi 66 0),(vi 3 0),(vi 0 0),(vi 0 0),(vi 3 0),(vr 135),(.bool true),(vi 181 0),(vr 136),.none,(vr 137),(vr 138),(vr 139),(vi 357 0),(vi 66 0),(vs c164 358)]⟩),⟨[]⟩⟩
abbrev o81 (P:Params):Obj:=⟨(.type l154),none,(.func ⟨c216,c219,(fA (ic (tp 20) 0)),.stmts (fB (ic (tp 20) 0)),(fS (ic (tp 20) 0)),3,[],.none,.none,.none,(vs c209 311),none,(vr 140),.none,0⟩),⟨[]⟩⟩
abbrev o82 (P:Params):Obj:=⟨.none,none,(.func ⟨c217,c220,(fA (ic (tp 20) 1)),.stmts (fB (ic (tp 20) 1)),(fS (ic (tp 20) 1)),0,[],.none,.none,.none,.none,none,.none,.none,0⟩),⟨[]⟩⟩
abbrev o83 (P:Params):Obj:=⟨(.type l152),none,(.fields ⟨[(vs c217 360),(vs c220 361),(vs c164 362),(vi 70 0),(vi 2 0),(vi 0 0),(vi 0 0),(vi 3 0),(vr 142),(.bool true),(vi 181 0),(vr 143),.none,.none,.none,(vr 144),(vi 363 0),(vi 70 0),(vs c164 364)]⟩),⟨[]⟩⟩
abbrev o84 (P:Params):Obj:=⟨(.type l154),none,(.func ⟨c217,c220,(fA (ic (tp 20) 1)),.stmts (fB (ic (tp 20) 1)),(fS (ic (tp 20) 1)),3,[],.none,.none,.none,(vs c209 311),none,(vr 145),.none,0⟩),⟨[]⟩⟩
abbrev o85 (P:Params):Obj:=⟨(.type l71),none,(.seq ⟨[(vs c196 366),(vs c194 367)]⟩ 0),⟨[]⟩⟩
abbrev o86 (P:Params):Obj:=⟨(.type l0),none,(.dict ⟨[de P c210 346 (vs c209 311),de P c212 350 (vi 64 349),de P c216 359 (vr 141),de P c217 365 (vr 146),de P c213 368 (vr 147),de P c2 369 .none]⟩ 2),⟨[]⟩⟩
abbrev o87 (P:Params):Obj:=⟨(.type l72),none,(.cls ⟨c186,[(vr 123)],[(vr 149),(vr 123),(.type l63)],148,c186,true,[],[],false,none,false⟩),⟨[some (vr 128),none,some (vs c186 339),some (vs c186 347),some (.builtin l157),some (.bool true)]⟩⟩
abbrev o88 (P:Params):Obj:=⟨(.type l70),none,(.fields ⟨[(vr 149),(vr 149),(vr 149)]⟩),⟨[]⟩⟩
abbrev o89 (P:Params):Obj:=⟨(.type l155),none,(.fields ⟨[(.builtin l162),(vr 149)]⟩),⟨[]⟩⟩
abbrev o90 (P:Params):Obj:=⟨(.type l0),none,(.dict ⟨[de P c210 379 (vs c209 311),de P c211 381 (vs c187 380),de P c212 383 (vi 76 382),de P c216 392 (vr 165),de P c217 402 (vr 172),de P c213 405 (vr 173)]⟩ 6),⟨[]⟩⟩
abbrev o91 (P:Params):Obj:=⟨.none,none,(.fields ⟨[(vi 78 0),(vi 4 0),(vr 164),(vi 82 0),(vi 4 0),(vr 171)]⟩),⟨[]⟩⟩
abbrev o92 (P:Params):Obj:=⟨(.type l152),none,(.fields ⟨[(vs c187 374),(vs c187 375),(vs c164 376),(vi 76 0),(vi 0 0),(vi 0 0),(vi 0 0),(vi 0 0),(vr 155),(.bool false),(vi 181 0),(vr 156),.none,.none,.none,.none,(vi 377 0),(vi 76 0),(vs c164 378)]⟩),⟨[]⟩⟩
abbrev o93 (P:Params):Obj:=⟨(.type l153),none,.plain,⟨[some (vr 157),some (vr 3),some (vr 154),none,some (vs c209 311),none,some (vr 0)]⟩⟩
abbrev o94 (P:Params):Obj:=⟨(.type l71),none,(.seq ⟨[(vs c218 387),(vs c198 388),(vs c199 389)]⟩ 0),⟨[]⟩⟩
abbrev o95 (P:Params):Obj:=⟨.none,none,(.func ⟨c216,c221,(fA (ic (tp 21) 0)),.stmts (fB (ic (tp 21) 0)),(fS (ic (tp 21) 0)),0,[],.none,.none,.none,.none,none,.none,.none,0⟩),⟨[]⟩⟩
abbrev o96 (P:Params):Obj:=⟨(.type l152),none,(.fields ⟨[(vs c216 384),(vs c221 385),(vs c164 386),(vi 78 0),(vi 3 0),(vi 0 0),(vi 0 0),(vi 3 0),(vr 159),(.bool true),(vi 181 0),(vr 160),.none,(vr 161),(vr 162),(vr 163),(vi 390 0),(vi 78 0),(vs c164 391)]⟩),⟨[]⟩⟩
abbrev o97 (P:Params):Obj:=⟨(.type l154),none,(.func ⟨c216,c221,(fA (ic (tp 21) 0)),.stmts (fB (ic (tp 21) 0)),(fS (ic (tp 21) 0)),3,[],.none,.none,.none,(vs c209 311),none,(vr 164),.none,0⟩),⟨[]⟩⟩
abbrev o98 (P:Params):Obj:=⟨(.type l71),none,(.seq ⟨[(vs c218 396),(vs c222 397),(vs c223 398),(vs c224 399)]⟩ 0),⟨[]⟩⟩
abbrev o99 (P:Params):Obj:=⟨.none,none,(.func ⟨c217,c225,(fA (ic (tp 21) 1)),.stmts (fB (ic (tp 21) 1)),(fS (ic (tp 21) 1)),0,[],.none,.none,.none,.none,none,.none,.none,0⟩),⟨[]⟩⟩
abbrev o100 (P:Params):Obj:=⟨(.type l152),none,(.fields ⟨[(vs c217 393),(vs c225 394),(vs c164 395),(vi 82 0),(vi 2 0),(vi 0 0),(vi 0 0),(vi 3 0),(vr 166),(.bool true),(vi 181 0),(vr 167),.none,(vr 168),(vr 169),(vr 170),(vi 400 0),(vi 82 0),(vs c164 401)]⟩),⟨[]⟩⟩
abbrev o101 (P:Params):Obj:=⟨(.type l154),none,(.func ⟨c217,c225,(fA (ic (tp 21) 1)),.stmts (fB (ic (tp 21) 1)),(fS (ic (tp 21) 1)),3,[],.none,.none,.none,(vs c209 311),none,(vr 171),.none,0⟩),⟨[]⟩⟩
abbrev o102 (P:Params):Obj:=⟨(.type l71),none,(.seq ⟨[(vs c198 403),(vs c199 404)]⟩ 0),⟨[]⟩⟩
abbrev o103 (P:Params):Obj:=⟨(.type l0),none,(.dict ⟨[de P c210 379 (vs c209 311),de P c212 383 (vi 76 382),de P c216 392 (vr 165),de P c217 402 (vr 172),de P c213 405 (vr 173),de P c2 406 .none]⟩ 2),⟨[]⟩⟩
abbrev o104 (P:Params):Obj:=⟨(.type l72),none,(.cls ⟨c187,[(vr 123)],[(vr 175),(vr 123),(.type l63)],174,c187,true,[],[],false,none,false⟩),⟨[some (vr 152),none,some (vs c187 372),some (vs c187 380),some (.builtin l157),some (.bool true)]⟩⟩
abbrev o105 (P:Params):Obj:=⟨(.type l70),none,(.fields ⟨[(vr 175),(vr 175),(vr 175)]⟩),⟨[]⟩⟩
abbrev o106 (P:Params):Obj:=⟨(.type l155),none,(.fields ⟨[(.builtin l162),(vr 175)]⟩),⟨[]⟩⟩
abbrev o107 (P:Params):Obj:=⟨(.type l0),none,(.dict ⟨[de P c210 416 (vs c209 311),de P c211 418 (vs c188 417),de P c212 420 (vi 88 419),de P c216 429 (vr 191),de P c217 437 (vr 198),de P c213 440 (vr 199)]⟩ 6),⟨[]⟩⟩
abbrev o108 (P:Params):Obj:=⟨.none,none,(.fields ⟨[(vi 90 0),(vi 4 0),(vr 190),(vi 94 0),(vi 4 0),(vr 197)]⟩),⟨[]⟩⟩
abbrev o109 (P:Params):Obj:=⟨(.type l152),none,(.fields ⟨[(vs c188 411),(vs c188 412),(vs c164 413),(vi 88 0),(vi 0 0),(vi 0 0),(vi 0 0),(vi 0 0),(vr 181),(.bool false),(vi 181 0),(vr 182),.none,.none,.none,.none,(vi 414 0),(vi 88 0),(vs c164 415)]⟩),⟨[]⟩⟩
abbrev o110 (P:Params):Obj:=⟨(.type l153),none,.plain,⟨[some (vr 183),some (vr 3),some (vr 180),none,some (vs c209 311),none,some (vr 0)]⟩⟩
abbrev o111 (P:Params):Obj:=⟨(.type l71),none,(.seq ⟨[(vs c218 424),(vs c195 425),(vs c226 426)]⟩ 0),⟨[]⟩⟩
abbrev o112 (P:Params):Obj:=⟨.none,none,(.func ⟨c216,c227,(fA (ic (tp 22) 0)),.stmts (fB (ic (tp 22) 0)),(fS (ic (tp 22) 0)),0,[],.none,.none,.none,.none,none,.none,.none,0⟩),⟨[]⟩⟩
abbrev o113 (P:Params):Obj:=⟨(.type l152),none,(.fields ⟨[(vs c216 421),(vs c227 422),(vs c164 423),(vi 90 0),(vi 3 0),(vi 0 0),(vi 0 0),(vi 3 0),(vr 185),(.bool true),(vi 181 0),(vr 186),.none,(vr 187),(vr 188),(vr 189),(vi 427 0),(vi 90 0),(vs c164 428)]⟩),⟨[]⟩⟩
abbrev o114 (P:Params):Obj:=⟨(.type l154),none,(.func ⟨c216,c227,(fA (ic (tp 22) 0)),.stmts (fB (ic (tp 22) 0)),(fS (ic (tp 22) 0)),3,[],.none,.none,.none,(vs c209 311),none,(vr 190),.none,0⟩),⟨[]⟩⟩
abbrev o115 (P:Params):Obj:=⟨(.type l71),none,(.seq ⟨[(vs c218 433),(vs c207 434)]⟩ 0),⟨[]⟩⟩
abbrev o116 (P:Params):Obj:=⟨.none,none,(.func ⟨c217,c228,(fA (ic (tp 22) 1)),.stmts (fB (ic (tp 22) 1)),(fS (ic (tp 22) 1)),0,[],.none,.none,.none,.none,none,.none,.none,0⟩),⟨[]⟩⟩
abbrev o117 (P:Params):Obj:=⟨(.type l152),none,(.fields ⟨[(vs c217 430),(vs c228 431),(vs c164 432),(vi 94 0),(vi 2 0),(vi 0 0),(vi 0 0),(vi 3 0),(vr 192),(.bool true),(vi 181 0),(vr 193),.none,(vr 194),(vr 195),(vr 196),(vi 435 0),(vi 94 0),(vs c164 436)]⟩),⟨[]⟩⟩
abbrev o118 (P:Params):Obj:=⟨(.type l154),none,(.func ⟨c217,c228,(fA (ic (tp 22) 1)),.stmts (fB (ic (tp 22) 1)),(fS (ic (tp 22) 1)),3,[],.none,.none,.none,(vs c209 311),none,(vr 197),.none,0⟩),⟨[]⟩⟩
abbrev o119 (P:Params):Obj:=⟨(.type l71),none,(.seq ⟨[(vs c195 438),(vs c226 439)]⟩ 0),⟨[]⟩⟩
abbrev o120 (P:Params):Obj:=⟨(.type l0),none,(.dict ⟨[de P c210 416 (vs c209 311),de P c212 420 (vi 88 419),de P c216 429 (vr 191),de P c217 437 (vr 198),de P c213 440 (vr 199),de P c2 441 .none]⟩ 2),⟨[]⟩⟩
abbrev o121 (P:Params):Obj:=⟨(.type l72),none,(.cls ⟨c188,[(vr 123)],[(vr 201),(vr 123),(.type l63)],200,c188,true,[],[],false,none,false⟩),⟨[some (vr 178),none,some (vs c188 409),some (vs c188 417),some (.builtin l157),some (.bool true)]⟩⟩
abbrev o122 (P:Params):Obj:=⟨(.type l70),none,(.fields ⟨[(vr 201),(vr 201),(vr 201)]⟩),⟨[]⟩⟩
abbrev o123 (P:Params):Obj:=⟨(.type l155),none,(.fields ⟨[(.builtin l162),(vr 201)]⟩),⟨[]⟩⟩
abbrev o124 (P:Params):Obj:=⟨(.type l0),none,(.dict ⟨[de P c210 451 (vs c209 311),de P c211 453 (vs c189 452),de P c212 455 (vi 98 454),de P c216 463 (vr 217),de P c217 469 (vr 222),de P c213 471 (vr 223)]⟩ 6),⟨[]⟩⟩
abbrev o125 (P:Params):Obj:=⟨.none,none,(.fields ⟨[(vi 100 0),(vi 4 0),(vr 216),(vi 103 0),(vi 4 0),(vr 221)]⟩),⟨[]⟩⟩
abbrev o126 (P:Params):Obj:=⟨(.type l152),none,(.fields ⟨[(vs c189 446),(vs c189 447),(vs c164 448),(vi 98 0),(vi 0 0),(vi 0 0),(vi 0 0),(vi 0 0),(vr 207),(.bool false),(vi 181 0),(vr 208),.none,.none,.none,.none,(vi 449 0),(vi 98 0),(vs c164 450)]⟩),⟨[]⟩⟩
abbrev o127 (P:Params):Obj:=⟨(.type l153),none,.plain,⟨[some (vr 209),some (vr 3),some (vr 206),none,some (vs c209 311),none,some (vr 0)]⟩⟩
abbrev o128 (P:Params):Obj:=⟨(.type l71),none,(.seq ⟨[(vs c218 459),(vs c226 460)]⟩ 0),⟨[]⟩⟩
abbrev o129 (P:Params):Obj:=⟨.none,none,(.func ⟨c216,c229,(fA (ic (tp 23) 0)),.stmts (fB (ic (tp 23) 0)),(fS (ic (tp 23) 0)),0,[],.none,.none,.none,.none,none,.none,.none,0⟩),⟨[]⟩⟩
abbrev o130 (P:Params):Obj:=⟨(.type l152),none,(.fields ⟨[(vs c216 456),(vs c229 457),(vs c164 458),(vi 100 0),(vi 2 0),(vi 0 0),(vi 0 0),(vi 3 0),(vr 211),(.bool true),(vi 181 0),(vr 212),.none,(vr 213),(vr 214),(vr 215),(vi 461 0),(vi 100 0),(vs c164 462)]⟩),⟨[]⟩⟩
abbrev o131 (P:Params):Obj:=⟨(.type l154),none,(.func ⟨c216,c229,(fA (ic (tp 23) 0)),.stmts (fB (ic (tp 23) 0)),(fS (ic (tp 23) 0)),3,[],.none,.none,.none,(vs c209 311),none,(vr 216),.none,0⟩),⟨[]⟩⟩
abbrev o132 (P:Params):Obj:=⟨.none,none,(.func ⟨c217,c230,(fA (ic (tp 23) 1)),.stmts (fB (ic (tp 23) 1)),(fS (ic (tp 23) 1)),0,[],.none,.none,.none,.none,none,.none,.none,0⟩),⟨[]⟩⟩
abbrev o133 (P:Params):Obj:=⟨(.type l152),none,(.fields ⟨[(vs c217 464),(vs c230 465),(vs c164 466),(vi 103 0),(vi 4 0),(vi 0 0),(vi 0 0),(vi 3 0),(vr 218),(.bool true),(vi 181 0),(vr 219),.none,.none,.none,(vr 220),(vi 467 0),(vi 103 0),(vs c164 468)]⟩),⟨[]⟩⟩
abbrev o134 (P:Params):Obj:=⟨(.type l154),none,(.func ⟨c217,c230,(fA (ic (tp 23) 1)),.stmts (fB (ic (tp 23) 1)),(fS (ic (tp 23) 1)),3,[],.none,.none,.none,(vs c209 311),none,(vr 221),.none,0⟩),⟨[]⟩⟩
abbrev o135 (P:Params):Obj:=⟨(.type l71),none,(.seq ⟨[(vs c226 470)]⟩ 0),⟨[]⟩⟩
abbrev o136 (P:Params):Obj:=⟨(.type l0),none,(.dict ⟨[de P c210 451 (vs c209 311),de P c212 455 (vi 98 454),de P c216 463 (vr 217),de P c217 469 (vr 222),de P c213 471 (vr 223),de P c2 472 .none]⟩ 2),⟨[]⟩⟩
abbrev o137 (P:Params):Obj:=⟨(.type l72),none,(.cls ⟨c189,[(vr 123)],[(vr 225),(vr 123),(.type l63)],224,c189,true,[],[],false,none,false⟩),⟨[some (vr 204),none,some (vs c189 444),some (vs c189 452),some (.builtin l157),some (.bool true)]⟩⟩
abbrev o138 (P:Params):Obj:=⟨(.type l70),none,(.fields ⟨[(vr 225),(vr 225),(vr 225)]⟩),⟨[]⟩⟩
abbrev o139 (P:Params):Obj:=⟨(.type l155),none,(.fields ⟨[(.builtin l162),(vr 225)]⟩),⟨[]⟩⟩
abbrev o140 (P:Params):Obj:=⟨(.type l0),none,(.dict ⟨[de P c210 482 (vs c209 311),de P c211 484 (vs c190 483),de P c212 486 (vi 109 485),de P c216 494 (vr 241),de P c217 500 (vr 246),de P c231 509 (vr 253),de P c213 511 (vr 254)]⟩ 7),⟨[]⟩⟩
abbrev o141 (P:Params):Obj:=⟨.none,none,(.fields ⟨[(vi 111 0),(vi 4 0),(vr 240),(vi 114 0),(vi 4 0),(vr 245),(vi 119 0),(vi 4 0),(vr 252)]⟩),⟨[]⟩⟩
abbrev o142 (P:Params):Obj:=⟨(.type l152),none,(.fields ⟨[(vs c190 477),(vs c190 478),(vs c164 479),(vi 109 0),(vi 0 0),(vi 0 0),(vi 0 0),(vi 0 0),(vr 231),(.bool false),(vi 181 0),(vr 232),.none,.none,.none,.none,(vi 480 0),(vi 109 0),(vs c164 481)]⟩),⟨[]⟩⟩
abbrev o143 (P:Params):Obj:=⟨(.type l153),none,.plain,⟨[some (vr 233),some (vr 3),some (vr 230),none,some (vs c209 311),none,some (vr 0)]⟩⟩
abbrev o144 (P:Params):Obj:=⟨(.type l71),none,(.seq ⟨[(vs c218 490),(vs c195 491)]⟩ 0),⟨[]⟩⟩
abbrev o145 (P:Params):Obj:=⟨.none,none,(.func ⟨c216,c232,(fA (ic (tp 24) 0)),.stmts (fB (ic (tp 24) 0)),(fS (ic (tp 24) 0)),0,[],.none,.none,.none,.none,none,.none,.none,0⟩),⟨[]⟩⟩
abbrev o146 (P:Params):Obj:=⟨(.type l152),none,(.fields ⟨[(vs c216 487),(vs c232 488),(vs c164 489),(vi 111 0),(vi 2 0),(vi 0 0),(vi 0 0),(vi 3 0),(vr 235),(.bool true),(vi 181 0),(vr 236),.none,(vr 237),(vr 238),(vr 239),(vi 492 0),(vi 111 0),(vs c164 493)]⟩),⟨[]⟩⟩
abbrev o147 (P:Params):Obj:=⟨(.type l154),none,(.func ⟨c216,c232,(fA (ic (tp 24) 0)),.stmts (fB (ic (tp 24) 0)),(fS (ic (tp 24) 0)),3,[],.none,.none,.none,(vs c209 311),none,(vr 240),.none,0⟩),⟨[]⟩⟩
abbrev o148 (P:Params):Obj:=⟨.none,none,(.func ⟨c217,c233,(fA (ic (tp 24) 1)),.stmts (fB (ic (tp 24) 1)),(fS (ic (tp 24) 1)),0,[],.none,.none,.none,.none,none,.none,.none,0⟩),⟨[]⟩⟩
abbrev o149 (P:Params):Obj:=⟨(.type l152),none,(.fields ⟨[(vs c217 495),(vs c233 496),(vs c164 497),(vi 114 0),(vi 4 0),(vi 0 0),(vi 0 0),(vi 3 0),(vr 242),(.bool true),(vi 181 0),(vr 243),.none,.none,.none,(vr 244),(vi 498 0),(vi 114 0),(vs c164 499)]⟩),⟨[]⟩⟩
abbrev o150 (P:Params):Obj:=⟨(.type l154),none,(.func ⟨c217,c233,(fA (ic (tp 24) 1)),.stmts (fB (ic (tp 24) 1)),(fS (ic (tp 24) 1)),3,[],.none,.none,.none,(vs c209 311),none,(vr 245),.none,0⟩),⟨[]⟩⟩
abbrev o151 (P:Params):Obj:=⟨(.type l71),none,(.seq ⟨[(vs c218 504),(vs c196 505),(vs c194 506)]⟩ 0),⟨[]⟩⟩
abbrev o152 (P:Params):Obj:=⟨.none,none,(.func ⟨c231,c234,(fA (ic (tp 24) 2)),.stmts (fB (ic (tp 24) 2)),(fS (ic (tp 24) 2)),0,[],.none,.none,.none,.none,none,.none,.none,0⟩),⟨[]⟩⟩
abbrev o153 (P:Params):Obj:=⟨(.type l152),none,(.fields ⟨[(vs c231 501),(vs c234 502),(vs c164 503),(vi 119 0),(vi 3 0),(vi 0 0),(vi 0 0),(vi 3 0),(vr 247),(.bool true),(vi 181 0),(vr 248),.none,(vr 249),(vr 250),(vr 251),(vi 507 0),(vi 119 0),(vs c164 508)]⟩),⟨[]⟩⟩
abbrev o154 (P:Params):Obj:=⟨(.type l154),none,(.func ⟨c231,c234,(fA (ic (tp 24) 2)),.stmts (fB (ic (tp 24) 2)),(fS (ic (tp 24) 2)),3,[],.none,.none,.none,(vs c209 311),none,(vr 252),.none,0⟩),⟨[]⟩⟩
abbrev o155 (P:Params):Obj:=⟨(.type l71),none,(.seq ⟨[(vs c195 510)]⟩ 0),⟨[]⟩⟩
abbrev o156 (P:Params):Obj:=⟨(.type l0),none,(.dict ⟨[de P c210 482 (vs c209 311),de P c212 486 (vi 109 485),de P c216 494 (vr 241),de P c217 500 (vr 246),de P c231 509 (vr 253),de P c213 511 (vr 254),de P c2 512 .none]⟩ 2),⟨[]⟩⟩
abbrev o157 (P:Params):Obj:=⟨(.type l72),none,(.cls ⟨c190,[(vr 123)],[(vr 256),(vr 123),(.type l63)],255,c190,true,[],[],false,none,false⟩),⟨[some (vr 228),none,some (vs c190 475),some (vs c190 483),some (.builtin l157),some (.bool true)]⟩⟩
abbrev o158 (P:Params):Obj:=⟨(.type l70),none,(.fields ⟨[(vr 256),(vr 256),(vr 256)]⟩),⟨[]⟩⟩
abbrev o159 (P:Params):Obj:=⟨(.type l155),none,(.fields ⟨[(.builtin l162),(vr 256)]⟩),⟨[]⟩⟩
abbrev o160 (P:Params):Obj:=⟨(.type l0),none,(.dict ⟨[de P c210 522 (vs c209 311),de P c211 524 (vs c191 523),de P c212 526 (vi 121 525),de P c216 534 (vr 272),de P c217 543 (vr 279),de P c213 545 (vr 280)]⟩ 6),⟨[]⟩⟩
abbrev o161 (P:Params):Obj:=⟨.none,none,(.fields ⟨[(vi 123 0),(vi 4 0),(vr 271),(vi 126 0),(vi 4 0),(vr 278)]⟩),⟨[]⟩⟩
abbrev o162 (P:Params):Obj:=⟨(.type l152),none,(.fields ⟨[(vs c191 517),(vs c191 518),(vs c164 519),(vi 121 0),(vi 0 0),(vi 0 0),(vi 0 0),(vi 0 0),(vr 262),(.bool false),(vi 181 0),(vr 263),.none,.none,.none,.none,(vi 520 0),(vi 121 0),(vs c164 521)]⟩),⟨[]⟩⟩
abbrev o163 (P:Params):Obj:=⟨(.type l153),none,.plain,⟨[some (vr 264),some (vr 3),some (vr 261),none,some (vs c209 311),none,some (vr 0)]⟩⟩
abbrev o164 (P:Params):Obj:=⟨(.type l71),none,(.seq ⟨[(vs c218 530),(vs c197 531)]⟩ 0),⟨[]⟩⟩
abbrev o165 (P:Params):Obj:=⟨.none,none,(.func ⟨c216,c235,(fA (ic (tp 25) 0)),.stmts (fB (ic (tp 25) 0)),(fS (ic (tp 25) 0)),0,[],.none,.none,.none,.none,none,.none,.none,0⟩),⟨[]⟩⟩
abbrev o166 (P:Params):Obj:=⟨(.type l152),none,(.fields ⟨[(vs c216 527),(vs c235 528),(vs c164 529),(vi 123 0),(vi 2 0),(vi 0 0),(vi 0 0),(vi 3 0),(vr 266),(.bool true),(vi 181 0),(vr 267),.none,(vr 268),(vr 269),(vr 270),(vi 532 0),(vi 123 0),(vs c164 533)]⟩),⟨[]⟩⟩
abbrev o167 (P:Params):Obj:=⟨(.type l154),none,(.func ⟨c216,c235,(fA (ic (tp 25) 0)),.stmts (fB (ic (tp 25) 0)),(fS (ic (tp 25) 0)),3,[],.none,.none,.none,(vs c209 311),none,(vr 271),.none,0⟩),⟨[]⟩⟩
abbrev o168 (P:Params):Obj:=⟨(.type l71),none,(.seq ⟨[(vs c218 538),(vs c196 539),(vs c194 540)]⟩ 0),⟨[]⟩⟩
abbrev o169 (P:Params):Obj:=⟨.none,none,(.func ⟨c217,c236,(fA (ic (tp 25) 1)),.stmts (fB (ic (tp 25) 1)),(fS (ic (tp 25) 1)),0,[],.none,.none,.none,.none,none,.none,.none,0⟩),⟨[]⟩⟩
abbrev o170 (P:Params):Obj:=⟨(.type l152),none,(.fields ⟨[(vs c217 535),(vs c236 536),(vs c164 537),(vi 126 0),(vi 3 0),(vi 0 0),(vi 0 0),(vi 3 0),(vr 273),(.bool true),(vi 181 0),(vr 274),.none,(vr 275),(vr 276),(vr 277),(vi 541 0),(vi 126 0),(vs c164 542)]⟩),⟨[]⟩⟩
abbrev o171 (P:Params):Obj:=⟨(.type l154),none,(.func ⟨c217,c236,(fA (ic (tp 25) 1)),.stmts (fB (ic (tp 25) 1)),(fS (ic (tp 25) 1)),3,[],.none,.none,.none,(vs c209 311),none,(vr 278),.none,0⟩),⟨[]⟩⟩
abbrev o172 (P:Params):Obj:=⟨(.type l71),none,(.seq ⟨[(vs c197 544)]⟩ 0),⟨[]⟩⟩
abbrev o173 (P:Params):Obj:=⟨(.type l0),none,(.dict ⟨[de P c210 522 (vs c209 311),de P c212 526 (vi 121 525),de P c216 534 (vr 272),de P c217 543 (vr 279),de P c213 545 (vr 280),de P c2 546 .none]⟩ 2),⟨[]⟩⟩
abbrev o174 (P:Params):Obj:=⟨(.type l72),none,(.cls ⟨c191,[(vr 123)],[(vr 282),(vr 123),(.type l63)],281,c191,true,[],[],false,none,false⟩),⟨[some (vr 259),none,some (vs c191 515),some (vs c191 523),some (.builtin l157),some (.bool true)]⟩⟩
abbrev o175 (P:Params):Obj:=⟨(.type l70),none,(.fields ⟨[(vr 282),(vr 282),(vr 282)]⟩),⟨[]⟩⟩
abbrev o176 (P:Params):Obj:=⟨(.type l155),none,(.fields ⟨[(.builtin l162),(vr 282)]⟩),⟨[]⟩⟩
abbrev o177 (P:Params):Obj:=⟨(.type l0),none,(.dict ⟨((de P c0 165 (vs c237 711)) :: (de P c2 166 .none) :: (de P c3 167 .none) :: (de P c4 168 (.builtin l150)) :: (de P c5 169 .none) :: (de P c161 170 (vr 6)) :: (de P c162 171 (vr 4)) :: (de P c163 173 (vs c164 172)) :: (de P c165 174 .none) :: (de P c168 190 (vi 1000000 189)) :: (de P c169 192 (vi 1000000 191)) :: (de P c170 199 (vr 21)) :: (de P c171 206 (vr 28)) :: (de P c172 212 (vr 33)) :: (de P c173 219 (vr 40)) :: (de P c174 227 (vr 47)) :: (de P c175 234 (vr 54)) :: (de P c176 240 (vr 59)) :: (de P c177 248 (vr 66)) :: (de P c178 257 (vr 73)) :: (de P c179 268 (vr 80)) :: (de P c180 284 (vr 87)) :: (de P c181 292 (vr 94)) :: (de P c182 301 (vr 101)) :: (de P c183 310 (vr 108)) :: (de P c184 318 (vr 113)) :: (de P c185 338 (vr 123)) :: (de P c186 371 (vr 149)) :: (de P c187 408 (vr 175)) :: (de P c188 443 (vr 201)) :: (de P c189 474 (vr 225)) :: (de P c190 514 (vr 256)) :: (de P c191 548 (vr 282)) :: (de P c238 568 (vr 294)) :: (de P c239 584 (vr 307)) :: (de P c240 600 (vr 319)) :: (de P c241 616 (vr 331)) :: (de P c242 632 (vr 343)) :: (de P c243 641 (vr 352)) :: (de P c244 652 (vr 359)) :: (de P c245 662 (vr 366)) :: (de P c246 668 (vr 371)) :: (de P c247 677 (vr 378)) :: (de P c248 690 (vr 385)) :: (de P c249 704 (vr 392)) :: (de P c250 710 (vr 397)) :: (de P c251 720 (vr 404)) :: (de P c252 730 (vr 411)) :: (de P c253 741 (vr 418)) :: (de P c254 747 (vr 423)) :: (de P c255 755 (vr 430)) :: (de P c256 762 (vr 437)) :: (de P c257 768 (vr 442)) :: (de P c258 776 (vr 449)) :: (de P c259 782 (vr 454)) :: (de P c260 788 (vr 459)) :: (de P c261 794 (vr 464)) :: (de P c262 800 (vr 469)) :: (de P c263 806 (vr 474)) :: (de P c264 821 (vr 481)) :: (de P c265 833 (vr 488)) :: [])⟩ 61),⟨[]⟩⟩
abbrev o178 (P:Params):Obj:=⟨.none,none,(.fields ⟨(((vi 4 0)) :: ((vi 0 0)) :: ((vr 20)) :: ((vi 6 0)) :: ((vi 0 0)) :: ((vr 27)) :: ((vi 8 0)) :: ((vi 0 0)) :: ((vr 32)) :: ((vi 10 0)) :: ((vi 0 0)) :: ((vr 39)) :: ((vi 12 0)) :: ((vi 0 0)) :: ((vr 46)) :: ((vi 14 0)) :: ((vi 0 0)) :: ((vr 53)) :: ((vi 16 0)) :: ((vi 0 0)) :: ((vr 58)) :: ((vi 18 0)) :: ((vi 0 0)) :: ((vr 65)) :: ((vi 20 0)) :: ((vi 0 0)) :: ((vr 72)) :: ((vi 22 0)) :: ((vi 0 0)) :: ((vr 79)) :: ((vi 30 0)) :: ((vi 0 0)) :: ((vr 86)) :: ((vi 47 0)) :: ((vi 0 0)) :: ((vr 93)) :: ((vi 49 0)) :: ((vi 0 0)) :: ((vr 100)) :: ((vi 54 0)) :: ((vi 0 0)) :: ((vr 107)) :: ((vi 60 0)) :: ((vi 0 0)) :: ((vr 112)) :: ((vi 62 0)) :: ((vi 0 0)) :: ((vr 119)) :: ((vi 64 0)) :: ((vi 0 0)) :: ((vr 133)) :: ((vi 76 0)) :: ((vi 0 0)) :: ((vr 157)) :: ((vi 88 0)) :: ((vi 0 0)) :: ((vr 183)) :: ((vi 98 0)) :: ((vi 0 0)) :: ((vr 209)) :: ((vi 109 0)) :: ((vi 0 0)) :: ((vr 233)) :: ((vi 121 0)) :: ((vi 0 0)) :: ((vr 264)) :: ((vi 129 0)) :: ((vi 0 0)) :: ((vr 290)) :: ((vi 131 0)) :: ((vi 0 0)) :: ((vr 303)) :: ((vi 133 0)) :: ((vi 0 0)) :: ((vr 315)) :: ((vi 135 0)) :: ((vi 0 0)) :: ((vr 327)) :: ((vi 137 0)) :: ((vi 0 0)) :: ((vr 339)) :: ((vi 140 0)) :: ((vi 0 0)) :: ((vr 351)) :: ((vi 144 0)) :: ((vi 0 0)) :: ((vr 358)) :: ((vi 152 0)) :: ((vi 0 0)) :: ((vr 365)) :: ((vi 159 0)) :: ((vi 0 0)) :: ((vr 370)) :: ((vi 171 0)) :: ((vi 0 0)) :: ((vr 377)) :: ((vi 181 0)) :: ((vi 0 0)) :: ((vr 384)) :: ((vi 191 0)) :: ((vi 0 0)) :: ((vr 391)) :: ((vi 200 0)) :: ((vi 0 0)) :: ((vr 396)) :: ((vi 204 0)) :: ((vi 0 0)) :: ((vr 403)) :: ((vi 208 0)) :: ((vi 0 0)) :: ((vr 410)) :: ((vi 211 0)) :: ((vi 0 0)) :: ((vr 417)) :: ((vi 220 0)) :: ((vi 0 0)) :: ((vr 422)) :: ((vi 227 0)) :: ((vi 0 0)) :: ((vr 429)) :: ((vi 232 0)) :: ((vi 0 0)) :: ((vr 436)) :: ((vi 234 0)) :: ((vi 0 0)) :: ((vr 441)) :: ((vi 236 0)) :: ((vi 0 0)) :: ((vr 448)) :: ((vi 238 0)) :: ((vi 0 0)) :: ((vr 453)) :: ((vi 241 0)) :: ((vi 0 0)) :: ((vr 458)) :: ((vi 269 0)) :: ((vi 0 0)) :: ((vr 463)) :: ((vi 283 0)) :: ((vi 0 0)) :: ((vr 468)) :: ((vi 300 0)) :: ((vi 0 0)) :: ((vr 473)) :: ((vi 324 0)) :: ((vi 0 0)) :: ((vr 480)) :: ((vi 339 0)) :: ((vi 0 0)) :: ((vr 487)) :: [])⟩),⟨[]⟩⟩
abbrev o179 (P:Params):Obj:=⟨(.type l71),none,(.seq ⟨[(.type l97)]⟩ 0),⟨[]⟩⟩
abbrev o180 (P:Params):Obj:=⟨(.type l0),none,(.dict ⟨[de P c210 558 (vs c167 549),de P c211 560 (vs c238 559),de P c212 562 (vi 129 561),de P c213 563 (vr 292)]⟩ 4),⟨[]⟩⟩
abbrev o181 (P:Params):Obj:=⟨(.type l152),none,(.fields ⟨[(vs c238 553),(vs c238 554),(vs c164 555),(vi 129 0),(vi 0 0),(vi 0 0),(vi 0 0),(vi 0 0),(vr 288),(.bool false),(vi 181 0),(vr 289),.none,.none,.none,.none,(vi 556 0),(vi 129 0),(vs c164 557)]⟩),⟨[]⟩⟩
abbrev o182 (P:Params):Obj:=⟨(.type l153),none,.plain,⟨[some (vr 290),some (vr 3),some (vr 287),none,some (vs c167 549),none,some (vr 0)]⟩⟩
abbrev o183 (P:Params):Obj:=⟨(.type l0),none,(.dict ⟨[de P c210 558 (vs c167 549),de P c212 562 (vi 129 561),de P c213 563 (vr 292),de P c215 565 (vr 295),de P c2 566 .none]⟩ 3),⟨[]⟩⟩
abbrev o184 (P:Params):Obj:=⟨(.type l72),none,(.cls ⟨c238,[(.type l97)],[(vr 294),(.type l97),(.type l76),(.type l74),(.type l63)],293,c238,true,[],[(vr 307),(vr 319),(vr 331),(vr 343)],false,none,false⟩),⟨[some (vr 285),none,some (vs c238 551),some (vs c238 559),some (.builtin l163),some (.bool true)]⟩⟩
abbrev o185 (P:Params):Obj:=⟨(.type l158),none,(.fields ⟨[(vs c215 564),(vr 294),(.builtin l161),.none]⟩),⟨[]⟩⟩
abbrev o186 (P:Params):Obj:=⟨(.type l70),none,(.fields ⟨[(vr 294),(vr 294),(vr 294)]⟩),⟨[]⟩⟩
abbrev o187 (P:Params):Obj:=⟨(.type l155),none,(.fields ⟨[(.builtin l162),(vr 294)]⟩),⟨[]⟩⟩
abbrev o188 (P:Params):Obj:=⟨(.type l71),none,(.seq ⟨[(vr 294)]⟩ 0),⟨[]⟩⟩
abbrev o189 (P:Params):Obj:=⟨(.type l0),none,(.dict ⟨[de P c210 576 (vs c167 549),de P c211 578 (vs c239 577),de P c212 580 (vi 131 579),de P c213 581 (vr 305)]⟩ 4),⟨[]⟩⟩
abbrev o190 (P:Params):Obj:=⟨(.type l152),none,(.fields ⟨[(vs c239 571),(vs c239 572),(vs c164 573),(vi 131 0),(vi 0 0),(vi 0 0),(vi 0 0),(vi 0 0),(vr 301),(.bool false),(vi 181 0),(vr 302),.none,.none,.none,.none,(vi 574 0),(vi 131 0),(vs c164 575)]⟩),⟨[]⟩⟩
abbrev o191 (P:Params):Obj:=⟨(.type l153),none,.plain,⟨[some (vr 303),some (vr 3),some (vr 300),none,some (vs c167 549),none,some (vr 0)]⟩⟩
abbrev o192 (P:Params):Obj:=⟨(.type l0),none,(.dict ⟨[de P c210 576 (vs c167 549),de P c212 580 (vi 131 579),de P c213 581 (vr 305),de P c2 582 .none]⟩ 2),⟨[]⟩⟩
abbrev o193 (P:Params):Obj:=⟨(.type l72),none,(.cls ⟨c239,[(vr 294)],[(vr 307),(vr 294),(.type l97),(.type l76),(.type l74),(.type l63)],306,c239,true,[],[],false,none,false⟩),⟨[some (vr 298),none,some (vs c239 569),some (vs c239 577),some (.builtin l163),some (.bool true)]⟩⟩
abbrev o194 (P:Params):Obj:=⟨(.type l70),none,(.fields ⟨[(vr 307),(vr 307),(vr 307)]⟩),⟨[]⟩⟩
abbrev o195 (P:Params):Obj:=⟨(.type l155),none,(.fields ⟨[(.builtin l162),(vr 307)]⟩),⟨[]⟩⟩
abbrev o196 (P:Params):Obj:=⟨(.type l0),none,(.dict ⟨[de P c210 592 (vs c167 549),de P c211 594 (vs c240 593),de P c212 596 (vi 133 595),de P c213 597 (vr 317)]⟩ 4),⟨[]⟩⟩
abbrev o197 (P:Params):Obj:=⟨(.type l152),none,(.fields ⟨[(vs c240 587),(vs c240 588),(vs c164 589),(vi 133 0),(vi 0 0),(vi 0 0),(vi 0 0),(vi 0 0),(vr 313),(.bool false),(vi 181 0),(vr 314),.none,.none,.none,.none,(vi 590 0),(vi 133 0),(vs c164 591)]⟩),⟨[]⟩⟩
abbrev o198 (P:Params):Obj:=⟨(.type l153),none,.plain,⟨[some (vr 315),some (vr 3),some (vr 312),none,some (vs c167 549),none,some (vr 0)]⟩⟩
abbrev o199 (P:Params):Obj:=⟨(.type l0),none,(.dict ⟨[de P c210 592 (vs c167 549),de P c212 596 (vi 133 595),de P c213 597 (vr 317),de P c2 598 .none]⟩ 2),⟨[]⟩⟩
abbrev o200 (P:Params):Obj:=⟨(.type l72),none,(.cls ⟨c240,[(vr 294)],[(vr 319),(vr 294),(.type l97),(.type l76),(.type l74),(.type l63)],318,c240,true,[],[],false,none,false⟩),⟨[some (vr 310),none,some (vs c240 585),some (vs c240 593),some (.builtin l163),some (.bool true)]⟩⟩
abbrev o201 (P:Params):Obj:=⟨(.type l70),none,(.fields ⟨[(vr 319),(vr 319),(vr 319)]⟩),⟨[]⟩⟩
abbrev o202 (P:Params):Obj:=⟨(.type l155),none,(.fields ⟨[(.builtin l162),(vr 319)]⟩),⟨[]⟩⟩
abbrev o203 (P:Params):Obj:=⟨(.type l0),none,(.dict ⟨[de P c210 608 (vs c167 549),de P c211 610 (vs c241 609),de P c212 612 (vi 135 611),de P c213 613 (vr 329)]⟩ 4),⟨[]⟩⟩
abbrev o204 (P:Params):Obj:=⟨(.type l152),none,(.fields ⟨[(vs c241 603),(vs c241 604),(vs c164 605),(vi 135 0),(vi 0 0),(vi 0 0),(vi 0 0),(vi 0 0),(vr 325),(.bool false),(vi 181 0),(vr 326),.none,.none,.none,.none,(vi 606 0),(vi 135 0),(vs c164 607)]⟩),⟨[]⟩⟩
abbrev o205 (P:Params):Obj:=⟨(.type l153),none,.plain,⟨[some (vr 327),some (vr 3),some (vr 324),none,some (vs c167 549),none,some (vr 0)]⟩⟩
abbrev o206 (P:Params):Obj:=⟨(.type l0),none,(.dict ⟨[de P c210 608 (vs c167 549),de P c212 612 (vi 135 611),de P c213 613 (vr 329),de P c2 614 .none]⟩ 2),⟨[]⟩⟩
abbrev o207 (P:Params):Obj:=⟨(.type l72),none,(.cls ⟨c241,[(vr 294)],[(vr 331),(vr 294),(.type l97),(.type l76),(.type l74),(.type l63)],330,c241,true,[],[],false,none,false⟩),⟨[some (vr 322),none,some (vs c241 601),some (vs c241 609),some (.builtin l163),some (.bool true)]⟩⟩
abbrev o208 (P:Params):Obj:=⟨(.type l70),none,(.fields ⟨[(vr 331),(vr 331),(vr 331)]⟩),⟨[]⟩⟩
abbrev o209 (P:Params):Obj:=⟨(.type l155),none,(.fields ⟨[(.builtin l162),(vr 331)]⟩),⟨[]⟩⟩
abbrev o210 (P:Params):Obj:=⟨(.type l0),none,(.dict ⟨[de P c210 624 (vs c167 549),de P c211 626 (vs c242 625),de P c212 628 (vi 137 627),de P c213 629 (vr 341)]⟩ 4),⟨[]⟩⟩
abbrev o211 (P:Params):Obj:=⟨(.type l152),none,(.fields ⟨[(vs c242 619),(vs c242 620),(vs c164 621),(vi 137 0),(vi 0 0),(vi 0 0),(vi 0 0),(vi 0 0),(vr 337),(.bool false),(vi 181 0),(vr 338),.none,.none,.none,.none,(vi 622 0),(vi 137 0),(vs c164 623)]⟩),⟨[]⟩⟩
abbrev o212 (P:Params):Obj:=⟨(.type l153),none,.plain,⟨[some (vr 339),some (vr 3),some (vr 336),none,some (vs c167 549),none,some (vr 0)]⟩⟩
abbrev o213 (P:Params):Obj:=⟨(.type l0),none,(.dict ⟨[de P c210 624 (vs c167 549),de P c212 628 (vi 137 627),de P c213 629 (vr 341),de P c2 630 .none]⟩ 2),⟨[]⟩⟩
abbrev o214 (P:Params):Obj:=⟨(.type l72),none,(.cls ⟨c242,[(vr 294)],[(vr 343),(vr 294),(.type l97),(.type l76),(.type l74),(.type l63)],342,c242,true,[],[],false,none,false⟩),⟨[some (vr 334),none,some (vs c242 617),some (vs c242 625),some (.builtin l163),some (.bool true)]⟩⟩
abbrev o215 (P:Params):Obj:=⟨(.type l70),none,(.fields ⟨[(vr 343),(vr 343),(vr 343)]⟩),⟨[]⟩⟩
abbrev o216 (P:Params):Obj:=⟨(.type l155),none,(.fields ⟨[(.builtin l162),(vr 343)]⟩),⟨[]⟩⟩
abbrev o217 (P:Params):Obj:=⟨(.type l71),none,(.seq ⟨[(vs c207 638)]⟩ 0),⟨[]⟩⟩
abbrev o218 (P:Params):Obj:=⟨.none,none,(.func ⟨c243,c243,(fA (tp 33)),.stmts (fB (tp 33)),(fS (tp 33)),0,[],.none,.none,.none,.none,none,.none,.none,0⟩),⟨[]⟩⟩
abbrev o219 (P:Params):Obj:=⟨(.type l152),none,(.fields ⟨[(vs c243 635),(vs c243 636),(vs c164 637),(vi 140 0),(vi 1 0),(vi 0 0),(vi 0 0),(vi 3 0),(vr 346),(.bool true),(vi 181 0),(vr 347),.none,(vr 348),(vr 349),(vr 350),(vi 639 0),(vi 140 0),(vs c164 640)]⟩),⟨[]⟩⟩
abbrev o220 (P:Params):Obj:=⟨(.type l154),none,(.func ⟨c243,c243,(fA (tp 33)),.stmts (fB (tp 33)),(fS (tp 33)),3,[],.none,.none,.none,(vs c266 633),none,(vr 351),.none,0⟩),⟨[]⟩⟩
abbrev o221 (P:Params):Obj:=⟨(.type l71),none,(.seq ⟨[(vs c207 645),(vs c267 646),(vs c195 647),(vs c196 648),(vs c268 649)]⟩ 0),⟨[]⟩⟩
abbrev o222 (P:Params):Obj:=⟨.none,none,(.func ⟨c244,c244,(fA (tp 34)),.stmts (fB (tp 34)),(fS (tp 34)),0,[],.none,.none,.none,.none,none,.none,.none,0⟩),⟨[]⟩⟩
abbrev o223 (P:Params):Obj:=⟨(.type l152),none,(.fields ⟨[(vs c244 642),(vs c244 643),(vs c164 644),(vi 144 0),(vi 1 0),(vi 0 0),(vi 0 0),(vi 3 0),(vr 353),(.bool true),(vi 181 0),(vr 354),.none,(vr 355),(vr 356),(vr 357),(vi 650 0),(vi 144 0),(vs c164 651)]⟩),⟨[]⟩⟩
abbrev o224 (P:Params):Obj:=⟨(.type l154),none,(.func ⟨c244,c244,(fA (tp 34)),.stmts (fB (tp 34)),(fS (tp 34)),3,[],.none,.none,.none,(vs c266 633),none,(vr 358),.none,0⟩),⟨[]⟩⟩
abbrev o225 (P:Params):Obj:=⟨(.type l71),none,(.seq ⟨[(vs c267 656),(vs c226 657),(vs c269 658),(vs c268 659)]⟩ 0),⟨[]⟩⟩
abbrev o226 (P:Params):Obj:=⟨.none,none,(.func ⟨c245,c245,(fA (tp 35)),.stmts (fB (tp 35)),(fS (tp 35)),0,[],.none,.none,.none,.none,none,.none,.none,0⟩),⟨[]⟩⟩
abbrev o227 (P:Params):Obj:=⟨(.type l152),none,(.fields ⟨[(vs c245 653),(vs c245 654),(vs c164 655),(vi 152 0),(vi 1 0),(vi 0 0),(vi 0 0),(vi 3 0),(vr 360),(.bool true),(vi 181 0),(vr 361),.none,(vr 362),(vr 363),(vr 364),(vi 660 0),(vi 152 0),(vs c164 661)]⟩),⟨[]⟩⟩
abbrev o228 (P:Params):Obj:=⟨(.type l154),none,(.func ⟨c245,c245,(fA (tp 35)),.stmts (fB (tp 35)),(fS (tp 35)),3,[],.none,.none,.none,(vs c266 633),none,(vr 365),.none,0⟩),⟨[]⟩⟩
abbrev o229 (P:Params):Obj:=⟨.none,none,(.func ⟨c246,c246,(fA (tp 36)),.stmts (fB (tp 36)),(fS (tp 36)),0,[],.none,.none,.none,.none,none,.none,.none,0⟩),⟨[]⟩⟩
abbrev o230 (P:Params):Obj:=⟨(.type l152),none,(.fields ⟨[(vs c246 663),(vs c246 664),(vs c164 665),(vi 159 0),(vi 3 0),(vi 0 0),(vi 0 0),(vi 3 0),(vr 367),(.bool true),(vi 181 0),(vr 368),.none,.none,.none,(vr 369),(vi 666 0),(vi 159 0),(vs c164 667)]⟩),⟨[]⟩⟩
abbrev o231 (P:Params):Obj:=⟨(.type l154),none,(.func ⟨c246,c246,(fA (tp 36)),.stmts (fB (tp 36)),(fS (tp 36)),3,[],.none,.none,.none,(vs c266 633),none,(vr 370),.none,0⟩),⟨[]⟩⟩
abbrev o232 (P:Params):Obj:=⟨(.type l71),none,(.seq ⟨[(vs c196 672),(vs c194 673),(vs c195 674)]⟩ 0),⟨[]⟩⟩
abbrev o233 (P:Params):Obj:=⟨.none,none,(.func ⟨c247,c247,(fA (tp 37)),.stmts (fB (tp 37)),(fS (tp 37)),0,[],.none,.none,.none,.none,none,.none,.none,0⟩),⟨[]⟩⟩
abbrev o234 (P:Params):Obj:=⟨(.type l152),none,(.fields ⟨[(vs c247 669),(vs c247 670),(vs c164 671),(vi 171 0),(vi 2 0),(vi 0 0),(vi 0 0),(vi 3 0),(vr 372),(.bool true),(vi 181 0),(vr 373),.none,(vr 374),(vr 375),(vr 376),(vi 675 0),(vi 171 0),(vs c164 676)]⟩),⟨[]⟩⟩
abbrev o235 (P:Params):Obj:=⟨(.type l154),none,(.func ⟨c247,c247,(fA (tp 37)),.stmts (fB (tp 37)),(fS (tp 37)),3,[],.none,.none,.none,(vs c266 633),none,(vr 377),.none,0⟩),⟨[]⟩⟩
abbrev o236 (P:Params):Obj:=⟨(.type l71),none,(.seq ⟨[(vs c222 683),(vs c270 684),(vs c271 685),(vs c272 686),(vs c201 687)]⟩ 0),⟨[]⟩⟩
abbrev o237 (P:Params):Obj:=⟨.none,none,(.func ⟨c248,c248,(fA (tp 39)),.stmts (fB (tp 39)),(fS (tp 39)),0,[],.none,.none,.none,.none,none,.none,.none,0⟩),⟨[]⟩⟩
abbrev o238 (P:Params):Obj:=⟨(.type l152),none,(.fields ⟨[(vs c248 680),(vs c248 681),(vs c164 682),(vi 181 0),(vi 1 0),(vi 0 0),(vi 0 0),(vi 3 0),(vr 379),(.bool true),(vi 181 0),(vr 380),.none,(vr 381),(vr 382),(vr 383),(vi 688 0),(vi 181 0),(vs c164 689)]⟩),⟨[]⟩⟩
abbrev o239 (P:Params):Obj:=⟨(.type l154),none,(.func ⟨c248,c248,(fA (tp 39)),.stmts (fB (tp 39)),(fS (tp 39)),3,[],.none,.none,.none,(vs c273 678),none,(vr 384),.none,0⟩),⟨[]⟩⟩
abbrev o240 (P:Params):Obj:=⟨(.type l71),none,(.seq ⟨[(vs c270 694),(vs c197 695),(vs c194 696),(vs c274 697),(vs c195 698),(vs c275 699),(vs c276 700),(vs c267 701)]⟩ 0),⟨[]⟩⟩
abbrev o241 (P:Params):Obj:=⟨.none,none,(.func ⟨c249,c249,(fA (tp 40)),.stmts (fB (tp 40)),(fS (tp 40)),0,[],.none,.none,.none,.none,none,.none,.none,0⟩),⟨[]⟩⟩
abbrev o242 (P:Params):Obj:=⟨(.type l152),none,(.fields ⟨[(vs c249 691),(vs c249 692),(vs c164 693),(vi 191 0),(vi 3 0),(vi 0 0),(vi 0 0),(vi 3 0),(vr 386),(.bool true),(vi 181 0),(vr 387),.none,(vr 388),(vr 389),(vr 390),(vi 702 0),(vi 191 0),(vs c164 703)]⟩),⟨[]⟩⟩
abbrev o243 (P:Params):Obj:=⟨(.type l154),none,(.func ⟨c249,c249,(fA (tp 40)),.stmts (fB (tp 40)),(fS (tp 40)),3,[],.none,.none,.none,(vs c273 678),none,(vr 391),.none,0⟩),⟨[]⟩⟩
abbrev o244 (P:Params):Obj:=⟨.none,none,(.func ⟨c250,c250,(fA (tp 41)),.stmts (fB (tp 41)),(fS (tp 41)),0,[],.none,.none,.none,.none,none,.none,.none,0⟩),⟨[]⟩⟩
abbrev o245 (P:Params):Obj:=⟨(.type l152),none,(.fields ⟨[(vs c250 705),(vs c250 706),(vs c164 707),(vi 200 0),(vi 2 0),(vi 0 0),(vi 0 0),(vi 3 0),(vr 393),(.bool true),(vi 181 0),(vr 394),.none,.none,.none,(vr 395),(vi 708 0),(vi 200 0),(vs c164 709)]⟩),⟨[]⟩⟩
abbrev o246 (P:Params):Obj:=⟨(.type l154),none,(.func ⟨c250,c250,(fA (tp 41)),.stmts (fB (tp 41)),(fS (tp 41)),3,[],.none,.none,.none,(vs c273 678),none,(vr 396),.none,0⟩),⟨[]⟩⟩
abbrev o247 (P:Params):Obj:=⟨(.type l71),none,(.seq ⟨[(vs c277 716),(vs c278 717)]⟩ 0),⟨[]⟩⟩
abbrev o248 (P:Params):Obj:=⟨.none,none,(.func ⟨c251,c251,(fA (tp 43)),.stmts (fB (tp 43)),(fS (tp 43)),0,[],.none,.none,.none,.none,none,.none,.none,0⟩),⟨[]⟩⟩
abbrev o249 (P:Params):Obj:=⟨(.type l152),none,(.fields ⟨[(vs c251 713),(vs c251 714),(vs c164 715),(vi 204 0),(vi 2 0),(vi 0 0),(vi 0 0),(vi 3 0),(vr 398),(.bool true),(vi 181 0),(vr 399),.none,(vr 400),(vr 401),(vr 402),(vi 718 0),(vi 204 0),(vs c164 719)]⟩),⟨[]⟩⟩
abbrev o250 (P:Params):Obj:=⟨(.type l154),none,(.func ⟨c251,c251,(fA (tp 43)),.stmts (fB (tp 43)),(fS (tp 43)),3,[],.none,.none,.none,(vs c237 711),none,(vr 403),.none,0⟩),⟨[]⟩⟩
abbrev o251 (P:Params):Obj:=⟨(.type l71),none,(.seq ⟨[(vs c279 724),(vs c278 725),(vs c280 726),(vs c281 727)]⟩ 0),⟨[]⟩⟩
abbrev o252 (P:Params):Obj:=⟨.none,none,(.func ⟨c252,c252,(fA (tp 44)),.stmts (fB (tp 44)),(fS (tp 44)),0,[],.none,.none,.none,.none,none,.none,.none,0⟩),⟨[]⟩⟩
abbrev o253 (P:Params):Obj:=⟨(.type l152),none,(.fields ⟨[(vs c252 721),(vs c252 722),(vs c164 723),(vi 208 0),(vi 3 0),(vi 0 0),(vi 0 0),(vi 3 0),(vr 405),(.bool true),(vi 181 0),(vr 406),.none,(vr 407),(vr 408),(vr 409),(vi 728 0),(vi 208 0),(vs c164 729)]⟩),⟨[]⟩⟩
abbrev o254 (P:Params):Obj:=⟨(.type l154),none,(.func ⟨c252,c252,(fA (tp 44)),.stmts (fB (tp 44)),(fS (tp 44)),3,[],.none,.none,.none,(vs c237 711),none,(vr 410),.none,0⟩),⟨[]⟩⟩
abbrev o255 (P:Params):Obj:=⟨(.type l71),none,(.seq ⟨[(vs c277 734),(vs c282 735),(vs c283 736),(vs c278 737),(vs c284 738)]⟩ 0),⟨[]⟩⟩
abbrev o256 (P:Params):Obj:=⟨.none,none,(.func ⟨c253,c253,(fA (tp 45)),.stmts (fB (tp 45)),(fS (tp 45)),0,[],.none,.none,.none,.none,none,.none,.none,0⟩),⟨[]⟩⟩
abbrev o257 (P:Params):Obj:=⟨(.type l152),none,(.fields ⟨[(vs c253 731),(vs c253 732),(vs c164 733),(vi 211 0),(vi 1 0),(vi 0 0),(vi 0 0),(vi 3 0),(vr 412),(.bool true),(vi 181 0),(vr 413),.none,(vr 414),(vr 415),(vr 416),(vi 739 0),(vi 211 0),(vs c164 740)]⟩),⟨[]⟩⟩
abbrev o258 (P:Params):Obj:=⟨(.type l154),none,(.func ⟨c253,c253,(fA (tp 45)),.stmts (fB (tp 45)),(fS (tp 45)),3,[],.none,.none,.none,(vs c237 711),none,(vr 417),.none,0⟩),⟨[]⟩⟩
abbrev o259 (P:Params):Obj:=⟨.none,none,(.func ⟨c254,c254,(fA (tp 46)),.stmts (fB (tp 46)),(fS (tp 46)),0,[],.none,.none,.none,.none,none,.none,.none,0⟩),⟨[]⟩⟩
abbrev o260 (P:Params):Obj:=⟨(.type l152),none,(.fields ⟨[(vs c254 742),(vs c254 743),(vs c164 744),(vi 220 0),(vi 1 0),(vi 0 0),(vi 0 0),(vi 3 0),(vr 419),(.bool true),(vi 181 0),(vr 420),.none,.none,.none,(vr 421),(vi 745 0),(vi 220 0),(vs c164 746)]⟩),⟨[]⟩⟩
abbrev o261 (P:Params):Obj:=⟨(.type l154),none,(.func ⟨c254,c254,(fA (tp 46)),.stmts (fB (tp 46)),(fS (tp 46)),3,[],.none,.none,.none,(vs c237 711),none,(vr 422),.none,0⟩),⟨[]⟩⟩
abbrev o262 (P:Params):Obj:=⟨(.type l71),none,(.seq ⟨[(vs c285 751),(vs c286 752)]⟩ 0),⟨[]⟩⟩
abbrev o263 (P:Params):Obj:=⟨.none,none,(.func ⟨c255,c255,(fA (tp 47)),.stmts (fB (tp 47)),(fS (tp 47)),0,[],.none,.none,.none,.none,none,.none,.none,0⟩),⟨[]⟩⟩
abbrev o264 (P:Params):Obj:=⟨(.type l152),none,(.fields ⟨[(vs c255 748),(vs c255 749),(vs c164 750),(vi 227 0),(vi 2 0),(vi 0 0),(vi 0 0),(vi 3 0),(vr 424),(.bool true),(vi 181 0),(vr 425),.none,(vr 426),(vr 427),(vr 428),(vi 753 0),(vi 227 0),(vs c164 754)]⟩),⟨[]⟩⟩
abbrev o265 (P:Params):Obj:=⟨(.type l154),none,(.func ⟨c255,c255,(fA (tp 47)),.stmts (fB (tp 47)),(fS (tp 47)),3,[],.none,.none,.none,(vs c237 711),none,(vr 429),.none,0⟩),⟨[]⟩⟩
abbrev o266 (P:Params):Obj:=⟨(.type l71),none,(.seq ⟨[(vs c287 759)]⟩ 0),⟨[]⟩⟩
abbrev o267 (P:Params):Obj:=⟨.none,none,(.func ⟨c256,c256,(fA (tp 48)),.stmts (fB (tp 48)),(fS (tp 48)),0,[],.none,.none,.none,.none,none,.none,.none,0⟩),⟨[]⟩⟩
abbrev o268 (P:Params):Obj:=⟨(.type l152),none,(.fields ⟨[(vs c256 756),(vs c256 757),(vs c164 758),(vi 232 0),(vi 1 0),(vi 0 0),(vi 0 0),(vi 3 0),(vr 431),(.bool true),(vi 181 0),(vr 432),.none,(vr 433),(vr 434),(vr 435),(vi 760 0),(vi 232 0),(vs c164 761)]⟩),⟨[]⟩⟩
abbrev o269 (P:Params):Obj:=⟨(.type l154),none,(.func ⟨c256,c256,(fA (tp 48)),.stmts (fB (tp 48)),(fS (tp 48)),3,[],.none,.none,.none,(vs c237 711),none,(vr 436),.none,0⟩),⟨[]⟩⟩
abbrev o270 (P:Params):Obj:=⟨.none,none,(.func ⟨c257,c257,(fA (tp 49)),.stmts (fB (tp 49)),(fS (tp 49)),0,[],.none,.none,.none,.none,none,.none,.none,0⟩),⟨[]⟩⟩
abbrev o271 (P:Params):Obj:=⟨(.type l152),none,(.fields ⟨[(vs c257 763),(vs c257 764),(vs c164 765),(vi 234 0),(vi 1 0),(vi 0 0),(vi 0 0),(vi 3 0),(vr 438),(.bool true),(vi 181 0),(vr 439),.none,.none,.none,(vr 440),(vi 766 0),(vi 234 0),(vs c164 767)]⟩),⟨[]⟩⟩
abbrev o272 (P:Params):Obj:=⟨(.type l154),none,(.func ⟨c257,c257,(fA (tp 49)),.stmts (fB (tp 49)),(fS (tp 49)),3,[],.none,.none,.none,(vs c237 711),none,(vr 441),.none,0⟩),⟨[]⟩⟩
abbrev o273 (P:Params):Obj:=⟨(.type l71),none,(.seq ⟨[(vs c288 772),(vs c289 773)]⟩ 0),⟨[]⟩⟩
abbrev o274 (P:Params):Obj:=⟨.none,none,(.func ⟨c258,c258,(fA (tp 50)),.stmts (fB (tp 50)),(fS (tp 50)),0,[],.none,.none,.none,.none,none,.none,.none,0⟩),⟨[]⟩⟩
abbrev o275 (P:Params):Obj:=⟨(.type l152),none,(.fields ⟨[(vs c258 769),(vs c258 770),(vs c164 771),(vi 236 0),(vi 2 0),(vi 0 0),(vi 0 0),(vi 3 0),(vr 443),(.bool true),(vi 181 0),(vr 444),.none,(vr 445),(vr 446),(vr 447),(vi 774 0),(vi 236 0),(vs c164 775)]⟩),⟨[]⟩⟩
abbrev o276 (P:Params):Obj:=⟨(.type l154),none,(.func ⟨c258,c258,(fA (tp 50)),.stmts (fB (tp 50)),(fS (tp 50)),3,[],.none,.none,.none,(vs c237 711),none,(vr 448),.none,0⟩),⟨[]⟩⟩
abbrev o277 (P:Params):Obj:=⟨.none,none,(.func ⟨c259,c259,(fA (tp 51)),.stmts (fB (tp 51)),(fS (tp 51)),0,[],.none,.none,.none,.none,none,.none,.none,0⟩),⟨[]⟩⟩
abbrev o278 (P:Params):Obj:=⟨(.type l152),none,(.fields ⟨[(vs c259 777),(vs c259 778),(vs c164 779),(vi 238 0),(vi 1 0),(vi 0 0),(vi 0 0),(vi 3 0),(vr 450),(.bool true),(vi 181 0),(vr 451),.none,.none,.none,(vr 452),(vi 780 0),(vi 238 0),(vs c164 781)]⟩),⟨[]⟩⟩
abbrev o279 (P:Params):Obj:=⟨(.type l154),none,(.func ⟨c259,c259,(fA (tp 51)),.stmts (fB (tp 51)),(fS (tp 51)),3,[],.none,.none,.none,(vs c237 711),none,(vr 453),.none,0⟩),⟨[]⟩⟩
abbrev o280 (P:Params):Obj:=⟨.none,none,(.func ⟨c260,c260,(fA (tp 52)),.stmts (fB (tp 52)),(fS (tp 52)),0,[],.none,.none,.none,.none,none,.none,.none,0⟩),⟨[]⟩⟩
abbrev o281 (P:Params):Obj:=⟨(.type l152),none,(.fields ⟨[(vs c260 783),(vs c260 784),(vs c164 785),(vi 241 0),(vi 2 0),(vi 0 0),(vi 0 0),(vi 3 0),(vr 455),(.bool true),(vi 181 0),(vr 456),.none,.none,.none,(vr 457),(vi 786 0),(vi 241 0),(vs c164 787)]⟩),⟨[]⟩⟩
abbrev o282 (P:Params):Obj:=⟨(.type l154),none,(.func ⟨c260,c260,(fA (tp 52)),.stmts (fB (tp 52)),(fS (tp 52)),3,[],.none,.none,.none,(vs c237 711),none,(vr 458),.none,0⟩),⟨[]⟩⟩
abbrev o283 (P:Params):Obj:=⟨.none,none,(.func ⟨c261,c261,(fA (tp 53)),.stmts (fB (tp 53)),(fS (tp 53)),0,[],.none,.none,.none,.none,none,.none,.none,0⟩),⟨[]⟩⟩
abbrev o284 (P:Params):Obj:=⟨(.type l152),none,(.fields ⟨[(vs c261 789),(vs c261 790),(vs c164 791),(vi 269 0),(vi 2 0),(vi 0 0),(vi 0 0),(vi 3 0),(vr 460),(.bool true),(vi 181 0),(vr 461),.none,.none,.none,(vr 462),(vi 792 0),(vi 269 0),(vs c164 793)]⟩),⟨[]⟩⟩
abbrev o285 (P:Params):Obj:=⟨(.type l154),none,(.func ⟨c261,c261,(fA (tp 53)),.stmts (fB (tp 53)),(fS (tp 53)),3,[],.none,.none,.none,(vs c237 711),none,(vr 463),.none,0⟩),⟨[]⟩⟩
abbrev o286 (P:Params):Obj:=⟨.none,none,(.func ⟨c262,c262,(fA (tp 54)),.stmts (fB (tp 54)),(fS (tp 54)),0,[],.none,.none,.none,.none,none,.none,.none,0⟩),⟨[]⟩⟩
abbrev o287 (P:Params):Obj:=⟨(.type l152),none,(.fields ⟨[(vs c262 795),(vs c262 796),(vs c164 797),(vi 283 0),(vi 2 0),(vi 0 0),(vi 0 0),(vi 3 0),(vr 465),(.bool true),(vi 181 0),(vr 466),.none,.none,.none,(vr 467),(vi 798 0),(vi 283 0),(vs c164 799)]⟩),⟨[]⟩⟩
abbrev o288 (P:Params):Obj:=⟨(.type l154),none,(.func ⟨c262,c262,(fA (tp 54)),.stmts (fB (tp 54)),(fS (tp 54)),3,[],.none,.none,.none,(vs c237 711),none,(vr 468),.none,0⟩),⟨[]⟩⟩
abbrev o289 (P:Params):Obj:=⟨.none,none,(.func ⟨c263,c263,(fA (tp 55)),.stmts (fB (tp 55)),(fS (tp 55)),0,[],.none,.none,.none,.none,none,.none,.none,0⟩),⟨[]⟩⟩
abbrev o290 (P:Params):Obj:=⟨(.type l152),none,(.fields ⟨[(vs c263 801),(vs c263 802),(vs c164 803),(vi 300 0),(vi 2 0),(vi 0 0),(vi 0 0),(vi 3 0),(vr 470),(.bool true),(vi 181 0),(vr 471),.none,.none,.none,(vr 472),(vi 804 0),(vi 300 0),(vs c164 805)]⟩),⟨[]⟩⟩
abbrev o291 (P:Params):Obj:=⟨(.type l154),none,(.func ⟨c263,c263,(fA (tp 55)),.stmts (fB (tp 55)),(fS (tp 55)),3,[],.none,.none,.none,(vs c237 711),none,(vr 473),.none,0⟩),⟨[]⟩⟩
abbrev o292 (P:Params):Obj:=⟨(.type l71),none,(.seq ⟨[(vs c287 810),(vs c284 811),(vs c279 812),(vs c283 813),(vs c290 814),(vs c291 815),(vs c289 816),(vs c292 817),(vs c293 818)]⟩ 0),⟨[]⟩⟩
abbrev o293 (P:Params):Obj:=⟨.none,none,(.func ⟨c264,c264,(fA (tp 56)),.stmts (fB (tp 56)),(fS (tp 56)),0,[],.none,.none,.none,.none,none,.none,.none,0⟩),⟨[]⟩⟩
abbrev o294 (P:Params):Obj:=⟨(.type l152),none,(.fields ⟨[(vs c264 807),(vs c264 808),(vs c164 809),(vi 324 0),(vi 3 0),(vi 0 0),(vi 0 0),(vi 3 0),(vr 475),(.bool true),(vi 181 0),(vr 476),.none,(vr 477),(vr 478),(vr 479),(vi 819 0),(vi 324 0),(vs c164 820)]⟩),⟨[]⟩⟩
abbrev o295 (P:Params):Obj:=⟨(.type l154),none,(.func ⟨c264,c264,(fA (tp 56)),.stmts (fB (tp 56)),(fS (tp 56)),3,[],.none,.none,.none,(vs c237 711),none,(vr 480),.none,0⟩),⟨[]⟩⟩
abbrev o296 (P:Params):Obj:=⟨(.type l71),none,(.seq ⟨[(vs c277 825),(vs c294 826),(vs c295 827),(vs c278 828),(vs c279 829),(vs c284 830)]⟩ 0),⟨[]⟩⟩
abbrev o297 (P:Params):Obj:=⟨.none,none,(.func ⟨c265,c265,(fA (tp 57)),.stmts (fB (tp 57)),(fS (tp 57)),0,[],.none,.none,.none,.none,none,.none,.none,0⟩),⟨[]⟩⟩
abbrev o298 (P:Params):Obj:=⟨(.type l152),none,(.fields ⟨[(vs c265 822),(vs c265 823),(vs c164 824),(vi 339 0),(vi 1 0),(vi 0 0),(vi 0 0),(vi 3 0),(vr 482),(.bool true),(vi 181 0),(vr 483),.none,(vr 484),(vr 485),(vr 486),(vi 831 0),(vi 339 0),(vs c164 832)]⟩),⟨[]⟩⟩
abbrev o299 (P:Params):Obj:=⟨(.type l154),none,(.func ⟨c265,c265,(fA (tp 57)),.stmts (fB (tp 57)),(fS (tp 57)),3,[],.none,.none,.none,(vs c237 711),none,(vr 487),.none,0⟩),⟨[]⟩⟩
abbrev ha (P:Params):Heap:=⟨⟨[boot_o_0 P,boot_o_1 P,boot_o_2 P,boot_o_3 P,boot_o_4 P,boot_o_5 P,boot_o_6 P,boot_o_7 P,boot_o_8 P,boot_o_9 P,boot_o_10 P,o0 P,o1 P,o2 P,o3 P]⟩,{}⟩
abbrev t0 (P:Params):BT:=(.node (boot_o_0 P) (.node (boot_o_1 P) (.node (boot_o_3 P) (.node (boot_o_7 P) .nil .nil) (.node (o0 P) .nil .nil)) (.node (boot_o_5 P) (.node (boot_o_9 P) .nil .nil) (.node (o2 P) .nil .nil))) (.node (boot_o_2 P) (.node (boot_o_4 P) (.node (boot_o_8 P) .nil .nil) (.node (o1 P) .nil .nil)) (.node (boot_o_6 P) (.node (boot_o_10 P) .nil .nil) (.node (o3 P) .nil .nil))))
abbrev t1 (P:Params):BT:=(.node (boot_o_0 P) (.node (boot_o_1 P) (.node (o4 P) (.node (boot_o_7 P) (.node (o0 P) (.node (o14 P) (.node (o0 P) (.node (o72 P) (.node (o156 P) .nil .nil) .nil) (.node (o114 P) .nil .nil)) (.node (o0 P) (.node (o0 P) .nil .nil) (.node (o135 P) .nil .nil))) (.node (o24 P) (.node (o42 P) (.node (o1 P) (.node (o166 P) .nil .nil) .nil) (.node (o0 P) .nil .nil)) (.node (o60 P) (.node (o104 P) .nil .nil) (.node (o145 P) .nil .nil)))) (.node (o1 P) (.node (o19 P) (.node (o37 P) (.node (o0 P) (.node (o161 P) .nil .nil) .nil) (.node (o119 P) .nil .nil)) (.node (o1 P) (.node (o1 P) .nil .nil) (.node (o0 P) .nil .nil))) (.node (o0 P) (.node (o47 P) (.node (o89 P) (.node (o171 P) .nil .nil) .nil) (.node (o129 P) .nil .nil)) (.node (o65 P) (.node (o109 P) .nil .nil) (.node (o0 P) .nil .nil))))) (.node (o0 P) (.node (o7 P) (.node (o1 P) (.node (o0 P) (.node (o0 P) (.node (o73 P) .nil .nil) .nil) (.node (o0 P) .nil .nil)) (.node (o53 P) (.node (o95 P) .nil .nil) (.node (o139 P) .nil .nil))) (.node (o0 P) (.node (o44 P) (.node (o85 P) (.node (o168 P) .nil .nil) .nil) (.node (o0 P) .nil .nil)) (.node (o63 P) (.node (o63 P) .nil .nil) (.node (o1 P) .nil .nil)))) (.node (o12 P) (.node (o21 P) (.node (o1 P) (.node (o79 P) (.node (o1 P) .nil .nil) .nil) (.node (o123 P) .nil .nil)) (.node (o58 P) (.node (o100 P) .nil .nil) (.node (o0 P) .nil .nil))) (.node (o31 P) (.node (o0 P) (.node (o0 P) (.node (o175 P) .nil .nil) .nil) (.node (o1 P) .nil .nil)) (.node (o68 P) (.node (o111 P) .nil .nil) (.node (o152 P) .nil .nil)))))) (.node (boot_o_5 P) (.node (boot_o_9 P) (.node (o6 P) (.node (o16 P) (.node (o34 P) (.node (o63 P) (.node (o158 P) .nil .nil) .nil) (.node (o1 P) .nil .nil)) (.node (o52 P) (.node (o94 P) .nil .nil) (.node (o137 P) .nil .nil))) (.node (o1 P) (.node (o0 P) (.node (o83 P) (.node (o0 P) .nil .nil) .nil) (.node (o126 P) .nil .nil)) (.node (o62 P) (.node (o106 P) .nil .nil) (.node (o147 P) .nil .nil)))) (.node (o0 P) (.node (o0 P) (.node (o39 P) (.node (o78 P) (.node (o163 P) .nil .nil) .nil) (.node (o121 P) .nil .nil)) (.node (o0 P) (.node (o0 P) .nil .nil) (.node (o142 P) .nil .nil))) (.node (o29 P) (.node (o1 P) (.node (o63 P) (.node (o173 P) .nil .nil) .nil) (.node (o131 P) .nil .nil)) (.node (o0 P) (.node (o0 P) .nil .nil) (.node (o151 P) .nil .nil))))) (.node (o2 P) (.node (o9 P) (.node (o0 P) (.node (o36 P) (.node (o76 P) (.node (o160 P) .nil .nil) .nil) (.node (o117 P) .nil .nil)) (.node (o55 P) (.node (o97 P) .nil .nil) (.node (o63 P) .nil .nil))) (.node (o27 P) (.node (o45 P) (.node (o87 P) (.node (o169 P) .nil .nil) .nil) (.node (o128 P) .nil .nil)) (.node (o0 P) (.node (o0 P) .nil .nil) (.node (o149 P) .nil .nil)))) (.node (o0 P) (.node (o22 P) (.node (o0 P) (.node (o81 P) (.node (o0 P) .nil .nil) .nil) (.node (o63 P) .nil .nil)) (.node (o0 P) (.node (o102 P) .nil .nil) (.node (o144 P) .nil .nil))) (.node (o1 P) (.node (o50 P) (.node (o92 P) .nil .nil) (.node (o133 P) .nil .nil)) (.node (o70 P) (.node (o112 P) .nil .nil) (.node (o154 P) .nil .nil))))))) (.node (boot_o_2 P) (.node (boot_o_4 P) (.node (boot_o_8 P) (.node (o1 P) (.node (o15 P) (.node (o33 P) (.node (o73 P) (.node (o157 P) .nil .nil) .nil) (.node (o0 P) .nil .nil)) (.node (o1 P) (.node (o1 P) .nil .nil) (.node (o136 P) .nil .nil))) (.node (o0 P) (.node (o43 P) (.node (o82 P) (.node (o167 P) .nil .nil) .nil) (.node (o125 P) .nil .nil)) (.node (o61 P) (.node (o105 P) .nil .nil) (.node (o146 P) .nil .nil)))) (.node (o10 P) (.node (o20 P) (.node (o38 P) (.node (o1 P) (.node (o162 P) .nil .nil) .nil) (.node (o120 P) .nil .nil)) (.node (o56 P) (.node (o98 P) .nil .nil) (.node (o141 P) .nil .nil))) (.node (o1 P) (.node (o0 P) (.node (o73 P) (.node (o172 P) .nil .nil) .nil) (.node (o130 P) .nil .nil)) (.node (o66 P) (.node (o110 P) .nil .nil) (.node (o1 P) .nil .nil))))) (.node (o5 P) (.node (o8 P) (.node (o17 P) (.node (o1 P) (.node (o75 P) (.node (o63 P) .nil .nil) .nil) (.node (o116 P) .nil .nil)) (.node (o54 P) (.node (o96 P) .nil .nil) (.node (o73 P) .nil .nil))) (.node (o26 P) (.node (o0 P) (.node (o86 P) (.node (o0 P) .nil .nil) .nil) (.node (o1 P) .nil .nil)) (.node (o64 P) (.node (o107 P) .nil .nil) (.node (o148 P) .nil .nil)))) (.node (o13 P) (.node (o0 P) (.node (o40 P) (.node (o80 P) (.node (o164 P) .nil .nil) .nil) (.node (o73 P) .nil .nil)) (.node (o59 P) (.node (o101 P) .nil .nil) (.node (o1 P) .nil .nil))) (.node (o0 P) (.node (o49 P) (.node (o91 P) (.node (o176 P) .nil .nil) .nil) (.node (o132 P) .nil .nil)) (.node (o69 P) (.node (o0 P) .nil .nil) (.node (o153 P) .nil .nil)))))) (.node (boot_o_6 P) (.node (boot_o_10 P) (.node (o0 P) (.node (o0 P) (.node (o35 P) (.node (o74 P) (.node (o159 P) .nil .nil) .nil) (.node (o115 P) .nil .nil)) (.node (o0 P) (.node (o0 P) .nil .nil) (.node (o138 P) .nil .nil))) (.node (o25 P) (.node (o1 P) (.node (o84 P) (.node (o1 P) .nil .nil) .nil) (.node (o127 P) .nil .nil)) (.node (o0 P) (.node (o73 P) .nil .nil) (.node (o0 P) .nil .nil)))) (.node (o11 P) (.node (o1 P) (.node (o0 P) (.node (o0 P) (.node (o0 P) .nil .nil) .nil) (.node (o122 P) .nil .nil)) (.node (o57 P) (.node (o99 P) .nil .nil) (.node (o143 P) .nil .nil))) (.node (o30 P) (.node (o48 P) (.node (o90 P) (.node (o174 P) .nil .nil) .nil) (.node (o0 P) .nil .nil)) (.node (o67 P) (.node (o1 P) .nil .nil) (.node (o0 P) .nil .nil))))) (.node (o3 P) (.node (o0 P) (.node (o18 P) (.node (o0 P) (.node (o77 P) (.node (o0 P) .nil .nil) .nil) (.node (o118 P) .nil .nil)) (.node (o0 P) (.node (o0 P) .nil .nil) (.node (o140 P) .nil .nil))) (.node (o28 P) (.node (o46 P) (.node (o88 P) (.node (o170 P) .nil .nil) .nil) (.node (o0 P) .nil .nil)) (.node (o1 P) (.node (o108 P) .nil .nil) (.node (o150 P) .nil .nil)))) (.node (o1 P) (.node (o23 P) (.node (o41 P) (.node (o0 P) (.node (o165 P) .nil .nil) .nil) (.node (o124 P) .nil .nil)) (.node (o1 P) (.node (o103 P) .nil .nil) (.node (o0 P) .nil .nil))) (.node (o32 P) (.node (o51 P) (.node (o93 P) .nil .nil) (.node (o134 P) .nil .nil)) (.node (o71 P) (.node (o113 P) .nil .nil) (.node (o155 P) .nil .nil))))))))
abbrev t2 (P:Params):BT:=(.node (boot_o_0 P) (.node (boot_o_1 P) (.node (o177 P) (.node (boot_o_7 P) (.node (o0 P) (.node (o14 P) (.node (o0 P) (.node (o72 P) (.node (o156 P) .nil .nil) (.node (o237 P) .nil .nil)) (.node (o114 P) (.node (o200 P) .nil .nil) (.node (o274 P) .nil .nil))) (.node (o0 P) (.node (o0 P) (.node (o180 P) .nil .nil) (.node (o0 P) .nil .nil)) (.node (o135 P) (.node (o219 P) .nil .nil) (.node (o293 P) .nil .nil)))) (.node (o24 P) (.node (o42 P) (.node (o1 P) (.node (o166 P) .nil .nil) (.node (o1 P) .nil .nil)) (.node (o0 P) (.node (o63 P) .nil .nil) (.node (o284 P) .nil .nil))) (.node (o60 P) (.node (o104 P) (.node (o190 P) .nil .nil) (.node (o0 P) .nil .nil)) (.node (o145 P) (.node (o0 P) .nil .nil) .nil)))) (.node (o1 P) (.node (o19 P) (.node (o37 P) (.node (o0 P) (.node (o161 P) .nil .nil) (.node (o242 P) .nil .nil)) (.node (o119 P) (.node (o204 P) .nil .nil) (.node (o0 P) .nil .nil))) (.node (o1 P) (.node (o1 P) (.node (o185 P) .nil .nil) (.node (o261 P) .nil .nil)) (.node (o0 P) (.node (o224 P) .nil .nil) (.node (o298 P) .nil .nil)))) (.node (o0 P) (.node (o47 P) (.node (o89 P) (.node (o171 P) .nil .nil) (.node (o251 P) .nil .nil)) (.node (o129 P) (.node (o214 P) .nil .nil) (.node (o1 P) .nil .nil))) (.node (o65 P) (.node (o109 P) (.node (o63 P) .nil .nil) (.node (o1 P) .nil .nil)) (.node (o0 P) (.node (o0 P) .nil .nil) .nil))))) (.node (o0 P) (.node (o7 P) (.node (o1 P) (.node (o0 P) (.node (o0 P) (.node (o73 P) .nil .nil) (.node (o1 P) .nil .nil)) (.node (o0 P) (.node (o63 P) .nil .nil) (.node (o1 P) .nil .nil))) (.node (o53 P) (.node (o95 P) (.node (o182 P) .nil .nil) (.node (o0 P) .nil .nil)) (.node (o139 P) (.node (o221 P) .nil .nil) (.node (o1 P) .nil .nil)))) (.node (o0 P) (.node (o44 P) (.node (o85 P) (.node (o168 P) .nil .nil) (.node (o249 P) .nil .nil)) (.node (o0 P) (.node (o211 P) .nil .nil) (.node (o286 P) .nil .nil))) (.node (o63 P) (.node (o63 P) (.node (o193 P) .nil .nil) (.node (o267 P) .nil .nil)) (.node (o1 P) (.node (o231 P) .nil .nil) .nil)))) (.node (o12 P) (.node (o21 P) (.node (o1 P) (.node (o79 P) (.node (o1 P) .nil .nil) (.node (o244 P) .nil .nil)) (.node (o123 P) (.node (o207 P) .nil .nil) (.node (o282 P) .nil .nil))) (.node (o58 P) (.node (o100 P) (.node (o63 P) .nil .nil) (.node (o0 P) .nil .nil)) (.node (o0 P) (.node (o0 P) .nil .nil) .nil))) (.node (o31 P) (.node (o0 P) (.node (o0 P) (.node (o175 P) .nil .nil) (.node (o254 P) .nil .nil)) (.node (o1 P) (.node (o1 P) .nil .nil) (.node (o0 P) .nil .nil))) (.node (o68 P) (.node (o111 P) (.node (o197 P) .nil .nil) (.node (o0 P) .nil .nil)) (.node (o152 P) (.node (o0 P) .nil .nil) .nil)))))) (.node (boot_o_5 P) (.node (boot_o_9 P) (.node (o6 P) (.node (o16 P) (.node (o34 P) (.node (o63 P) (.node (o158 P) .nil .nil) (.node (o239 P) .nil .nil)) (.node (o1 P) (.node (o202 P) .nil .nil) (.node (o276 P) .nil .nil))) (.node (o52 P) (.node (o94 P) (.node (o1 P) .nil .nil) (.node (o257 P) .nil .nil)) (.node (o137 P) (.node (o0 P) .nil .nil) (.node (o295 P) .nil .nil)))) (.node (o1 P) (.node (o0 P) (.node (o83 P) (.node (o0 P) .nil .nil) (.node (o0 P) .nil .nil)) (.node (o126 P) (.node (o0 P) .nil .nil) (.node (o0 P) .nil .nil))) (.node (o62 P) (.node (o106 P) (.node (o0 P) .nil .nil) (.node (o266 P) .nil .nil)) (.node (o147 P) (.node (o229 P) .nil .nil) .nil)))) (.node (o0 P) (.node (o0 P) (.node (o39 P) (.node (o78 P) (.node (o163 P) .nil .nil) (.node (o0 P) .nil .nil)) (.node (o121 P) (.node (o0 P) .nil .nil) (.node (o280 P) .nil .nil))) (.node (o0 P) (.node (o0 P) (.node (o187 P) .nil .nil) (.node (o1 P) .nil .nil)) (.node (o142 P) (.node (o1 P) .nil .nil) .nil))) (.node (o29 P) (.node (o1 P) (.node (o63 P) (.node (o173 P) .nil .nil) (.node (o252 P) .nil .nil)) (.node (o131 P) (.node (o216 P) .nil .nil) (.node (o290 P) .nil .nil))) (.node (o0 P) (.node (o0 P) (.node (o0 P) .nil .nil) (.node (o271 P) .nil .nil)) (.node (o151 P) (.node (o234 P) .nil .nil) .nil))))) (.node (o2 P) (.node (o9 P) (.node (o0 P) (.node (o36 P) (.node (o76 P) (.node (o160 P) .nil .nil) (.node (o0 P) .nil .nil)) (.node (o117 P) (.node (o0 P) .nil .nil) (.node (o278 P) .nil .nil))) (.node (o55 P) (.node (o97 P) (.node (o183 P) .nil .nil) (.node (o259 P) .nil .nil)) (.node (o63 P) (.node (o222 P) .nil .nil) (.node (o0 P) .nil .nil)))) (.node (o27 P) (.node (o45 P) (.node (o87 P) (.node (o169 P) .nil .nil) (.node (o0 P) .nil .nil)) (.node (o128 P) (.node (o0 P) .nil .nil) (.node (o288 P) .nil .nil))) (.node (o0 P) (.node (o0 P) (.node (o195 P) .nil .nil) (.node (o269 P) .nil .nil)) (.node (o149 P) (.node (o1 P) .nil .nil) .nil)))) (.node (o0 P) (.node (o22 P) (.node (o0 P) (.node (o81 P) (.node (o0 P) .nil .nil) (.node (o246 P) .nil .nil)) (.node (o63 P) (.node (o209 P) .nil .nil) (.node (o1 P) .nil .nil))) (.node (o0 P) (.node (o102 P) (.node (o0 P) .nil .nil) (.node (o264 P) .nil .nil)) (.node (o144 P) (.node (o227 P) .nil .nil) .nil))) (.node (o1 P) (.node (o50 P) (.node (o92 P) (.node (o179 P) .nil .nil) (.node (o1 P) .nil .nil)) (.node (o133 P) (.node (o0 P) .nil .nil) (.node (o292 P) .nil .nil))) (.node (o70 P) (.node (o112 P) (.node (o0 P) .nil .nil) (.node (o273 P) .nil .nil)) (.node (o154 P) (.node (o236 P) .nil .nil) .nil))))))) (.node (boot_o_2 P) (.node (boot_o_4 P) (.node (boot_o_8 P) (.node (o1 P) (.node (o15 P) (.node (o33 P) (.node (o73 P) (.node (o157 P) .nil .nil) (.node (o238 P) .nil .nil)) (.node (o0 P) (.node (o201 P) .nil .nil) (.node (o275 P) .nil .nil))) (.node (o1 P) (.node (o1 P) (.node (o0 P) .nil .nil) (.node (o256 P) .nil .nil)) (.node (o136 P) (.node (o220 P) .nil .nil) (.node (o294 P) .nil .nil)))) (.node (o0 P) (.node (o43 P) (.node (o82 P) (.node (o167 P) .nil .nil) (.node (o247 P) .nil .nil)) (.node (o125 P) (.node (o210 P) .nil .nil) (.node (o285 P) .nil .nil))) (.node (o61 P) (.node (o105 P) (.node (o191 P) .nil .nil) (.node (o1 P) .nil .nil)) (.node (o146 P) (.node (o1 P) .nil .nil) .nil)))) (.node (o10 P) (.node (o20 P) (.node (o38 P) (.node (o1 P) (.node (o162 P) .nil .nil) (.node (o243 P) .nil .nil)) (.node (o120 P) (.node (o205 P) .nil .nil) (.node (o1 P) .nil .nil))) (.node (o56 P) (.node (o98 P) (.node (o186 P) .nil .nil) (.node (o0 P) .nil .nil)) (.node (o141 P) (.node (o0 P) .nil .nil) (.node (o299 P) .nil .nil)))) (.node (o1 P) (.node (o0 P) (.node (o73 P) (.node (o172 P) .nil .nil) (.node (o0 P) .nil .nil)) (.node (o130 P) (.node (o215 P) .nil .nil) (.node (o289 P) .nil .nil))) (.node (o66 P) (.node (o110 P) (.node (o196 P) .nil .nil) (.node (o270 P) .nil .nil)) (.node (o1 P) (.node (o233 P) .nil .nil) .nil))))) (.node (o178 P) (.node (o8 P) (.node (o17 P) (.node (o1 P) (.node (o75 P) (.node (o63 P) .nil .nil) (.node (o240 P) .nil .nil)) (.node (o116 P) (.node (o203 P) .nil .nil) (.node (o277 P) .nil .nil))) (.node (o54 P) (.node (o96 P) (.node (o0 P) .nil .nil) (.node (o1 P) .nil .nil)) (.node (o73 P) (.node (o0 P) .nil .nil) (.node (o296 P) .nil .nil)))) (.node (o26 P) (.node (o0 P) (.node (o86 P) (.node (o0 P) .nil .nil) (.node (o250 P) .nil .nil)) (.node (o1 P) (.node (o212 P) .nil .nil) (.node (o287 P) .nil .nil))) (.node (o64 P) (.node (o107 P) (.node (o194 P) .nil .nil) (.node (o268 P) .nil .nil)) (.node (o148 P) (.node (o0 P) .nil .nil) .nil)))) (.node (o13 P) (.node (o0 P) (.node (o40 P) (.node (o80 P) (.node (o164 P) .nil .nil) (.node (o245 P) .nil .nil)) (.node (o73 P) (.node (o208 P) .nil .nil) (.node (o0 P) .nil .nil))) (.node (o59 P) (.node (o101 P) (.node (o189 P) .nil .nil) (.node (o263 P) .nil .nil)) (.node (o1 P) (.node (o226 P) .nil .nil) .nil))) (.node (o0 P) (.node (o49 P) (.node (o91 P) (.node (o176 P) .nil .nil) (.node (o0 P) .nil .nil)) (.node (o132 P) (.node (o217 P) .nil .nil) (.node (o1 P) .nil .nil))) (.node (o69 P) (.node (o0 P) (.node (o198 P) .nil .nil) (.node (o1 P) .nil .nil)) (.node (o153 P) (.node (o1 P) .nil .nil) .nil)))))) (.node (boot_o_6 P) (.node (boot_o_10 P) (.node (o0 P) (.node (o0 P) (.node (o35 P) (.node (o74 P) (.node (o159 P) .nil .nil) (.node (o0 P) .nil .nil)) (.node (o115 P) (.node (o188 P) .nil .nil) (.node (o0 P) .nil .nil))) (.node (o0 P) (.node (o0 P) (.node (o181 P) .nil .nil) (.node (o258 P) .nil .nil)) (.node (o138 P) (.node (o1 P) .nil .nil) (.node (o0 P) .nil .nil)))) (.node (o25 P) (.node (o1 P) (.node (o84 P) (.node (o1 P) .nil .nil) (.node (o248 P) .nil .nil)) (.node (o127 P) (.node (o1 P) .nil .nil) (.node (o1 P) .nil .nil))) (.node (o0 P) (.node (o73 P) (.node (o192 P) .nil .nil) (.node (o0 P) .nil .nil)) (.node (o0 P) (.node (o230 P) .nil .nil) .nil)))) (.node (o11 P) (.node (o1 P) (.node (o0 P) (.node (o0 P) (.node (o0 P) .nil .nil) (.node (o1 P) .nil .nil)) (.node (o122 P) (.node (o206 P) .nil .nil) (.node (o281 P) .nil .nil))) (.node (o57 P) (.node (o99 P) (.node (o188 P) .nil .nil) (.node (o262 P) .nil .nil)) (.node (o143 P) (.node (o225 P) .nil .nil) .nil))) (.node (o30 P) (.node (o48 P) (.node (o90 P) (.node (o174 P) .nil .nil) (.node (o253 P) .nil .nil)) (.node (o0 P) (.node (o0 P) .nil .nil) (.node (o291 P) .nil .nil))) (.node (o67 P) (.node (o1 P) (.node (o1 P) .nil .nil) (.node (o272 P) .nil .nil)) (.node (o0 P) (.node (o235 P) .nil .nil) .nil))))) (.node (o3 P) (.node (o0 P) (.node (o18 P) (.node (o0 P) (.node (o77 P) (.node (o0 P) .nil .nil) (.node (o241 P) .nil .nil)) (.node (o118 P) (.node (o1 P) .nil .nil) (.node (o279 P) .nil .nil))) (.node (o0 P) (.node (o0 P) (.node (o184 P) .nil .nil) (.node (o260 P) .nil .nil)) (.node (o140 P) (.node (o223 P) .nil .nil) (.node (o297 P) .nil .nil)))) (.node (o28 P) (.node (o46 P) (.node (o88 P) (.node (o170 P) .nil .nil) (.node (o1 P) .nil .nil)) (.node (o0 P) (.node (o213 P) .nil .nil) (.node (o0 P) .nil .nil))) (.node (o1 P) (.node (o108 P) (.node (o188 P) .nil .nil) (.node (o0 P) .nil .nil)) (.node (o150 P) (.node (o232 P) .nil .nil) .nil)))) (.node (o1 P) (.node (o23 P) (.node (o41 P) (.node (o0 P) (.node (o165 P) .nil .nil) (.node (o0 P) .nil .nil)) (.node (o124 P) (.node (o188 P) .nil .nil) (.node (o283 P) .nil .nil))) (.node (o1 P) (.node (o103 P) (.node (o1 P) .nil .nil) (.node (o265 P) .nil .nil)) (.node (o0 P) (.node (o228 P) .nil .nil) .nil))) (.node (o32 P) (.node (o51 P) (.node (o93 P) (.node (o63 P) .nil .nil) (.node (o255 P) .nil .nil)) (.node (o134 P) (.node (o218 P) .nil .nil) (.node (o0 P) .nil .nil))) (.node (o71 P) (.node (o113 P) (.node (o199 P) .nil .nil) (.node (o0 P) .nil .nil)) (.node (o155 P) (.node (o0 P) .nil .nil) .nil))))))))
abbrev hf (P:Params):Heap:=⟨⟨((boot_o_0 P) :: (boot_o_1 P) :: (boot_o_2 P) :: (o177 P) :: (boot_o_4 P) :: (boot_o_5 P) :: (boot_o_6 P) :: (boot_o_7 P) :: (boot_o_8 P) :: (boot_o_9 P) :: (boot_o_10 P) :: (o0 P) :: (o178 P) :: (o2 P) :: (o3 P) :: (o0 P) :: (o1 P) :: (o6 P) :: (o0 P) :: (o7 P) :: (o8 P) :: (o9 P) :: (o0 P) :: (o1 P) :: (o10 P) :: (o0 P) :: (o11 P) :: (o12 P) :: (o13 P) :: (o0 P) :: (o1 P) :: (o14 P) :: (o15 P) :: (o16 P) :: (o0 P) :: (o1 P) :: (o17 P) :: (o0 P) :: (o18 P) :: (o19 P) :: (o20 P) :: (o0 P) :: (o1 P) :: (o21 P) :: (o0 P) :: (o22 P) :: (o23 P) :: (o24 P) :: (o0 P) :: (o1 P) :: (o25 P) :: (o0 P) :: (o26 P) :: (o27 P) :: (o28 P) :: (o0 P) :: (o1 P) :: (o29 P) :: (o30 P) :: (o31 P) :: (o0 P) :: (o1 P) :: (o32 P) :: (o0 P) :: (o33 P) :: (o34 P) :: (o35 P) :: (o0 P) :: (o1 P) :: (o36 P) :: (o0 P) :: (o37 P) :: (o38 P) :: (o39 P) :: (o0 P) :: (o1 P) :: (o40 P) :: (o0 P) :: (o41 P) :: (o42 P) :: (o43 P) :: (o0 P) :: (o1 P) :: (o44 P) :: (o0 P) :: (o45 P) :: (o46 P) :: (o47 P) :: (o0 P) :: (o1 P) :: (o48 P) :: (o0 P) :: (o49 P) :: (o50 P) :: (o51 P) :: (o0 P) :: (o1 P) :: (o52 P) :: (o0 P) :: (o53 P) :: (o54 P) :: (o55 P) :: (o0 P) :: (o1 P) :: (o56 P) :: (o0 P) :: (o57 P) :: (o58 P) :: (o59 P) :: (o0 P) :: (o1 P) :: (o60 P) :: (o61 P) :: (o62 P) :: (o0 P) :: (o63 P) :: (o64 P) :: (o0 P) :: (o1 P) :: (o65 P) :: (o66 P) :: (o0 P) :: (o67 P) :: (o68 P) :: (o69 P) :: (o70 P) :: (o71 P) :: (o72 P) :: (o73 P) :: (o63 P) :: (o74 P) :: (o0 P) :: (o75 P) :: (o76 P) :: (o77 P) :: (o0 P) :: (o1 P) :: (o78 P) :: (o0 P) :: (o79 P) :: (o80 P) :: (o81 P) :: (o0 P) :: (o1 P) :: (o82 P) :: (o83 P) :: (o84 P) :: (o85 P) :: (o86 P) :: (o87 P) :: (o88 P) :: (o89 P) :: (o73 P) :: (o63 P) :: (o90 P) :: (o0 P) :: (o91 P) :: (o92 P) :: (o93 P) :: (o0 P) :: (o1 P) :: (o94 P) :: (o0 P) :: (o95 P) :: (o96 P) :: (o97 P) :: (o0 P) :: (o1 P) :: (o98 P) :: (o0 P) :: (o99 P) :: (o100 P) :: (o101 P) :: (o102 P) :: (o103 P) :: (o104 P) :: (o105 P) :: (o106 P) :: (o73 P) :: (o63 P) :: (o107 P) :: (o0 P) :: (o108 P) :: (o109 P) :: (o110 P) :: (o0 P) :: (o1 P) :: (o111 P) :: (o0 P) :: (o112 P) :: (o113 P) :: (o114 P) :: (o0 P) :: (o1 P) :: (o115 P) :: (o0 P) :: (o116 P) :: (o117 P) :: (o118 P) :: (o119 P) :: (o120 P) :: (o121 P) :: (o122 P) :: (o123 P) :: (o73 P) :: (o63 P) :: (o124 P) :: (o0 P) :: (o125 P) :: (o126 P) :: (o127 P) :: (o0 P) :: (o1 P) :: (o128 P) :: (o0 P) :: (o129 P) :: (o130 P) :: (o131 P) :: (o0 P) :: (o1 P) :: (o132 P) :: (o133 P) :: (o134 P) :: (o135 P) :: (o136 P) :: (o137 P) :: (o138 P) :: (o139 P) :: (o73 P) :: (o63 P) :: (o140 P) :: (o0 P) :: (o141 P) :: (o142 P) :: (o143 P) :: (o0 P) :: (o1 P) :: (o144 P) :: (o0 P) :: (o145 P) :: (o146 P) :: (o147 P) :: (o0 P) :: (o1 P) :: (o148 P) :: (o149 P) :: (o150 P) :: (o0 P) :: (o1 P) :: (o151 P) :: (o0 P) :: (o152 P) :: (o153 P) :: (o154 P) :: (o155 P) :: (o156 P) :: (o157 P) :: (o158 P) :: (o159 P) :: (o73 P) :: (o63 P) :: (o160 P) :: (o0 P) :: (o161 P) :: (o162 P) :: (o163 P) :: (o0 P) :: (o1 P) :: (o164 P) :: (o0 P) :: (o165 P) :: (o166 P) :: (o167 P) :: (o0 P) :: (o1 P) :: (o168 P) :: (o0 P) :: (o169 P) :: (o170 P) :: (o171 P) :: (o172 P) :: (o173 P) :: (o174 P) :: (o175 P) :: (o176 P) :: (o179 P) :: (o63 P) :: (o180 P) :: (o0 P) :: (o1 P) :: (o181 P) :: (o182 P) :: (o0 P) :: (o183 P) :: (o184 P) :: (o185 P) :: (o186 P) :: (o187 P) :: (o188 P) :: (o63 P) :: (o189 P) :: (o0 P) :: (o1 P) :: (o190 P) :: (o191 P) :: (o0 P) :: (o192 P) :: (o193 P) :: (o194 P) :: (o195 P) :: (o188 P) :: (o63 P) :: (o196 P) :: (o0 P) :: (o1 P) :: (o197 P) :: (o198 P) :: (o0 P) :: (o199 P) :: (o200 P) :: (o201 P) :: (o202 P) :: (o188 P) :: (o63 P) :: (o203 P) :: (o0 P) :: (o1 P) :: (o204 P) :: (o205 P) :: (o0 P) :: (o206 P) :: (o207 P) :: (o208 P) :: (o209 P) :: (o188 P) :: (o63 P) :: (o210 P) :: (o0 P) :: (o1 P) :: (o211 P) :: (o212 P) :: (o0 P) :: (o213 P) :: (o214 P) :: (o215 P) :: (o216 P) :: (o0 P) :: (o1 P) :: (o217 P) :: (o0 P) :: (o218 P) :: (o219 P) :: (o220 P) :: (o0 P) :: (o1 P) :: (o221 P) :: (o0 P) :: (o222 P) :: (o223 P) :: (o224 P) :: (o0 P) :: (o1 P) :: (o225 P) :: (o0 P) :: (o226 P) :: (o227 P) :: (o228 P) :: (o0 P) :: (o1 P) :: (o229 P) :: (o230 P) :: (o231 P) :: (o0 P) :: (o1 P) :: (o232 P) :: (o0 P) :: (o233 P) :: (o234 P) :: (o235 P) :: (o0 P) :: (o1 P) :: (o236 P) :: (o0 P) :: (o237 P) :: (o238 P) :: (o239 P) :: (o0 P) :: (o1 P) :: (o240 P) :: (o0 P) :: (o241 P) :: (o242 P) :: (o243 P) :: (o0 P) :: (o1 P) :: (o244 P) :: (o245 P) :: (o246 P) :: (o0 P) :: (o1 P) :: (o247 P) :: (o0 P) :: (o248 P) :: (o249 P) :: (o250 P) :: (o0 P) :: (o1 P) :: (o251 P) :: (o0 P) :: (o252 P) :: (o253 P) :: (o254 P) :: (o0 P) :: (o1 P) :: (o255 P) :: (o0 P) :: (o256 P) :: (o257 P) :: (o258 P) :: (o0 P) :: (o1 P) :: (o259 P) :: (o260 P) :: (o261 P) :: (o0 P) :: (o1 P) :: (o262 P) :: (o0 P) :: (o263 P) :: (o264 P) :: (o265 P) :: (o0 P) :: (o1 P) :: (o266 P) :: (o0 P) :: (o267 P) :: (o268 P) :: (o269 P) :: (o0 P) :: (o1 P) :: (o270 P) :: (o271 P) :: (o272 P) :: (o0 P) :: (o1 P) :: (o273 P) :: (o0 P) :: (o274 P) :: (o275 P) :: (o276 P) :: (o0 P) :: (o1 P) :: (o277 P) :: (o278 P) :: (o279 P) :: (o0 P) :: (o1 P) :: (o280 P) :: (o281 P) :: (o282 P) :: (o0 P) :: (o1 P) :: (o283 P) :: (o284 P) :: (o285 P) :: (o0 P) :: (o1 P) :: (o286 P) :: (o287 P) :: (o288 P) :: (o0 P) :: (o1 P) :: (o289 P) :: (o290 P) :: (o291 P) :: (o0 P) :: (o1 P) :: (o292 P) :: (o0 P) :: (o293 P) :: (o294 P) :: (o295 P) :: (o0 P) :: (o1 P) :: (o296 P) :: (o0 P) :: (o297 P) :: (o298 P) :: (o299 P) :: [])⟩,{}⟩
abbrev b':List Stmt:=behindTheImports p'
abbrev env':Env:={ scope:=p'.main.scope,locals:=mainNs,globals:=mainNs,cells:=[],code:=(vr 13),frame:=some 14 }
abbrev cE:Code:=.body b' env'
abbrev qp:Pos:=⟨0,0,0,0⟩
abbrev B:List Frame:=[topFrame qp]
abbrev ann:Option Value:=(some (.ref 6))
abbrev s0:List Stmt:=(b'.drop 0).take 27
abbrev s1:List Stmt:=(b'.drop 27).take 31
set_option maxRecDepth 100000 in
theorem pre0 (w:World):(fun os=>PySem.W.Fast.tw15667345088766844465 PySem.W.Fast.tw14364793385576792824 p' w 11 ann 12 (⟨boot_heap w.params,⟨[]⟩,boot_drawn,boot_toks,os⟩:Shared) (topStub p')) = fun os=>some ((⟨ha w.params,⟨[]⟩,{},187,os⟩:Shared),(⟨PySem.W.Fast.tw11892475500146522536 PySem.W.Fast.tw14364793385576792824 cE,cE,⟨0,0,0,0⟩,B⟩:Thread)):=by kernel_rfl
set_option maxRecDepth 100000 in
theorem blk0 (w:World):(fun os=>PySem.W.Fast.tw14374325043358763698 PySem.W.Fast.tw14364793385576792824 p' w 11 ann (nat_lit 1) 1 (⟨ha w.params,⟨[]⟩,{},187,os⟩:Shared) (blockOf b' env' cE ⟨0,0,0,0⟩ B)) = fun os=>some (Flow.next,SharedT.abs ⟨t0 w.params,15,{},⟨[]⟩,{},187,os⟩,cE,⟨0,0,0,0⟩):=by kernel_rfl
set_option maxRecDepth 100000 in
theorem q0 (w:World):(fun os=>PySem.W.Fast.tw10110043849684766642 PySem.W.Fast.tw14364793385576792824 p' w 11 ann (nat_lit 1) 2376 ⟨t0 w.params,15,{},⟨[]⟩,{},187,os⟩ (piecesOf s0 env' cE ⟨0,0,0,0⟩ B)) = fun os=>some (Flow.next,⟨t1 w.params,285,{},⟨[]⟩,{},551,os⟩,cE,⟨128,0,128,8⟩):=by kernel_rfl
set_option maxRecDepth 100000 in
theorem q1 (w:World):(fun os=>PySem.W.Fast.tw10110043849684766642 PySem.W.Fast.tw14364793385576792824 p' w 11 ann (nat_lit 1) 1749 ⟨t1 w.params,285,{},⟨[]⟩,{},551,os⟩ (piecesOf s1 env' cE ⟨128,0,128,8⟩ B)) = fun os=>some (Flow.next,⟨t2 w.params,489,{},⟨[]⟩,{},834,os⟩,cE,⟨339,0,350,15⟩):=by kernel_rfl
set_option maxRecDepth 100000 in
theorem fin0 (w:World):(fun os=>PySem.W.Fast.tw14082659384304107361 PySem.W.Fast.tw14364793385576792824 p' w 11 ann 2 (SharedT.abs ⟨t2 w.params,489,{},⟨[]⟩,{},834,os⟩) ⟨doneF Flow.next,cE,⟨339,0,350,15⟩,B⟩) = fun os=>some (⟨hf w.params,⟨[]⟩,{},834,os⟩:Shared):=by kernel_rfl
set_option maxRecDepth 100000 in
theorem bsplit:b' = s0 ++ (s1 ++ ([])):=by kernel_rfl
theorem fin1 (w:World) (os:OsState):topRun treeTable p' w 11 ann 2 (SharedT.abs ⟨t2 w.params,489,{},⟨[]⟩,{},834,os⟩) (restOf [] env' cE ⟨339,0,350,15⟩ B) = some (⟨hf w.params,⟨[]⟩,{},834,os⟩:Shared):=by
  have h:=congrFun (fin0 w) os
  rw [← PySem.W.Fast.te14082659384304107361,← PySem.W.Fast.te14364793385576792824] at h
  exact h
theorem u1 (w:World) (os:OsState):topRun treeTable p' w 11 ann (1749 + 2) (SharedT.abs ⟨t1 w.params,285,{},⟨[]⟩,{},551,os⟩) (restOf (s1 ++ ([])) env' cE ⟨128,0,128,8⟩ B) = some (⟨hf w.params,⟨[]⟩,{},834,os⟩:Shared):=by
  have h:=congrFun (q1 w) os
  rw [← PySem.W.Fast.te10110043849684766642,← PySem.W.Fast.te14364793385576792824] at h
  exact piece_app (segRun_of h) (fin1 w os)
theorem u0 (w:World) (os:OsState):topRun treeTable p' w 11 ann (2376 + (1749 + 2)) (SharedT.abs ⟨t0 w.params,15,{},⟨[]⟩,{},187,os⟩) (restOf (s0 ++ (s1 ++ ([]))) env' cE ⟨0,0,0,0⟩ B) = some (⟨hf w.params,⟨[]⟩,{},834,os⟩:Shared):=by
  have h:=congrFun (q0 w) os
  rw [← PySem.W.Fast.te10110043849684766642,← PySem.W.Fast.te14364793385576792824] at h
  exact piece_app (segRun_of h) (u1 w os)
theorem ub (w:World) (os:OsState):topRun treeTable p' w 11 ann (1 + (2376 + (1749 + 2))) (⟨ha w.params,⟨[]⟩,{},187,os⟩:Shared) ⟨denote treeTable (.body b' env'),cE,⟨0,0,0,0⟩,B⟩ = some (⟨hf w.params,⟨[]⟩,{},834,os⟩:Shared):=by
  have h:=congrFun (blk0 w) os
  rw [← PySem.W.Fast.te14374325043358763698,← PySem.W.Fast.te14364793385576792824] at h
  have e:restOf b' env' cE ⟨0,0,0,0⟩ B = restOf (s0 ++ (s1 ++ ([]))) env' cE ⟨0,0,0,0⟩ B:=congrArg (fun l=>restOf l env' cE ⟨0,0,0,0⟩ B) bsplit
  have k:=u0 w os
  rw [← e] at k
  exact piece_block h k
theorem run (w:World) (os:OsState):topRun treeTable p' w 11 ann (12 + (1 + (2376 + (1749 + 2)))) (⟨boot_heap w.params,⟨[]⟩,boot_drawn,boot_toks,os⟩:Shared) (topStub p') = some (⟨hf w.params,⟨[]⟩,{},834,os⟩:Shared):=by
  have h:=congrFun (pre0 w) os
  rw [← PySem.W.Fast.te15667345088766844465,← PySem.W.Fast.te11892475500146522536,← PySem.W.Fast.te14364793385576792824] at h
  exact go_top h (ub w os)
def viewOf (p:Program):Program:={ p with main:={ p.main with body:=[tpOf p 1,tpOf p 2,tpOf p 3,tpOf p 4,tpOf p 5,tpOf p 6,tpOf p 7,tpOf p 8,tpOf p 9,tpOf p 10,tpOf p 11,tpOf p 12,tpOf p 13,tpOf p 14,tpOf p 15,tpOf p 16,tpOf p 18,tpOf p 19,tpOf p 20,tpOf p 21,tpOf p 22,tpOf p 23,tpOf p 24,tpOf p 25,tpOf p 27,tpOf p 28,tpOf p 29,tpOf p 30,tpOf p 31,tpOf p 33,tpOf p 34,tpOf p 35,tpOf p 36,tpOf p 37,tpOf p 39,tpOf p 40,tpOf p 41,tpOf p 43,tpOf p 44,tpOf p 45,tpOf p 46,tpOf p 47,tpOf p 48,tpOf p 49,tpOf p 50,tpOf p 51,tpOf p 52,tpOf p 53,tpOf p 54,tpOf p 55,tpOf p 56,tpOf p 57] } }
abbrev K (P:Params):Frag:=(nat_lit 2,⟨.none,none,(.dict #[] 0),#[]⟩)
  :: (nat_lit 3,⟨(.type "dict"),none,(.dict (List.toArray ((⟨PyData.keyHash P (S "__name__"),(.str (S "__name__") 165),(.str (S "law_wheelrow_k06_answers_by_hand") 711)⟩) :: (⟨PyData.keyHash P (S "__doc__"),(.str (S "__doc__") 166),.none⟩) :: (⟨PyData.keyHash P (S "__package__"),(.str (S "__package__") 167),.none⟩) :: (⟨PyData.keyHash P (S "__loader__"),(.str (S "__loader__") 168),(.builtin "__main__.__loader__#opaque")⟩) :: (⟨PyData.keyHash P (S "__spec__"),(.str (S "__spec__") 169),.none⟩) :: (⟨PyData.keyHash P (S "__annotations__"),(.str (S "__annotations__") 170),(.ref 6)⟩) :: (⟨PyData.keyHash P (S "__builtins__"),(.str (S "__builtins__") 171),(.ref 4)⟩) :: (⟨PyData.keyHash P (S "__file__"),(.str (S "__file__") 173),(.str (S "/claim/cut.py") 172)⟩) :: (⟨PyData.keyHash P (S "__cached__"),(.str (S "__cached__") 174),.none⟩) :: (⟨PyData.keyHash P (S "GREATEST_ROUND"),(.str (S "GREATEST_ROUND") 190),(.int 1000000 189)⟩) :: (⟨PyData.keyHash P (S "GREATEST_NUMBER"),(.str (S "GREATEST_NUMBER") 192),(.int 1000000 191)⟩) :: (⟨PyData.keyHash P (S "is_whole"),(.str (S "is_whole") 199),(.ref 21)⟩) :: (⟨PyData.keyHash P (S "is_number"),(.str (S "is_number") 206),(.ref 28)⟩) :: (⟨PyData.keyHash P (S "are_numbers"),(.str (S "are_numbers") 212),(.ref 33)⟩) :: (⟨PyData.keyHash P (S "is_round"),(.str (S "is_round") 219),(.ref 40)⟩) :: (⟨PyData.keyHash P (S "is_rest"),(.str (S "is_rest") 227),(.ref 47)⟩) :: (⟨PyData.keyHash P (S "is_rest_pair"),(.str (S "is_rest_pair") 234),(.ref 54)⟩) :: (⟨PyData.keyHash P (S "are_rests"),(.str (S "are_rests") 240),(.ref 59)⟩) :: (⟨PyData.keyHash P (S "goes_into"),(.str (S "goes_into") 248),(.ref 66)⟩) :: (⟨PyData.keyHash P (S "leaves"),(.str (S "leaves") 257),(.ref 73)⟩) :: (⟨PyData.keyHash P (S "common_part_of_two"),(.str (S "common_part_of_two") 268),(.ref 80)⟩) :: (⟨PyData.keyHash P (S "part_with_times"),(.str (S "part_with_times") 284),(.ref 87)⟩) :: (⟨PyData.keyHash P (S "turned_back"),(.str (S "turned_back") 292),(.ref 94)⟩) :: (⟨PyData.keyHash P (S "common_part"),(.str (S "common_part") 301),(.ref 101)⟩) :: (⟨PyData.keyHash P (S "common_turn"),(.str (S "common_turn") 310),(.ref 108)⟩) :: (⟨PyData.keyHash P (S "all_together"),(.str (S "all_together") 318),(.ref 113)⟩) :: (⟨PyData.keyHash P (S "Answer"),(.str (S "Answer") 338),(.ref 123)⟩) :: (⟨PyData.keyHash P (S "Number"),(.str (S "Number") 371),(.ref 149)⟩) :: (⟨PyData.keyHash P (S "Clash"),(.str (S "Clash") 408),(.ref 175)⟩) :: (⟨PyData.keyHash P (S "Common"),(.str (S "Common") 443),(.ref 201)⟩) :: (⟨PyData.keyHash P (S "Times"),(.str (S "Times") 474),(.ref 225)⟩) :: (⟨PyData.keyHash P (S "Bar"),(.str (S "Bar") 514),(.ref 256)⟩) :: (⟨PyData.keyHash P (S "Back"),(.str (S "Back") 548),(.ref 282)⟩) :: (⟨PyData.keyHash P (S "RestError"),(.str (S "RestError") 568),(.ref 294)⟩) :: (⟨PyData.keyHash P (S "BadRests"),(.str (S "BadRests") 584),(.ref 307)⟩) :: (⟨PyData.keyHash P (S "BadNumbers"),(.str (S "BadNumbers") 600),(.ref 319)⟩) :: (⟨PyData.keyHash P (S "BadRound"),(.str (S "BadRound") 616),(.ref 331)⟩) :: (⟨PyData.keyHash P (S "BadRest"),(.str (S "BadRest") 632),(.ref 343)⟩) :: (⟨PyData.keyHash P (S "common"),(.str (S "common") 641),(.ref 352)⟩) :: (⟨PyData.keyHash P (S "common_of"),(.str (S "common_of") 652),(.ref 359)⟩) :: (⟨PyData.keyHash P (S "times_of"),(.str (S "times_of") 662),(.ref 366)⟩) :: (⟨PyData.keyHash P (S "come"),(.str (S "come") 668),(.ref 371)⟩) :: (⟨PyData.keyHash P (S "back"),(.str (S "back") 677),(.ref 378)⟩) :: (⟨PyData.keyHash P (S "told"),(.str (S "told") 690),(.ref 385)⟩) :: (⟨PyData.keyHash P (S "joined"),(.str (S "joined") 704),(.ref 392)⟩) :: (⟨PyData.keyHash P (S "clash_with_earlier"),(.str (S "clash_with_earlier") 710),(.ref 397)⟩) :: (⟨PyData.keyHash P (S "_law_cell_at"),(.str (S "_law_cell_at") 720),(.ref 404)⟩) :: (⟨PyData.keyHash P (S "_law_draw"),(.str (S "_law_draw") 730),(.ref 411)⟩) :: (⟨PyData.keyHash P (S "_law_turns"),(.str (S "_law_turns") 741),(.ref 418)⟩) :: (⟨PyData.keyHash P (S "_law_rests"),(.str (S "_law_rests") 747),(.ref 423)⟩) :: (⟨PyData.keyHash P (S "_law_part"),(.str (S "_law_part") 755),(.ref 430)⟩) :: (⟨PyData.keyHash P (S "_law_whole"),(.str (S "_law_whole") 762),(.ref 437)⟩) :: (⟨PyData.keyHash P (S "_law_numbers"),(.str (S "_law_numbers") 768),(.ref 442)⟩) :: (⟨PyData.keyHash P (S "_law_says"),(.str (S "_law_says") 776),(.ref 449)⟩) :: (⟨PyData.keyHash P (S "_law_row"),(.str (S "_law_row") 782),(.ref 454)⟩) :: (⟨PyData.keyHash P (S "_law_rests_right"),(.str (S "_law_rests_right") 788),(.ref 459)⟩) :: (⟨PyData.keyHash P (S "_law_bent"),(.str (S "_law_bent") 794),(.ref 464)⟩) :: (⟨PyData.keyHash P (S "_law_parts_right"),(.str (S "_law_parts_right") 800),(.ref 469)⟩) :: (⟨PyData.keyHash P (S "_law_comes_right"),(.str (S "_law_comes_right") 806),(.ref 474)⟩) :: (⟨PyData.keyHash P (S "_law_backs_right"),(.str (S "_law_backs_right") 821),(.ref 481)⟩) :: (⟨PyData.keyHash P (S "law"),(.str (S "law") 833),(.ref 488)⟩) :: [])) 61),#[]⟩)
  :: (nat_lit 15,⟨(.type "tuple"),none,(.seq #[] 0),#[]⟩)
  :: (nat_lit 17,⟨(.type "tuple"),none,(.seq #[(.str (S "value") 196)] 0),#[]⟩)
  :: (nat_lit 18,⟨(.type "tuple"),none,(.seq #[] 0),#[]⟩)
  :: (nat_lit 20,⟨(.type "code"),none,(.fields #[(.str (S "is_whole") 193),(.str (S "is_whole") 194),(.str (S "/claim/cut.py") 195),(.int 4 0),(.int 1 0),(.int 0 0),(.int 0 0),(.int 3 0),(.ref 15),(.bool true),(.int 181 0),(.ref 16),.none,(.ref 17),(.ref 18),(.ref 19),(.int 197 0),(.int 4 0),(.str (S "/claim/cut.py") 198)]),#[]⟩)
  :: (nat_lit 21,⟨(.type "function"),none,(.func ⟨(S "is_whole"),(S "is_whole"),(L2.defArgs (W06.top 3)),.stmts (L2.defBody (W06.top 3)),(L2.defScope (W06.top 3)),3,[],.none,.none,.none,(.str (S "wheelrow.numbers") 187),none,(.ref 20),.none,0⟩),#[]⟩)
  :: (nat_lit 22,⟨(.type "tuple"),none,(.seq #[] 0),#[]⟩)
  :: (nat_lit 24,⟨(.type "tuple"),none,(.seq #[(.str (S "value") 203)] 0),#[]⟩)
  :: (nat_lit 25,⟨(.type "tuple"),none,(.seq #[] 0),#[]⟩)
  :: (nat_lit 27,⟨(.type "code"),none,(.fields #[(.str (S "is_number") 200),(.str (S "is_number") 201),(.str (S "/claim/cut.py") 202),(.int 6 0),(.int 1 0),(.int 0 0),(.int 0 0),(.int 3 0),(.ref 22),(.bool true),(.int 181 0),(.ref 23),.none,(.ref 24),(.ref 25),(.ref 26),(.int 204 0),(.int 6 0),(.str (S "/claim/cut.py") 205)]),#[]⟩)
  :: (nat_lit 28,⟨(.type "function"),none,(.func ⟨(S "is_number"),(S "is_number"),(L2.defArgs (W06.top 4)),.stmts (L2.defBody (W06.top 4)),(L2.defScope (W06.top 4)),3,[],.none,.none,.none,(.str (S "wheelrow.numbers") 187),none,(.ref 27),.none,0⟩),#[]⟩)
  :: (nat_lit 29,⟨(.type "tuple"),none,(.seq #[] 0),#[]⟩)
  :: (nat_lit 32,⟨(.type "code"),none,(.fields #[(.str (S "are_numbers") 207),(.str (S "are_numbers") 208),(.str (S "/claim/cut.py") 209),(.int 8 0),(.int 1 0),(.int 0 0),(.int 0 0),(.int 3 0),(.ref 29),(.bool true),(.int 181 0),(.ref 30),.none,.none,.none,(.ref 31),(.int 210 0),(.int 8 0),(.str (S "/claim/cut.py") 211)]),#[]⟩)
  :: (nat_lit 33,⟨(.type "function"),none,(.func ⟨(S "are_numbers"),(S "are_numbers"),(L2.defArgs (W06.top 5)),.stmts (L2.defBody (W06.top 5)),(L2.defScope (W06.top 5)),3,[],.none,.none,.none,(.str (S "wheelrow.numbers") 187),none,(.ref 32),.none,0⟩),#[]⟩)
  :: (nat_lit 34,⟨(.type "tuple"),none,(.seq #[] 0),#[]⟩)
  :: (nat_lit 36,⟨(.type "tuple"),none,(.seq #[(.str (S "value") 216)] 0),#[]⟩)
  :: (nat_lit 37,⟨(.type "tuple"),none,(.seq #[] 0),#[]⟩)
  :: (nat_lit 39,⟨(.type "code"),none,(.fields #[(.str (S "is_round") 213),(.str (S "is_round") 214),(.str (S "/claim/cut.py") 215),(.int 10 0),(.int 1 0),(.int 0 0),(.int 0 0),(.int 3 0),(.ref 34),(.bool true),(.int 181 0),(.ref 35),.none,(.ref 36),(.ref 37),(.ref 38),(.int 217 0),(.int 10 0),(.str (S "/claim/cut.py") 218)]),#[]⟩)
  :: (nat_lit 40,⟨(.type "function"),none,(.func ⟨(S "is_round"),(S "is_round"),(L2.defArgs (W06.top 6)),.stmts (L2.defBody (W06.top 6)),(L2.defScope (W06.top 6)),3,[],.none,.none,.none,(.str (S "wheelrow.numbers") 187),none,(.ref 39),.none,0⟩),#[]⟩)
  :: (nat_lit 41,⟨(.type "tuple"),none,(.seq #[] 0),#[]⟩)
  :: (nat_lit 43,⟨(.type "tuple"),none,(.seq #[(.str (S "value") 223),(.str (S "turn") 224)] 0),#[]⟩)
  :: (nat_lit 44,⟨(.type "tuple"),none,(.seq #[] 0),#[]⟩)
  :: (nat_lit 46,⟨(.type "code"),none,(.fields #[(.str (S "is_rest") 220),(.str (S "is_rest") 221),(.str (S "/claim/cut.py") 222),(.int 12 0),(.int 2 0),(.int 0 0),(.int 0 0),(.int 3 0),(.ref 41),(.bool true),(.int 181 0),(.ref 42),.none,(.ref 43),(.ref 44),(.ref 45),(.int 225 0),(.int 12 0),(.str (S "/claim/cut.py") 226)]),#[]⟩)
  :: (nat_lit 47,⟨(.type "function"),none,(.func ⟨(S "is_rest"),(S "is_rest"),(L2.defArgs (W06.top 7)),.stmts (L2.defBody (W06.top 7)),(L2.defScope (W06.top 7)),3,[],.none,.none,.none,(.str (S "wheelrow.numbers") 187),none,(.ref 46),.none,0⟩),#[]⟩)
  :: (nat_lit 48,⟨(.type "tuple"),none,(.seq #[] 0),#[]⟩)
  :: (nat_lit 50,⟨(.type "tuple"),none,(.seq #[(.str (S "value") 231)] 0),#[]⟩)
  :: (nat_lit 51,⟨(.type "tuple"),none,(.seq #[] 0),#[]⟩)
  :: (nat_lit 53,⟨(.type "code"),none,(.fields #[(.str (S "is_rest_pair") 228),(.str (S "is_rest_pair") 229),(.str (S "/claim/cut.py") 230),(.int 14 0),(.int 1 0),(.int 0 0),(.int 0 0),(.int 3 0),(.ref 48),(.bool true),(.int 181 0),(.ref 49),.none,(.ref 50),(.ref 51),(.ref 52),(.int 232 0),(.int 14 0),(.str (S "/claim/cut.py") 233)]),#[]⟩)
  :: (nat_lit 54,⟨(.type "function"),none,(.func ⟨(S "is_rest_pair"),(S "is_rest_pair"),(L2.defArgs (W06.top 8)),.stmts (L2.defBody (W06.top 8)),(L2.defScope (W06.top 8)),3,[],.none,.none,.none,(.str (S "wheelrow.numbers") 187),none,(.ref 53),.none,0⟩),#[]⟩)
  :: (nat_lit 55,⟨(.type "tuple"),none,(.seq #[] 0),#[]⟩)
  :: (nat_lit 58,⟨(.type "code"),none,(.fields #[(.str (S "are_rests") 235),(.str (S "are_rests") 236),(.str (S "/claim/cut.py") 237),(.int 16 0),(.int 1 0),(.int 0 0),(.int 0 0),(.int 3 0),(.ref 55),(.bool true),(.int 181 0),(.ref 56),.none,.none,.none,(.ref 57),(.int 238 0),(.int 16 0),(.str (S "/claim/cut.py") 239)]),#[]⟩)
  :: (nat_lit 59,⟨(.type "function"),none,(.func ⟨(S "are_rests"),(S "are_rests"),(L2.defArgs (W06.top 9)),.stmts (L2.defBody (W06.top 9)),(L2.defScope (W06.top 9)),3,[],.none,.none,.none,(.str (S "wheelrow.numbers") 187),none,(.ref 58),.none,0⟩),#[]⟩)
  :: (nat_lit 60,⟨(.type "tuple"),none,(.seq #[] 0),#[]⟩)
  :: (nat_lit 62,⟨(.type "tuple"),none,(.seq #[(.str (S "part") 244),(.str (S "number") 245)] 0),#[]⟩)
  :: (nat_lit 63,⟨(.type "tuple"),none,(.seq #[] 0),#[]⟩)
  :: (nat_lit 65,⟨(.type "code"),none,(.fields #[(.str (S "goes_into") 241),(.str (S "goes_into") 242),(.str (S "/claim/cut.py") 243),(.int 18 0),(.int 2 0),(.int 0 0),(.int 0 0),(.int 3 0),(.ref 60),(.bool true),(.int 181 0),(.ref 61),.none,(.ref 62),(.ref 63),(.ref 64),(.int 246 0),(.int 18 0),(.str (S "/claim/cut.py") 247)]),#[]⟩)
  :: (nat_lit 66,⟨(.type "function"),none,(.func ⟨(S "goes_into"),(S "goes_into"),(L2.defArgs (W06.top 10)),.stmts (L2.defBody (W06.top 10)),(L2.defScope (W06.top 10)),3,[],.none,.none,.none,(.str (S "wheelrow.numbers") 187),none,(.ref 65),.none,0⟩),#[]⟩)
  :: (nat_lit 67,⟨(.type "tuple"),none,(.seq #[] 0),#[]⟩)
  :: (nat_lit 69,⟨(.type "tuple"),none,(.seq #[(.str (S "number") 252),(.str (S "rest") 253),(.str (S "turn") 254)] 0),#[]⟩)
  :: (nat_lit 70,⟨(.type "tuple"),none,(.seq #[] 0),#[]⟩)
  :: (nat_lit 72,⟨(.type "code"),none,(.fields #[(.str (S "leaves") 249),(.str (S "leaves") 250),(.str (S "/claim/cut.py") 251),(.int 20 0),(.int 3 0),(.int 0 0),(.int 0 0),(.int 3 0),(.ref 67),(.bool true),(.int 181 0),(.ref 68),.none,(.ref 69),(.ref 70),(.ref 71),(.int 255 0),(.int 20 0),(.str (S "/claim/cut.py") 256)]),#[]⟩)
  :: (nat_lit 73,⟨(.type "function"),none,(.func ⟨(S "leaves"),(S "leaves"),(L2.defArgs (W06.top 11)),.stmts (L2.defBody (W06.top 11)),(L2.defScope (W06.top 11)),3,[],.none,.none,.none,(.str (S "wheelrow.numbers") 187),none,(.ref 72),.none,0⟩),#[]⟩)
  :: (nat_lit 74,⟨(.type "tuple"),none,(.seq #[] 0),#[]⟩)
  :: (nat_lit 76,⟨(.type "tuple"),none,(.seq #[(.str (S "one") 261),(.str (S "other") 262),(.str (S "part") 263),(.str (S "left") 264),(.str (S "following") 265)] 0),#[]⟩)
  :: (nat_lit 77,⟨(.type "tuple"),none,(.seq #[] 0),#[]⟩)
  :: (nat_lit 79,⟨(.type "code"),none,(.fields #[(.str (S "common_part_of_two") 258),(.str (S "common_part_of_two") 259),(.str (S "/claim/cut.py") 260),(.int 22 0),(.int 2 0),(.int 0 0),(.int 0 0),(.int 3 0),(.ref 74),(.bool true),(.int 181 0),(.ref 75),.none,(.ref 76),(.ref 77),(.ref 78),(.int 266 0),(.int 22 0),(.str (S "/claim/cut.py") 267)]),#[]⟩)
  :: (nat_lit 80,⟨(.type "function"),none,(.func ⟨(S "common_part_of_two"),(S "common_part_of_two"),(L2.defArgs (W06.top 12)),.stmts (L2.defBody (W06.top 12)),(L2.defScope (W06.top 12)),3,[],.none,.none,.none,(.str (S "wheelrow.numbers") 187),none,(.ref 79),.none,0⟩),#[]⟩)
  :: (nat_lit 81,⟨(.type "tuple"),none,(.seq #[] 0),#[]⟩)
  :: (nat_lit 83,⟨(.type "tuple"),none,(.seq #[(.str (S "one") 272),(.str (S "other") 273),(.str (S "part") 274),(.str (S "often") 275),(.str (S "left") 276),(.str (S "left_often") 277),(.str (S "whole") 278),(.str (S "following") 279),(.str (S "following_often") 280),(.str (S "other_often") 281)] 0),#[]⟩)
  :: (nat_lit 84,⟨(.type "tuple"),none,(.seq #[] 0),#[]⟩)
  :: (nat_lit 86,⟨(.type "code"),none,(.fields #[(.str (S "part_with_times") 269),(.str (S "part_with_times") 270),(.str (S "/claim/cut.py") 271),(.int 30 0),(.int 2 0),(.int 0 0),(.int 0 0),(.int 3 0),(.ref 81),(.bool true),(.int 181 0),(.ref 82),.none,(.ref 83),(.ref 84),(.ref 85),(.int 282 0),(.int 30 0),(.str (S "/claim/cut.py") 283)]),#[]⟩)
  :: (nat_lit 87,⟨(.type "function"),none,(.func ⟨(S "part_with_times"),(S "part_with_times"),(L2.defArgs (W06.top 13)),.stmts (L2.defBody (W06.top 13)),(L2.defScope (W06.top 13)),3,[],.none,.none,.none,(.str (S "wheelrow.numbers") 187),none,(.ref 86),.none,0⟩),#[]⟩)
  :: (nat_lit 88,⟨(.type "tuple"),none,(.seq #[] 0),#[]⟩)
  :: (nat_lit 90,⟨(.type "tuple"),none,(.seq #[(.str (S "number") 288),(.str (S "turn") 289)] 0),#[]⟩)
  :: (nat_lit 91,⟨(.type "tuple"),none,(.seq #[] 0),#[]⟩)
  :: (nat_lit 93,⟨(.type "code"),none,(.fields #[(.str (S "turned_back") 285),(.str (S "turned_back") 286),(.str (S "/claim/cut.py") 287),(.int 47 0),(.int 2 0),(.int 0 0),(.int 0 0),(.int 3 0),(.ref 88),(.bool true),(.int 181 0),(.ref 89),.none,(.ref 90),(.ref 91),(.ref 92),(.int 290 0),(.int 47 0),(.str (S "/claim/cut.py") 291)]),#[]⟩)
  :: (nat_lit 94,⟨(.type "function"),none,(.func ⟨(S "turned_back"),(S "turned_back"),(L2.defArgs (W06.top 14)),.stmts (L2.defBody (W06.top 14)),(L2.defScope (W06.top 14)),3,[],.none,.none,.none,(.str (S "wheelrow.numbers") 187),none,(.ref 93),.none,0⟩),#[]⟩)
  :: (nat_lit 95,⟨(.type "tuple"),none,(.seq #[] 0),#[]⟩)
  :: (nat_lit 97,⟨(.type "tuple"),none,(.seq #[(.str (S "numbers") 296),(.str (S "part") 297),(.str (S "number") 298)] 0),#[]⟩)
  :: (nat_lit 98,⟨(.type "tuple"),none,(.seq #[] 0),#[]⟩)
  :: (nat_lit 100,⟨(.type "code"),none,(.fields #[(.str (S "common_part") 293),(.str (S "common_part") 294),(.str (S "/claim/cut.py") 295),(.int 49 0),(.int 1 0),(.int 0 0),(.int 0 0),(.int 3 0),(.ref 95),(.bool true),(.int 181 0),(.ref 96),.none,(.ref 97),(.ref 98),(.ref 99),(.int 299 0),(.int 49 0),(.str (S "/claim/cut.py") 300)]),#[]⟩)
  :: (nat_lit 101,⟨(.type "function"),none,(.func ⟨(S "common_part"),(S "common_part"),(L2.defArgs (W06.top 15)),.stmts (L2.defBody (W06.top 15)),(L2.defScope (W06.top 15)),3,[],.none,.none,.none,(.str (S "wheelrow.numbers") 187),none,(.ref 100),.none,0⟩),#[]⟩)
  :: (nat_lit 102,⟨(.type "tuple"),none,(.seq #[] 0),#[]⟩)
  :: (nat_lit 104,⟨(.type "tuple"),none,(.seq #[(.str (S "turns") 305),(.str (S "whole") 306),(.str (S "turn") 307)] 0),#[]⟩)
  :: (nat_lit 105,⟨(.type "tuple"),none,(.seq #[] 0),#[]⟩)
  :: (nat_lit 107,⟨(.type "code"),none,(.fields #[(.str (S "common_turn") 302),(.str (S "common_turn") 303),(.str (S "/claim/cut.py") 304),(.int 54 0),(.int 1 0),(.int 0 0),(.int 0 0),(.int 3 0),(.ref 102),(.bool true),(.int 181 0),(.ref 103),.none,(.ref 104),(.ref 105),(.ref 106),(.int 308 0),(.int 54 0),(.str (S "/claim/cut.py") 309)]),#[]⟩)
  :: (nat_lit 108,⟨(.type "function"),none,(.func ⟨(S "common_turn"),(S "common_turn"),(L2.defArgs (W06.top 16)),.stmts (L2.defBody (W06.top 16)),(L2.defScope (W06.top 16)),3,[],.none,.none,.none,(.str (S "wheelrow.numbers") 187),none,(.ref 107),.none,0⟩),#[]⟩)
  :: (nat_lit 109,⟨(.type "tuple"),none,(.seq #[] 0),#[]⟩)
  :: (nat_lit 112,⟨(.type "code"),none,(.fields #[(.str (S "all_together") 313),(.str (S "all_together") 314),(.str (S "/claim/cut.py") 315),(.int 60 0),(.int 2 0),(.int 0 0),(.int 0 0),(.int 3 0),(.ref 109),(.bool true),(.int 181 0),(.ref 110),.none,.none,.none,(.ref 111),(.int 316 0),(.int 60 0),(.str (S "/claim/cut.py") 317)]),#[]⟩)
  :: (nat_lit 113,⟨(.type "function"),none,(.func ⟨(S "all_together"),(S "all_together"),(L2.defArgs (W06.top 18)),.stmts (L2.defBody (W06.top 18)),(L2.defScope (W06.top 18)),3,[],.none,.none,.none,(.str (S "wheelrow.answers") 311),none,(.ref 112),.none,0⟩),#[]⟩)
  :: (nat_lit 121,⟨(.type "tuple"),none,(.seq #[] 0),#[]⟩)
  :: (nat_lit 122,⟨(.type "dict"),none,(.dict #[⟨PyData.keyHash P (S "__module__"),(.str (S "__module__") 326),(.str (S "wheelrow.answers") 311)⟩,⟨PyData.keyHash P (S "__firstlineno__"),(.str (S "__firstlineno__") 330),(.int 62 329)⟩,⟨PyData.keyHash P (S "__static_attributes__"),(.str (S "__static_attributes__") 331),(.ref 121)⟩,⟨PyData.keyHash P (S "__dict__"),(.str (S "__dict__") 333),(.ref 124)⟩,⟨PyData.keyHash P (S "__weakref__"),(.str (S "__weakref__") 335),(.ref 125)⟩,⟨PyData.keyHash P (S "__doc__"),(.str (S "__doc__") 336),.none⟩] 4),#[]⟩)
  :: (nat_lit 123,⟨(.type "type"),none,(.cls ⟨(S "Answer"),[(.type "object")],[(.ref 123),(.type "object")],122,(S "Answer"),true,[],[(.ref 149),(.ref 175),(.ref 201),(.ref 225),(.ref 256),(.ref 282)],false,none,false⟩),#[none,none,some (.str (S "Answer") 319),some (.str (S "Answer") 327),some (.builtin "object.__new__"),some (.bool true)]⟩)
  :: (nat_lit 124,⟨(.type "getset_descriptor"),none,(.fields #[(.str (S "__dict__") 332),(.ref 123),(.builtin "function.__dict__"),(.builtin "function.__dict__#set")]),#[]⟩)
  :: (nat_lit 125,⟨(.type "getset_descriptor"),none,(.fields #[(.str (S "__weakref__") 334),(.ref 123),(.builtin "ExceptionGroup.__weakref__"),.none]),#[]⟩)
  :: (nat_lit 128,⟨(.type "tuple"),none,(.seq #[(.ref 123)] 0),#[]⟩)
  :: (nat_lit 135,⟨(.type "tuple"),none,(.seq #[] 0),#[]⟩)
  :: (nat_lit 137,⟨(.type "tuple"),none,(.seq #[(.str (S "self") 354),(.str (S "number") 355),(.str (S "turn") 356)] 0),#[]⟩)
  :: (nat_lit 138,⟨(.type "tuple"),none,(.seq #[] 0),#[]⟩)
  :: (nat_lit 140,⟨(.type "code"),none,(.fields #[(.str (S "__init__") 351),(.str (S "Number.__init__") 352),(.str (S "/claim/cut.py") 353),(.int 66 0),(.int 3 0),(.int 0 0),(.int 0 0),(.int 3 0),(.ref 135),(.bool true),(.int 181 0),(.ref 136),.none,(.ref 137),(.ref 138),(.ref 139),(.int 357 0),(.int 66 0),(.str (S "/claim/cut.py") 358)]),#[]⟩)
  :: (nat_lit 141,⟨(.type "function"),none,(.func ⟨(S "__init__"),(S "Number.__init__"),(L2.defArgs (L2.inClass (W06.top 20) 0)),.stmts (L2.defBody (L2.inClass (W06.top 20) 0)),(L2.defScope (L2.inClass (W06.top 20) 0)),3,[],.none,.none,.none,(.str (S "wheelrow.answers") 311),none,(.ref 140),.none,0⟩),#[]⟩)
  :: (nat_lit 142,⟨(.type "tuple"),none,(.seq #[] 0),#[]⟩)
  :: (nat_lit 145,⟨(.type "code"),none,(.fields #[(.str (S "shows") 360),(.str (S "Number.shows") 361),(.str (S "/claim/cut.py") 362),(.int 70 0),(.int 2 0),(.int 0 0),(.int 0 0),(.int 3 0),(.ref 142),(.bool true),(.int 181 0),(.ref 143),.none,.none,.none,(.ref 144),(.int 363 0),(.int 70 0),(.str (S "/claim/cut.py") 364)]),#[]⟩)
  :: (nat_lit 146,⟨(.type "function"),none,(.func ⟨(S "shows"),(S "Number.shows"),(L2.defArgs (L2.inClass (W06.top 20) 1)),.stmts (L2.defBody (L2.inClass (W06.top 20) 1)),(L2.defScope (L2.inClass (W06.top 20) 1)),3,[],.none,.none,.none,(.str (S "wheelrow.answers") 311),none,(.ref 145),.none,0⟩),#[]⟩)
  :: (nat_lit 147,⟨(.type "tuple"),none,(.seq #[(.str (S "number") 366),(.str (S "turn") 367)] 0),#[]⟩)
  :: (nat_lit 148,⟨(.type "dict"),none,(.dict #[⟨PyData.keyHash P (S "__module__"),(.str (S "__module__") 346),(.str (S "wheelrow.answers") 311)⟩,⟨PyData.keyHash P (S "__firstlineno__"),(.str (S "__firstlineno__") 350),(.int 64 349)⟩,⟨PyData.keyHash P (S "__init__"),(.str (S "__init__") 359),(.ref 141)⟩,⟨PyData.keyHash P (S "shows"),(.str (S "shows") 365),(.ref 146)⟩,⟨PyData.keyHash P (S "__static_attributes__"),(.str (S "__static_attributes__") 368),(.ref 147)⟩,⟨PyData.keyHash P (S "__doc__"),(.str (S "__doc__") 369),.none⟩] 2),#[]⟩)
  :: (nat_lit 149,⟨(.type "type"),none,(.cls ⟨(S "Number"),[(.ref 123)],[(.ref 149),(.ref 123),(.type "object")],148,(S "Number"),true,[],[],false,none,false⟩),#[some (.ref 128),none,some (.str (S "Number") 339),some (.str (S "Number") 347),some (.builtin "object.__new__"),some (.bool true)]⟩)
  :: (nat_lit 152,⟨(.type "tuple"),none,(.seq #[(.ref 123)] 0),#[]⟩)
  :: (nat_lit 159,⟨(.type "tuple"),none,(.seq #[] 0),#[]⟩)
  :: (nat_lit 161,⟨(.type "tuple"),none,(.seq #[(.str (S "self") 387),(.str (S "one") 388),(.str (S "other") 389)] 0),#[]⟩)
  :: (nat_lit 162,⟨(.type "tuple"),none,(.seq #[] 0),#[]⟩)
  :: (nat_lit 164,⟨(.type "code"),none,(.fields #[(.str (S "__init__") 384),(.str (S "Clash.__init__") 385),(.str (S "/claim/cut.py") 386),(.int 78 0),(.int 3 0),(.int 0 0),(.int 0 0),(.int 3 0),(.ref 159),(.bool true),(.int 181 0),(.ref 160),.none,(.ref 161),(.ref 162),(.ref 163),(.int 390 0),(.int 78 0),(.str (S "/claim/cut.py") 391)]),#[]⟩)
  :: (nat_lit 165,⟨(.type "function"),none,(.func ⟨(S "__init__"),(S "Clash.__init__"),(L2.defArgs (L2.inClass (W06.top 21) 0)),.stmts (L2.defBody (L2.inClass (W06.top 21) 0)),(L2.defScope (L2.inClass (W06.top 21) 0)),3,[],.none,.none,.none,(.str (S "wheelrow.answers") 311),none,(.ref 164),.none,0⟩),#[]⟩)
  :: (nat_lit 166,⟨(.type "tuple"),none,(.seq #[] 0),#[]⟩)
  :: (nat_lit 168,⟨(.type "tuple"),none,(.seq #[(.str (S "self") 396),(.str (S "rests") 397),(.str (S "first") 398),(.str (S "second") 399)] 0),#[]⟩)
  :: (nat_lit 169,⟨(.type "tuple"),none,(.seq #[] 0),#[]⟩)
  :: (nat_lit 171,⟨(.type "code"),none,(.fields #[(.str (S "shows") 393),(.str (S "Clash.shows") 394),(.str (S "/claim/cut.py") 395),(.int 82 0),(.int 2 0),(.int 0 0),(.int 0 0),(.int 3 0),(.ref 166),(.bool true),(.int 181 0),(.ref 167),.none,(.ref 168),(.ref 169),(.ref 170),(.int 400 0),(.int 82 0),(.str (S "/claim/cut.py") 401)]),#[]⟩)
  :: (nat_lit 172,⟨(.type "function"),none,(.func ⟨(S "shows"),(S "Clash.shows"),(L2.defArgs (L2.inClass (W06.top 21) 1)),.stmts (L2.defBody (L2.inClass (W06.top 21) 1)),(L2.defScope (L2.inClass (W06.top 21) 1)),3,[],.none,.none,.none,(.str (S "wheelrow.answers") 311),none,(.ref 171),.none,0⟩),#[]⟩)
  :: (nat_lit 173,⟨(.type "tuple"),none,(.seq #[(.str (S "one") 403),(.str (S "other") 404)] 0),#[]⟩)
  :: (nat_lit 174,⟨(.type "dict"),none,(.dict #[⟨PyData.keyHash P (S "__module__"),(.str (S "__module__") 379),(.str (S "wheelrow.answers") 311)⟩,⟨PyData.keyHash P (S "__firstlineno__"),(.str (S "__firstlineno__") 383),(.int 76 382)⟩,⟨PyData.keyHash P (S "__init__"),(.str (S "__init__") 392),(.ref 165)⟩,⟨PyData.keyHash P (S "shows"),(.str (S "shows") 402),(.ref 172)⟩,⟨PyData.keyHash P (S "__static_attributes__"),(.str (S "__static_attributes__") 405),(.ref 173)⟩,⟨PyData.keyHash P (S "__doc__"),(.str (S "__doc__") 406),.none⟩] 2),#[]⟩)
  :: (nat_lit 175,⟨(.type "type"),none,(.cls ⟨(S "Clash"),[(.ref 123)],[(.ref 175),(.ref 123),(.type "object")],174,(S "Clash"),true,[],[],false,none,false⟩),#[some (.ref 152),none,some (.str (S "Clash") 372),some (.str (S "Clash") 380),some (.builtin "object.__new__"),some (.bool true)]⟩)
  :: (nat_lit 178,⟨(.type "tuple"),none,(.seq #[(.ref 123)] 0),#[]⟩)
  :: (nat_lit 185,⟨(.type "tuple"),none,(.seq #[] 0),#[]⟩)
  :: (nat_lit 187,⟨(.type "tuple"),none,(.seq #[(.str (S "self") 424),(.str (S "part") 425),(.str (S "times") 426)] 0),#[]⟩)
  :: (nat_lit 188,⟨(.type "tuple"),none,(.seq #[] 0),#[]⟩)
  :: (nat_lit 190,⟨(.type "code"),none,(.fields #[(.str (S "__init__") 421),(.str (S "Common.__init__") 422),(.str (S "/claim/cut.py") 423),(.int 90 0),(.int 3 0),(.int 0 0),(.int 0 0),(.int 3 0),(.ref 185),(.bool true),(.int 181 0),(.ref 186),.none,(.ref 187),(.ref 188),(.ref 189),(.int 427 0),(.int 90 0),(.str (S "/claim/cut.py") 428)]),#[]⟩)
  :: (nat_lit 191,⟨(.type "function"),none,(.func ⟨(S "__init__"),(S "Common.__init__"),(L2.defArgs (L2.inClass (W06.top 22) 0)),.stmts (L2.defBody (L2.inClass (W06.top 22) 0)),(L2.defScope (L2.inClass (W06.top 22) 0)),3,[],.none,.none,.none,(.str (S "wheelrow.answers") 311),none,(.ref 190),.none,0⟩),#[]⟩)
  :: (nat_lit 192,⟨(.type "tuple"),none,(.seq #[] 0),#[]⟩)
  :: (nat_lit 194,⟨(.type "tuple"),none,(.seq #[(.str (S "self") 433),(.str (S "numbers") 434)] 0),#[]⟩)
  :: (nat_lit 195,⟨(.type "tuple"),none,(.seq #[] 0),#[]⟩)
  :: (nat_lit 197,⟨(.type "code"),none,(.fields #[(.str (S "shows") 430),(.str (S "Common.shows") 431),(.str (S "/claim/cut.py") 432),(.int 94 0),(.int 2 0),(.int 0 0),(.int 0 0),(.int 3 0),(.ref 192),(.bool true),(.int 181 0),(.ref 193),.none,(.ref 194),(.ref 195),(.ref 196),(.int 435 0),(.int 94 0),(.str (S "/claim/cut.py") 436)]),#[]⟩)
  :: (nat_lit 198,⟨(.type "function"),none,(.func ⟨(S "shows"),(S "Common.shows"),(L2.defArgs (L2.inClass (W06.top 22) 1)),.stmts (L2.defBody (L2.inClass (W06.top 22) 1)),(L2.defScope (L2.inClass (W06.top 22) 1)),3,[],.none,.none,.none,(.str (S "wheelrow.answers") 311),none,(.ref 197),.none,0⟩),#[]⟩)
  :: (nat_lit 199,⟨(.type "tuple"),none,(.seq #[(.str (S "part") 438),(.str (S "times") 439)] 0),#[]⟩)
  :: (nat_lit 200,⟨(.type "dict"),none,(.dict #[⟨PyData.keyHash P (S "__module__"),(.str (S "__module__") 416),(.str (S "wheelrow.answers") 311)⟩,⟨PyData.keyHash P (S "__firstlineno__"),(.str (S "__firstlineno__") 420),(.int 88 419)⟩,⟨PyData.keyHash P (S "__init__"),(.str (S "__init__") 429),(.ref 191)⟩,⟨PyData.keyHash P (S "shows"),(.str (S "shows") 437),(.ref 198)⟩,⟨PyData.keyHash P (S "__static_attributes__"),(.str (S "__static_attributes__") 440),(.ref 199)⟩,⟨PyData.keyHash P (S "__doc__"),(.str (S "__doc__") 441),.none⟩] 2),#[]⟩)
  :: (nat_lit 201,⟨(.type "type"),none,(.cls ⟨(S "Common"),[(.ref 123)],[(.ref 201),(.ref 123),(.type "object")],200,(S "Common"),true,[],[],false,none,false⟩),#[some (.ref 178),none,some (.str (S "Common") 409),some (.str (S "Common") 417),some (.builtin "object.__new__"),some (.bool true)]⟩)
  :: (nat_lit 204,⟨(.type "tuple"),none,(.seq #[(.ref 123)] 0),#[]⟩)
  :: (nat_lit 211,⟨(.type "tuple"),none,(.seq #[] 0),#[]⟩)
  :: (nat_lit 213,⟨(.type "tuple"),none,(.seq #[(.str (S "self") 459),(.str (S "times") 460)] 0),#[]⟩)
  :: (nat_lit 214,⟨(.type "tuple"),none,(.seq #[] 0),#[]⟩)
  :: (nat_lit 216,⟨(.type "code"),none,(.fields #[(.str (S "__init__") 456),(.str (S "Times.__init__") 457),(.str (S "/claim/cut.py") 458),(.int 100 0),(.int 2 0),(.int 0 0),(.int 0 0),(.int 3 0),(.ref 211),(.bool true),(.int 181 0),(.ref 212),.none,(.ref 213),(.ref 214),(.ref 215),(.int 461 0),(.int 100 0),(.str (S "/claim/cut.py") 462)]),#[]⟩)
  :: (nat_lit 217,⟨(.type "function"),none,(.func ⟨(S "__init__"),(S "Times.__init__"),(L2.defArgs (L2.inClass (W06.top 23) 0)),.stmts (L2.defBody (L2.inClass (W06.top 23) 0)),(L2.defScope (L2.inClass (W06.top 23) 0)),3,[],.none,.none,.none,(.str (S "wheelrow.answers") 311),none,(.ref 216),.none,0⟩),#[]⟩)
  :: (nat_lit 218,⟨(.type "tuple"),none,(.seq #[] 0),#[]⟩)
  :: (nat_lit 221,⟨(.type "code"),none,(.fields #[(.str (S "shows") 464),(.str (S "Times.shows") 465),(.str (S "/claim/cut.py") 466),(.int 103 0),(.int 4 0),(.int 0 0),(.int 0 0),(.int 3 0),(.ref 218),(.bool true),(.int 181 0),(.ref 219),.none,.none,.none,(.ref 220),(.int 467 0),(.int 103 0),(.str (S "/claim/cut.py") 468)]),#[]⟩)
  :: (nat_lit 222,⟨(.type "function"),none,(.func ⟨(S "shows"),(S "Times.shows"),(L2.defArgs (L2.inClass (W06.top 23) 1)),.stmts (L2.defBody (L2.inClass (W06.top 23) 1)),(L2.defScope (L2.inClass (W06.top 23) 1)),3,[],.none,.none,.none,(.str (S "wheelrow.answers") 311),none,(.ref 221),.none,0⟩),#[]⟩)
  :: (nat_lit 223,⟨(.type "tuple"),none,(.seq #[(.str (S "times") 470)] 0),#[]⟩)
  :: (nat_lit 224,⟨(.type "dict"),none,(.dict #[⟨PyData.keyHash P (S "__module__"),(.str (S "__module__") 451),(.str (S "wheelrow.answers") 311)⟩,⟨PyData.keyHash P (S "__firstlineno__"),(.str (S "__firstlineno__") 455),(.int 98 454)⟩,⟨PyData.keyHash P (S "__init__"),(.str (S "__init__") 463),(.ref 217)⟩,⟨PyData.keyHash P (S "shows"),(.str (S "shows") 469),(.ref 222)⟩,⟨PyData.keyHash P (S "__static_attributes__"),(.str (S "__static_attributes__") 471),(.ref 223)⟩,⟨PyData.keyHash P (S "__doc__"),(.str (S "__doc__") 472),.none⟩] 2),#[]⟩)
  :: (nat_lit 225,⟨(.type "type"),none,(.cls ⟨(S "Times"),[(.ref 123)],[(.ref 225),(.ref 123),(.type "object")],224,(S "Times"),true,[],[],false,none,false⟩),#[some (.ref 204),none,some (.str (S "Times") 444),some (.str (S "Times") 452),some (.builtin "object.__new__"),some (.bool true)]⟩)
  :: (nat_lit 228,⟨(.type "tuple"),none,(.seq #[(.ref 123)] 0),#[]⟩)
  :: (nat_lit 235,⟨(.type "tuple"),none,(.seq #[] 0),#[]⟩)
  :: (nat_lit 237,⟨(.type "tuple"),none,(.seq #[(.str (S "self") 490),(.str (S "part") 491)] 0),#[]⟩)
  :: (nat_lit 238,⟨(.type "tuple"),none,(.seq #[] 0),#[]⟩)
  :: (nat_lit 240,⟨(.type "code"),none,(.fields #[(.str (S "__init__") 487),(.str (S "Bar.__init__") 488),(.str (S "/claim/cut.py") 489),(.int 111 0),(.int 2 0),(.int 0 0),(.int 0 0),(.int 3 0),(.ref 235),(.bool true),(.int 181 0),(.ref 236),.none,(.ref 237),(.ref 238),(.ref 239),(.int 492 0),(.int 111 0),(.str (S "/claim/cut.py") 493)]),#[]⟩)
  :: (nat_lit 241,⟨(.type "function"),none,(.func ⟨(S "__init__"),(S "Bar.__init__"),(L2.defArgs (L2.inClass (W06.top 24) 0)),.stmts (L2.defBody (L2.inClass (W06.top 24) 0)),(L2.defScope (L2.inClass (W06.top 24) 0)),3,[],.none,.none,.none,(.str (S "wheelrow.answers") 311),none,(.ref 240),.none,0⟩),#[]⟩)
  :: (nat_lit 242,⟨(.type "tuple"),none,(.seq #[] 0),#[]⟩)
  :: (nat_lit 245,⟨(.type "code"),none,(.fields #[(.str (S "shows") 495),(.str (S "Bar.shows") 496),(.str (S "/claim/cut.py") 497),(.int 114 0),(.int 4 0),(.int 0 0),(.int 0 0),(.int 3 0),(.ref 242),(.bool true),(.int 181 0),(.ref 243),.none,.none,.none,(.ref 244),(.int 498 0),(.int 114 0),(.str (S "/claim/cut.py") 499)]),#[]⟩)
  :: (nat_lit 246,⟨(.type "function"),none,(.func ⟨(S "shows"),(S "Bar.shows"),(L2.defArgs (L2.inClass (W06.top 24) 1)),.stmts (L2.defBody (L2.inClass (W06.top 24) 1)),(L2.defScope (L2.inClass (W06.top 24) 1)),3,[],.none,.none,.none,(.str (S "wheelrow.answers") 311),none,(.ref 245),.none,0⟩),#[]⟩)
  :: (nat_lit 247,⟨(.type "tuple"),none,(.seq #[] 0),#[]⟩)
  :: (nat_lit 249,⟨(.type "tuple"),none,(.seq #[(.str (S "self") 504),(.str (S "number") 505),(.str (S "turn") 506)] 0),#[]⟩)
  :: (nat_lit 250,⟨(.type "tuple"),none,(.seq #[] 0),#[]⟩)
  :: (nat_lit 252,⟨(.type "code"),none,(.fields #[(.str (S "bars") 501),(.str (S "Bar.bars") 502),(.str (S "/claim/cut.py") 503),(.int 119 0),(.int 3 0),(.int 0 0),(.int 0 0),(.int 3 0),(.ref 247),(.bool true),(.int 181 0),(.ref 248),.none,(.ref 249),(.ref 250),(.ref 251),(.int 507 0),(.int 119 0),(.str (S "/claim/cut.py") 508)]),#[]⟩)
  :: (nat_lit 253,⟨(.type "function"),none,(.func ⟨(S "bars"),(S "Bar.bars"),(L2.defArgs (L2.inClass (W06.top 24) 2)),.stmts (L2.defBody (L2.inClass (W06.top 24) 2)),(L2.defScope (L2.inClass (W06.top 24) 2)),3,[],.none,.none,.none,(.str (S "wheelrow.answers") 311),none,(.ref 252),.none,0⟩),#[]⟩)
  :: (nat_lit 254,⟨(.type "tuple"),none,(.seq #[(.str (S "part") 510)] 0),#[]⟩)
  :: (nat_lit 255,⟨(.type "dict"),none,(.dict #[⟨PyData.keyHash P (S "__module__"),(.str (S "__module__") 482),(.str (S "wheelrow.answers") 311)⟩,⟨PyData.keyHash P (S "__firstlineno__"),(.str (S "__firstlineno__") 486),(.int 109 485)⟩,⟨PyData.keyHash P (S "__init__"),(.str (S "__init__") 494),(.ref 241)⟩,⟨PyData.keyHash P (S "shows"),(.str (S "shows") 500),(.ref 246)⟩,⟨PyData.keyHash P (S "bars"),(.str (S "bars") 509),(.ref 253)⟩,⟨PyData.keyHash P (S "__static_attributes__"),(.str (S "__static_attributes__") 511),(.ref 254)⟩,⟨PyData.keyHash P (S "__doc__"),(.str (S "__doc__") 512),.none⟩] 2),#[]⟩)
  :: (nat_lit 256,⟨(.type "type"),none,(.cls ⟨(S "Bar"),[(.ref 123)],[(.ref 256),(.ref 123),(.type "object")],255,(S "Bar"),true,[],[],false,none,false⟩),#[some (.ref 228),none,some (.str (S "Bar") 475),some (.str (S "Bar") 483),some (.builtin "object.__new__"),some (.bool true)]⟩)
  :: (nat_lit 259,⟨(.type "tuple"),none,(.seq #[(.ref 123)] 0),#[]⟩)
  :: (nat_lit 266,⟨(.type "tuple"),none,(.seq #[] 0),#[]⟩)
  :: (nat_lit 268,⟨(.type "tuple"),none,(.seq #[(.str (S "self") 530),(.str (S "rest") 531)] 0),#[]⟩)
  :: (nat_lit 269,⟨(.type "tuple"),none,(.seq #[] 0),#[]⟩)
  :: (nat_lit 271,⟨(.type "code"),none,(.fields #[(.str (S "__init__") 527),(.str (S "Back.__init__") 528),(.str (S "/claim/cut.py") 529),(.int 123 0),(.int 2 0),(.int 0 0),(.int 0 0),(.int 3 0),(.ref 266),(.bool true),(.int 181 0),(.ref 267),.none,(.ref 268),(.ref 269),(.ref 270),(.int 532 0),(.int 123 0),(.str (S "/claim/cut.py") 533)]),#[]⟩)
  :: (nat_lit 272,⟨(.type "function"),none,(.func ⟨(S "__init__"),(S "Back.__init__"),(L2.defArgs (L2.inClass (W06.top 25) 0)),.stmts (L2.defBody (L2.inClass (W06.top 25) 0)),(L2.defScope (L2.inClass (W06.top 25) 0)),3,[],.none,.none,.none,(.str (S "wheelrow.answers") 311),none,(.ref 271),.none,0⟩),#[]⟩)
  :: (nat_lit 273,⟨(.type "tuple"),none,(.seq #[] 0),#[]⟩)
  :: (nat_lit 275,⟨(.type "tuple"),none,(.seq #[(.str (S "self") 538),(.str (S "number") 539),(.str (S "turn") 540)] 0),#[]⟩)
  :: (nat_lit 276,⟨(.type "tuple"),none,(.seq #[] 0),#[]⟩)
  :: (nat_lit 278,⟨(.type "code"),none,(.fields #[(.str (S "shows") 535),(.str (S "Back.shows") 536),(.str (S "/claim/cut.py") 537),(.int 126 0),(.int 3 0),(.int 0 0),(.int 0 0),(.int 3 0),(.ref 273),(.bool true),(.int 181 0),(.ref 274),.none,(.ref 275),(.ref 276),(.ref 277),(.int 541 0),(.int 126 0),(.str (S "/claim/cut.py") 542)]),#[]⟩)
  :: (nat_lit 279,⟨(.type "function"),none,(.func ⟨(S "shows"),(S "Back.shows"),(L2.defArgs (L2.inClass (W06.top 25) 1)),.stmts (L2.defBody (L2.inClass (W06.top 25) 1)),(L2.defScope (L2.inClass (W06.top 25) 1)),3,[],.none,.none,.none,(.str (S "wheelrow.answers") 311),none,(.ref 278),.none,0⟩),#[]⟩)
  :: (nat_lit 280,⟨(.type "tuple"),none,(.seq #[(.str (S "rest") 544)] 0),#[]⟩)
  :: (nat_lit 281,⟨(.type "dict"),none,(.dict #[⟨PyData.keyHash P (S "__module__"),(.str (S "__module__") 522),(.str (S "wheelrow.answers") 311)⟩,⟨PyData.keyHash P (S "__firstlineno__"),(.str (S "__firstlineno__") 526),(.int 121 525)⟩,⟨PyData.keyHash P (S "__init__"),(.str (S "__init__") 534),(.ref 272)⟩,⟨PyData.keyHash P (S "shows"),(.str (S "shows") 543),(.ref 279)⟩,⟨PyData.keyHash P (S "__static_attributes__"),(.str (S "__static_attributes__") 545),(.ref 280)⟩,⟨PyData.keyHash P (S "__doc__"),(.str (S "__doc__") 546),.none⟩] 2),#[]⟩)
  :: (nat_lit 282,⟨(.type "type"),none,(.cls ⟨(S "Back"),[(.ref 123)],[(.ref 282),(.ref 123),(.type "object")],281,(S "Back"),true,[],[],false,none,false⟩),#[some (.ref 259),none,some (.str (S "Back") 515),some (.str (S "Back") 523),some (.builtin "object.__new__"),some (.bool true)]⟩)
  :: (nat_lit 285,⟨(.type "tuple"),none,(.seq #[(.type "ValueError")] 0),#[]⟩)
  :: (nat_lit 292,⟨(.type "tuple"),none,(.seq #[] 0),#[]⟩)
  :: (nat_lit 293,⟨(.type "dict"),none,(.dict #[⟨PyData.keyHash P (S "__module__"),(.str (S "__module__") 558),(.str (S "wheelrow.errors") 549)⟩,⟨PyData.keyHash P (S "__firstlineno__"),(.str (S "__firstlineno__") 562),(.int 129 561)⟩,⟨PyData.keyHash P (S "__static_attributes__"),(.str (S "__static_attributes__") 563),(.ref 292)⟩,⟨PyData.keyHash P (S "__weakref__"),(.str (S "__weakref__") 565),(.ref 295)⟩,⟨PyData.keyHash P (S "__doc__"),(.str (S "__doc__") 566),.none⟩] 3),#[]⟩)
  :: (nat_lit 294,⟨(.type "type"),none,(.cls ⟨(S "RestError"),[(.type "ValueError")],[(.ref 294),(.type "ValueError"),(.type "Exception"),(.type "BaseException"),(.type "object")],293,(S "RestError"),true,[],[(.ref 307),(.ref 319),(.ref 331),(.ref 343)],false,none,false⟩),#[some (.ref 285),none,some (.str (S "RestError") 551),some (.str (S "RestError") 559),some (.builtin "ValueError.__new__"),some (.bool true)]⟩)
  :: (nat_lit 295,⟨(.type "getset_descriptor"),none,(.fields #[(.str (S "__weakref__") 564),(.ref 294),(.builtin "ExceptionGroup.__weakref__"),.none]),#[]⟩)
  :: (nat_lit 298,⟨(.type "tuple"),none,(.seq #[(.ref 294)] 0),#[]⟩)
  :: (nat_lit 305,⟨(.type "tuple"),none,(.seq #[] 0),#[]⟩)
  :: (nat_lit 306,⟨(.type "dict"),none,(.dict #[⟨PyData.keyHash P (S "__module__"),(.str (S "__module__") 576),(.str (S "wheelrow.errors") 549)⟩,⟨PyData.keyHash P (S "__firstlineno__"),(.str (S "__firstlineno__") 580),(.int 131 579)⟩,⟨PyData.keyHash P (S "__static_attributes__"),(.str (S "__static_attributes__") 581),(.ref 305)⟩,⟨PyData.keyHash P (S "__doc__"),(.str (S "__doc__") 582),.none⟩] 2),#[]⟩)
  :: (nat_lit 307,⟨(.type "type"),none,(.cls ⟨(S "BadRests"),[(.ref 294)],[(.ref 307),(.ref 294),(.type "ValueError"),(.type "Exception"),(.type "BaseException"),(.type "object")],306,(S "BadRests"),true,[],[],false,none,false⟩),#[some (.ref 298),none,some (.str (S "BadRests") 569),some (.str (S "BadRests") 577),some (.builtin "ValueError.__new__"),some (.bool true)]⟩)
  :: (nat_lit 310,⟨(.type "tuple"),none,(.seq #[(.ref 294)] 0),#[]⟩)
  :: (nat_lit 317,⟨(.type "tuple"),none,(.seq #[] 0),#[]⟩)
  :: (nat_lit 318,⟨(.type "dict"),none,(.dict #[⟨PyData.keyHash P (S "__module__"),(.str (S "__module__") 592),(.str (S "wheelrow.errors") 549)⟩,⟨PyData.keyHash P (S "__firstlineno__"),(.str (S "__firstlineno__") 596),(.int 133 595)⟩,⟨PyData.keyHash P (S "__static_attributes__"),(.str (S "__static_attributes__") 597),(.ref 317)⟩,⟨PyData.keyHash P (S "__doc__"),(.str (S "__doc__") 598),.none⟩] 2),#[]⟩)
  :: (nat_lit 319,⟨(.type "type"),none,(.cls ⟨(S "BadNumbers"),[(.ref 294)],[(.ref 319),(.ref 294),(.type "ValueError"),(.type "Exception"),(.type "BaseException"),(.type "object")],318,(S "BadNumbers"),true,[],[],false,none,false⟩),#[some (.ref 310),none,some (.str (S "BadNumbers") 585),some (.str (S "BadNumbers") 593),some (.builtin "ValueError.__new__"),some (.bool true)]⟩)
  :: (nat_lit 322,⟨(.type "tuple"),none,(.seq #[(.ref 294)] 0),#[]⟩)
  :: (nat_lit 329,⟨(.type "tuple"),none,(.seq #[] 0),#[]⟩)
  :: (nat_lit 330,⟨(.type "dict"),none,(.dict #[⟨PyData.keyHash P (S "__module__"),(.str (S "__module__") 608),(.str (S "wheelrow.errors") 549)⟩,⟨PyData.keyHash P (S "__firstlineno__"),(.str (S "__firstlineno__") 612),(.int 135 611)⟩,⟨PyData.keyHash P (S "__static_attributes__"),(.str (S "__static_attributes__") 613),(.ref 329)⟩,⟨PyData.keyHash P (S "__doc__"),(.str (S "__doc__") 614),.none⟩] 2),#[]⟩)
  :: (nat_lit 331,⟨(.type "type"),none,(.cls ⟨(S "BadRound"),[(.ref 294)],[(.ref 331),(.ref 294),(.type "ValueError"),(.type "Exception"),(.type "BaseException"),(.type "object")],330,(S "BadRound"),true,[],[],false,none,false⟩),#[some (.ref 322),none,some (.str (S "BadRound") 601),some (.str (S "BadRound") 609),some (.builtin "ValueError.__new__"),some (.bool true)]⟩)
  :: (nat_lit 334,⟨(.type "tuple"),none,(.seq #[(.ref 294)] 0),#[]⟩)
  :: (nat_lit 341,⟨(.type "tuple"),none,(.seq #[] 0),#[]⟩)
  :: (nat_lit 342,⟨(.type "dict"),none,(.dict #[⟨PyData.keyHash P (S "__module__"),(.str (S "__module__") 624),(.str (S "wheelrow.errors") 549)⟩,⟨PyData.keyHash P (S "__firstlineno__"),(.str (S "__firstlineno__") 628),(.int 137 627)⟩,⟨PyData.keyHash P (S "__static_attributes__"),(.str (S "__static_attributes__") 629),(.ref 341)⟩,⟨PyData.keyHash P (S "__doc__"),(.str (S "__doc__") 630),.none⟩] 2),#[]⟩)
  :: (nat_lit 343,⟨(.type "type"),none,(.cls ⟨(S "BadRest"),[(.ref 294)],[(.ref 343),(.ref 294),(.type "ValueError"),(.type "Exception"),(.type "BaseException"),(.type "object")],342,(S "BadRest"),true,[],[],false,none,false⟩),#[some (.ref 334),none,some (.str (S "BadRest") 617),some (.str (S "BadRest") 625),some (.builtin "ValueError.__new__"),some (.bool true)]⟩)
  :: (nat_lit 346,⟨(.type "tuple"),none,(.seq #[] 0),#[]⟩)
  :: (nat_lit 348,⟨(.type "tuple"),none,(.seq #[(.str (S "numbers") 638)] 0),#[]⟩)
  :: (nat_lit 349,⟨(.type "tuple"),none,(.seq #[] 0),#[]⟩)
  :: (nat_lit 351,⟨(.type "code"),none,(.fields #[(.str (S "common") 635),(.str (S "common") 636),(.str (S "/claim/cut.py") 637),(.int 140 0),(.int 1 0),(.int 0 0),(.int 0 0),(.int 3 0),(.ref 346),(.bool true),(.int 181 0),(.ref 347),.none,(.ref 348),(.ref 349),(.ref 350),(.int 639 0),(.int 140 0),(.str (S "/claim/cut.py") 640)]),#[]⟩)
  :: (nat_lit 352,⟨(.type "function"),none,(.func ⟨(S "common"),(S "common"),(L2.defArgs (W06.top 33)),.stmts (L2.defBody (W06.top 33)),(L2.defScope (W06.top 33)),3,[],.none,.none,.none,(.str (S "wheelrow.parts") 633),none,(.ref 351),.none,0⟩),#[]⟩)
  :: (nat_lit 353,⟨(.type "tuple"),none,(.seq #[] 0),#[]⟩)
  :: (nat_lit 355,⟨(.type "tuple"),none,(.seq #[(.str (S "numbers") 645),(.str (S "steps") 646),(.str (S "part") 647),(.str (S "number") 648),(.str (S "step") 649)] 0),#[]⟩)
  :: (nat_lit 356,⟨(.type "tuple"),none,(.seq #[] 0),#[]⟩)
  :: (nat_lit 358,⟨(.type "code"),none,(.fields #[(.str (S "common_of") 642),(.str (S "common_of") 643),(.str (S "/claim/cut.py") 644),(.int 144 0),(.int 1 0),(.int 0 0),(.int 0 0),(.int 3 0),(.ref 353),(.bool true),(.int 181 0),(.ref 354),.none,(.ref 355),(.ref 356),(.ref 357),(.int 650 0),(.int 144 0),(.str (S "/claim/cut.py") 651)]),#[]⟩)
  :: (nat_lit 359,⟨(.type "function"),none,(.func ⟨(S "common_of"),(S "common_of"),(L2.defArgs (W06.top 34)),.stmts (L2.defBody (W06.top 34)),(L2.defScope (W06.top 34)),3,[],.none,.none,.none,(.str (S "wheelrow.parts") 633),none,(.ref 358),.none,0⟩),#[]⟩)
  :: (nat_lit 360,⟨(.type "tuple"),none,(.seq #[] 0),#[]⟩)
  :: (nat_lit 362,⟨(.type "tuple"),none,(.seq #[(.str (S "steps") 656),(.str (S "times") 657),(.str (S "due") 658),(.str (S "step") 659)] 0),#[]⟩)
  :: (nat_lit 363,⟨(.type "tuple"),none,(.seq #[] 0),#[]⟩)
  :: (nat_lit 365,⟨(.type "code"),none,(.fields #[(.str (S "times_of") 653),(.str (S "times_of") 654),(.str (S "/claim/cut.py") 655),(.int 152 0),(.int 1 0),(.int 0 0),(.int 0 0),(.int 3 0),(.ref 360),(.bool true),(.int 181 0),(.ref 361),.none,(.ref 362),(.ref 363),(.ref 364),(.int 660 0),(.int 152 0),(.str (S "/claim/cut.py") 661)]),#[]⟩)
  :: (nat_lit 366,⟨(.type "function"),none,(.func ⟨(S "times_of"),(S "times_of"),(L2.defArgs (W06.top 35)),.stmts (L2.defBody (W06.top 35)),(L2.defScope (W06.top 35)),3,[],.none,.none,.none,(.str (S "wheelrow.parts") 633),none,(.ref 365),.none,0⟩),#[]⟩)
  :: (nat_lit 367,⟨(.type "tuple"),none,(.seq #[] 0),#[]⟩)
  :: (nat_lit 370,⟨(.type "code"),none,(.fields #[(.str (S "come") 663),(.str (S "come") 664),(.str (S "/claim/cut.py") 665),(.int 159 0),(.int 3 0),(.int 0 0),(.int 0 0),(.int 3 0),(.ref 367),(.bool true),(.int 181 0),(.ref 368),.none,.none,.none,(.ref 369),(.int 666 0),(.int 159 0),(.str (S "/claim/cut.py") 667)]),#[]⟩)
  :: (nat_lit 371,⟨(.type "function"),none,(.func ⟨(S "come"),(S "come"),(L2.defArgs (W06.top 36)),.stmts (L2.defBody (W06.top 36)),(L2.defScope (W06.top 36)),3,[],.none,.none,.none,(.str (S "wheelrow.parts") 633),none,(.ref 370),.none,0⟩),#[]⟩)
  :: (nat_lit 372,⟨(.type "tuple"),none,(.seq #[] 0),#[]⟩)
  :: (nat_lit 374,⟨(.type "tuple"),none,(.seq #[(.str (S "number") 672),(.str (S "turn") 673),(.str (S "part") 674)] 0),#[]⟩)
  :: (nat_lit 375,⟨(.type "tuple"),none,(.seq #[] 0),#[]⟩)
  :: (nat_lit 377,⟨(.type "code"),none,(.fields #[(.str (S "back") 669),(.str (S "back") 670),(.str (S "/claim/cut.py") 671),(.int 171 0),(.int 2 0),(.int 0 0),(.int 0 0),(.int 3 0),(.ref 372),(.bool true),(.int 181 0),(.ref 373),.none,(.ref 374),(.ref 375),(.ref 376),(.int 675 0),(.int 171 0),(.str (S "/claim/cut.py") 676)]),#[]⟩)
  :: (nat_lit 378,⟨(.type "function"),none,(.func ⟨(S "back"),(S "back"),(L2.defArgs (W06.top 37)),.stmts (L2.defBody (W06.top 37)),(L2.defScope (W06.top 37)),3,[],.none,.none,.none,(.str (S "wheelrow.parts") 633),none,(.ref 377),.none,0⟩),#[]⟩)
  :: (nat_lit 379,⟨(.type "tuple"),none,(.seq #[] 0),#[]⟩)
  :: (nat_lit 381,⟨(.type "tuple"),none,(.seq #[(.str (S "rests") 683),(.str (S "so_far") 684),(.str (S "place") 685),(.str (S "pair") 686),(.str (S "following") 687)] 0),#[]⟩)
  :: (nat_lit 382,⟨(.type "tuple"),none,(.seq #[] 0),#[]⟩)
  :: (nat_lit 384,⟨(.type "code"),none,(.fields #[(.str (S "told") 680),(.str (S "told") 681),(.str (S "/claim/cut.py") 682),(.int 181 0),(.int 1 0),(.int 0 0),(.int 0 0),(.int 3 0),(.ref 379),(.bool true),(.int 181 0),(.ref 380),.none,(.ref 381),(.ref 382),(.ref 383),(.int 688 0),(.int 181 0),(.str (S "/claim/cut.py") 689)]),#[]⟩)
  :: (nat_lit 385,⟨(.type "function"),none,(.func ⟨(S "told"),(S "told"),(L2.defArgs (W06.top 39)),.stmts (L2.defBody (W06.top 39)),(L2.defScope (W06.top 39)),3,[],.none,.none,.none,(.str (S "wheelrow.rests") 678),none,(.ref 384),.none,0⟩),#[]⟩)
  :: (nat_lit 386,⟨(.type "tuple"),none,(.seq #[] 0),#[]⟩)
  :: (nat_lit 388,⟨(.type "tuple"),none,(.seq #[(.str (S "so_far") 694),(.str (S "rest") 695),(.str (S "turn") 696),(.str (S "made") 697),(.str (S "part") 698),(.str (S "missing") 699),(.str (S "fresh") 700),(.str (S "steps") 701)] 0),#[]⟩)
  :: (nat_lit 389,⟨(.type "tuple"),none,(.seq #[] 0),#[]⟩)
  :: (nat_lit 391,⟨(.type "code"),none,(.fields #[(.str (S "joined") 691),(.str (S "joined") 692),(.str (S "/claim/cut.py") 693),(.int 191 0),(.int 3 0),(.int 0 0),(.int 0 0),(.int 3 0),(.ref 386),(.bool true),(.int 181 0),(.ref 387),.none,(.ref 388),(.ref 389),(.ref 390),(.int 702 0),(.int 191 0),(.str (S "/claim/cut.py") 703)]),#[]⟩)
  :: (nat_lit 392,⟨(.type "function"),none,(.func ⟨(S "joined"),(S "joined"),(L2.defArgs (W06.top 40)),.stmts (L2.defBody (W06.top 40)),(L2.defScope (W06.top 40)),3,[],.none,.none,.none,(.str (S "wheelrow.rests") 678),none,(.ref 391),.none,0⟩),#[]⟩)
  :: (nat_lit 393,⟨(.type "tuple"),none,(.seq #[] 0),#[]⟩)
  :: (nat_lit 396,⟨(.type "code"),none,(.fields #[(.str (S "clash_with_earlier") 705),(.str (S "clash_with_earlier") 706),(.str (S "/claim/cut.py") 707),(.int 200 0),(.int 2 0),(.int 0 0),(.int 0 0),(.int 3 0),(.ref 393),(.bool true),(.int 181 0),(.ref 394),.none,.none,.none,(.ref 395),(.int 708 0),(.int 200 0),(.str (S "/claim/cut.py") 709)]),#[]⟩)
  :: (nat_lit 397,⟨(.type "function"),none,(.func ⟨(S "clash_with_earlier"),(S "clash_with_earlier"),(L2.defArgs (W06.top 41)),.stmts (L2.defBody (W06.top 41)),(L2.defScope (W06.top 41)),3,[],.none,.none,.none,(.str (S "wheelrow.rests") 678),none,(.ref 396),.none,0⟩),#[]⟩)
  :: (nat_lit 398,⟨(.type "tuple"),none,(.seq #[] 0),#[]⟩)
  :: (nat_lit 400,⟨(.type "tuple"),none,(.seq #[(.str (S "_law_script") 716),(.str (S "_law_k") 717)] 0),#[]⟩)
  :: (nat_lit 401,⟨(.type "tuple"),none,(.seq #[] 0),#[]⟩)
  :: (nat_lit 403,⟨(.type "code"),none,(.fields #[(.str (S "_law_cell_at") 713),(.str (S "_law_cell_at") 714),(.str (S "/claim/cut.py") 715),(.int 204 0),(.int 2 0),(.int 0 0),(.int 0 0),(.int 3 0),(.ref 398),(.bool true),(.int 181 0),(.ref 399),.none,(.ref 400),(.ref 401),(.ref 402),(.int 718 0),(.int 204 0),(.str (S "/claim/cut.py") 719)]),#[]⟩)
  :: (nat_lit 404,⟨(.type "function"),none,(.func ⟨(S "_law_cell_at"),(S "_law_cell_at"),(L2.defArgs (W06.top 43)),.stmts (L2.defBody (W06.top 43)),(L2.defScope (W06.top 43)),3,[],.none,.none,.none,(.str (S "law_wheelrow_k06_answers_by_hand") 711),none,(.ref 403),.none,0⟩),#[]⟩)
  :: (nat_lit 405,⟨(.type "tuple"),none,(.seq #[] 0),#[]⟩)
  :: (nat_lit 407,⟨(.type "tuple"),none,(.seq #[(.str (S "_law_cell") 724),(.str (S "_law_k") 725),(.str (S "_law_many") 726),(.str (S "_law_primes") 727)] 0),#[]⟩)
  :: (nat_lit 408,⟨(.type "tuple"),none,(.seq #[] 0),#[]⟩)
  :: (nat_lit 410,⟨(.type "code"),none,(.fields #[(.str (S "_law_draw") 721),(.str (S "_law_draw") 722),(.str (S "/claim/cut.py") 723),(.int 208 0),(.int 3 0),(.int 0 0),(.int 0 0),(.int 3 0),(.ref 405),(.bool true),(.int 181 0),(.ref 406),.none,(.ref 407),(.ref 408),(.ref 409),(.int 728 0),(.int 208 0),(.str (S "/claim/cut.py") 729)]),#[]⟩)
  :: (nat_lit 411,⟨(.type "function"),none,(.func ⟨(S "_law_draw"),(S "_law_draw"),(L2.defArgs (W06.top 44)),.stmts (L2.defBody (W06.top 44)),(L2.defScope (W06.top 44)),3,[],.none,.none,.none,(.str (S "law_wheelrow_k06_answers_by_hand") 711),none,(.ref 410),.none,0⟩),#[]⟩)
  :: (nat_lit 412,⟨(.type "tuple"),none,(.seq #[] 0),#[]⟩)
  :: (nat_lit 414,⟨(.type "tuple"),none,(.seq #[(.str (S "_law_script") 734),(.str (S "_law_kind") 735),(.str (S "_law_found") 736),(.str (S "_law_k") 737),(.str (S "_law_turn") 738)] 0),#[]⟩)
  :: (nat_lit 415,⟨(.type "tuple"),none,(.seq #[] 0),#[]⟩)
  :: (nat_lit 417,⟨(.type "code"),none,(.fields #[(.str (S "_law_turns") 731),(.str (S "_law_turns") 732),(.str (S "/claim/cut.py") 733),(.int 211 0),(.int 1 0),(.int 0 0),(.int 0 0),(.int 3 0),(.ref 412),(.bool true),(.int 181 0),(.ref 413),.none,(.ref 414),(.ref 415),(.ref 416),(.int 739 0),(.int 211 0),(.str (S "/claim/cut.py") 740)]),#[]⟩)
  :: (nat_lit 418,⟨(.type "function"),none,(.func ⟨(S "_law_turns"),(S "_law_turns"),(L2.defArgs (W06.top 45)),.stmts (L2.defBody (W06.top 45)),(L2.defScope (W06.top 45)),3,[],.none,.none,.none,(.str (S "law_wheelrow_k06_answers_by_hand") 711),none,(.ref 417),.none,0⟩),#[]⟩)
  :: (nat_lit 419,⟨(.type "tuple"),none,(.seq #[] 0),#[]⟩)
  :: (nat_lit 422,⟨(.type "code"),none,(.fields #[(.str (S "_law_rests") 742),(.str (S "_law_rests") 743),(.str (S "/claim/cut.py") 744),(.int 220 0),(.int 1 0),(.int 0 0),(.int 0 0),(.int 3 0),(.ref 419),(.bool true),(.int 181 0),(.ref 420),.none,.none,.none,(.ref 421),(.int 745 0),(.int 220 0),(.str (S "/claim/cut.py") 746)]),#[]⟩)
  :: (nat_lit 423,⟨(.type "function"),none,(.func ⟨(S "_law_rests"),(S "_law_rests"),(L2.defArgs (W06.top 46)),.stmts (L2.defBody (W06.top 46)),(L2.defScope (W06.top 46)),3,[],.none,.none,.none,(.str (S "law_wheelrow_k06_answers_by_hand") 711),none,(.ref 422),.none,0⟩),#[]⟩)
  :: (nat_lit 424,⟨(.type "tuple"),none,(.seq #[] 0),#[]⟩)
  :: (nat_lit 426,⟨(.type "tuple"),none,(.seq #[(.str (S "_law_one") 751),(.str (S "_law_other") 752)] 0),#[]⟩)
  :: (nat_lit 427,⟨(.type "tuple"),none,(.seq #[] 0),#[]⟩)
  :: (nat_lit 429,⟨(.type "code"),none,(.fields #[(.str (S "_law_part") 748),(.str (S "_law_part") 749),(.str (S "/claim/cut.py") 750),(.int 227 0),(.int 2 0),(.int 0 0),(.int 0 0),(.int 3 0),(.ref 424),(.bool true),(.int 181 0),(.ref 425),.none,(.ref 426),(.ref 427),(.ref 428),(.int 753 0),(.int 227 0),(.str (S "/claim/cut.py") 754)]),#[]⟩)
  :: (nat_lit 430,⟨(.type "function"),none,(.func ⟨(S "_law_part"),(S "_law_part"),(L2.defArgs (W06.top 47)),.stmts (L2.defBody (W06.top 47)),(L2.defScope (W06.top 47)),3,[],.none,.none,.none,(.str (S "law_wheelrow_k06_answers_by_hand") 711),none,(.ref 429),.none,0⟩),#[]⟩)
  :: (nat_lit 443,⟨(.type "tuple"),none,(.seq #[] 0),#[]⟩)
  :: (nat_lit 445,⟨(.type "tuple"),none,(.seq #[(.str (S "_law_said") 772),(.str (S "_law_due") 773)] 0),#[]⟩)
  :: (nat_lit 446,⟨(.type "tuple"),none,(.seq #[] 0),#[]⟩)
  :: (nat_lit 448,⟨(.type "code"),none,(.fields #[(.str (S "_law_says") 769),(.str (S "_law_says") 770),(.str (S "/claim/cut.py") 771),(.int 236 0),(.int 2 0),(.int 0 0),(.int 0 0),(.int 3 0),(.ref 443),(.bool true),(.int 181 0),(.ref 444),.none,(.ref 445),(.ref 446),(.ref 447),(.int 774 0),(.int 236 0),(.str (S "/claim/cut.py") 775)]),#[]⟩)
  :: (nat_lit 449,⟨(.type "function"),none,(.func ⟨(S "_law_says"),(S "_law_says"),(L2.defArgs (W06.top 50)),.stmts (L2.defBody (W06.top 50)),(L2.defScope (W06.top 50)),3,[],.none,.none,.none,(.str (S "law_wheelrow_k06_answers_by_hand") 711),none,(.ref 448),.none,0⟩),#[]⟩)
  :: (nat_lit 450,⟨(.type "tuple"),none,(.seq #[] 0),#[]⟩)
  :: (nat_lit 453,⟨(.type "code"),none,(.fields #[(.str (S "_law_row") 777),(.str (S "_law_row") 778),(.str (S "/claim/cut.py") 779),(.int 238 0),(.int 1 0),(.int 0 0),(.int 0 0),(.int 3 0),(.ref 450),(.bool true),(.int 181 0),(.ref 451),.none,.none,.none,(.ref 452),(.int 780 0),(.int 238 0),(.str (S "/claim/cut.py") 781)]),#[]⟩)
  :: (nat_lit 454,⟨(.type "function"),none,(.func ⟨(S "_law_row"),(S "_law_row"),(L2.defArgs (W06.top 51)),.stmts (L2.defBody (W06.top 51)),(L2.defScope (W06.top 51)),3,[],.none,.none,.none,(.str (S "law_wheelrow_k06_answers_by_hand") 711),none,(.ref 453),.none,0⟩),#[]⟩)
  :: (nat_lit 455,⟨(.type "tuple"),none,(.seq #[] 0),#[]⟩)
  :: (nat_lit 458,⟨(.type "code"),none,(.fields #[(.str (S "_law_rests_right") 783),(.str (S "_law_rests_right") 784),(.str (S "/claim/cut.py") 785),(.int 241 0),(.int 2 0),(.int 0 0),(.int 0 0),(.int 3 0),(.ref 455),(.bool true),(.int 181 0),(.ref 456),.none,.none,.none,(.ref 457),(.int 786 0),(.int 241 0),(.str (S "/claim/cut.py") 787)]),#[]⟩)
  :: (nat_lit 459,⟨(.type "function"),none,(.func ⟨(S "_law_rests_right"),(S "_law_rests_right"),(L2.defArgs (W06.top 52)),.stmts (L2.defBody (W06.top 52)),(L2.defScope (W06.top 52)),3,[],.none,.none,.none,(.str (S "law_wheelrow_k06_answers_by_hand") 711),none,(.ref 458),.none,0⟩),#[]⟩)
  :: (nat_lit 460,⟨(.type "tuple"),none,(.seq #[] 0),#[]⟩)
  :: (nat_lit 463,⟨(.type "code"),none,(.fields #[(.str (S "_law_bent") 789),(.str (S "_law_bent") 790),(.str (S "/claim/cut.py") 791),(.int 269 0),(.int 2 0),(.int 0 0),(.int 0 0),(.int 3 0),(.ref 460),(.bool true),(.int 181 0),(.ref 461),.none,.none,.none,(.ref 462),(.int 792 0),(.int 269 0),(.str (S "/claim/cut.py") 793)]),#[]⟩)
  :: (nat_lit 464,⟨(.type "function"),none,(.func ⟨(S "_law_bent"),(S "_law_bent"),(L2.defArgs (W06.top 53)),.stmts (L2.defBody (W06.top 53)),(L2.defScope (W06.top 53)),3,[],.none,.none,.none,(.str (S "law_wheelrow_k06_answers_by_hand") 711),none,(.ref 463),.none,0⟩),#[]⟩)
  :: (nat_lit 465,⟨(.type "tuple"),none,(.seq #[] 0),#[]⟩)
  :: (nat_lit 468,⟨(.type "code"),none,(.fields #[(.str (S "_law_parts_right") 795),(.str (S "_law_parts_right") 796),(.str (S "/claim/cut.py") 797),(.int 283 0),(.int 2 0),(.int 0 0),(.int 0 0),(.int 3 0),(.ref 465),(.bool true),(.int 181 0),(.ref 466),.none,.none,.none,(.ref 467),(.int 798 0),(.int 283 0),(.str (S "/claim/cut.py") 799)]),#[]⟩)
  :: (nat_lit 469,⟨(.type "function"),none,(.func ⟨(S "_law_parts_right"),(S "_law_parts_right"),(L2.defArgs (W06.top 54)),.stmts (L2.defBody (W06.top 54)),(L2.defScope (W06.top 54)),3,[],.none,.none,.none,(.str (S "law_wheelrow_k06_answers_by_hand") 711),none,(.ref 468),.none,0⟩),#[]⟩)
  :: (nat_lit 470,⟨(.type "tuple"),none,(.seq #[] 0),#[]⟩)
  :: (nat_lit 473,⟨(.type "code"),none,(.fields #[(.str (S "_law_comes_right") 801),(.str (S "_law_comes_right") 802),(.str (S "/claim/cut.py") 803),(.int 300 0),(.int 2 0),(.int 0 0),(.int 0 0),(.int 3 0),(.ref 470),(.bool true),(.int 181 0),(.ref 471),.none,.none,.none,(.ref 472),(.int 804 0),(.int 300 0),(.str (S "/claim/cut.py") 805)]),#[]⟩)
  :: (nat_lit 474,⟨(.type "function"),none,(.func ⟨(S "_law_comes_right"),(S "_law_comes_right"),(L2.defArgs (W06.top 55)),.stmts (L2.defBody (W06.top 55)),(L2.defScope (W06.top 55)),3,[],.none,.none,.none,(.str (S "law_wheelrow_k06_answers_by_hand") 711),none,(.ref 473),.none,0⟩),#[]⟩)
  :: (nat_lit 475,⟨(.type "tuple"),none,(.seq #[] 0),#[]⟩)
  :: (nat_lit 477,⟨(.type "tuple"),none,(.seq #[(.str (S "_law_number") 810),(.str (S "_law_turn") 811),(.str (S "_law_cell") 812),(.str (S "_law_found") 813),(.str (S "_law_rest") 814),(.str (S "_law_some") 815),(.str (S "_law_due") 816),(.str (S "_law_answer") 817),(.str (S "_law_part_here") 818)] 0),#[]⟩)
  :: (nat_lit 478,⟨(.type "tuple"),none,(.seq #[] 0),#[]⟩)
  :: (nat_lit 480,⟨(.type "code"),none,(.fields #[(.str (S "_law_backs_right") 807),(.str (S "_law_backs_right") 808),(.str (S "/claim/cut.py") 809),(.int 324 0),(.int 3 0),(.int 0 0),(.int 0 0),(.int 3 0),(.ref 475),(.bool true),(.int 181 0),(.ref 476),.none,(.ref 477),(.ref 478),(.ref 479),(.int 819 0),(.int 324 0),(.str (S "/claim/cut.py") 820)]),#[]⟩)
  :: (nat_lit 481,⟨(.type "function"),none,(.func ⟨(S "_law_backs_right"),(S "_law_backs_right"),(L2.defArgs (W06.top 56)),.stmts (L2.defBody (W06.top 56)),(L2.defScope (W06.top 56)),3,[],.none,.none,.none,(.str (S "law_wheelrow_k06_answers_by_hand") 711),none,(.ref 480),.none,0⟩),#[]⟩)
  :: (nat_lit 482,⟨(.type "tuple"),none,(.seq #[] 0),#[]⟩)
  :: (nat_lit 484,⟨(.type "tuple"),none,(.seq #[(.str (S "_law_script") 825),(.str (S "_law_rests_here") 826),(.str (S "_law_numbers_here") 827),(.str (S "_law_k") 828),(.str (S "_law_cell") 829),(.str (S "_law_turn") 830)] 0),#[]⟩)
  :: (nat_lit 485,⟨(.type "tuple"),none,(.seq #[] 0),#[]⟩)
  :: (nat_lit 487,⟨(.type "code"),none,(.fields #[(.str (S "law") 822),(.str (S "law") 823),(.str (S "/claim/cut.py") 824),(.int 339 0),(.int 1 0),(.int 0 0),(.int 0 0),(.int 3 0),(.ref 482),(.bool true),(.int 181 0),(.ref 483),.none,(.ref 484),(.ref 485),(.ref 486),(.int 831 0),(.int 339 0),(.str (S "/claim/cut.py") 832)]),#[]⟩)
  :: (nat_lit 488,⟨(.type "function"),none,(.func ⟨(S "law"),(S "law"),(L2.defArgs (W06.top 57)),.stmts (L2.defBody (W06.top 57)),(L2.defScope (W06.top 57)),3,[],.none,.none,.none,(.str (S "law_wheelrow_k06_answers_by_hand") 711),none,(.ref 487),.none,0⟩),#[]⟩) :: []
abbrev as:List Addr:=(nat_lit 2) :: (nat_lit 3) :: (nat_lit 15) :: (nat_lit 17) :: (nat_lit 18) :: (nat_lit 20) :: (nat_lit 21) :: (nat_lit 22) :: (nat_lit 24) :: (nat_lit 25) :: (nat_lit 27) :: (nat_lit 28) :: (nat_lit 29) :: (nat_lit 32) :: (nat_lit 33) :: (nat_lit 34) :: (nat_lit 36) :: (nat_lit 37) :: (nat_lit 39) :: (nat_lit 40) :: (nat_lit 41) :: (nat_lit 43) :: (nat_lit 44) :: (nat_lit 46) :: (nat_lit 47) :: (nat_lit 48) :: (nat_lit 50) :: (nat_lit 51) :: (nat_lit 53) :: (nat_lit 54) :: (nat_lit 55) :: (nat_lit 58) :: (nat_lit 59) :: (nat_lit 60) :: (nat_lit 62) :: (nat_lit 63) :: (nat_lit 65) :: (nat_lit 66) :: (nat_lit 67) :: (nat_lit 69) :: (nat_lit 70) :: (nat_lit 72) :: (nat_lit 73) :: (nat_lit 74) :: (nat_lit 76) :: (nat_lit 77) :: (nat_lit 79) :: (nat_lit 80) :: (nat_lit 81) :: (nat_lit 83) :: (nat_lit 84) :: (nat_lit 86) :: (nat_lit 87) :: (nat_lit 88) :: (nat_lit 90) :: (nat_lit 91) :: (nat_lit 93) :: (nat_lit 94) :: (nat_lit 95) :: (nat_lit 97) :: (nat_lit 98) :: (nat_lit 100) :: (nat_lit 101) :: (nat_lit 102) :: (nat_lit 104) :: (nat_lit 105) :: (nat_lit 107) :: (nat_lit 108) :: (nat_lit 109) :: (nat_lit 112) :: (nat_lit 113) :: (nat_lit 121) :: (nat_lit 122) :: (nat_lit 123) :: (nat_lit 124) :: (nat_lit 125) :: (nat_lit 128) :: (nat_lit 135) :: (nat_lit 137) :: (nat_lit 138) :: (nat_lit 140) :: (nat_lit 141) :: (nat_lit 142) :: (nat_lit 145) :: (nat_lit 146) :: (nat_lit 147) :: (nat_lit 148) :: (nat_lit 149) :: (nat_lit 152) :: (nat_lit 159) :: (nat_lit 161) :: (nat_lit 162) :: (nat_lit 164) :: (nat_lit 165) :: (nat_lit 166) :: (nat_lit 168) :: (nat_lit 169) :: (nat_lit 171) :: (nat_lit 172) :: (nat_lit 173) :: (nat_lit 174) :: (nat_lit 175) :: (nat_lit 178) :: (nat_lit 185) :: (nat_lit 187) :: (nat_lit 188) :: (nat_lit 190) :: (nat_lit 191) :: (nat_lit 192) :: (nat_lit 194) :: (nat_lit 195) :: (nat_lit 197) :: (nat_lit 198) :: (nat_lit 199) :: (nat_lit 200) :: (nat_lit 201) :: (nat_lit 204) :: (nat_lit 211) :: (nat_lit 213) :: (nat_lit 214) :: (nat_lit 216) :: (nat_lit 217) :: (nat_lit 218) :: (nat_lit 221) :: (nat_lit 222) :: (nat_lit 223) :: (nat_lit 224) :: (nat_lit 225) :: (nat_lit 228) :: (nat_lit 235) :: (nat_lit 237) :: (nat_lit 238) :: (nat_lit 240) :: (nat_lit 241) :: (nat_lit 242) :: (nat_lit 245) :: (nat_lit 246) :: (nat_lit 247) :: (nat_lit 249) :: (nat_lit 250) :: (nat_lit 252) :: (nat_lit 253) :: (nat_lit 254) :: (nat_lit 255) :: (nat_lit 256) :: (nat_lit 259) :: (nat_lit 266) :: (nat_lit 268) :: (nat_lit 269) :: (nat_lit 271) :: (nat_lit 272) :: (nat_lit 273) :: (nat_lit 275) :: (nat_lit 276) :: (nat_lit 278) :: (nat_lit 279) :: (nat_lit 280) :: (nat_lit 281) :: (nat_lit 282) :: (nat_lit 285) :: (nat_lit 292) :: (nat_lit 293) :: (nat_lit 294) :: (nat_lit 295) :: (nat_lit 298) :: (nat_lit 305) :: (nat_lit 306) :: (nat_lit 307) :: (nat_lit 310) :: (nat_lit 317) :: (nat_lit 318) :: (nat_lit 319) :: (nat_lit 322) :: (nat_lit 329) :: (nat_lit 330) :: (nat_lit 331) :: (nat_lit 334) :: (nat_lit 341) :: (nat_lit 342) :: (nat_lit 343) :: (nat_lit 346) :: (nat_lit 348) :: (nat_lit 349) :: (nat_lit 351) :: (nat_lit 352) :: (nat_lit 353) :: (nat_lit 355) :: (nat_lit 356) :: (nat_lit 358) :: (nat_lit 359) :: (nat_lit 360) :: (nat_lit 362) :: (nat_lit 363) :: (nat_lit 365) :: (nat_lit 366) :: (nat_lit 367) :: (nat_lit 370) :: (nat_lit 371) :: (nat_lit 372) :: (nat_lit 374) :: (nat_lit 375) :: (nat_lit 377) :: (nat_lit 378) :: (nat_lit 379) :: (nat_lit 381) :: (nat_lit 382) :: (nat_lit 384) :: (nat_lit 385) :: (nat_lit 386) :: (nat_lit 388) :: (nat_lit 389) :: (nat_lit 391) :: (nat_lit 392) :: (nat_lit 393) :: (nat_lit 396) :: (nat_lit 397) :: (nat_lit 398) :: (nat_lit 400) :: (nat_lit 401) :: (nat_lit 403) :: (nat_lit 404) :: (nat_lit 405) :: (nat_lit 407) :: (nat_lit 408) :: (nat_lit 410) :: (nat_lit 411) :: (nat_lit 412) :: (nat_lit 414) :: (nat_lit 415) :: (nat_lit 417) :: (nat_lit 418) :: (nat_lit 419) :: (nat_lit 422) :: (nat_lit 423) :: (nat_lit 424) :: (nat_lit 426) :: (nat_lit 427) :: (nat_lit 429) :: (nat_lit 430) :: (nat_lit 443) :: (nat_lit 445) :: (nat_lit 446) :: (nat_lit 448) :: (nat_lit 449) :: (nat_lit 450) :: (nat_lit 453) :: (nat_lit 454) :: (nat_lit 455) :: (nat_lit 458) :: (nat_lit 459) :: (nat_lit 460) :: (nat_lit 463) :: (nat_lit 464) :: (nat_lit 465) :: (nat_lit 468) :: (nat_lit 469) :: (nat_lit 470) :: (nat_lit 473) :: (nat_lit 474) :: (nat_lit 475) :: (nat_lit 477) :: (nat_lit 478) :: (nat_lit 480) :: (nat_lit 481) :: (nat_lit 482) :: (nat_lit 484) :: (nat_lit 485) :: (nat_lit 487) :: (nat_lit 488) :: []
theorem as_eq (P:Params):as = (K P).map (·.1):=by kernel_rfl
abbrev H:Hook:=kHook K as as_eq
abbrev rr:RowW:=PySem.Challenge.rw_wheelrow_k06_answers_by_hand.row.toRowW
abbrev Q:Program:=viewOf pq
abbrev XtOf (q:Program) (s:Shared):Bool:=xlAt q [] s && recOk (RowW.records rr) s
set_option maxRecDepth 100000 in
theorem look1 (w:World):(fun os=>staticsOk (PySem.W.Fast.tw5923862056798008813 p'.main.body) (boot_heap w.params) (hf w.params) && namesBound p' (hf w.params) && gensDone ⟨hf w.params,⟨[]⟩,{},834,os⟩ && laidKept (boot_heap w.params) (hf w.params)) = fun _=>true:=by kernel_rfl
set_option maxRecDepth 100000 in
theorem look2 (w:World):(fun os=>PySem.W.Fast.tw4187177175401517315 (viewOf p') [] (PySem.W.Fast.tw5923862056798008813 p'.main.body) (XtOf (viewOf p')) true ⟨hf w.params,⟨[]⟩,{},834,os⟩) = fun _=>openGood (viewOf p') []:=by kernel_rfl
set_option maxRecDepth 100000 in
theorem look3 (w:World):as.map (hf w.params).get? = (K w.params).map fun p=>some p.2:=by kernel_rfl
set_option maxRecDepth 100000 in
theorem size (w:World):((boot_heap w.params).isNs mainGlobals && (⟨[]⟩:Array GenState).size == 0,(boot_heap w.params).objs.size,(boot_heap w.params).nsMap mainGlobals "__annotations__") = (true,11,ann):=by kernel_rfl
set_option maxRecDepth 100000 in
theorem looks (w:World):(fun os=>((staticsOk (importedModules p'.main.body) (boot_heap w.params) (hf w.params) && namesBound p' (hf w.params) && gensDone ⟨hf w.params,⟨[]⟩,{},834,os⟩ && laidKept (boot_heap w.params) (hf w.params)),openSeen (viewOf p') [] (importedModules p'.main.body) (XtOf (viewOf p')) true ⟨hf w.params,⟨[]⟩,{},834,os⟩,H.obs ⟨hf w.params,⟨[]⟩,{},834,os⟩)) = fun _=>(true,openGood (viewOf p') [],H.val w):=by
  have a:=look1 w
  have b:=look2 w
  rw [← PySem.W.Fast.te5923862056798008813] at a
  rw [← PySem.W.Fast.te4187177175401517315,← PySem.W.Fast.te5923862056798008813] at b
  funext os
  exact Prod.ext (congrFun a os) (Prod.ext (congrFun b os) (look3 w))
set_option maxRecDepth 100000 in
theorem left':LeftO p' (viewOf p') [] (XtOf (viewOf p')) H.obs H.val 8372 true:=LeftO.of_pieces (boot_open (by kernel_rfl) (by kernel_rfl) (fun s=>by kernel_rfl)) size run (by kernel_rfl) looks
theorem left:LeftO pq Q [] (XtOf Q) H.obs H.val 8372 true:=by
  have h:=left'
  rw [← pq_eq] at h
  exact h
end
end H06
set_option Elab.async false
set_option linter.all false
set_option maxRecDepth 100000
namespace W06
open PySem L2
set_option maxHeartbeats 4000000 in
theorem all_mk {l:PySem.W.OpenLaw} {w:World} {K:PySem.W.Frag} {h:Heap} {mg:Str → Option Value} {fa:Addr}
 {xoy xm4:Option Addr} {xo5:Array (Option Value)} {xot xnW xnG xoM xnn xns:Value}
 {xpI:Addr}
 {xlS xku:Option Addr} {xmu:Array (Option Value)} {xlJ xlp xla xl9 xkP xkY:Value}
 {xnQ:Addr}
 {xhR xgq:Option Addr} {xip:Array (Option Value)} {xhL xhk xg0 xh6 xgI xgO:Value}
 {xjk:Addr}
 {xox xm3:Option Addr} {xo4:Array (Option Value)} {xos xnV xnF xoL xnm xnr:Value}
 {xpH:Addr}
 {xp1 xpq:Option Addr} {xqc:Array (Option Value)} {xp0 xpL xpE xp4 xpx xpy:Value}
 {xqA:Addr}
 {xfB xeI:Option Addr} {xf1:Array (Option Value)} {xfv xfk xe8 xfL xeV xe1:Value}
 {xg9:Addr}
 {xlP xkr:Option Addr} {xmr:Array (Option Value)} {xlG xlm xk7 xl6 xkM xkV:Value}
 {xnN:Addr}
 {xlR xkt:Option Addr} {xmt:Array (Option Value)} {xlI xlo xk9 xl8 xkO xkX:Value}
 {xnP:Addr}
 {xq0 xqj:Option Addr} {xrj:Array (Option Value)} {xqX xqF xqz xq8 xqq xqv:Value}
 {xrL:Addr}
 {xav xah:Option Addr} {xaD:Array (Option Value)} {xat xar xap xaz xal xan:Value}
 {xaR:Addr}
 {xcG xbW:Option Addr} {xc1:Array (Option Value)} {xcD xco xcg xcO xb6 xb9:Value}
 {xdu:Addr}
 {xhU xgt:Option Addr} {xis:Array (Option Value)} {xhO xhn xg3 xh9 xgL xgR:Value}
 {xjn:Addr}
 {xhS xgr:Option Addr} {xiq:Array (Option Value)} {xhM xhl xg1 xh7 xgJ xgP:Value}
 {xjl:Addr}
 {xhT xgs:Option Addr} {xir:Array (Option Value)} {xhN xhm xg2 xh8 xgK xgQ:Value}
 {xjm:Addr}
 {xfA xeH:Option Addr} {xf0:Array (Option Value)} {xfu xfj xe7 xfK xeU xe0:Value}
 {xg8:Addr}
 {xcF xbV:Option Addr} {xc0:Array (Option Value)} {xcC xcn xcf xcN xb5 xb8:Value}
 {xdt:Addr}
 {xfy xeF:Option Addr} {xfY:Array (Option Value)} {xfs xfh xe5 xfI xeS xeY:Value}
 {xg6:Addr}
 {xdK xdc:Option Addr} {xdV:Array (Option Value)} {xdI xdz xdq xdM xdj xdl:Value}
 {xed:Addr}
 {xhP xgo:Option Addr} {xin:Array (Option Value)} {xhJ xhi xgY xh4 xgG xgM:Value}
 {xji:Addr}
 {xcE xbU:Option Addr} {xcZ:Array (Option Value)} {xcB xcm xce xcM xb4 xb7:Value}
 {xds:Addr}
 {xfx xeE:Option Addr} {xfX:Array (Option Value)} {xfr xfg xe4 xfH xeR xeX:Value}
 {xg5:Addr}
 {xdL xdd:Option Addr} {xdW:Array (Option Value)} {xdJ xdA xdr xdN xdk xdm:Value}
 {xee:Addr}
 {xhQ xgp:Option Addr} {xio:Array (Option Value)} {xhK xhj xgZ xh5 xgH xgN:Value}
 {xjj:Addr}
 {xfw xeD:Option Addr} {xfW:Array (Option Value)} {xfq xff xe3 xfG xeQ xeW:Value}
 {xg4:Addr}
 {xlK xkm:Option Addr} {xmm:Array (Option Value)} {xlB xlh xk2 xl1 xkH xkQ:Value}
 {xnI:Addr}
 {xov xm1:Option Addr} {xo2:Array (Option Value)} {xoq xnT xnD xoJ xnk xnp:Value}
 {xpF:Addr}
 {xer xd4:Option Addr} {xey:Array (Option Value)} {xeq xek xec xes xd8 xd9:Value}
 {xe9:Addr}
 {xjR xiR:Option Addr} {xj9:Array (Option Value)} {xjO xju xjf xjX xi3 xi6:Value}
 {xlb:Addr}
 {xqY xqh:Option Addr} {xrh:Array (Option Value)} {xqV xqD xqx xq6 xqo xqt:Value}
 {xrJ:Addr}
 {xlQ xks:Option Addr} {xms:Array (Option Value)} {xlH xln xk8 xl7 xkN xkW:Value}
 {xnO:Addr}
 {xoz xm5:Option Addr} {xo6:Array (Option Value)} {xou xnX xnH xoN xno xnt:Value}
 {xpJ:Addr}
 {xs0 xsr:Option Addr} {xtf:Array (Option Value)} {xsX xsM xsG xs7 xsz xsD:Value}
 {xtJ:Addr}
 {xsZ xsq:Option Addr} {xte:Array (Option Value)} {xsW xsL xsF xs6 xsy xsC:Value}
 {xtI:Addr}
 {xs1 xss:Option Addr} {xtg:Array (Option Value)} {xsY xsN xsH xs8 xsA xsE:Value}
 {xtK:Addr}
 {xqZ xqi:Option Addr} {xri:Array (Option Value)} {xqW xqE xqy xq7 xqp xqu:Value}
 {xrK:Addr}
 {xau xag:Option Addr} {xaC:Array (Option Value)} {xas xaq xao xay xak xam:Value}
 {xaQ:Addr}
 {xfz xeG:Option Addr} {xfZ:Array (Option Value)} {xft xfi xe6 xfJ xeT xeZ:Value}
 {xg7:Addr}
 {xlM xko:Option Addr} {xmo:Array (Option Value)} {xlD xlj xk4 xl3 xkJ xkS:Value}
 {xnK:Addr}
 {xjT xiT:Option Addr} {xkb:Array (Option Value)} {xjQ xjw xjh xjZ xi5 xi8:Value}
 {xld:Addr}
 {xjS xiS:Option Addr} {xka:Array (Option Value)} {xjP xjv xjg xjY xi4 xi7:Value}
 {xlc:Addr}
 {xlN xkp:Option Addr} {xmp:Array (Option Value)} {xlE xlk xk5 xl4 xkK xkT:Value}
 {xnL:Addr}
 {xlO xkq:Option Addr} {xmq:Array (Option Value)} {xlF xll xk6 xl5 xkL xkU:Value}
 {xnM:Addr}
 {xow xm2:Option Addr} {xo3:Array (Option Value)} {xor xnU xnE xoK xnl xnq:Value}
 {xpG:Addr}
 {xbv xa3:Option Addr} {xbH:Array (Option Value)} {xbr xbn xbj xbz xbb xbf:Value}
 {xck:Addr}
 {xlL xkn:Option Addr} {xmn:Array (Option Value)} {xlC xli xk3 xl2 xkI xkR:Value}
 {xnJ:Addr}
 {xbu xa2:Option Addr} {xbG:Array (Option Value)} {xbq xbm xbi xby xba xbe:Value}
 {xcj:Addr}
 {xbt xa1:Option Addr} {xbF:Array (Option Value)} {xbp xbl xbh xbx xa9 xbd:Value}
 {xci:Addr}
 {xbs xa0:Option Addr} {xbE:Array (Option Value)} {xbo xbk xbg xbw xa8 xbc:Value}
 {xch:Addr}
 {xt5 xtv:Option Addr} {xuf:Array (Option Value)} {xt4 xtN xtH xt8 xtB xtD:Value}
 {f_law:Addr}
 {xrp:Addr}
 {xso:Addr}
 {xro:Addr}
 {xsp:Addr}
 {C_Bar:Addr}
 {xtl:Addr}
 {xez:Tok}
 {xdX:Tok}
 (KX:K.In h) (G:h.Ns mainGlobals mg) (hfa:mg "law" = some (.ref fa))
 (xrN:PySem.W.nsIn K mainGlobals "Number" = some (some (.ref xrp)))
 (xsI:PySem.W.nsIn K mainGlobals "Clash" = some (some (.ref xso)))
 (xrM:PySem.W.nsIn K mainGlobals "Common" = some (some (.ref xro)))
 (xsJ:PySem.W.nsIn K mainGlobals "Times" = some (some (.ref xsp)))
 (g_Bar:PySem.W.nsIn K mainGlobals "Bar" = some (some (.ref C_Bar)))
 (xtL:PySem.W.nsIn K mainGlobals "Back" = some (some (.ref xtl)))
 (xpo:PySem.W.nsIn K mainGlobals "is_whole" = some (some (.ref xpI)))
 (xpU:K.lookup xpI = some ⟨xot,xoy,.func (PySem.W.fnOf "is_whole" "is_whole" (defArgs xp8) (defBody xp8) (defScope xp8) .none xnW xnG xoM xm4 xnn xns),xo5⟩)
 (xpv:PySem.W.codeIn K xnn "is_whole" = true)
 (xpP:PySem.W.keepIn K (.ref xpI) = true)
 (xm0:PySem.W.nsIn K mainGlobals "is_number" = some (some (.ref xnQ)))
 (xof:K.lookup xnQ = some ⟨xlJ,xlS,.func (PySem.W.fnOf "is_number" "is_number" (defArgs xoW) (defBody xoW) (defScope xoW) .none xlp xla xl9 xku xkP xkY),xmu⟩)
 (xnj:PySem.W.codeIn K xkP "is_number" = true)
 (xn6:PySem.W.keepIn K (.ref xnQ) = true)
 (xiN:PySem.W.nsIn K mainGlobals "are_numbers" = some (some (.ref xjk)))
 (xjF:K.lookup xjk = some ⟨xhL,xhR,.func (PySem.W.fnOf "are_numbers" "are_numbers" (defArgs xj2) (defBody xj2) (defScope xj2) .none xhk xg0 xh6 xgq xgI xgO),xip⟩)
 (xiZ:PySem.W.codeIn K xgI "are_numbers" = true)
 (xjz:PySem.W.keepIn K (.ref xjk) = true)
 (xpn:PySem.W.nsIn K mainGlobals "is_round" = some (some (.ref xpH)))
 (xpT:K.lookup xpH = some ⟨xos,xox,.func (PySem.W.fnOf "is_round" "is_round" (defArgs xp7) (defBody xp7) (defScope xp7) .none xnV xnF xoL xm3 xnm xnr),xo4⟩)
 (xpu:PySem.W.codeIn K xnm "is_round" = true)
 (xpO:PySem.W.keepIn K (.ref xpH) = true)
 (xqg:PySem.W.nsIn K mainGlobals "is_rest" = some (some (.ref xqA)))
 (xqR:K.lookup xqA = some ⟨xp0,xp1,.func (PySem.W.fnOf "is_rest" "is_rest" (defArgs xrb) (defBody xrb) (defScope xrb) .none xpL xpE xp4 xpq xpx xpy),xqc⟩)
 (xqn:PySem.W.codeIn K xpx "is_rest" = true)
 (xqG:PySem.W.keepIn K (.ref xqA) = true)
 (xgn:PySem.W.nsIn K mainGlobals "is_rest_pair" = some (some (.ref xg9)))
 (xhz:K.lookup xg9 = some ⟨xfv,xfB,.func (PySem.W.fnOf "is_rest_pair" "is_rest_pair" (defArgs xif) (defBody xif) (defScope xif) .none xfk xe8 xfL xeI xeV xe1),xf1⟩)
 (xgF:PySem.W.codeIn K xeV "is_rest_pair" = true)
 (xht:PySem.W.keepIn K (.ref xg9) = true)
 (xmX:PySem.W.nsIn K mainGlobals "are_rests" = some (some (.ref xnN)))
 (xoc:K.lookup xnN = some ⟨xlG,xlP,.func (PySem.W.fnOf "are_rests" "are_rests" (defArgs xoT) (defBody xoT) (defScope xoT) .none xlm xk7 xl6 xkr xkM xkV),xmr⟩)
 (xng:PySem.W.codeIn K xkM "are_rests" = true)
 (xn3:PySem.W.keepIn K (.ref xnN) = true)
 (xmZ:PySem.W.nsIn K mainGlobals "goes_into" = some (some (.ref xnP)))
 (xoe:K.lookup xnP = some ⟨xlI,xlR,.func (PySem.W.fnOf "goes_into" "goes_into" (defArgs xoV) (defBody xoV) (defScope xoV) .none xlo xk9 xl8 xkt xkO xkX),xmt⟩)
 (xni:PySem.W.codeIn K xkO "goes_into" = true)
 (xn5:PySem.W.keepIn K (.ref xnP) = true)
 (xry:PySem.W.nsIn K mainGlobals "leaves" = some (some (.ref xrL)))
 (xr5:K.lookup xrL = some ⟨xqX,xq0,.func (PySem.W.fnOf "leaves" "leaves" (defArgs xsj) (defBody xsj) (defScope xsj) .none xqF xqz xq8 xqj xqq xqv),xrj⟩)
 (xrD:PySem.W.codeIn K xqq "leaves" = true)
 (xrS:PySem.W.keepIn K (.ref xrL) = true)
 (xaL:PySem.W.nsIn K mainGlobals "common_part_of_two" = some (some (.ref xaR)))
 (xaV:K.lookup xaR = some ⟨xat,xav,.func (PySem.W.fnOf "common_part_of_two" "common_part_of_two" (defArgs xaZ) (defBody xaZ) (defScope xaZ) .none xar xap xaz xah xal xan),xaD⟩)
 (xaN:PySem.W.codeIn K xal "common_part_of_two" = true)
 (xaT:PySem.W.keepIn K (.ref xaR) = true)
 (xdb:PySem.W.nsIn K mainGlobals "part_with_times" = some (some (.ref xdu)))
 (xdG:K.lookup xdu = some ⟨xcD,xcG,.func (PySem.W.fnOf "part_with_times" "part_with_times" (defArgs xdQ) (defBody xdQ) (defScope xdQ) .none xco xcg xcO xbW xb6 xb9),xc1⟩)
 (xdi:PySem.W.codeIn K xb6 "part_with_times" = true)
 (xdD:PySem.W.keepIn K (.ref xdu) = true)
 (xiQ:PySem.W.nsIn K mainGlobals "turned_back" = some (some (.ref xjn)))
 (xjI:K.lookup xjn = some ⟨xhO,xhU,.func (PySem.W.fnOf "turned_back" "turned_back" (defArgs xj5) (defBody xj5) (defScope xj5) .none xhn xg3 xh9 xgt xgL xgR),xis⟩)
 (xi2:PySem.W.codeIn K xgL "turned_back" = true)
 (xjC:PySem.W.keepIn K (.ref xjn) = true)
 (xiO:PySem.W.nsIn K mainGlobals "common_part" = some (some (.ref xjl)))
 (xjG:K.lookup xjl = some ⟨xhM,xhS,.func (PySem.W.fnOf "common_part" "common_part" (defArgs xj3) (defBody xj3) (defScope xj3) .none xhl xg1 xh7 xgr xgJ xgP),xiq⟩)
 (xi0:PySem.W.codeIn K xgJ "common_part" = true)
 (xjA:PySem.W.keepIn K (.ref xjl) = true)
 (xiP:PySem.W.nsIn K mainGlobals "common_turn" = some (some (.ref xjm)))
 (xjH:K.lookup xjm = some ⟨xhN,xhT,.func (PySem.W.fnOf "common_turn" "common_turn" (defArgs xj4) (defBody xj4) (defScope xj4) .none xhm xg2 xh8 xgs xgK xgQ),xir⟩)
 (xi1:PySem.W.codeIn K xgK "common_turn" = true)
 (xjB:PySem.W.keepIn K (.ref xjm) = true)
 (xgm:PySem.W.nsIn K mainGlobals "all_together" = some (some (.ref xg8)))
 (xhy:K.lookup xg8 = some ⟨xfu,xfA,.func (PySem.W.fnOf "all_together" "all_together" (defArgs xie) (defBody xie) (defScope xie) .none xfj xe7 xfK xeH xeU xe0),xf0⟩)
 (xgE:PySem.W.codeIn K xeU "all_together" = true)
 (xhs:PySem.W.keepIn K (.ref xg8) = true)
 (xda:PySem.W.findIn K (.ref xrp) "__init__" = some (some (.ref xdt)))
 (xdy:PySem.W.isFn K (.ref xdt) = true)
 (xdF:K.lookup xdt = some ⟨xcC,xcF,.func (PySem.W.fnOf "__init__" "Number.__init__" (defArgs xdP) (defBody xdP) (defScope xdP) .none xcn xcf xcN xbV xb5 xb8),xc0⟩)
 (xdh:PySem.W.codeIn K xb5 "Number.__init__" = true)
 (xdC:PySem.W.keepIn K (.ref xdt) = true)
 (xgk:PySem.W.findIn K (.ref xrp) "shows" = some (some (.ref xg6)))
 (xhc:PySem.W.isFn K (.ref xg6) = true)
 (xhw:K.lookup xg6 = some ⟨xfs,xfy,.func (PySem.W.fnOf "shows" "Number.shows" (defArgs xic) (defBody xic) (defScope xic) .none xfh xe5 xfI xeF xeS xeY),xfY⟩)
 (xgC:PySem.W.codeIn K xeS "Number.shows" = true)
 (xhq:PySem.W.keepIn K (.ref xg6) = true)
 (xd2:PySem.W.findIn K (.ref xso) "__init__" = some (some (.ref xed)))
 (xeg:PySem.W.isFn K (.ref xed) = true)
 (xen:K.lookup xed = some ⟨xdI,xdK,.func (PySem.W.fnOf "__init__" "Clash.__init__" (defArgs xet) (defBody xet) (defScope xet) .none xdz xdq xdM xdc xdj xdl),xdV⟩)
 (xd6:PySem.W.codeIn K xdj "Clash.__init__" = true)
 (xel:PySem.W.keepIn K (.ref xed) = true)
 (xiL:PySem.W.findIn K (.ref xso) "shows" = some (some (.ref xji)))
 (xjo:PySem.W.isFn K (.ref xji) = true)
 (xjD:K.lookup xji = some ⟨xhJ,xhP,.func (PySem.W.fnOf "shows" "Clash.shows" (defArgs xj0) (defBody xj0) (defScope xj0) .none xhi xgY xh4 xgo xgG xgM),xin⟩)
 (xiX:PySem.W.codeIn K xgG "Clash.shows" = true)
 (xjx:PySem.W.keepIn K (.ref xji) = true)
 (xc9:PySem.W.findIn K (.ref xro) "__init__" = some (some (.ref xds)))
 (xdx:PySem.W.isFn K (.ref xds) = true)
 (xdE:K.lookup xds = some ⟨xcB,xcE,.func (PySem.W.fnOf "__init__" "Common.__init__" (defArgs xdO) (defBody xdO) (defScope xdO) .none xcm xce xcM xbU xb4 xb7),xcZ⟩)
 (xdg:PySem.W.codeIn K xb4 "Common.__init__" = true)
 (xdB:PySem.W.keepIn K (.ref xds) = true)
 (xgj:PySem.W.findIn K (.ref xro) "shows" = some (some (.ref xg5)))
 (xhb:PySem.W.isFn K (.ref xg5) = true)
 (xhv:K.lookup xg5 = some ⟨xfr,xfx,.func (PySem.W.fnOf "shows" "Common.shows" (defArgs xib) (defBody xib) (defScope xib) .none xfg xe4 xfH xeE xeR xeX),xfX⟩)
 (xgB:PySem.W.codeIn K xeR "Common.shows" = true)
 (xhp:PySem.W.keepIn K (.ref xg5) = true)
 (xd3:PySem.W.findIn K (.ref xsp) "__init__" = some (some (.ref xee)))
 (xeh:PySem.W.isFn K (.ref xee) = true)
 (xeo:K.lookup xee = some ⟨xdJ,xdL,.func (PySem.W.fnOf "__init__" "Times.__init__" (defArgs xeu) (defBody xeu) (defScope xeu) .none xdA xdr xdN xdd xdk xdm),xdW⟩)
 (xd7:PySem.W.codeIn K xdk "Times.__init__" = true)
 (xem:PySem.W.keepIn K (.ref xee) = true)
 (xiM:PySem.W.findIn K (.ref xsp) "shows" = some (some (.ref xjj)))
 (xjp:PySem.W.isFn K (.ref xjj) = true)
 (xjE:K.lookup xjj = some ⟨xhK,xhQ,.func (PySem.W.fnOf "shows" "Times.shows" (defArgs xj1) (defBody xj1) (defScope xj1) .none xhj xgZ xh5 xgp xgH xgN),xio⟩)
 (xiY:PySem.W.codeIn K xgH "Times.shows" = true)
 (xjy:PySem.W.keepIn K (.ref xjj) = true)
 (xgi:PySem.W.findIn K (.ref C_Bar) "__init__" = some (some (.ref xg4)))
 (xha:PySem.W.isFn K (.ref xg4) = true)
 (xhu:K.lookup xg4 = some ⟨xfq,xfw,.func (PySem.W.fnOf "__init__" "Bar.__init__" (defArgs xia) (defBody xia) (defScope xia) .none xff xe3 xfG xeD xeQ xeW),xfW⟩)
 (xgA:PySem.W.codeIn K xeQ "Bar.__init__" = true)
 (xho:PySem.W.keepIn K (.ref xg4) = true)
 (xmS:PySem.W.findIn K (.ref C_Bar) "shows" = some (some (.ref xnI)))
 (xnR:PySem.W.isFn K (.ref xnI) = true)
 (xn7:K.lookup xnI = some ⟨xlB,xlK,.func (PySem.W.fnOf "shows" "Bar.shows" (defArgs xoO) (defBody xoO) (defScope xoO) .none xlh xk2 xl1 xkm xkH xkQ),xmm⟩)
 (xnb:PySem.W.codeIn K xkH "Bar.shows" = true)
 (xnY:PySem.W.keepIn K (.ref xnI) = true)
 (xpl:PySem.W.findIn K (.ref C_Bar) "bars" = some (some (.ref xpF)))
 (xpK:PySem.W.isFn K (.ref xpF) = true)
 (xpR:K.lookup xpF = some ⟨xoq,xov,.func (PySem.W.fnOf "bars" "Bar.bars" (defArgs xp5) (defBody xp5) (defScope xp5) .none xnT xnD xoJ xm1 xnk xnp),xo2⟩)
 (xps:PySem.W.codeIn K xnk "Bar.bars" = true)
 (xpM:PySem.W.keepIn K (.ref xpF) = true)
 (xeC:PySem.W.findIn K (.ref xtl) "__init__" = some (some (.ref xe9)))
 (xfa:PySem.W.isFn K (.ref xe9) = true)
 (xfm:K.lookup xe9 = some ⟨xeq,xer,.func (PySem.W.fnOf "__init__" "Back.__init__" (defArgs xfM) (defBody xfM) (defScope xfM) .none xek xec xes xd4 xd8 xd9),xey⟩)
 (xeP:PySem.W.codeIn K xd8 "Back.__init__" = true)
 (xfl:PySem.W.keepIn K (.ref xe9) = true)
 (xkj:PySem.W.findIn K (.ref xtl) "shows" = some (some (.ref xlb)))
 (xle:PySem.W.isFn K (.ref xlb) = true)
 (xlt:K.lookup xlb = some ⟨xjO,xjR,.func (PySem.W.fnOf "shows" "Back.shows" (defArgs xma) (defBody xma) (defScope xma) .none xju xjf xjX xiR xi3 xi6),xj9⟩)
 (xkE:PySem.W.codeIn K xi3 "Back.shows" = true)
 (xlq:PySem.W.keepIn K (.ref xlb) = true)
 (xrw:PySem.W.nsIn K mainGlobals "common" = some (some (.ref xrJ)))
 (xr3:K.lookup xrJ = some ⟨xqV,xqY,.func (PySem.W.fnOf "common" "common" (defArgs xsh) (defBody xsh) (defScope xsh) .none xqD xqx xq6 xqh xqo xqt),xrh⟩)
 (xrB:PySem.W.codeIn K xqo "common" = true)
 (xrQ:PySem.W.keepIn K (.ref xrJ) = true)
 (xmY:PySem.W.nsIn K mainGlobals "common_of" = some (some (.ref xnO)))
 (xod:K.lookup xnO = some ⟨xlH,xlQ,.func (PySem.W.fnOf "common_of" "common_of" (defArgs xoU) (defBody xoU) (defScope xoU) .none xln xk8 xl7 xks xkN xkW),xms⟩)
 (xnh:PySem.W.codeIn K xkN "common_of" = true)
 (xn4:PySem.W.keepIn K (.ref xnO) = true)
 (xpp:PySem.W.nsIn K mainGlobals "times_of" = some (some (.ref xpJ)))
 (xpV:K.lookup xpJ = some ⟨xou,xoz,.func (PySem.W.fnOf "times_of" "times_of" (defArgs xp9) (defBody xp9) (defScope xp9) .none xnX xnH xoN xm5 xno xnt),xo6⟩)
 (xpw:PySem.W.codeIn K xno "times_of" = true)
 (xpQ:PySem.W.keepIn K (.ref xpJ) = true)
 (xtt:PySem.W.nsIn K mainGlobals "come" = some (some (.ref xtJ)))
 (xtX:K.lookup xtJ = some ⟨xsX,xs0,.func (PySem.W.fnOf "come" "come" (defArgs xub) (defBody xub) (defScope xub) .none xsM xsG xs7 xsr xsz xsD),xtf⟩)
 (xtz:PySem.W.codeIn K xsz "come" = true)
 (xtP:PySem.W.keepIn K (.ref xtJ) = true)
 (xts:PySem.W.nsIn K mainGlobals "back" = some (some (.ref xtI)))
 (xtW:K.lookup xtI = some ⟨xsW,xsZ,.func (PySem.W.fnOf "back" "back" (defArgs xua) (defBody xua) (defScope xua) .none xsL xsF xs6 xsq xsy xsC),xte⟩)
 (xty:PySem.W.codeIn K xsy "back" = true)
 (xtO:PySem.W.keepIn K (.ref xtI) = true)
 (xtu:PySem.W.nsIn K mainGlobals "told" = some (some (.ref xtK)))
 (xtY:K.lookup xtK = some ⟨xsY,xs1,.func (PySem.W.fnOf "told" "told" (defArgs xuc) (defBody xuc) (defScope xuc) .none xsN xsH xs8 xss xsA xsE),xtg⟩)
 (xtA:PySem.W.codeIn K xsA "told" = true)
 (xtQ:PySem.W.keepIn K (.ref xtK) = true)
 (xrx:PySem.W.nsIn K mainGlobals "joined" = some (some (.ref xrK)))
 (xr4:K.lookup xrK = some ⟨xqW,xqZ,.func (PySem.W.fnOf "joined" "joined" (defArgs xsi) (defBody xsi) (defScope xsi) .none xqE xqy xq7 xqi xqp xqu),xri⟩)
 (xrC:PySem.W.codeIn K xqp "joined" = true)
 (xrR:PySem.W.keepIn K (.ref xrK) = true)
 (xaK:PySem.W.nsIn K mainGlobals "clash_with_earlier" = some (some (.ref xaQ)))
 (xaU:K.lookup xaQ = some ⟨xas,xau,.func (PySem.W.fnOf "clash_with_earlier" "clash_with_earlier" (defArgs xaY) (defBody xaY) (defScope xaY) .none xaq xao xay xag xak xam),xaC⟩)
 (xaM:PySem.W.codeIn K xak "clash_with_earlier" = true)
 (xaS:PySem.W.keepIn K (.ref xaQ) = true)
 (xgl:PySem.W.nsIn K mainGlobals "_law_cell_at" = some (some (.ref xg7)))
 (xhx:K.lookup xg7 = some ⟨xft,xfz,.func (PySem.W.fnOf "_law_cell_at" "_law_cell_at" (defArgs xid) (defBody xid) (defScope xid) .none xfi xe6 xfJ xeG xeT xeZ),xfZ⟩)
 (xgD:PySem.W.codeIn K xeT "_law_cell_at" = true)
 (xhr:PySem.W.keepIn K (.ref xg7) = true)
 (xmU:PySem.W.nsIn K mainGlobals "_law_draw" = some (some (.ref xnK)))
 (xn9:K.lookup xnK = some ⟨xlD,xlM,.func (PySem.W.fnOf "_law_draw" "_law_draw" (defArgs xoQ) (defBody xoQ) (defScope xoQ) .none xlj xk4 xl3 xko xkJ xkS),xmo⟩)
 (xnd:PySem.W.codeIn K xkJ "_law_draw" = true)
 (xn0:PySem.W.keepIn K (.ref xnK) = true)
 (xkl:PySem.W.nsIn K mainGlobals "_law_turns" = some (some (.ref xld)))
 (xlv:K.lookup xld = some ⟨xjQ,xjT,.func (PySem.W.fnOf "_law_turns" "_law_turns" (defArgs xmc) (defBody xmc) (defScope xmc) .none xjw xjh xjZ xiT xi5 xi8),xkb⟩)
 (xkG:PySem.W.codeIn K xi5 "_law_turns" = true)
 (xls:PySem.W.keepIn K (.ref xld) = true)
 (xkk:PySem.W.nsIn K mainGlobals "_law_rests" = some (some (.ref xlc)))
 (xlu:K.lookup xlc = some ⟨xjP,xjS,.func (PySem.W.fnOf "_law_rests" "_law_rests" (defArgs xmb) (defBody xmb) (defScope xmb) .none xjv xjg xjY xiS xi4 xi7),xka⟩)
 (xkF:PySem.W.codeIn K xi4 "_law_rests" = true)
 (xlr:PySem.W.keepIn K (.ref xlc) = true)
 (xmV:PySem.W.nsIn K mainGlobals "_law_part" = some (some (.ref xnL)))
 (xoa:K.lookup xnL = some ⟨xlE,xlN,.func (PySem.W.fnOf "_law_part" "_law_part" (defArgs xoR) (defBody xoR) (defScope xoR) .none xlk xk5 xl4 xkp xkK xkT),xmp⟩)
 (xne:PySem.W.codeIn K xkK "_law_part" = true)
 (xn1:PySem.W.keepIn K (.ref xnL) = true)
 (xmW:PySem.W.nsIn K mainGlobals "_law_says" = some (some (.ref xnM)))
 (xob:K.lookup xnM = some ⟨xlF,xlO,.func (PySem.W.fnOf "_law_says" "_law_says" (defArgs xoS) (defBody xoS) (defScope xoS) .none xll xk6 xl5 xkq xkL xkU),xmq⟩)
 (xnf:PySem.W.codeIn K xkL "_law_says" = true)
 (xn2:PySem.W.keepIn K (.ref xnM) = true)
 (xpm:PySem.W.nsIn K mainGlobals "_law_row" = some (some (.ref xpG)))
 (xpS:K.lookup xpG = some ⟨xor,xow,.func (PySem.W.fnOf "_law_row" "_law_row" (defArgs xp6) (defBody xp6) (defScope xp6) .none xnU xnE xoK xm2 xnl xnq),xo3⟩)
 (xpt:PySem.W.codeIn K xnl "_law_row" = true)
 (xpN:PySem.W.keepIn K (.ref xpG) = true)
 (xbT:PySem.W.nsIn K mainGlobals "_law_rests_right" = some (some (.ref xck)))
 (xcw:K.lookup xck = some ⟨xbr,xbv,.func (PySem.W.fnOf "_law_rests_right" "_law_rests_right" (defArgs xcS) (defBody xcS) (defScope xcS) .none xbn xbj xbz xa3 xbb xbf),xbH⟩)
 (xb3:PySem.W.codeIn K xbb "_law_rests_right" = true)
 (xcs:PySem.W.keepIn K (.ref xck) = true)
 (xmT:PySem.W.nsIn K mainGlobals "_law_bent" = some (some (.ref xnJ)))
 (xn8:K.lookup xnJ = some ⟨xlC,xlL,.func (PySem.W.fnOf "_law_bent" "_law_bent" (defArgs xoP) (defBody xoP) (defScope xoP) .none xli xk3 xl2 xkn xkI xkR),xmn⟩)
 (xnc:PySem.W.codeIn K xkI "_law_bent" = true)
 (xnZ:PySem.W.keepIn K (.ref xnJ) = true)
 (xbS:PySem.W.nsIn K mainGlobals "_law_parts_right" = some (some (.ref xcj)))
 (xcv:K.lookup xcj = some ⟨xbq,xbu,.func (PySem.W.fnOf "_law_parts_right" "_law_parts_right" (defArgs xcR) (defBody xcR) (defScope xcR) .none xbm xbi xby xa2 xba xbe),xbG⟩)
 (xb2:PySem.W.codeIn K xba "_law_parts_right" = true)
 (xcr:PySem.W.keepIn K (.ref xcj) = true)
 (xbR:PySem.W.nsIn K mainGlobals "_law_comes_right" = some (some (.ref xci)))
 (xcu:K.lookup xci = some ⟨xbp,xbt,.func (PySem.W.fnOf "_law_comes_right" "_law_comes_right" (defArgs xcQ) (defBody xcQ) (defScope xcQ) .none xbl xbh xbx xa1 xa9 xbd),xbF⟩)
 (xb1:PySem.W.codeIn K xa9 "_law_comes_right" = true)
 (xcq:PySem.W.keepIn K (.ref xci) = true)
 (xbQ:PySem.W.nsIn K mainGlobals "_law_backs_right" = some (some (.ref xch)))
 (xct:K.lookup xch = some ⟨xbo,xbs,.func (PySem.W.fnOf "_law_backs_right" "_law_backs_right" (defArgs xcP) (defBody xcP) (defScope xcP) .none xbk xbg xbw xa0 xa8 xbc),xbE⟩)
 (xb0:PySem.W.codeIn K xa8 "_law_backs_right" = true)
 (xcp:PySem.W.keepIn K (.ref xch) = true)
 (a_law:PySem.W.nsIn K mainGlobals "law" = some (some (.ref f_law)))
 (l_law:K.lookup f_law = some ⟨xt4,xt5,.func (PySem.W.fnOf "law" "law" (defArgs s_law) (defBody s_law) (defScope s_law) .none xtN xtH xt8 xtv xtB xtD),xuf⟩)
 (c_law:PySem.W.codeIn K xtB "law" = true)
 (k_law:PySem.W.keepIn K (.ref f_law) = true)
 (xq5:PySem.W.plainGet K xrp Str.empty = true)
 (xqC:PySem.W.hasDictIn K xrp = true)
 (xra:PySem.W.plainOver K xrp = true)
 (xrd:PySem.W.findIn K (.ref xrp) "__setattr__" = some (some (.builtin "object.__setattr__")))
 (xqU:PySem.W.makesIn K xrp = true)
 (xqK:PySem.W.keepIn K (.ref xrp) = true)
 (xep:PySem.W.findIn K (.ref xrp) "number" = some none)
 (xhH:PySem.W.findIn K (.ref xrp) "turn" = some none)
 (xqI:PySem.W.findIn K (.ref xrp) "__class__" = some (some (.builtin "object.__class__")))
 (xqO:PySem.W.specialIn K (.builtin "object.__class__") "__get__" = some (some (.builtin "getset_descriptor.__get__")))
 (xqQ:PySem.W.takesIn K (.builtin "object.__class__") = some true)
 (xqM:PySem.W.mroIn K xrp (.type "object") = some true)
 (xej:PySem.W.kitOne K (.ref xrp) (.ref xrp) = some true)
 (xfd:PySem.W.kitOne K (.ref xrp) (.ref xsp) = some false)
 (xhg:PySem.W.kitOne K (.ref xrp) (.ref xtl) = some false)
 (xsd:PySem.W.plainGet K xso Str.empty = true)
 (xrO:PySem.W.hasDictIn K xso = true)
 (xsf:PySem.W.plainOver K xso = true)
 (xsk:PySem.W.findIn K (.ref xso) "__setattr__" = some (some (.builtin "object.__setattr__")))
 (xsb:PySem.W.makesIn K xso = true)
 (xrV:PySem.W.keepIn K (.ref xso) = true)
 (xlA:PySem.W.findIn K (.ref xso) "one" = some none)
 (xhF:PySem.W.findIn K (.ref xso) "other" = some none)
 (xrT:PySem.W.findIn K (.ref xso) "__class__" = some (some (.builtin "object.__class__")))
 (xrZ:PySem.W.specialIn K (.builtin "object.__class__") "__get__" = some (some (.builtin "getset_descriptor.__get__")))
 (xr1:PySem.W.takesIn K (.builtin "object.__class__") = some true)
 (xrX:PySem.W.mroIn K xso (.type "object") = some true)
 (xfb:PySem.W.kitOne K (.ref xso) (.ref xrp) = some false)
 (xhe:PySem.W.kitOne K (.ref xso) (.ref xsp) = some false)
 (xjs:PySem.W.kitOne K (.ref xso) (.ref xtl) = some false)
 (xq4:PySem.W.plainGet K xro Str.empty = true)
 (xqB:PySem.W.hasDictIn K xro = true)
 (xq9:PySem.W.plainOver K xro = true)
 (xrc:PySem.W.findIn K (.ref xro) "__setattr__" = some (some (.builtin "object.__setattr__")))
 (xqT:PySem.W.makesIn K xro = true)
 (xqJ:PySem.W.keepIn K (.ref xro) = true)
 (xhG:PySem.W.findIn K (.ref xro) "part" = some none)
 (xfp:PySem.W.findIn K (.ref xro) "times" = some none)
 (xqH:PySem.W.findIn K (.ref xro) "__class__" = some (some (.builtin "object.__class__")))
 (xqN:PySem.W.specialIn K (.builtin "object.__class__") "__get__" = some (some (.builtin "getset_descriptor.__get__")))
 (xqP:PySem.W.takesIn K (.builtin "object.__class__") = some true)
 (xqL:PySem.W.mroIn K xro (.type "object") = some true)
 (xei:PySem.W.kitOne K (.ref xro) (.ref xrp) = some false)
 (xfc:PySem.W.kitOne K (.ref xro) (.ref xsp) = some false)
 (xhf:PySem.W.kitOne K (.ref xro) (.ref xtl) = some false)
 (xse:PySem.W.plainGet K xsp Str.empty = true)
 (xrP:PySem.W.hasDictIn K xsp = true)
 (xsg:PySem.W.plainOver K xsp = true)
 (xsl:PySem.W.findIn K (.ref xsp) "__setattr__" = some (some (.builtin "object.__setattr__")))
 (xsc:PySem.W.makesIn K xsp = true)
 (xrW:PySem.W.keepIn K (.ref xsp) = true)
 (xhI:PySem.W.findIn K (.ref xsp) "times" = some none)
 (xrU:PySem.W.findIn K (.ref xsp) "__class__" = some (some (.builtin "object.__class__")))
 (xr0:PySem.W.specialIn K (.builtin "object.__class__") "__get__" = some (some (.builtin "getset_descriptor.__get__")))
 (xr2:PySem.W.takesIn K (.builtin "object.__class__") = some true)
 (xrY:PySem.W.mroIn K xsp (.type "object") = some true)
 (xfe:PySem.W.kitOne K (.ref xsp) (.ref xrp) = some false)
 (xhh:PySem.W.kitOne K (.ref xsp) (.ref xsp) = some true)
 (xjt:PySem.W.kitOne K (.ref xsp) (.ref xtl) = some false)
 (xt7:PySem.W.plainGet K C_Bar Str.empty = true)
 (xtM:PySem.W.hasDictIn K C_Bar = true)
 (xt9:PySem.W.plainOver K C_Bar = true)
 (xud:PySem.W.findIn K (.ref C_Bar) "__setattr__" = some (some (.builtin "object.__setattr__")))
 (xt3:PySem.W.makesIn K C_Bar = true)
 (xtS:PySem.W.keepIn K (.ref C_Bar) = true)
 (xop:PySem.W.findIn K (.ref C_Bar) "part" = some none)
 (xtR:PySem.W.findIn K (.ref C_Bar) "__class__" = some (some (.builtin "object.__class__")))
 (xtU:PySem.W.specialIn K (.builtin "object.__class__") "__get__" = some (some (.builtin "getset_descriptor.__get__")))
 (xtV:PySem.W.takesIn K (.builtin "object.__class__") = some true)
 (xtT:PySem.W.mroIn K C_Bar (.type "object") = some true)
 (xjr:PySem.W.kitOne K (.ref C_Bar) (.ref xrp) = some false)
 (xlg:PySem.W.kitOne K (.ref C_Bar) (.ref xsp) = some false)
 (xnS:PySem.W.kitOne K (.ref C_Bar) (.ref xtl) = some false)
 (xs5:PySem.W.plainGet K xtl Str.empty = true)
 (xsK:PySem.W.hasDictIn K xtl = true)
 (xs9:PySem.W.plainOver K xtl = true)
 (xta:PySem.W.findIn K (.ref xtl) "__setattr__" = some (some (.builtin "object.__setattr__")))
 (xsV:PySem.W.makesIn K xtl = true)
 (xsP:PySem.W.keepIn K (.ref xtl) = true)
 (xlz:PySem.W.findIn K (.ref xtl) "rest" = some none)
 (xsO:PySem.W.findIn K (.ref xtl) "__class__" = some (some (.builtin "object.__class__")))
 (xsR:PySem.W.specialIn K (.builtin "object.__class__") "__get__" = some (some (.builtin "getset_descriptor.__get__")))
 (xsS:PySem.W.takesIn K (.builtin "object.__class__") = some true)
 (xsQ:PySem.W.mroIn K xtl (.type "object") = some true)
 (xhd:PySem.W.kitOne K (.ref xtl) (.ref xrp) = some false)
 (xjq:PySem.W.kitOne K (.ref xtl) (.ref xsp) = some false)
 (xlf:PySem.W.kitOne K (.ref xtl) (.ref xtl) = some true)
 (xdw:PySem.W.nsIn K mainGlobals "GREATEST_ROUND" = some (some (.int 1000000 xez)))
 (xcl:PySem.W.nsIn K mainGlobals "GREATEST_NUMBER" = some (some (.int 1000000 xdX)))
 (z_abs:PySem.W.nsIn K mainGlobals "abs" = some none)
 (z_all:PySem.W.nsIn K mainGlobals "all" = some none)
 (z_bool:PySem.W.nsIn K mainGlobals "bool" = some none)
 (z_enumerate:PySem.W.nsIn K mainGlobals "enumerate" = some none)
 (z_int:PySem.W.nsIn K mainGlobals "int" = some none)
 (z_isinstance:PySem.W.nsIn K mainGlobals "isinstance" = some none)
 (z_len:PySem.W.nsIn K mainGlobals "len" = some none)
 (z_list:PySem.W.nsIn K mainGlobals "list" = some none)
 (z_range:PySem.W.nsIn K mainGlobals "range" = some none)
 (z_reversed:PySem.W.nsIn K mainGlobals "reversed" = some none)
 (z_sum:PySem.W.nsIn K mainGlobals "sum" = some none)
 (z_tuple:PySem.W.nsIn K mainGlobals "tuple" = some none)
 (z_zip:PySem.W.nsIn K mainGlobals "zip" = some none)
 (is_int_int:PySem.W.kitOne K (.type "int") (.type "int") = some true)
 (is_int_bool:PySem.W.kitOne K (.type "int") (.type "bool") = some false)
 (is_list_list:PySem.W.kitOne K (.type "list") (.type "list") = some true)
 (is_tuple_tuple:PySem.W.kitOne K (.type "tuple") (.type "tuple") = some true)
 (is_bool_bool:PySem.W.kitOne K (.type "bool") (.type "bool") = some true)
 : ∃ fd:FuncData,(∀ (s:Shared) (v:Value),BindsTo s fd ⟨[v],[]⟩ [("_law_script", v)]) ∧ ∀ base:Heap,K.In base → base.Ns mainGlobals mg → FnOk l.prog w K mg base CX0 9 fa fd ["_law_script"] (xug K):=by
  have e:=hfa.symm.trans (PySem.W.mg_of KX G a_law)
  cases e
  have T:Txt K mg ⟨xpI,(PySem.W.fnOf "is_whole" "is_whole" (defArgs xp8) (defBody xp8) (defScope xp8) .none xnW xnG xoM xm4 xnn xns),xnQ,(PySem.W.fnOf "is_number" "is_number" (defArgs xoW) (defBody xoW) (defScope xoW) .none xlp xla xl9 xku xkP xkY),xjk,(PySem.W.fnOf "are_numbers" "are_numbers" (defArgs xj2) (defBody xj2) (defScope xj2) .none xhk xg0 xh6 xgq xgI xgO),xpH,(PySem.W.fnOf "is_round" "is_round" (defArgs xp7) (defBody xp7) (defScope xp7) .none xnV xnF xoL xm3 xnm xnr),xqA,(PySem.W.fnOf "is_rest" "is_rest" (defArgs xrb) (defBody xrb) (defScope xrb) .none xpL xpE xp4 xpq xpx xpy),xg9,(PySem.W.fnOf "is_rest_pair" "is_rest_pair" (defArgs xif) (defBody xif) (defScope xif) .none xfk xe8 xfL xeI xeV xe1),xnN,(PySem.W.fnOf "are_rests" "are_rests" (defArgs xoT) (defBody xoT) (defScope xoT) .none xlm xk7 xl6 xkr xkM xkV),xnP,(PySem.W.fnOf "goes_into" "goes_into" (defArgs xoV) (defBody xoV) (defScope xoV) .none xlo xk9 xl8 xkt xkO xkX),xrL,(PySem.W.fnOf "leaves" "leaves" (defArgs xsj) (defBody xsj) (defScope xsj) .none xqF xqz xq8 xqj xqq xqv),xaR,(PySem.W.fnOf "common_part_of_two" "common_part_of_two" (defArgs xaZ) (defBody xaZ) (defScope xaZ) .none xar xap xaz xah xal xan),xdu,(PySem.W.fnOf "part_with_times" "part_with_times" (defArgs xdQ) (defBody xdQ) (defScope xdQ) .none xco xcg xcO xbW xb6 xb9),xjn,(PySem.W.fnOf "turned_back" "turned_back" (defArgs xj5) (defBody xj5) (defScope xj5) .none xhn xg3 xh9 xgt xgL xgR),xjl,(PySem.W.fnOf "common_part" "common_part" (defArgs xj3) (defBody xj3) (defScope xj3) .none xhl xg1 xh7 xgr xgJ xgP),xjm,(PySem.W.fnOf "common_turn" "common_turn" (defArgs xj4) (defBody xj4) (defScope xj4) .none xhm xg2 xh8 xgs xgK xgQ),xg8,(PySem.W.fnOf "all_together" "all_together" (defArgs xie) (defBody xie) (defScope xie) .none xfj xe7 xfK xeH xeU xe0),xdt,(PySem.W.fnOf "__init__" "Number.__init__" (defArgs xdP) (defBody xdP) (defScope xdP) .none xcn xcf xcN xbV xb5 xb8),xg6,(PySem.W.fnOf "shows" "Number.shows" (defArgs xic) (defBody xic) (defScope xic) .none xfh xe5 xfI xeF xeS xeY),xed,(PySem.W.fnOf "__init__" "Clash.__init__" (defArgs xet) (defBody xet) (defScope xet) .none xdz xdq xdM xdc xdj xdl),xji,(PySem.W.fnOf "shows" "Clash.shows" (defArgs xj0) (defBody xj0) (defScope xj0) .none xhi xgY xh4 xgo xgG xgM),xds,(PySem.W.fnOf "__init__" "Common.__init__" (defArgs xdO) (defBody xdO) (defScope xdO) .none xcm xce xcM xbU xb4 xb7),xg5,(PySem.W.fnOf "shows" "Common.shows" (defArgs xib) (defBody xib) (defScope xib) .none xfg xe4 xfH xeE xeR xeX),xee,(PySem.W.fnOf "__init__" "Times.__init__" (defArgs xeu) (defBody xeu) (defScope xeu) .none xdA xdr xdN xdd xdk xdm),xjj,(PySem.W.fnOf "shows" "Times.shows" (defArgs xj1) (defBody xj1) (defScope xj1) .none xhj xgZ xh5 xgp xgH xgN),xg4,(PySem.W.fnOf "__init__" "Bar.__init__" (defArgs xia) (defBody xia) (defScope xia) .none xff xe3 xfG xeD xeQ xeW),xnI,(PySem.W.fnOf "shows" "Bar.shows" (defArgs xoO) (defBody xoO) (defScope xoO) .none xlh xk2 xl1 xkm xkH xkQ),xpF,(PySem.W.fnOf "bars" "Bar.bars" (defArgs xp5) (defBody xp5) (defScope xp5) .none xnT xnD xoJ xm1 xnk xnp),xe9,(PySem.W.fnOf "__init__" "Back.__init__" (defArgs xfM) (defBody xfM) (defScope xfM) .none xek xec xes xd4 xd8 xd9),xlb,(PySem.W.fnOf "shows" "Back.shows" (defArgs xma) (defBody xma) (defScope xma) .none xju xjf xjX xiR xi3 xi6),xrJ,(PySem.W.fnOf "common" "common" (defArgs xsh) (defBody xsh) (defScope xsh) .none xqD xqx xq6 xqh xqo xqt),xnO,(PySem.W.fnOf "common_of" "common_of" (defArgs xoU) (defBody xoU) (defScope xoU) .none xln xk8 xl7 xks xkN xkW),xpJ,(PySem.W.fnOf "times_of" "times_of" (defArgs xp9) (defBody xp9) (defScope xp9) .none xnX xnH xoN xm5 xno xnt),xtJ,(PySem.W.fnOf "come" "come" (defArgs xub) (defBody xub) (defScope xub) .none xsM xsG xs7 xsr xsz xsD),xtI,(PySem.W.fnOf "back" "back" (defArgs xua) (defBody xua) (defScope xua) .none xsL xsF xs6 xsq xsy xsC),xtK,(PySem.W.fnOf "told" "told" (defArgs xuc) (defBody xuc) (defScope xuc) .none xsN xsH xs8 xss xsA xsE),xrK,(PySem.W.fnOf "joined" "joined" (defArgs xsi) (defBody xsi) (defScope xsi) .none xqE xqy xq7 xqi xqp xqu),xaQ,(PySem.W.fnOf "clash_with_earlier" "clash_with_earlier" (defArgs xaY) (defBody xaY) (defScope xaY) .none xaq xao xay xag xak xam),xg7,(PySem.W.fnOf "_law_cell_at" "_law_cell_at" (defArgs xid) (defBody xid) (defScope xid) .none xfi xe6 xfJ xeG xeT xeZ),xnK,(PySem.W.fnOf "_law_draw" "_law_draw" (defArgs xoQ) (defBody xoQ) (defScope xoQ) .none xlj xk4 xl3 xko xkJ xkS),xld,(PySem.W.fnOf "_law_turns" "_law_turns" (defArgs xmc) (defBody xmc) (defScope xmc) .none xjw xjh xjZ xiT xi5 xi8),xlc,(PySem.W.fnOf "_law_rests" "_law_rests" (defArgs xmb) (defBody xmb) (defScope xmb) .none xjv xjg xjY xiS xi4 xi7),xnL,(PySem.W.fnOf "_law_part" "_law_part" (defArgs xoR) (defBody xoR) (defScope xoR) .none xlk xk5 xl4 xkp xkK xkT),xnM,(PySem.W.fnOf "_law_says" "_law_says" (defArgs xoS) (defBody xoS) (defScope xoS) .none xll xk6 xl5 xkq xkL xkU),xpG,(PySem.W.fnOf "_law_row" "_law_row" (defArgs xp6) (defBody xp6) (defScope xp6) .none xnU xnE xoK xm2 xnl xnq),xck,(PySem.W.fnOf "_law_rests_right" "_law_rests_right" (defArgs xcS) (defBody xcS) (defScope xcS) .none xbn xbj xbz xa3 xbb xbf),xnJ,(PySem.W.fnOf "_law_bent" "_law_bent" (defArgs xoP) (defBody xoP) (defScope xoP) .none xli xk3 xl2 xkn xkI xkR),xcj,(PySem.W.fnOf "_law_parts_right" "_law_parts_right" (defArgs xcR) (defBody xcR) (defScope xcR) .none xbm xbi xby xa2 xba xbe),xci,(PySem.W.fnOf "_law_comes_right" "_law_comes_right" (defArgs xcQ) (defBody xcQ) (defScope xcQ) .none xbl xbh xbx xa1 xa9 xbd),xch,(PySem.W.fnOf "_law_backs_right" "_law_backs_right" (defArgs xcP) (defBody xcP) (defScope xcP) .none xbk xbg xbw xa0 xa8 xbc),fa,(PySem.W.fnOf "law" "law" (defArgs s_law) (defBody s_law) (defScope s_law) .none xtN xtH xt8 xtv xtB xtD),xrp,xso,xro,xsp,C_Bar,xtl,xez,xdX⟩:=⟨fun_mk (st:=xp8) xpU xpv xpP,
    (fun_mk (st:=xp8) xpU xpv xpP).binds (ps:=["value"]) (fun _ _ _ _ _ _ us hl=>match us,hl with | [_],_=>rfl),
    PySem.W.mg_of KX G xpo,
    xpP,
    fun_mk (st:=xoW) xof xnj xn6,
    (fun_mk (st:=xoW) xof xnj xn6).binds (ps:=["value"]) (fun _ _ _ _ _ _ us hl=>match us,hl with | [_],_=>rfl),
    PySem.W.mg_of KX G xm0,
    xn6,
    fun_mk (st:=xj2) xjF xiZ xjz,
    (fun_mk (st:=xj2) xjF xiZ xjz).binds (ps:=["value"]) (fun _ _ _ _ _ _ us hl=>match us,hl with | [_],_=>rfl),
    PySem.W.mg_of KX G xiN,
    xjz,
    fun_mk (st:=xp7) xpT xpu xpO,
    (fun_mk (st:=xp7) xpT xpu xpO).binds (ps:=["value"]) (fun _ _ _ _ _ _ us hl=>match us,hl with | [_],_=>rfl),
    PySem.W.mg_of KX G xpn,
    xpO,
    fun_mk (st:=xrb) xqR xqn xqG,
    (fun_mk (st:=xrb) xqR xqn xqG).binds (ps:=["value", "turn"]) (fun _ _ _ _ _ _ us hl=>match us,hl with | [_,_],_=>rfl),
    PySem.W.mg_of KX G xqg,
    xqG,
    fun_mk (st:=xif) xhz xgF xht,
    (fun_mk (st:=xif) xhz xgF xht).binds (ps:=["value"]) (fun _ _ _ _ _ _ us hl=>match us,hl with | [_],_=>rfl),
    PySem.W.mg_of KX G xgn,
    xht,
    fun_mk (st:=xoT) xoc xng xn3,
    (fun_mk (st:=xoT) xoc xng xn3).binds (ps:=["value"]) (fun _ _ _ _ _ _ us hl=>match us,hl with | [_],_=>rfl),
    PySem.W.mg_of KX G xmX,
    xn3,
    fun_mk (st:=xoV) xoe xni xn5,
    (fun_mk (st:=xoV) xoe xni xn5).binds (ps:=["part", "number"]) (fun _ _ _ _ _ _ us hl=>match us,hl with | [_,_],_=>rfl),
    PySem.W.mg_of KX G xmZ,
    xn5,
    fun_mk (st:=xsj) xr5 xrD xrS,
    (fun_mk (st:=xsj) xr5 xrD xrS).binds (ps:=["number", "rest", "turn"]) (fun _ _ _ _ _ _ us hl=>match us,hl with | [_,_,_],_=>rfl),
    PySem.W.mg_of KX G xry,
    xrS,
    fun_mk (st:=xaZ) xaV xaN xaT,
    (fun_mk (st:=xaZ) xaV xaN xaT).binds (ps:=["one", "other"]) (fun _ _ _ _ _ _ us hl=>match us,hl with | [_,_],_=>rfl),
    PySem.W.mg_of KX G xaL,
    xaT,
    fun_mk (st:=xdQ) xdG xdi xdD,
    (fun_mk (st:=xdQ) xdG xdi xdD).binds (ps:=["one", "other"]) (fun _ _ _ _ _ _ us hl=>match us,hl with | [_,_],_=>rfl),
    PySem.W.mg_of KX G xdb,
    xdD,
    fun_mk (st:=xj5) xjI xi2 xjC,
    (fun_mk (st:=xj5) xjI xi2 xjC).binds (ps:=["number", "turn"]) (fun _ _ _ _ _ _ us hl=>match us,hl with | [_,_],_=>rfl),
    PySem.W.mg_of KX G xiQ,
    xjC,
    fun_mk (st:=xj3) xjG xi0 xjA,
    (fun_mk (st:=xj3) xjG xi0 xjA).binds (ps:=["numbers"]) (fun _ _ _ _ _ _ us hl=>match us,hl with | [_],_=>rfl),
    PySem.W.mg_of KX G xiO,
    xjA,
    fun_mk (st:=xj4) xjH xi1 xjB,
    (fun_mk (st:=xj4) xjH xi1 xjB).binds (ps:=["turns"]) (fun _ _ _ _ _ _ us hl=>match us,hl with | [_],_=>rfl),
    PySem.W.mg_of KX G xiP,
    xjB,
    fun_mk (st:=xie) xhy xgE xhs,
    (fun_mk (st:=xie) xhy xgE xhs).binds (ps:=["numbers", "times"]) (fun _ _ _ _ _ _ us hl=>match us,hl with | [_,_],_=>rfl),
    PySem.W.mg_of KX G xgm,
    xhs,
    fun_mk (st:=xdP) xdF xdh xdC,
    (fun_mk (st:=xdP) xdF xdh xdC).binds (ps:=["self", "number", "turn"]) (fun _ _ _ _ _ _ us hl=>match us,hl with | [_,_,_],_=>rfl),
    ⟨xqU,xda,xdy,xqK⟩,
    fun_mk (st:=xic) xhw xgC xhq,
    (fun_mk (st:=xic) xhw xgC xhq).binds (ps:=["self", "rests"]) (fun _ _ _ _ _ _ us hl=>match us,hl with | [_,_],_=>rfl),
    ⟨xgk,xhc,xhq⟩,
    fun_mk (st:=xet) xen xd6 xel,
    (fun_mk (st:=xet) xen xd6 xel).binds (ps:=["self", "one", "other"]) (fun _ _ _ _ _ _ us hl=>match us,hl with | [_,_,_],_=>rfl),
    ⟨xsb,xd2,xeg,xrV⟩,
    fun_mk (st:=xj0) xjD xiX xjx,
    (fun_mk (st:=xj0) xjD xiX xjx).binds (ps:=["self", "rests"]) (fun _ _ _ _ _ _ us hl=>match us,hl with | [_,_],_=>rfl),
    ⟨xiL,xjo,xjx⟩,
    fun_mk (st:=xdO) xdE xdg xdB,
    (fun_mk (st:=xdO) xdE xdg xdB).binds (ps:=["self", "part", "times"]) (fun _ _ _ _ _ _ us hl=>match us,hl with | [_,_,_],_=>rfl),
    ⟨xqT,xc9,xdx,xqJ⟩,
    fun_mk (st:=xib) xhv xgB xhp,
    (fun_mk (st:=xib) xhv xgB xhp).binds (ps:=["self", "numbers"]) (fun _ _ _ _ _ _ us hl=>match us,hl with | [_,_],_=>rfl),
    ⟨xgj,xhb,xhp⟩,
    fun_mk (st:=xeu) xeo xd7 xem,
    (fun_mk (st:=xeu) xeo xd7 xem).binds (ps:=["self", "times"]) (fun _ _ _ _ _ _ us hl=>match us,hl with | [_,_],_=>rfl),
    ⟨xsc,xd3,xeh,xrW⟩,
    fun_mk (st:=xj1) xjE xiY xjy,
    (fun_mk (st:=xj1) xjE xiY xjy).binds (ps:=["self", "numbers", "turn", "rest"]) (fun _ _ _ _ _ _ us hl=>match us,hl with | [_,_,_,_],_=>rfl),
    ⟨xiM,xjp,xjy⟩,
    fun_mk (st:=xia) xhu xgA xho,
    (fun_mk (st:=xia) xhu xgA xho).binds (ps:=["self", "part"]) (fun _ _ _ _ _ _ us hl=>match us,hl with | [_,_],_=>rfl),
    ⟨xt3,xgi,xha,xtS⟩,
    fun_mk (st:=xoO) xn7 xnb xnY,
    (fun_mk (st:=xoO) xn7 xnb xnY).binds (ps:=["self", "numbers", "turn", "rest"]) (fun _ _ _ _ _ _ us hl=>match us,hl with | [_,_,_,_],_=>rfl),
    ⟨xmS,xnR,xnY⟩,
    fun_mk (st:=xp5) xpR xps xpM,
    (fun_mk (st:=xp5) xpR xps xpM).binds (ps:=["self", "number", "turn"]) (fun _ _ _ _ _ _ us hl=>match us,hl with | [_,_,_],_=>rfl),
    ⟨xpl,xpK,xpM⟩,
    fun_mk (st:=xfM) xfm xeP xfl,
    (fun_mk (st:=xfM) xfm xeP xfl).binds (ps:=["self", "rest"]) (fun _ _ _ _ _ _ us hl=>match us,hl with | [_,_],_=>rfl),
    ⟨xsV,xeC,xfa,xsP⟩,
    fun_mk (st:=xma) xlt xkE xlq,
    (fun_mk (st:=xma) xlt xkE xlq).binds (ps:=["self", "number", "turn"]) (fun _ _ _ _ _ _ us hl=>match us,hl with | [_,_,_],_=>rfl),
    ⟨xkj,xle,xlq⟩,
    fun_mk (st:=xsh) xr3 xrB xrQ,
    (fun_mk (st:=xsh) xr3 xrB xrQ).binds (ps:=["numbers"]) (fun _ _ _ _ _ _ us hl=>match us,hl with | [_],_=>rfl),
    PySem.W.mg_of KX G xrw,
    xrQ,
    fun_mk (st:=xoU) xod xnh xn4,
    (fun_mk (st:=xoU) xod xnh xn4).binds (ps:=["numbers"]) (fun _ _ _ _ _ _ us hl=>match us,hl with | [_],_=>rfl),
    PySem.W.mg_of KX G xmY,
    xn4,
    fun_mk (st:=xp9) xpV xpw xpQ,
    (fun_mk (st:=xp9) xpV xpw xpQ).binds (ps:=["steps"]) (fun _ _ _ _ _ _ us hl=>match us,hl with | [_],_=>rfl),
    PySem.W.mg_of KX G xpp,
    xpQ,
    fun_mk (st:=xub) xtX xtz xtP,
    (fun_mk (st:=xub) xtX xtz xtP).binds (ps:=["numbers", "turn", "rest"]) (fun _ _ _ _ _ _ us hl=>match us,hl with | [_,_,_],_=>rfl),
    PySem.W.mg_of KX G xtt,
    xtP,
    fun_mk (st:=xua) xtW xty xtO,
    (fun_mk (st:=xua) xtW xty xtO).binds (ps:=["number", "turn"]) (fun _ _ _ _ _ _ us hl=>match us,hl with | [_,_],_=>rfl),
    PySem.W.mg_of KX G xts,
    xtO,
    fun_mk (st:=xuc) xtY xtA xtQ,
    (fun_mk (st:=xuc) xtY xtA xtQ).binds (ps:=["rests"]) (fun _ _ _ _ _ _ us hl=>match us,hl with | [_],_=>rfl),
    PySem.W.mg_of KX G xtu,
    xtQ,
    fun_mk (st:=xsi) xr4 xrC xrR,
    (fun_mk (st:=xsi) xr4 xrC xrR).binds (ps:=["so_far", "rest", "turn"]) (fun _ _ _ _ _ _ us hl=>match us,hl with | [_,_,_],_=>rfl),
    PySem.W.mg_of KX G xrx,
    xrR,
    fun_mk (st:=xaY) xaU xaM xaS,
    (fun_mk (st:=xaY) xaU xaM xaS).binds (ps:=["rests", "place"]) (fun _ _ _ _ _ _ us hl=>match us,hl with | [_,_],_=>rfl),
    PySem.W.mg_of KX G xaK,
    xaS,
    fun_mk (st:=xid) xhx xgD xhr,
    (fun_mk (st:=xid) xhx xgD xhr).binds (ps:=["_law_script", "_law_k"]) (fun _ _ _ _ _ _ us hl=>match us,hl with | [_,_],_=>rfl),
    PySem.W.mg_of KX G xgl,
    xhr,
    fun_mk (st:=xoQ) xn9 xnd xn0,
    (fun_mk (st:=xoQ) xn9 xnd xn0).binds (ps:=["_law_cell", "_law_k", "_law_many"]) (fun _ _ _ _ _ _ us hl=>match us,hl with | [_,_,_],_=>rfl),
    PySem.W.mg_of KX G xmU,
    xn0,
    fun_mk (st:=xmc) xlv xkG xls,
    (fun_mk (st:=xmc) xlv xkG xls).binds (ps:=["_law_script"]) (fun _ _ _ _ _ _ us hl=>match us,hl with | [_],_=>rfl),
    PySem.W.mg_of KX G xkl,
    xls,
    fun_mk (st:=xmb) xlu xkF xlr,
    (fun_mk (st:=xmb) xlu xkF xlr).binds (ps:=["_law_script"]) (fun _ _ _ _ _ _ us hl=>match us,hl with | [_],_=>rfl),
    PySem.W.mg_of KX G xkk,
    xlr,
    fun_mk (st:=xoR) xoa xne xn1,
    (fun_mk (st:=xoR) xoa xne xn1).binds (ps:=["_law_one", "_law_other"]) (fun _ _ _ _ _ _ us hl=>match us,hl with | [_,_],_=>rfl),
    PySem.W.mg_of KX G xmV,
    xn1,
    fun_mk (st:=xoS) xob xnf xn2,
    (fun_mk (st:=xoS) xob xnf xn2).binds (ps:=["_law_said", "_law_due"]) (fun _ _ _ _ _ _ us hl=>match us,hl with | [_,_],_=>rfl),
    PySem.W.mg_of KX G xmW,
    xn2,
    fun_mk (st:=xp6) xpS xpt xpN,
    (fun_mk (st:=xp6) xpS xpt xpN).binds (ps:=["_law_script"]) (fun _ _ _ _ _ _ us hl=>match us,hl with | [_],_=>rfl),
    PySem.W.mg_of KX G xpm,
    xpN,
    fun_mk (st:=xcS) xcw xb3 xcs,
    (fun_mk (st:=xcS) xcw xb3 xcs).binds (ps:=["_law_rests_here", "_law_cell"]) (fun _ _ _ _ _ _ us hl=>match us,hl with | [_,_],_=>rfl),
    PySem.W.mg_of KX G xbT,
    xcs,
    fun_mk (st:=xoP) xn8 xnc xnZ,
    (fun_mk (st:=xoP) xn8 xnc xnZ).binds (ps:=["_law_some", "_law_cell"]) (fun _ _ _ _ _ _ us hl=>match us,hl with | [_,_],_=>rfl),
    PySem.W.mg_of KX G xmT,
    xnZ,
    fun_mk (st:=xcR) xcv xb2 xcr,
    (fun_mk (st:=xcR) xcv xb2 xcr).binds (ps:=["_law_numbers_here", "_law_cell"]) (fun _ _ _ _ _ _ us hl=>match us,hl with | [_,_],_=>rfl),
    PySem.W.mg_of KX G xbS,
    xcr,
    fun_mk (st:=xcQ) xcu xb1 xcq,
    (fun_mk (st:=xcQ) xcu xb1 xcq).binds (ps:=["_law_numbers_here", "_law_cell"]) (fun _ _ _ _ _ _ us hl=>match us,hl with | [_,_],_=>rfl),
    PySem.W.mg_of KX G xbR,
    xcq,
    fun_mk (st:=xcP) xct xb0 xcp,
    (fun_mk (st:=xcP) xct xb0 xcp).binds (ps:=["_law_number", "_law_turn", "_law_cell"]) (fun _ _ _ _ _ _ us hl=>match us,hl with | [_,_,_],_=>rfl),
    PySem.W.mg_of KX G xbQ,
    xcp,
    fun_mk (st:=s_law) l_law c_law k_law,
    (fun_mk (st:=s_law) l_law c_law k_law).binds (ps:=["_law_script"]) (fun _ _ _ _ _ _ us hl=>match us,hl with | [_],_=>rfl),
    PySem.W.mg_of KX G a_law,
    k_law,
    PySem.W.mg_of KX G xrN,
    ⟨xq5,xqC,xra,xrd⟩,
    xep,
    xhH,
    (fun H a dx fs e=>TyOf.ins e ⟨xq5,xqC,xra,xrd⟩ xqI xqO xqQ xqM),
    xej,
    xfd,
    xhg,
    PySem.W.mg_of KX G xsI,
    ⟨xsd,xrO,xsf,xsk⟩,
    xlA,
    xhF,
    (fun H a dx fs e=>TyOf.ins e ⟨xsd,xrO,xsf,xsk⟩ xrT xrZ xr1 xrX),
    xfb,
    xhe,
    xjs,
    PySem.W.mg_of KX G xrM,
    ⟨xq4,xqB,xq9,xrc⟩,
    xhG,
    xfp,
    (fun H a dx fs e=>TyOf.ins e ⟨xq4,xqB,xq9,xrc⟩ xqH xqN xqP xqL),
    xei,
    xfc,
    xhf,
    PySem.W.mg_of KX G xsJ,
    ⟨xse,xrP,xsg,xsl⟩,
    xhI,
    (fun H a dx fs e=>TyOf.ins e ⟨xse,xrP,xsg,xsl⟩ xrU xr0 xr2 xrY),
    xfe,
    xhh,
    xjt,
    PySem.W.mg_of KX G g_Bar,
    ⟨xt7,xtM,xt9,xud⟩,
    xop,
    (fun H a dx fs e=>TyOf.ins e ⟨xt7,xtM,xt9,xud⟩ xtR xtU xtV xtT),
    xjr,
    xlg,
    xnS,
    PySem.W.mg_of KX G xtL,
    ⟨xs5,xsK,xs9,xta⟩,
    xlz,
    (fun H a dx fs e=>TyOf.ins e ⟨xs5,xsK,xs9,xta⟩ xsO xsR xsS xsQ),
    xhd,
    xjq,
    xlf,
    PySem.W.mg_of KX G xdw,
    PySem.W.mg_of KX G xcl,
    PySem.W.mg_none_of KX G z_abs,
    PySem.W.mg_none_of KX G z_all,
    PySem.W.mg_none_of KX G z_bool,
    PySem.W.mg_none_of KX G z_enumerate,
    PySem.W.mg_none_of KX G z_int,
    PySem.W.mg_none_of KX G z_isinstance,
    PySem.W.mg_none_of KX G z_len,
    PySem.W.mg_none_of KX G z_list,
    PySem.W.mg_none_of KX G z_range,
    PySem.W.mg_none_of KX G z_reversed,
    PySem.W.mg_none_of KX G z_sum,
    PySem.W.mg_none_of KX G z_tuple,
    PySem.W.mg_none_of KX G z_zip,
    is_int_int,
    is_int_bool,
    is_list_list,
    is_tuple_tuple,
    is_bool_bool⟩
  exact ⟨PySem.W.fnOf "law" "law" (defArgs s_law) (defBody s_law) (defScope s_law) .none xtN xtH xt8 xtv xtB xtD,fun s v=>.of_eq rfl,fun base _ _=>xt6 T⟩
theorem walk {l:PySem.W.OpenLaw} {q:Program} {loose:List Str} {XP:(Str → Option Value) → Heap → Prop} {YP:World → Heap → Prop} {d:DefRec} {K:Params → PySem.W.Frag} (hn:l.most = some 63) (hdf:d.params.defaults = [])
    (hY:∀ (w:World) (h:Heap),YP w h → (K w.params).In h)
    (F:∀ (w:World) (mg:Str → Option Value) (fa:Addr) (h:Heap),(K w.params).In h → h.Ns mainGlobals mg → mg d.name = some (.ref fa) →
      ∃ fd:FuncData,(∀ (s:Shared) (u:Value),BindsTo s fd ⟨[u],[]⟩ [("_law_script", u)]) ∧ ∀ base:Heap,(K w.params).In base → base.Ns mainGlobals mg → FnOk l.prog w (K w.params) mg base CX0 9 fa fd ["_law_script"] (xug (K w.params))) :
    PySem.W.WalkO q loose XP YP l.row.toRowW d [] (fun f vs=>PySem.call f vs) :=
  L2.walk_ofX (n:=63) (k:=9) (x := "_law_script") (CX:=fun _=>CX0) (sp:=fun w=>xug (K w.params)) hn (by decide) hdf ⟨rfl,by decide,by decide⟩ hY F (fun _ _ a ns hl _ hS=>⟨a,ns,rfl,hS,hl,fun _=>rfl⟩) fun _ _ _ _ _ z=>z
end W06
open PySem PySem.W PyProof.Rows
set_option maxRecDepth 100000 in
set_option maxHeartbeats 0 in
theorem PySem.Challenge.cw_wheelrow_k06_answers_by_hand_holds : PySem.Challenge.rw_wheelrow_k06_answers_by_hand.Holds := by
  w_on; o_law
  refine PySem.W.holds_open (q:=H06.Q) (loose:=[]) (Xt:=H06.XtOf H06.Q) (XP:=XL H06.Q []) (Yf:=Hook.obs (kHook H06.K H06.as H06.as_eq)) (Ya:=Hook.val (kHook H06.K H06.as H06.as_eq)) (YP:=Hook.says (kHook H06.K H06.as H06.as_eq)) (N:=8372) H06.left (Hook.of H06.H) (Hook.keeps H06.H) (fun s e=>xl_of s (Bool.and_eq_true_iff.mp e).1) XL.keeps (by rfl) (by rfl) (by rfl) (fun s e=>recFacts_of (Bool.and_eq_true_iff.mp e).2) (by rfl) (by first | assumption | decide +kernel) (by decide +kernel) ⟨rfl,rfl,rfl,rfl,rfl,by decide +kernel⟩ ?hw ?hc
  (case hw=>w_witness2)
  k_fill
  refine W06.walk (l:=PySem.Challenge.rw_wheelrow_k06_answers_by_hand) rfl rfl (fun w h Y=>PySem.W.kIn_of Y) ?F
  case F =>
    intro w mg fa h KX G hmg
    refine' W06.all_mk KX G hmg ?xrN ?xsI ?xrM ?xsJ ?g_Bar ?xtL ?xpo ?xpU ?xpv ?xpP ?xm0 ?xof ?xnj ?xn6 ?xiN ?xjF ?xiZ ?xjz ?xpn ?xpT ?xpu ?xpO ?xqg ?xqR ?xqn ?xqG ?xgn ?xhz ?xgF ?xht ?xmX ?xoc ?xng ?xn3 ?xmZ ?xoe ?xni ?xn5 ?xry ?xr5 ?xrD ?xrS ?xaL ?xaV ?xaN ?xaT ?xdb ?xdG ?xdi ?xdD ?xiQ ?xjI ?xi2 ?xjC ?xiO ?xjG ?xi0 ?xjA ?xiP ?xjH ?xi1 ?xjB ?xgm ?xhy ?xgE ?xhs ?xda ?xdy ?xdF ?xdh ?xdC ?xgk ?xhc ?xhw ?xgC ?xhq ?xd2 ?xeg ?xen ?xd6 ?xel ?xiL ?xjo ?xjD ?xiX ?xjx ?xc9 ?xdx ?xdE ?xdg ?xdB ?xgj ?xhb ?xhv ?xgB ?xhp ?xd3 ?xeh ?xeo ?xd7 ?xem ?xiM ?xjp ?xjE ?xiY ?xjy ?xgi ?xha ?xhu ?xgA ?xho ?xmS ?xnR ?xn7 ?xnb ?xnY ?xpl ?xpK ?xpR ?xps ?xpM ?xeC ?xfa ?xfm ?xeP ?xfl ?xkj ?xle ?xlt ?xkE ?xlq ?xrw ?xr3 ?xrB ?xrQ ?xmY ?xod ?xnh ?xn4 ?xpp ?xpV ?xpw ?xpQ ?xtt ?xtX ?xtz ?xtP ?xts ?xtW ?xty ?xtO ?xtu ?xtY ?xtA ?xtQ ?xrx ?xr4 ?xrC ?xrR ?xaK ?xaU ?xaM ?xaS ?xgl ?xhx ?xgD ?xhr ?xmU ?xn9 ?xnd ?xn0 ?xkl ?xlv ?xkG ?xls ?xkk ?xlu ?xkF ?xlr ?xmV ?xoa ?xne ?xn1 ?xmW ?xob ?xnf ?xn2 ?xpm ?xpS ?xpt ?xpN ?xbT ?xcw ?xb3 ?xcs ?xmT ?xn8 ?xnc ?xnZ ?xbS ?xcv ?xb2 ?xcr ?xbR ?xcu ?xb1 ?xcq ?xbQ ?xct ?xb0 ?xcp ?a_law ?l_law ?c_law ?k_law ?xq5 ?xqC ?xra ?xrd ?xqU ?xqK ?xep ?xhH ?xqI ?xqO ?xqQ ?xqM ?xej ?xfd ?xhg ?xsd ?xrO ?xsf ?xsk ?xsb ?xrV ?xlA ?xhF ?xrT ?xrZ ?xr1 ?xrX ?xfb ?xhe ?xjs ?xq4 ?xqB ?xq9 ?xrc ?xqT ?xqJ ?xhG ?xfp ?xqH ?xqN ?xqP ?xqL ?xei ?xfc ?xhf ?xse ?xrP ?xsg ?xsl ?xsc ?xrW ?xhI ?xrU ?xr0 ?xr2 ?xrY ?xfe ?xhh ?xjt ?xt7 ?xtM ?xt9 ?xud ?xt3 ?xtS ?xop ?xtR ?xtU ?xtV ?xtT ?xjr ?xlg ?xnS ?xs5 ?xsK ?xs9 ?xta ?xsV ?xsP ?xlz ?xsO ?xsR ?xsS ?xsQ ?xhd ?xjq ?xlf ?xdw ?xcl ?z_abs ?z_all ?z_bool ?z_enumerate ?z_int ?z_isinstance ?z_len ?z_list ?z_range ?z_reversed ?z_sum ?z_tuple ?z_zip ?is_int_int ?is_int_bool ?is_list_list ?is_tuple_tuple ?is_bool_bool
    (case xrN=>k_is)
    (case xsI=>k_is)
    (case xrM=>k_is)
    (case xsJ=>k_is)
    (case g_Bar=>k_is)
    (case xtL=>k_is)
    (case xpo=>k_is)
    (case xpU=>k_is)
    (case xpv=>k_is)
    (case xpP=>k_is)
    (case xm0=>k_is)
    (case xof=>k_is)
    (case xnj=>k_is)
    (case xn6=>k_is)
    (case xiN=>k_is)
    (case xjF=>k_is)
    (case xiZ=>k_is)
    (case xjz=>k_is)
    (case xpn=>k_is)
    (case xpT=>k_is)
    (case xpu=>k_is)
    (case xpO=>k_is)
    (case xqg=>k_is)
    (case xqR=>k_is)
    (case xqn=>k_is)
    (case xqG=>k_is)
    (case xgn=>k_is)
    (case xhz=>k_is)
    (case xgF=>k_is)
    (case xht=>k_is)
    (case xmX=>k_is)
    (case xoc=>k_is)
    (case xng=>k_is)
    (case xn3=>k_is)
    (case xmZ=>k_is)
    (case xoe=>k_is)
    (case xni=>k_is)
    (case xn5=>k_is)
    (case xry=>k_is)
    (case xr5=>k_is)
    (case xrD=>k_is)
    (case xrS=>k_is)
    (case xaL=>k_is)
    (case xaV=>k_is)
    (case xaN=>k_is)
    (case xaT=>k_is)
    (case xdb=>k_is)
    (case xdG=>k_is)
    (case xdi=>k_is)
    (case xdD=>k_is)
    (case xiQ=>k_is)
    (case xjI=>k_is)
    (case xi2=>k_is)
    (case xjC=>k_is)
    (case xiO=>k_is)
    (case xjG=>k_is)
    (case xi0=>k_is)
    (case xjA=>k_is)
    (case xiP=>k_is)
    (case xjH=>k_is)
    (case xi1=>k_is)
    (case xjB=>k_is)
    (case xgm=>k_is)
    (case xhy=>k_is)
    (case xgE=>k_is)
    (case xhs=>k_is)
    (case xda=>k_is)
    (case xdy=>k_is)
    (case xdF=>k_is)
    (case xdh=>k_is)
    (case xdC=>k_is)
    (case xgk=>k_is)
    (case xhc=>k_is)
    (case xhw=>k_is)
    (case xgC=>k_is)
    (case xhq=>k_is)
    (case xd2=>k_is)
    (case xeg=>k_is)
    (case xen=>k_is)
    (case xd6=>k_is)
    (case xel=>k_is)
    (case xiL=>k_is)
    (case xjo=>k_is)
    (case xjD=>k_is)
    (case xiX=>k_is)
    (case xjx=>k_is)
    (case xc9=>k_is)
    (case xdx=>k_is)
    (case xdE=>k_is)
    (case xdg=>k_is)
    (case xdB=>k_is)
    (case xgj=>k_is)
    (case xhb=>k_is)
    (case xhv=>k_is)
    (case xgB=>k_is)
    (case xhp=>k_is)
    (case xd3=>k_is)
    (case xeh=>k_is)
    (case xeo=>k_is)
    (case xd7=>k_is)
    (case xem=>k_is)
    (case xiM=>k_is)
    (case xjp=>k_is)
    (case xjE=>k_is)
    (case xiY=>k_is)
    (case xjy=>k_is)
    (case xgi=>k_is)
    (case xha=>k_is)
    (case xhu=>k_is)
    (case xgA=>k_is)
    (case xho=>k_is)
    (case xmS=>k_is)
    (case xnR=>k_is)
    (case xn7=>k_is)
    (case xnb=>k_is)
    (case xnY=>k_is)
    (case xpl=>k_is)
    (case xpK=>k_is)
    (case xpR=>k_is)
    (case xps=>k_is)
    (case xpM=>k_is)
    (case xeC=>k_is)
    (case xfa=>k_is)
    (case xfm=>k_is)
    (case xeP=>k_is)
    (case xfl=>k_is)
    (case xkj=>k_is)
    (case xle=>k_is)
    (case xlt=>k_is)
    (case xkE=>k_is)
    (case xlq=>k_is)
    (case xrw=>k_is)
    (case xr3=>k_is)
    (case xrB=>k_is)
    (case xrQ=>k_is)
    (case xmY=>k_is)
    (case xod=>k_is)
    (case xnh=>k_is)
    (case xn4=>k_is)
    (case xpp=>k_is)
    (case xpV=>k_is)
    (case xpw=>k_is)
    (case xpQ=>k_is)
    (case xtt=>k_is)
    (case xtX=>k_is)
    (case xtz=>k_is)
    (case xtP=>k_is)
    (case xts=>k_is)
    (case xtW=>k_is)
    (case xty=>k_is)
    (case xtO=>k_is)
    (case xtu=>k_is)
    (case xtY=>k_is)
    (case xtA=>k_is)
    (case xtQ=>k_is)
    (case xrx=>k_is)
    (case xr4=>k_is)
    (case xrC=>k_is)
    (case xrR=>k_is)
    (case xaK=>k_is)
    (case xaU=>k_is)
    (case xaM=>k_is)
    (case xaS=>k_is)
    (case xgl=>k_is)
    (case xhx=>k_is)
    (case xgD=>k_is)
    (case xhr=>k_is)
    (case xmU=>k_is)
    (case xn9=>k_is)
    (case xnd=>k_is)
    (case xn0=>k_is)
    (case xkl=>k_is)
    (case xlv=>k_is)
    (case xkG=>k_is)
    (case xls=>k_is)
    (case xkk=>k_is)
    (case xlu=>k_is)
    (case xkF=>k_is)
    (case xlr=>k_is)
    (case xmV=>k_is)
    (case xoa=>k_is)
    (case xne=>k_is)
    (case xn1=>k_is)
    (case xmW=>k_is)
    (case xob=>k_is)
    (case xnf=>k_is)
    (case xn2=>k_is)
    (case xpm=>k_is)
    (case xpS=>k_is)
    (case xpt=>k_is)
    (case xpN=>k_is)
    (case xbT=>k_is)
    (case xcw=>k_is)
    (case xb3=>k_is)
    (case xcs=>k_is)
    (case xmT=>k_is)
    (case xn8=>k_is)
    (case xnc=>k_is)
    (case xnZ=>k_is)
    (case xbS=>k_is)
    (case xcv=>k_is)
    (case xb2=>k_is)
    (case xcr=>k_is)
    (case xbR=>k_is)
    (case xcu=>k_is)
    (case xb1=>k_is)
    (case xcq=>k_is)
    (case xbQ=>k_is)
    (case xct=>k_is)
    (case xb0=>k_is)
    (case xcp=>k_is)
    (case a_law=>k_is)
    (case l_law=>k_is)
    (case c_law=>k_is)
    (case k_law=>k_is)
    (case xq5=>k_is)
    (case xqC=>k_is)
    (case xra=>k_is)
    (case xrd=>k_is)
    (case xqU=>k_is)
    (case xqK=>k_is)
    (case xep=>k_is)
    (case xhH=>k_is)
    (case xqI=>k_is)
    (case xqO=>k_is)
    (case xqQ=>k_is)
    (case xqM=>k_is)
    (case xej=>kit_is)
    (case xfd=>kit_is)
    (case xhg=>kit_is)
    (case xsd=>k_is)
    (case xrO=>k_is)
    (case xsf=>k_is)
    (case xsk=>k_is)
    (case xsb=>k_is)
    (case xrV=>k_is)
    (case xlA=>k_is)
    (case xhF=>k_is)
    (case xrT=>k_is)
    (case xrZ=>k_is)
    (case xr1=>k_is)
    (case xrX=>k_is)
    (case xfb=>kit_is)
    (case xhe=>kit_is)
    (case xjs=>kit_is)
    (case xq4=>k_is)
    (case xqB=>k_is)
    (case xq9=>k_is)
    (case xrc=>k_is)
    (case xqT=>k_is)
    (case xqJ=>k_is)
    (case xhG=>k_is)
    (case xfp=>k_is)
    (case xqH=>k_is)
    (case xqN=>k_is)
    (case xqP=>k_is)
    (case xqL=>k_is)
    (case xei=>kit_is)
    (case xfc=>kit_is)
    (case xhf=>kit_is)
    (case xse=>k_is)
    (case xrP=>k_is)
    (case xsg=>k_is)
    (case xsl=>k_is)
    (case xsc=>k_is)
    (case xrW=>k_is)
    (case xhI=>k_is)
    (case xrU=>k_is)
    (case xr0=>k_is)
    (case xr2=>k_is)
    (case xrY=>k_is)
    (case xfe=>kit_is)
    (case xhh=>kit_is)
    (case xjt=>kit_is)
    (case xt7=>k_is)
    (case xtM=>k_is)
    (case xt9=>k_is)
    (case xud=>k_is)
    (case xt3=>k_is)
    (case xtS=>k_is)
    (case xop=>k_is)
    (case xtR=>k_is)
    (case xtU=>k_is)
    (case xtV=>k_is)
    (case xtT=>k_is)
    (case xjr=>kit_is)
    (case xlg=>kit_is)
    (case xnS=>kit_is)
    (case xs5=>k_is)
    (case xsK=>k_is)
    (case xs9=>k_is)
    (case xta=>k_is)
    (case xsV=>k_is)
    (case xsP=>k_is)
    (case xlz=>k_is)
    (case xsO=>k_is)
    (case xsR=>k_is)
    (case xsS=>k_is)
    (case xsQ=>k_is)
    (case xhd=>kit_is)
    (case xjq=>kit_is)
    (case xlf=>kit_is)
    (case xdw=>k_is)
    (case xcl=>k_is)
    (case z_abs=>k_is)
    (case z_all=>k_is)
    (case z_bool=>k_is)
    (case z_enumerate=>k_is)
    (case z_int=>k_is)
    (case z_isinstance=>k_is)
    (case z_len=>k_is)
    (case z_list=>k_is)
    (case z_range=>k_is)
    (case z_reversed=>k_is)
    (case z_sum=>k_is)
    (case z_tuple=>k_is)
    (case z_zip=>k_is)
    (case is_int_int=>kit_is)
    (case is_int_bool=>kit_is)
    (case is_list_list=>kit_is)
    (case is_tuple_tuple=>kit_is)
    (case is_bool_bool=>kit_is)
